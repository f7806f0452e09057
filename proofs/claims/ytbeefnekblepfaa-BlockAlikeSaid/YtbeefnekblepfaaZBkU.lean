/-
Gemm: Mul where both matrices lie anywhere but in what is written. Conditions: as each says.
-/
import Derived.Test.YtbeefnekblepfaaZGvC
import Derived.Test.YtbeefnekblepfaaZGeC
import Derived.Test.YtbeefnekblepfaaUaag
set_option linter.unusedVariables false
set_option linter.unusedSimpArgs false
set_option linter.unnecessarySimpa false
namespace Go.Proofs.Ytbeefnekblepfaa
open Go.RowKit
attribute [local go_sem ↓] Go.wp_at_zero Go.wp_at_succ

def VCellsZ (W : World) (g y : Nat) (l : List Nat) (o K i : Nat) : Prop := ∀ q, q < K → W.cell? ⟨g, y + (o + q * i), none⟩ = some (.float .f64 (l.getD (o + q * i) 0))
theorem VCellsZ.nxt {W W' : World} {g y : Nat} {l : List Nat} {o K i : Nat} (h : VCellsZ W g y l o K i) (hb : Below W.heap.size W W') : VCellsZ W' g y l o K i := fun q hq => cell_below (h q hq) hb
theorem VCellsZ.far {W : World} {g g' y p : Nat} {l : List Nat} {o K i : Nat} (h : VCellsZ W g y l o K i) (hd : g ≠ g') (u : Value) : VCellsZ (W.setCell ⟨g', p, none⟩ u) g y l o K i := fun q hq => (cell_set hd _).trans (h q hq)
theorem vcellsZ_row {w : World} {g y n : Nat} {l : List Nat} {o K i : Nat} (h : Row w (some ⟨g, y, none⟩) (f64s l)) (hl : l.length = n) (hr : K = 0 ∨ o + (K - 1) * i < n) : VCellsZ w g y l o K i := fun q hq => by
  have h1 : o + q * i < l.length := by
    rw [hl]
    rcases hr with h0 | h0
    · omega
    · exact place_lt h0 hq
  obtain ⟨b, x, e, _, hc⟩ := h.at_ (f64s_get l _ h1)
  injection e with e
  injection e with e1 e2
  subst e1 e2
  rw [getD_of_lt h1]
  exact hc

def MCellsZ (W : World) (g y : Nat) (l : List Nat) (o R C L : Nat) : Prop := ∀ a, a < R → ∀ b, b < C → W.cell? ⟨g, y + (o + b * L + a), none⟩ = some (.float .f64 (l.getD (o + b * L + a) 0))
theorem MCellsZ.nxt {W W' : World} {g y : Nat} {l : List Nat} {o R C L : Nat} (h : MCellsZ W g y l o R C L) (hb : Below W.heap.size W W') : MCellsZ W' g y l o R C L := fun a ha b hb' => cell_below (h a ha b hb') hb
theorem MCellsZ.far {W : World} {g g' y p : Nat} {l : List Nat} {o R C L : Nat} (h : MCellsZ W g y l o R C L) (hd : g ≠ g') (u : Value) : MCellsZ (W.setCell ⟨g', p, none⟩ u) g y l o R C L := fun a ha b hb => (cell_set hd _).trans (h a ha b hb)
theorem mcellsZ_row {w : World} {g y n : Nat} {l : List Nat} {o R C L : Nat} (h : Row w (some ⟨g, y, none⟩) (f64s l)) (hl : l.length = n) (hr : R = 0 ∨ C = 0 ∨ o + (C - 1) * L + (R - 1) < n) : MCellsZ w g y l o R C L := fun a ha b hb => by
  have h1 : o + b * L + a < l.length := by rw [hl]; exact mat_lt hr ha hb
  obtain ⟨b', x, e, _, hc⟩ := h.at_ (f64s_get l _ h1)
  injection e with e
  injection e with e1 e2
  subst e1 e2
  rw [getD_of_lt h1]
  exact hc

set_option maxRecDepth 100000 in
set_option maxHeartbeats 2000000 in
theorem gvcols3_any (F : FuncId) (caps : Array Value) (I : World → Prop) (Pr : Nat → Nat → Nat → Prop) (g c n : Nat) (l : List Nat) (o K i : Nat) (gm ym cm nm : Nat) (lm : List Nat) (om C L : Nat) (gx yx cx nx : Nat) (lx : List Nat) (ox ix : Nat) (w : World)
    (hF : ∀ args W, (callFunc F args).run Try.prog W = .ok (.enter F args) W) (hO : Own w g l) (hl : l.length = n) (hn : n < 1048576) (hi1 : 1 ≤ i) (hr : K = 0 ∨ o + (K - 1) * i < n)
    (hM : MCellsZ w gm ym lm om K C L) (hnm : nm < 1048576) (hL1 : 1 ≤ L) (hKL : K ≤ L) (hmr : K = 0 ∨ C = 0 ∨ om + (C - 1) * L + (K - 1) < nm)
    (hX : VCellsZ w gx yx lx ox C ix) (hnx : nx < 1048576) (hxr : C = 0 ∨ ox + (C - 1) * ix < nx) (hom : I64 om) (hLI : I64 L) (hKb : K < 1048576) (hCb : C < 1048576) 
    (hdm : gm ≠ g) (hdx : gx ≠ g)
    (hI : I w) (hIb : ∀ W W', I W → Below W.heap.size W W' → I W') (hIs : ∀ W q v, q < K → I W → I (W.setCell ⟨g, o + q * i, none⟩ (.float .f64 v)))
    (hC : ∀ W a b, a < K → b < C → I W → Calls Try.prog F (#[.float .f64 (lm.getD (om + b * L + a) 0), .float .f64 (lx.getD (ox + b * ix) 0)] ++ caps) W fun e w' => ∃ p, e = .returned (.float .f64 p) ∧ Pr (lm.getD (om + b * L + a) 0) (lx.getD (ox + b * ix) 0) p ∧ Below W.heap.size W w') :
    Calls Try.prog 51 #[mat (some ⟨gm, ym, none⟩) nm cm om K C L, vec (some ⟨gx, yx, none⟩) nx cx ox C ix, vec (some ⟨g, 0, none⟩) n c o K i, .func (.func F) #[] caps] w
      fun e w' => e = .returned (.tuple #[]) ∧ ∃ m : List Nat, m.length = K ∧ (∀ q, q < K → Chn (ColS Pr lm om L lx ox ix q) (l.getD (o + q * i) 0) C (m.getD q 0)) ∧ Own w' g (wrt l o i m K) ∧ Chg [g] w w' := by
  have HM0 := Lib.hid hM
  have HX0 := Lib.hid hX
  have HXr := Lib.hid (fun q (h : q < C) => show ox + q * ix < nx from by
    rcases hxr with h0 | h0
    · omega
    · exact place_lt h0 h)
  have HMr := Lib.hid (fun a b (ha : a < K) (hb : b < C) => mat_lt hmr ha hb)
  have HCl := Lib.hid (fun W (q : Nat) (hq : q < C) => vcol_some (some ⟨gm, ym, none⟩) nm cm (om : Int) (K : Int) (C : Int) (L : Int) (q : Int) W (by omega) hom (by unfold I64; omega) (by unfold I64; omega) hLI (by unfold I64; omega) (mat_right hL1 hKL hmr) (by omega))
  have HPl := Lib.hid (fun q (hq : q < C) W => gvplace_any (some ⟨gx, yx, none⟩) nx cx ox C ix q W (by have := HXr.out q hq; omega))
  have HEach := Lib.hid (fun W (hgz : g < W.heap.size) (pf pc po : Nat) (O q f : Nat) (l1 : List Nat) (hl1 : l1.length = n) (h1 : Own W g l1) (hq : q < C) (hO0 : 0 < K → O = om + q * L) (hf : f = lx.getD (ox + q * ix) 0) (hpf : pf ≠ g) (hpc : pc ≠ g) (hpo : po ≠ g) 
      (hi : I W) (hm : MCellsZ W gm ym lm om K C L) (hx : VCellsZ W gx yx lx ox C ix) (hcf : W.cell? ⟨pf, 0, none⟩ = some (.func (.func F) #[] caps)) (hcc : Blk W pc 76 #[.slice (some ⟨gm, ym, none⟩) nm cm, .int .i64 (O : Int), .int .i64 (K : Int), .int .i64 ((1 : Nat) : Int)]) (hco : W.cell? ⟨po, 0, none⟩ = some (.float .f64 f)) =>
    gveach_any 60 #[.pointer (some ⟨pf, 0, none⟩), .pointer (some ⟨pc, 0, none⟩), .pointer (some ⟨po, 0, none⟩)]
      (fun W => (I W ∧ MCellsZ W gm ym lm om K C L ∧ VCellsZ W gx yx lx ox C ix) ∧ W.cell? ⟨pf, 0, none⟩ = some (.func (.func F) #[] caps) ∧ Blk W pc 76 #[.slice (some ⟨gm, ym, none⟩) nm cm, .int .i64 (O : Int), .int .i64 (K : Int), .int .i64 ((1 : Nat) : Int)] ∧ W.cell? ⟨po, 0, none⟩ = some (.float .f64 f))
      (fun j r => ColS Pr lm om L lx ox ix j q (l1.getD (o + j * i) 0) r) g n c l1 o K i W (fun args W => gvbyc_enters args W) h1 hl1 hn hi1 hr
      ⟨⟨hi, hm, hx⟩, hcf, hcc, hco⟩
      (fun W W' h hb => ⟨⟨hIb _ _ h.1.1 hb, h.1.2.1.nxt hb, h.1.2.2.nxt hb⟩, cell_below h.2.1 hb, h.2.2.1.nxt hb, cell_below h.2.2.2 hb⟩)
      (fun W j v hj _ h => ⟨⟨hIs _ _ _ hj h.1.1, h.1.2.1.far hdm _, h.1.2.2.far hdx _⟩, (cell_set hpf _).trans h.2.1, h.2.2.1.other hpc _, (cell_set hpo _).trans h.2.2.2⟩)
      (fun W j hj h => by
        have hO1 := hO0 (by omega)
        have hcell := h.1.2.1 j hj q hq
        have hbd := HMr.out j q hj hq
        have hcc := hC
        subst hf
        subst hO1
        have := gvbyc_one F caps I (fun p => Pr (lm.getD (om + q * L + j) 0) (lx.getD (ox + q * ix) 0) p) (lm.getD (om + q * L + j) 0) (lx.getD (ox + q * ix) 0) (l1.getD (o + j * i) 0) pf pc po gm ym nm cm (om + q * L) K 1 j W hF h.1.1 hIb (fun W hi => hC W j q hj hq hi) h.2.1 h.2.2.1 h.2.2.2
          (by rw [Nat.mul_one]; exact hcell) (by rw [Nat.mul_one]; exact hbd) hnm
        exact this.mono fun e w' ⟨p, r, e1, e2, e3, e4⟩ => ⟨r, e1, ⟨p, e2, e3⟩, e4⟩))
  have HO := Lib.hid hO
  have Hl := Lib.hid hl
  have HI0 := Lib.hid hI
  have HIb := Lib.hid hIb
  have Hw := Lib.hid (And.intro hi1 hr)
  have hCb2 := hCb
  clear hF hO hl hn hi1 hr hM hnm hL1 hKL hmr hX hnx hxr hom hLI hKb hCb hdm hdx hI hIb hIs hC
  unfold mat vec at *
  go_enter Try.func51, Try.ntmps51
  have HZm := Lib.hid ((((Blk.new w 26 #[.slice (some ⟨gm, ym, none⟩) nm cm, .int .i64 om, .int .i64 K, .int .i64 C, .int .i64 L]).alloc (.cells #[.slice (some ⟨gx, yx, none⟩) nx cx, .int .i64 ox, .int .i64 C, .int .i64 ix] 76)).alloc (.cells #[.slice (some ⟨g, 0, none⟩) n c, .int .i64 o, .int .i64 K, .int .i64 i] 76)).alloc (.cells #[.func (.func F) #[] caps] 57))
  have HZx := Lib.hid (((Blk.new_ (w.alloc (.cells #[.slice (some ⟨gm, ym, none⟩) nm cm, .int .i64 om, .int .i64 K, .int .i64 C, .int .i64 L] 26)) 76 #[.slice (some ⟨gx, yx, none⟩) nx cx, .int .i64 ox, .int .i64 C, .int .i64 ix] (w.heap.size + 1) (by simp)).alloc (.cells #[.slice (some ⟨g, 0, none⟩) n c, .int .i64 o, .int .i64 K, .int .i64 i] 76)).alloc (.cells #[.func (.func F) #[] caps] 57))
  have HZy := Lib.hid ((Blk.new_ ((w.alloc (.cells #[.slice (some ⟨gm, ym, none⟩) nm cm, .int .i64 om, .int .i64 K, .int .i64 C, .int .i64 L] 26)).alloc (.cells #[.slice (some ⟨gx, yx, none⟩) nx cx, .int .i64 ox, .int .i64 C, .int .i64 ix] 76)) 76 #[.slice (some ⟨g, 0, none⟩) n c, .int .i64 o, .int .i64 K, .int .i64 i] (w.heap.size + 1 + 1) (by simp)).alloc (.cells #[.func (.func F) #[] caps] 57))
  have HZf := Lib.hid (Blk.new_ (((w.alloc (.cells #[.slice (some ⟨gm, ym, none⟩) nm cm, .int .i64 om, .int .i64 K, .int .i64 C, .int .i64 L] 26)).alloc (.cells #[.slice (some ⟨gx, yx, none⟩) nx cx, .int .i64 ox, .int .i64 C, .int .i64 ix] 76)).alloc (.cells #[.slice (some ⟨g, 0, none⟩) n c, .int .i64 o, .int .i64 K, .int .i64 i] 76)) 57 #[.func (.func F) #[] caps] (w.heap.size + 1 + 1 + 1) (by simp))
  have hbl0 : Below w.heap.size w _ := ((((Below.refl w.heap.size w).alloc (Nat.le_refl _) (.cells #[.slice (some ⟨gm, ym, none⟩) nm cm, .int .i64 om, .int .i64 K, .int .i64 C, .int .i64 L] 26)).alloc (by simp) (.cells #[.slice (some ⟨gx, yx, none⟩) nx cx, .int .i64 ox, .int .i64 C, .int .i64 ix] 76)).alloc (by simp; omega) (.cells #[.slice (some ⟨g, 0, none⟩) n c, .int .i64 o, .int .i64 K, .int .i64 i] 76)).alloc (by simp; omega) (.cells #[.func (.func F) #[] caps] 57)
  have HO1 := Lib.hid (HO.out.nxt hbl0)
  have HM1 := Lib.hid (HM0.out.nxt hbl0)
  have HX1 := Lib.hid (HX0.out.nxt hbl0)
  have HI1 := Lib.hid (HIb.out _ _ HI0.out hbl0)
  have HC1 := Lib.hid (Chg.of_below (G := [g]) hbl0)
  have Hgz := Lib.hid (show g < w.heap.size from HO.out.lt)
  clear hbl0
  obtain ⟨x0, x1, x2, x3⟩ := cells4w HZx.out
  go_wp2_with fail
  clear x0 x1 x2 x3
  generalize hzm : w.heap.size = zm at *
  generalize hzx : zm + 1 = zx at *
  generalize hzy : zx + 1 = zy at *
  generalize hzf : zy + 1 = zf at *
  have HNe := Lib.hid (show g ≠ zm ∧ g ≠ zx ∧ g ≠ zy ∧ g ≠ zf from by have := Hgz.out; omega)
  clear hzm hzx hzy hzf
  go_loopw [13] (fun a wr => ∃ (q : Nat) (m : List Nat), q ≤ C ∧ a = .int .i64 q ∧ Hid (m.length = K ∧ (∀ j, j < K → Chn (ColS Pr lm om L lx ox ix j) (l.getD (o + j * i) 0) q (m.getD j 0)) ∧ Own wr g (wrt l o i m K) ∧ (I wr ∧ MCellsZ wr gm ym lm om K C L ∧ VCellsZ wr gx yx lx ox C ix) ∧ Chg [g] w wr ∧ Blk wr zm 26 #[.slice (some ⟨gm, ym, none⟩) nm cm, .int .i64 om, .int .i64 K, .int .i64 C, .int .i64 L] ∧ Blk wr zx 76 #[.slice (some ⟨gx, yx, none⟩) nx cx, .int .i64 ox, .int .i64 C, .int .i64 ix] ∧ Blk wr zy 76 #[.slice (some ⟨g, 0, none⟩) n c, .int .i64 o, .int .i64 K, .int .i64 i] ∧ Blk wr zf 57 #[.func (.func F) #[] caps])) (fun a _ => C - (intOf a).toNat)
  case atStart => exact ⟨0, lst l o i K, Nat.zero_le _, rfl, Lib.hid ⟨lst_length _ _ _ _, fun j hj => (lst_getD l o i hj), by rw [wrt_lst l o i K Hw.out.1 (by rw [Hl.out]; exact Hw.out.2)]; exact HO1.out, ⟨HI1.out, HM1.out, HX1.out⟩, HC1.out, HZm.out, HZx.out, HZy.out, HZf.out⟩⟩
  case round =>
    obtain ⟨q, m, hq, rfl, HH⟩ := hrel
    by_cases hlt : q < C
    · have HZm1 := Lib.hid HH.out.2.2.2.2.2.1
      have HZx1 := Lib.hid HH.out.2.2.2.2.2.2.1
      have HZy1 := Lib.hid HH.out.2.2.2.2.2.2.2.1
      have hqc : (q : Int) < (C : Int) := by omega
      have hq1 : q + 1 ≤ 1048576 := by omega
      have hce := HH.out.2.2.2.1.2.2 q hlt
      have hbx := HXr.out q hlt
      have HCol0 := Lib.hid (fun W => HCl.out W q hlt)
      have HPx0 := Lib.hid (HPl.out q hlt)
      obtain ⟨O, hO⟩ : ∃ O : Nat, colOff (om : Int) (K : Int) (L : Int) (q : Int) = (O : Int) ∧ (0 < K → O = om + q * L) := by
        unfold colOff
        by_cases e : K = 0
        · exact ⟨om, by rw [if_pos (by omega)], by omega⟩
        · exact ⟨om + q * L, by rw [if_neg (by omega)]; simp, fun _ => rfl⟩
      rw [hO.1] at HCol0
      obtain ⟨f, hf⟩ : ∃ f, lx.getD (ox + q * ix) 0 = f := ⟨_, rfl⟩
      obtain ⟨P, hPd⟩ : ∃ P, ox + q * ix = P := ⟨_, rfl⟩
      have HEa0 := Lib.hid (fun wa (pc po : Nat) (hbw : Below wr.heap.size wr wa) (h1 : wr.heap.size ≤ pc) (h2 : wr.heap.size ≤ po) (hB : Blk wa pc 76 #[.slice (some ⟨gm, ym, none⟩) nm cm, .int .i64 (O : Int), .int .i64 (K : Int), .int .i64 ((1 : Nat) : Int)]) (ho : wa.cell? ⟨po, 0, none⟩ = some (.float .f64 f)) => by
        obtain ⟨e1, e2, e3, e4, e5, e6, e7, e8, e9⟩ := HH.out
        have hgw : g < wr.heap.size := e3.lt
        exact HEach.out wa (by have := hbw.size; omega) zf pc po O q f (wrt l o i m K) (by rw [wrt_length, Hl.out]) (e3.nxt hbw) hlt hO.2 hf.symm (fun e => HNe.out.2.2.2 e.symm) (by omega) (by omega) (HIb.out _ _ e4.1 hbw) (e4.2.1.nxt hbw) (e4.2.2.nxt hbw) (cell_below (e9.cell 0) hbw) hB ho)
      have HDone0 := Lib.hid (show ∀ wa, Below wr.heap.size wr wa → ∀ wb (m' : List Nat), m'.length = K → (∀ j, j < K → ColS Pr lm om L lx ox ix j q ((wrt l o i m K).getD (o + j * i) 0) (m'.getD j 0)) → Own wb g (wrt (wrt l o i m K) o i m' K) → (I wb ∧ MCellsZ wb gm ym lm om K C L ∧ VCellsZ wb gx yx lx ox C ix) → Chg [g] wa wb →
          Hid (m'.length = K ∧ (∀ j, j < K → Chn (ColS Pr lm om L lx ox ix j) (l.getD (o + j * i) 0) (q + 1) (m'.getD j 0)) ∧ Own wb g (wrt l o i m' K) ∧ (I wb ∧ MCellsZ wb gm ym lm om K C L ∧ VCellsZ wb gx yx lx ox C ix) ∧ Chg [g] w wb ∧ Blk wb zm 26 #[.slice (some ⟨gm, ym, none⟩) nm cm, .int .i64 om, .int .i64 K, .int .i64 C, .int .i64 L] ∧ Blk wb zx 76 #[.slice (some ⟨gx, yx, none⟩) nx cx, .int .i64 ox, .int .i64 C, .int .i64 ix] ∧ Blk wb zy 76 #[.slice (some ⟨g, 0, none⟩) n c, .int .i64 o, .int .i64 K, .int .i64 i] ∧ Blk wb zf 57 #[.func (.func F) #[] caps]) from fun wa hbw wb m' h1 h2 h3 h4 h5 => Lib.hid (by
        obtain ⟨e1, e2, e3, e4, e5, e6, e7, e8, e9⟩ := HH.out
        obtain ⟨n1, n2, n3, n4⟩ := HNe.out
        have hR : K = 0 ∨ o + (K - 1) * i < l.length := by rw [Hl.out]; exact Hw.out.2
        rw [wrt_wrt l o i m m' K Hw.out.1 hR] at h3
        refine ⟨h1, fun j hj => ⟨m.getD j 0, e2 j hj, ?_⟩, h3, h4, (e5.nxt hbw).trans h5, h5.blk (by simp; exact fun e => n1 e.symm) (e6.nxt hbw), h5.blk (by simp; exact fun e => n2 e.symm) (e7.nxt hbw), h5.blk (by simp; exact fun e => n3 e.symm) (e8.nxt hbw), h5.blk (by simp; exact fun e => n4 e.symm) (e9.nxt hbw)⟩
        have := h2 j hj
        rw [wrt_at l o i m K Hw.out.1 hR hj] at this
        exact this))
      rw [hf, hPd] at hce
      rw [hPd] at HPx0 hbx
      have b2 := hbx
      have HXc0 := Lib.hid hce
      clear hce hbx hf hPd hO
      obtain ⟨c0, c1, c2, c3, c4⟩ := cells5 HZm1.out
      obtain ⟨d0, d1, d2, d3⟩ := cells4w HZx1.out
      go_wp2_with fail
      clear c0 c1 c2 c3 c4 d0 d1 d2 d3
      have HCol := HCol0
      have HPx := HPx0
      have HXc := HXc0
      have HEa := HEa0
      have HDone := HDone0
      have HZm2 := HZm1
      have HZx2 := HZx1
      have HZy2 := HZy1
      generalize wr = wq at *
      refine wp_region_inv [16, 17, 18, 19, 20, 21, 22, 23, 24, 25, 9, 10] (fun d s W => (d 0 = true → s 16 = .agg #[.slice (some ⟨gm, ym, none⟩) nm cm, .int .i64 (om : Int), .int .i64 (K : Int), .int .i64 (C : Int), .int .i64 (L : Int)]) ∧ (d 1 = true → s 17 = .int .i64 (q : Int)) ∧ (d 2 = true → s 18 = .agg #[.slice (some ⟨gm, ym, none⟩) nm cm, .int .i64 (O : Int), .int .i64 (K : Int), .int .i64 1]) ∧ (d 3 = true → s 19 = .pointer (some ⟨zx, 0, none⟩)) ∧ (d 4 = true → s 20 = .slice (some ⟨gx, yx, none⟩) nx cx) ∧ (d 5 = true → s 21 = .agg #[.slice (some ⟨gx, yx, none⟩) nx cx, .int .i64 (ox : Int), .int .i64 (C : Int), .int .i64 (ix : Int)]) ∧ (d 6 = true → s 22 = .int .i64 (q : Int)) ∧ (d 7 = true → s 23 = .int .i64 (P : Int)) ∧ (d 8 = true → s 24 = .pointer (some ⟨gx, yx + P, none⟩)) ∧ (d 9 = true → s 25 = .float .f64 f) ∧ (d 10 = true → BoxV W (s 9) wq.heap.size (d 12) (.slice (some ⟨gm, ym, none⟩) nm cm) (.int .i64 (O : Int)) (.int .i64 (K : Int)) (.int .i64 1)) ∧ (d 11 = true → BoxF W (s 10) wq.heap.size (d 13) (.float .f64 f)) ∧ (d 12 = true → d 10 = true) ∧ (d 13 = true → d 11 = true) ∧ Below wq.heap.size wq W)
        rfl (by kernel_rfl) ?_ ?_ ?_
      · exact ⟨by simp, by simp, by simp, by simp, by simp, by simp, by simp, by simp, by simp, by simp, by simp, by simp, by simp, by simp, (Below.refl _ _).drew⟩
      · refine ⟨?_, ?_, ?_, ?_, ?_, ?_, ?_, ?_, ?_, ?_, ?_, ?_, ?_, ?_, trivial⟩
        all_goals
          intro d s W hJ hfr hd hdep
          simp only [List.mem_cons, forall_eq_or_imp, List.not_mem_nil, false_implies, implies_true, and_true, Region.binds] at hdep
          have f4 := hfr 4 (by decide)
          have f5 := hfr 5 (by decide)
          have f8 := hfr 8 (by decide)
          simp at f4 f5 f8 hdep
          obtain ⟨h0, h1, h2, h3, h4, h5, h6, h7, h8, h9, h10, h11, x0, x1, hT⟩ := hJ
        · unfold OpSteps
          obtain ⟨p0, p1, p2, p3, p4⟩ := cells5 (HZm2.out.below hT HZm2.out.lt)
          simp [go_sem, evS, f4, p0, p1, p2, p3, p4]
          exact ⟨fun _ => by simp [sput], fun h => by simpa [sput] using h1 (by simpa [did] using h), fun h => by simpa [sput] using h2 (by simpa [did] using h), fun h => by simpa [sput] using h3 (by simpa [did] using h), fun h => by simpa [sput] using h4 (by simpa [did] using h), fun h => by simpa [sput] using h5 (by simpa [did] using h), fun h => by simpa [sput] using h6 (by simpa [did] using h), fun h => by simpa [sput] using h7 (by simpa [did] using h), fun h => by simpa [sput] using h8 (by simpa [did] using h), fun h => by simpa [sput] using h9 (by simpa [did] using h), fun h => by simpa [sput, did] using (h10 (by simpa [did] using h)), fun h => by simpa [sput, did] using (h11 (by simpa [did] using h)), by simpa [sput, did] using x0, by simpa [sput, did] using x1, hT⟩
        · unfold OpSteps
          simp [go_sem, evS, f8]
          exact ⟨fun h => by simpa [sput] using h0 (by simpa [did] using h), fun _ => by simp [sput], fun h => by simpa [sput] using h2 (by simpa [did] using h), fun h => by simpa [sput] using h3 (by simpa [did] using h), fun h => by simpa [sput] using h4 (by simpa [did] using h), fun h => by simpa [sput] using h5 (by simpa [did] using h), fun h => by simpa [sput] using h6 (by simpa [did] using h), fun h => by simpa [sput] using h7 (by simpa [did] using h), fun h => by simpa [sput] using h8 (by simpa [did] using h), fun h => by simpa [sput] using h9 (by simpa [did] using h), fun h => by simpa [sput, did] using (h10 (by simpa [did] using h)), fun h => by simpa [sput, did] using (h11 (by simpa [did] using h)), by simpa [sput, did] using x0, by simpa [sput, did] using x1, hT⟩
        · have g0 := h0 (by simp [hdep])
          have g1 := h1 (by simp [hdep])
          unfold OpSteps
          simp [go_sem, evS, g0, g1]
          refine (HCol.out W).mono ?_
          rintro e W' ⟨rfl, hb⟩
          refine ⟨_, rfl, ?_⟩
          exact ⟨fun h => by simpa [sput] using h0 (by simpa [did] using h), fun h => by simpa [sput] using h1 (by simpa [did] using h), fun _ => by simp [sput], fun h => by simpa [sput] using h3 (by simpa [did] using h), fun h => by simpa [sput] using h4 (by simpa [did] using h), fun h => by simpa [sput] using h5 (by simpa [did] using h), fun h => by simpa [sput] using h6 (by simpa [did] using h), fun h => by simpa [sput] using h7 (by simpa [did] using h), fun h => by simpa [sput] using h8 (by simpa [did] using h), fun h => by simpa [sput] using h9 (by simpa [did] using h), fun h => by simpa [sput, did] using (h10 (by simpa [did] using h)).below hb, fun h => by simpa [sput, did] using (h11 (by simpa [did] using h)).below hb, by simpa [sput, did] using x0, by simpa [sput, did] using x1, below_nx hT hb⟩
        · unfold OpSteps
          simp [go_sem, evS, f5]
          exact ⟨fun h => by simpa [sput] using h0 (by simpa [did] using h), fun h => by simpa [sput] using h1 (by simpa [did] using h), fun h => by simpa [sput] using h2 (by simpa [did] using h), fun _ => by simp [sput], fun h => by simpa [sput] using h4 (by simpa [did] using h), fun h => by simpa [sput] using h5 (by simpa [did] using h), fun h => by simpa [sput] using h6 (by simpa [did] using h), fun h => by simpa [sput] using h7 (by simpa [did] using h), fun h => by simpa [sput] using h8 (by simpa [did] using h), fun h => by simpa [sput] using h9 (by simpa [did] using h), fun h => by simpa [sput, did] using (h10 (by simpa [did] using h)), fun h => by simpa [sput, did] using (h11 (by simpa [did] using h)), by simpa [sput, did] using x0, by simpa [sput, did] using x1, hT⟩
        · have g3 := h3 (by simp [hdep])
          unfold OpSteps
          obtain ⟨p0, p1, p2, p3⟩ := cells4w (HZx2.out.below hT HZx2.out.lt)
          simp [go_sem, evS, g3, p0, p1, p2, p3]
          exact ⟨fun h => by simpa [sput] using h0 (by simpa [did] using h), fun h => by simpa [sput] using h1 (by simpa [did] using h), fun h => by simpa [sput] using h2 (by simpa [did] using h), fun h => by simpa [sput] using h3 (by simpa [did] using h), fun _ => by simp [sput], fun h => by simpa [sput] using h5 (by simpa [did] using h), fun h => by simpa [sput] using h6 (by simpa [did] using h), fun h => by simpa [sput] using h7 (by simpa [did] using h), fun h => by simpa [sput] using h8 (by simpa [did] using h), fun h => by simpa [sput] using h9 (by simpa [did] using h), fun h => by simpa [sput, did] using (h10 (by simpa [did] using h)), fun h => by simpa [sput, did] using (h11 (by simpa [did] using h)), by simpa [sput, did] using x0, by simpa [sput, did] using x1, hT⟩
        · unfold OpSteps
          obtain ⟨p0, p1, p2, p3⟩ := cells4w (HZx2.out.below hT HZx2.out.lt)
          simp [go_sem, evS, f5, p0, p1, p2, p3]
          exact ⟨fun h => by simpa [sput] using h0 (by simpa [did] using h), fun h => by simpa [sput] using h1 (by simpa [did] using h), fun h => by simpa [sput] using h2 (by simpa [did] using h), fun h => by simpa [sput] using h3 (by simpa [did] using h), fun h => by simpa [sput] using h4 (by simpa [did] using h), fun _ => by simp [sput], fun h => by simpa [sput] using h6 (by simpa [did] using h), fun h => by simpa [sput] using h7 (by simpa [did] using h), fun h => by simpa [sput] using h8 (by simpa [did] using h), fun h => by simpa [sput] using h9 (by simpa [did] using h), fun h => by simpa [sput, did] using (h10 (by simpa [did] using h)), fun h => by simpa [sput, did] using (h11 (by simpa [did] using h)), by simpa [sput, did] using x0, by simpa [sput, did] using x1, hT⟩
        · unfold OpSteps
          simp [go_sem, evS, f8]
          exact ⟨fun h => by simpa [sput] using h0 (by simpa [did] using h), fun h => by simpa [sput] using h1 (by simpa [did] using h), fun h => by simpa [sput] using h2 (by simpa [did] using h), fun h => by simpa [sput] using h3 (by simpa [did] using h), fun h => by simpa [sput] using h4 (by simpa [did] using h), fun h => by simpa [sput] using h5 (by simpa [did] using h), fun _ => by simp [sput], fun h => by simpa [sput] using h7 (by simpa [did] using h), fun h => by simpa [sput] using h8 (by simpa [did] using h), fun h => by simpa [sput] using h9 (by simpa [did] using h), fun h => by simpa [sput, did] using (h10 (by simpa [did] using h)), fun h => by simpa [sput, did] using (h11 (by simpa [did] using h)), by simpa [sput, did] using x0, by simpa [sput, did] using x1, hT⟩
        · have g5 := h5 (by simp [hdep])
          have g6 := h6 (by simp [hdep])
          unfold OpSteps
          simp [go_sem, evS, g5, g6]
          refine (HPx.out W).mono ?_
          rintro e W' ⟨rfl, hb⟩
          refine ⟨_, rfl, ?_⟩
          exact ⟨fun h => by simpa [sput] using h0 (by simpa [did] using h), fun h => by simpa [sput] using h1 (by simpa [did] using h), fun h => by simpa [sput] using h2 (by simpa [did] using h), fun h => by simpa [sput] using h3 (by simpa [did] using h), fun h => by simpa [sput] using h4 (by simpa [did] using h), fun h => by simpa [sput] using h5 (by simpa [did] using h), fun h => by simpa [sput] using h6 (by simpa [did] using h), fun _ => by simp [sput], fun h => by simpa [sput] using h8 (by simpa [did] using h), fun h => by simpa [sput] using h9 (by simpa [did] using h), fun h => by simpa [sput, did] using (h10 (by simpa [did] using h)).below hb, fun h => by simpa [sput, did] using (h11 (by simpa [did] using h)).below hb, by simpa [sput, did] using x0, by simpa [sput, did] using x1, below_nx hT hb⟩
        · have g4 := h4 (by simp [hdep])
          have g7 := h7 (by simp [hdep])
          unfold OpSteps
          simp [go_sem, evS, g4, g7, b2]
          exact ⟨fun h => by simpa [sput] using h0 (by simpa [did] using h), fun h => by simpa [sput] using h1 (by simpa [did] using h), fun h => by simpa [sput] using h2 (by simpa [did] using h), fun h => by simpa [sput] using h3 (by simpa [did] using h), fun h => by simpa [sput] using h4 (by simpa [did] using h), fun h => by simpa [sput] using h5 (by simpa [did] using h), fun h => by simpa [sput] using h6 (by simpa [did] using h), fun h => by simpa [sput] using h7 (by simpa [did] using h), fun _ => by simp [sput], fun h => by simpa [sput] using h9 (by simpa [did] using h), fun h => by simpa [sput, did] using (h10 (by simpa [did] using h)), fun h => by simpa [sput, did] using (h11 (by simpa [did] using h)), by simpa [sput, did] using x0, by simpa [sput, did] using x1, hT⟩
        · have g8 := h8 (by simp [hdep])
          unfold OpSteps
          have pc := cell_below HXc.out hT
          simp [go_sem, evS, g8, pc]
          exact ⟨fun h => by simpa [sput] using h0 (by simpa [did] using h), fun h => by simpa [sput] using h1 (by simpa [did] using h), fun h => by simpa [sput] using h2 (by simpa [did] using h), fun h => by simpa [sput] using h3 (by simpa [did] using h), fun h => by simpa [sput] using h4 (by simpa [did] using h), fun h => by simpa [sput] using h5 (by simpa [did] using h), fun h => by simpa [sput] using h6 (by simpa [did] using h), fun h => by simpa [sput] using h7 (by simpa [did] using h), fun h => by simpa [sput] using h8 (by simpa [did] using h), fun _ => by simp [sput], fun h => by simpa [sput, did] using (h10 (by simpa [did] using h)), fun h => by simpa [sput, did] using (h11 (by simpa [did] using h)), by simpa [sput, did] using x0, by simpa [sput, did] using x1, hT⟩
        · unfold OpSteps
          simp [go_sem, evS]
          exact ⟨fun h => by simpa [sput] using h0 (by simpa [did] using h), fun h => by simpa [sput] using h1 (by simpa [did] using h), fun h => by simpa [sput] using h2 (by simpa [did] using h), fun h => by simpa [sput] using h3 (by simpa [did] using h), fun h => by simpa [sput] using h4 (by simpa [did] using h), fun h => by simpa [sput] using h5 (by simpa [did] using h), fun h => by simpa [sput] using h6 (by simpa [did] using h), fun h => by simpa [sput] using h7 (by simpa [did] using h), fun h => by simpa [sput] using h8 (by simpa [did] using h), fun h => by simpa [sput] using h9 (by simpa [did] using h), fun _ => ⟨W.heap.size, _, _, _, _, by simp [sput], Blk.new W _ _, hT.size, fun h => by have := x0 (by simpa [did] using h); simp [hd] at this⟩, fun h => by simpa [sput, did] using (h11 (by simpa [did] using h)).below below_one, fun _ => by simp [did], by simpa [sput, did] using x1, below_al hT⟩
        · unfold OpSteps
          simp [go_sem, evS]
          exact ⟨fun h => by simpa [sput] using h0 (by simpa [did] using h), fun h => by simpa [sput] using h1 (by simpa [did] using h), fun h => by simpa [sput] using h2 (by simpa [did] using h), fun h => by simpa [sput] using h3 (by simpa [did] using h), fun h => by simpa [sput] using h4 (by simpa [did] using h), fun h => by simpa [sput] using h5 (by simpa [did] using h), fun h => by simpa [sput] using h6 (by simpa [did] using h), fun h => by simpa [sput] using h7 (by simpa [did] using h), fun h => by simpa [sput] using h8 (by simpa [did] using h), fun h => by simpa [sput] using h9 (by simpa [did] using h), fun h => by simpa [sput, did] using (h10 (by simpa [did] using h)).below below_one, fun _ => ⟨W.heap.size, _, by simp [sput], Blk.new W _ _, hT.size, fun h => by have := x1 (by simpa [did] using h); simp [hd] at this⟩, by simpa [sput, did] using x0, fun _ => by simp [did], below_al hT⟩
        · have g10 := h10 (by simp [hdep])
          have g2 := h2 (by simp [hdep])
          unfold OpSteps
          obtain ⟨p9, z0, z1, z2, z3, gp, hB9, hlo, hfu⟩ := g10
          obtain ⟨fr0, fr1, fr2, fr3⟩ := frozen4w hB9
          obtain ⟨k0, k1, k2, k3⟩ := cells4w hB9
          simp [go_sem, evS, g2, gp, fr0, fr1, fr2, fr3, k0, k1, k2, k3]
          exact ⟨fun h => by simpa [sput] using h0 (by simpa [did] using h), fun h => by simpa [sput] using h1 (by simpa [did] using h), fun h => by simpa [sput] using h2 (by simpa [did] using h), fun h => by simpa [sput] using h3 (by simpa [did] using h), fun h => by simpa [sput] using h4 (by simpa [did] using h), fun h => by simpa [sput] using h5 (by simpa [did] using h), fun h => by simpa [sput] using h6 (by simpa [did] using h), fun h => by simpa [sput] using h7 (by simpa [did] using h), fun h => by simpa [sput] using h8 (by simpa [did] using h), fun h => by simpa [sput] using h9 (by simpa [did] using h), fun h => ⟨p9, _, _, _, _, by simpa [sput] using gp, Blk.store4v hB9 _ _ _ _, hlo, fun _ => ⟨rfl, rfl, rfl, rfl⟩⟩, fun h => by simpa [sput, did] using (h11 (by simpa [did] using h)).far hB9 _ _ _ _, fun _ => by simp [did, hdep], by simpa [sput, did] using x1, below_sets4 hT hlo _ _ _ _⟩
        · have g11 := h11 (by simp [hdep])
          have g9 := h9 (by simp [hdep])
          unfold OpSteps
          obtain ⟨p9, z0, gp, hB9, hlo, hfu⟩ := g11
          have fr0 := hB9.frozen 0
          have k0 := hB9.cell 0
          simp [go_sem, evS, g9, gp, fr0, k0]
          exact ⟨fun h => by simpa [sput] using h0 (by simpa [did] using h), fun h => by simpa [sput] using h1 (by simpa [did] using h), fun h => by simpa [sput] using h2 (by simpa [did] using h), fun h => by simpa [sput] using h3 (by simpa [did] using h), fun h => by simpa [sput] using h4 (by simpa [did] using h), fun h => by simpa [sput] using h5 (by simpa [did] using h), fun h => by simpa [sput] using h6 (by simpa [did] using h), fun h => by simpa [sput] using h7 (by simpa [did] using h), fun h => by simpa [sput] using h8 (by simpa [did] using h), fun h => by simpa [sput] using h9 (by simpa [did] using h), fun h => by simpa [sput, did] using (h10 (by simpa [did] using h)).far hB9 0 _, fun h => ⟨p9, _, by simpa [sput] using gp, hB9.set_ 0 _, hlo, fun _ => rfl⟩, by simpa [sput, did] using x0, fun _ => by simp [did, hdep], hT.setCell (p := ⟨p9, 0, none⟩) hlo _⟩
      intro d s W hJ hd
      obtain ⟨h0, h1, h2, h3, h4, h5, h6, h7, h8, h9, h10, h11, x0, x1, hT⟩ := hJ
      obtain ⟨pc, y0, y1, y2, y3, hs9, hBc, hlc, hfc⟩ := h10 (hd 10 (by decide))
      obtain ⟨po, yo, hs10, hBo, hlo, hfo⟩ := h11 (hd 11 (by decide))
      obtain ⟨rfl, rfl, rfl, rfl⟩ := hfc (hd 12 (by decide))
      obtain rfl := hfo (hd 13 (by decide))
      have HBc := Lib.hid hBc
      have HBo := Lib.hid (hBo.cell 0)
      have HL2 := Lib.hid (And.intro hlc hlo)
      have HBw := Lib.hid hT
      clear h0 h1 h2 h3 h4 h5 h6 h7 h8 h9 h10 h11 x0 x1 hT hd hBc hBo hlc hlo hfc hfo
      simp [setAll, hs9, hs10]
      clear hs9 hs10
      generalize s 16 = s16
      generalize s 17 = s17
      generalize s 18 = s18
      generalize s 19 = s19
      generalize s 20 = s20
      generalize s 21 = s21
      generalize s 22 = s22
      generalize s 23 = s23
      generalize s 24 = s24
      generalize s 25 = s25
      generalize W = wa at *
      have HZy3 := Lib.hid (HZy2.out.below HBw.out HZy2.out.lt)
      obtain ⟨e0, e1, e2, e3⟩ := cells4w HZy3.out
      go_wp2_with fail
      refine (HEa.out wa pc po HBw.out HL2.out.1 HL2.out.2 HBc.out HBo.out).mono ?_
      rintro e wb ⟨rfl, m', hm1, hm2, hm3, hm4, hm5⟩
      have HN := Lib.hid (HDone.out wa HBw.out wb m' hm1 hm2 hm3 hm4.1 hm5)
      clear hm1 hm2 hm3 hm4 hm5 e0 e1 e2 e3
      go_wp2_with fail
      go_roundw
      case rel => exact ⟨q + 1, m', by omega, by go_num, HN.out⟩
      case measure => simp [intOf]; omega
    · obtain rfl : q = C := by omega
      have hqc : ¬ (q : Int) < (q : Int) := by omega
      go_wp2_with fail
      go_end0
      obtain ⟨e1, e2, e3, e4, e5, e6⟩ := HH.out
      exact ⟨rfl, m, e1, e2, e3, e5⟩


set_option maxRecDepth 100000 in
set_option maxHeartbeats 2000000 in
theorem gvmul_ok3 (a b : Nat) (g c n : Nat) (l : List Nat) (o K i : Nat) (gm ym cm nm : Nat) (lm : List Nat) (om C L : Nat) (gx yx cx nx : Nat) (lx : List Nat) (ox ix : Nat) (w : World)
    (hO : Own w g l) (hl : l.length = n) (hn : n < 1048576) (hi1 : 1 ≤ i) (hr : K = 0 ∨ o + (K - 1) * i < n)
    (hM : Row w (some ⟨gm, ym, none⟩) (f64s lm)) (hlm : lm.length = nm) (hnm : nm < 1048576) (hL1 : 1 ≤ L) (hKL : K ≤ L) (hmr : K = 0 ∨ C = 0 ∨ om + (C - 1) * L + (K - 1) < nm) (hWm : Wds lm)
    (hX : Row w (some ⟨gx, yx, none⟩) (f64s lx)) (hlx : lx.length = nx) (hnx : nx < 1048576) (hix : 1 ≤ ix) (hxr : C = 0 ∨ ox + (C - 1) * ix < nx) (hWx : Wds lx) (hom : I64 om) (hLI : I64 L) (hox : I64 ox) (hixI : I64 ix) (hKb : K < 1048576) (hCb : C < 1048576)
    (hdm : gm ≠ g) (hdx : gx ≠ g)
    (hFit : ∀ W, Below w.heap.size w W → Calls Try.prog 49 #[mat (some ⟨gm, ym, none⟩) nm cm om K C L, vec (some ⟨gx, yx, none⟩) nx cx ox C ix, vec (some ⟨g, 0, none⟩) n c o K i, .int .i64 (C : Int), .int .i64 (K : Int)] W fun e w' => e = .returned (.int .i64 0) ∧ Below W.heap.size W w') :
    Calls Try.prog 44 #[.float .f64 a, mat (some ⟨gm, ym, none⟩) nm cm om K C L, vec (some ⟨gx, yx, none⟩) nx cx ox C ix, .float .f64 b, vec (some ⟨g, 0, none⟩) n c o K i] w fun e w' => e = .returned (.int .i64 0) ∧
      ∃ m : List Nat, m.length = K ∧ (∀ q, q < K → MulQ a b l o i lm om C L lx ox ix q (m.getD q 0)) ∧ Own w' g (wrt l o i m K) ∧ Chg [g] w w' := by
  have hRn : ∀ q, q < K → o + q * i < n := fun q hq => by
    rcases hr with h0 | h0
    · omega
    · exact place_lt h0 hq
  have HFt := Lib.hid hFit
  have HBg := Lib.hid (fun W (hb : Below w.heap.size w W) => gvbegin_any b g c l n o K i (fun W => (MCellsZ W gm ym lm om K C L ∧ VCellsZ W gx yx lx ox C ix)) W (hO.nxt hb) hl hn hi1 hr ⟨(mcellsZ_row hM hlm hmr).nxt hb, (vcellsZ_row hX hlx hxr).nxt hb⟩ (fun W W' h hb' => ⟨h.1.nxt hb', h.2.nxt hb'⟩) (fun W q v hq hv h => ⟨h.1.far hdm _, h.2.far hdx _⟩))
  have HCo := Lib.hid (fun W (l1 : List Nat) (pa : Nat) (hp : pa ≠ g) (hl1 : l1.length = n) (h1 : Own W g l1) (hI : (MCellsZ W gm ym lm om K C L ∧ VCellsZ W gx yx lx ox C ix)) (hA : W.cell? ⟨pa, 0, none⟩ = some (.float .f64 a)) =>
    gvcols3_any 52 #[.pointer (some ⟨pa, 0, none⟩)] (fun W => W.cell? ⟨pa, 0, none⟩ = some (.float .f64 a)) (MulR a) g c n l1 o K i gm ym cm nm lm om C L gx yx cx nx lx ox ix W (fun args W => gvmul_enters args W) h1 hl1 hn hi1 hr
      hI.1 hnm hL1 hKL hmr hI.2 hnx hxr hom hLI hKb hCb hdm hdx hA (fun W W' h hb => cell_below h hb) (fun W q v hq h => (cell_set hp _).trans h)
      (fun W x f hx hf h => gvmul_one a (lm.getD (om + f * L + x) 0) (lx.getD (ox + f * ix) 0) pa W h))
  have Hw := Lib.hid (And.intro hi1 (show K = 0 ∨ o + (K - 1) * i < l.length by rw [hl]; exact hr))
  have Hl := Lib.hid hl
  have Hg := Lib.hid (show g < w.heap.size from hO.lt)
  clear hO hl hn hi1 hr hM hlm hnm hL1 hKL hmr hWm hX hlx hnx hix hxr hWx hom hLI hox hixI hdm hdx hFit hRn hKb hCb
  unfold mat vec at *
  go_enter Try.func44, Try.ntmps44
  have HA0 := Lib.hid ((((Blk.new_ w 23 #[.float .f64 a] (w.heap.size) (by simp)).alloc (.cells #[.slice (some ⟨gm, ym, none⟩) nm cm, .int .i64 om, .int .i64 K, .int .i64 C, .int .i64 L] 26)).alloc (.cells #[.slice (some ⟨gx, yx, none⟩) nx cx, .int .i64 ox, .int .i64 C, .int .i64 ix] 76)).alloc (.cells #[.slice (some ⟨g, 0, none⟩) n c, .int .i64 o, .int .i64 K, .int .i64 i] 76))
  have HM0 := Lib.hid (((Blk.new_ (w.alloc (.cells #[.float .f64 a] 23)) 26 #[.slice (some ⟨gm, ym, none⟩) nm cm, .int .i64 om, .int .i64 K, .int .i64 C, .int .i64 L] (w.heap.size + 1) (by simp)).alloc (.cells #[.slice (some ⟨gx, yx, none⟩) nx cx, .int .i64 ox, .int .i64 C, .int .i64 ix] 76)).alloc (.cells #[.slice (some ⟨g, 0, none⟩) n c, .int .i64 o, .int .i64 K, .int .i64 i] 76))
  have HX0 := Lib.hid ((Blk.new_ ((w.alloc (.cells #[.float .f64 a] 23)).alloc (.cells #[.slice (some ⟨gm, ym, none⟩) nm cm, .int .i64 om, .int .i64 K, .int .i64 C, .int .i64 L] 26)) 76 #[.slice (some ⟨gx, yx, none⟩) nx cx, .int .i64 ox, .int .i64 C, .int .i64 ix] (w.heap.size + 1 + 1) (by simp)).alloc (.cells #[.slice (some ⟨g, 0, none⟩) n c, .int .i64 o, .int .i64 K, .int .i64 i] 76))
  have HY0 := Lib.hid (Blk.new_ (((w.alloc (.cells #[.float .f64 a] 23)).alloc (.cells #[.slice (some ⟨gm, ym, none⟩) nm cm, .int .i64 om, .int .i64 K, .int .i64 C, .int .i64 L] 26)).alloc (.cells #[.slice (some ⟨gx, yx, none⟩) nx cx, .int .i64 ox, .int .i64 C, .int .i64 ix] 76)) 76 #[.slice (some ⟨g, 0, none⟩) n c, .int .i64 o, .int .i64 K, .int .i64 i] (w.heap.size + 1 + 1 + 1) (by simp))
  have HB0 := Lib.hid (((((Below.refl w.heap.size w).alloc (Nat.le_refl _) (.cells #[.float .f64 a] 23)).alloc (by simp) (.cells #[.slice (some ⟨gm, ym, none⟩) nm cm, .int .i64 om, .int .i64 K, .int .i64 C, .int .i64 L] 26)).alloc (by simp; omega) (.cells #[.slice (some ⟨gx, yx, none⟩) nx cx, .int .i64 ox, .int .i64 C, .int .i64 ix] 76)).alloc (by simp; omega) (.cells #[.slice (some ⟨g, 0, none⟩) n c, .int .i64 o, .int .i64 K, .int .i64 i] 76))
  obtain ⟨m0, m1, m2, m3, m4⟩ := cells5 HM0.out
  obtain ⟨x0, x1, x2, x3⟩ := cells4w HX0.out
  obtain ⟨y0, y1, y2, y3⟩ := cells4w HY0.out
  go_wp2_with fail
  refine (HFt.out _ HB0.out).mono ?_
  rintro e w1 ⟨rfl, hb⟩
  have HB1 := Lib.hid (below_nx HB0.out hb)
  have HM1 := Lib.hid (HM0.out.nxt hb)
  have HX1 := Lib.hid (HX0.out.nxt hb)
  have HY1 := Lib.hid (HY0.out.nxt hb)
  have HA1 := Lib.hid (HA0.out.nxt hb)
  clear hb m0 m1 m2 m3 m4 x0 x1 x2 x3 y0 y1 y2 y3
  obtain ⟨m0, m1, m2, m3, m4⟩ := cells5 HM1.out
  obtain ⟨x0, x1, x2, x3⟩ := cells4w HX1.out
  obtain ⟨y0, y1, y2, y3⟩ := cells4w HY1.out
  go_wp2_with fail
  refine (HBg.out _ HB1.out).mono ?_
  rintro e w2 ⟨rfl, m, hm1, hm2, hm3, hm4, hm5⟩
  have HN := Lib.hid (And.intro hm1 (And.intro hm2 (And.intro hm3 (And.intro hm4 hm5))))
  have hng : ∀ p, w.heap.size ≤ p → p ∉ [g] := fun p hp => by simp; have := Hg.out; omega
  have HM2 := Lib.hid (hm5.blk (hng _ (by omega)) HM1.out)
  have HX2 := Lib.hid (hm5.blk (hng _ (by omega)) HX1.out)
  have HY2 := Lib.hid (hm5.blk (hng _ (by omega)) HY1.out)
  have HA2 := Lib.hid (hm5.blk (hng _ (by omega)) HA1.out)
  clear hm1 hm2 hm3 hm4 hm5 hng m0 m1 m2 m3 m4 x0 x1 x2 x3 y0 y1 y2 y3
  obtain ⟨m0, m1, m2, m3, m4⟩ := cells5 HM2.out
  obtain ⟨x0, x1, x2, x3⟩ := cells4w HX2.out
  obtain ⟨y0, y1, y2, y3⟩ := cells4w HY2.out
  go_wp2_with fail
  refine (HCo.out _ _ _ (by have := Hg.out; omega) (by rw [wrt_length, Hl.out]) HN.out.2.2.1 HN.out.2.2.2.1 (HA2.out.cell 0)).mono ?_
  rintro e w3 ⟨rfl, m', hp1, hp2, hp3, hp5⟩
  have HQ := Lib.hid (And.intro hp1 (And.intro hp2 (And.intro hp3 hp5)))
  clear hp1 hp2 hp3 hp5 m0 m1 m2 m3 m4 x0 x1 x2 x3 y0 y1 y2 y3
  go_wp2_with fail
  go_ret
  obtain ⟨k1, k2, k3, k4⟩ := HQ.out
  obtain ⟨n1, n2, n3, n4, n5⟩ := HN.out
  rw [wrt_wrt l o i m m' K Hw.out.1 Hw.out.2] at k3
  refine ⟨rfl, m', k1, fun q hq => ⟨m.getD q 0, n2 q hq, ?_⟩, k3, ((Chg.of_below HB1.out).trans n5).trans k4⟩
  have := k2 q hq
  rw [wrt_at l o i m K Hw.out.1 Hw.out.2 hq] at this
  exact this




set_option maxHeartbeats 1000000 in
theorem gvcols03_any (F : FuncId) (caps : Array Value) (Am : Option Addr) (nm cm : Nat) (om K L : Int) (Ax : Option Addr) (nx cx : Nat) (ox ix : Int) (A : Option Addr) (n c : Nat) (o k i : Int) (w : World) :
    Calls Try.prog 51 #[mat Am nm cm om K 0 L, vec Ax nx cx ox 0 ix, vec A n c o k i, .func (.func F) #[] caps] w fun e w' => e = .returned (.tuple #[]) ∧ Below w.heap.size w w' := by
  unfold mat vec
  go_enter Try.func51, Try.ntmps51
  have HZx := Lib.hid (((Blk.new_ (w.alloc (.cells #[.slice Am nm cm, .int .i64 om, .int .i64 K, .int .i64 0, .int .i64 L] 26)) 76 #[.slice Ax nx cx, .int .i64 ox, .int .i64 0, .int .i64 ix] (w.heap.size + 1) (by simp)).alloc (.cells #[.slice A n c, .int .i64 o, .int .i64 k, .int .i64 i] 76)).alloc (.cells #[.func (.func F) #[] caps] 57))
  have HB0 := Lib.hid (((((Below.refl w.heap.size w).alloc (Nat.le_refl _) (.cells #[.slice Am nm cm, .int .i64 om, .int .i64 K, .int .i64 0, .int .i64 L] 26)).alloc (by simp) (.cells #[.slice Ax nx cx, .int .i64 ox, .int .i64 0, .int .i64 ix] 76)).alloc (by simp; omega) (.cells #[.slice A n c, .int .i64 o, .int .i64 k, .int .i64 i] 76)).alloc (by simp; omega) (.cells #[.func (.func F) #[] caps] 57))
  obtain ⟨x0, x1, x2, x3⟩ := cells4w HZx.out
  go_wp2_with fail
  clear x0 x1 x2 x3
  go_loopw [13] (fun a wr => ∃ q : Nat, q ≤ 0 ∧ a = .int .i64 q ∧ Hid (Below w.heap.size w wr)) (fun a _ => 0 - (intOf a).toNat)
  case atStart => exact ⟨0, Nat.zero_le _, rfl, HB0⟩
  case round =>
    obtain ⟨q, hq, rfl, HBr⟩ := hrel
    obtain rfl : q = 0 := by omega
    go_wp2_with fail
    go_end0
    exact ⟨rfl, HBr.out⟩



set_option maxRecDepth 100000 in
set_option maxHeartbeats 2000000 in
theorem gvmul_ok03 (a b : Nat) (g c n : Nat) (l : List Nat) (o K i : Nat) (Am : Option Addr) (cm nm : Nat) (lm : List Nat) (om L : Nat) (Ax : Option Addr) (cx nx : Nat) (lx : List Nat) (ox ix : Nat) (w : World)
    (hO : Own w g l) (hl : l.length = n) (hn : n < 1048576) (hi1 : 1 ≤ i) (hr : K = 0 ∨ o + (K - 1) * i < n)
    (hKb : K < 1048576)
    (hFit : ∀ W, Below w.heap.size w W → Calls Try.prog 49 #[mat Am nm cm om K 0 L, vec Ax nx cx ox 0 ix, vec (some ⟨g, 0, none⟩) n c o K i, .int .i64 0, .int .i64 (K : Int)] W fun e w' => e = .returned (.int .i64 0) ∧ Below W.heap.size W w') :
    Calls Try.prog 44 #[.float .f64 a, mat Am nm cm om K 0 L, vec Ax nx cx ox 0 ix, .float .f64 b, vec (some ⟨g, 0, none⟩) n c o K i] w fun e w' => e = .returned (.int .i64 0) ∧
      ∃ m : List Nat, m.length = K ∧ (∀ q, q < K → MulQ a b l o i lm om 0 L lx ox ix q (m.getD q 0)) ∧ Own w' g (wrt l o i m K) ∧ Chg [g] w w' := by
  have hRn : ∀ q, q < K → o + q * i < n := fun q hq => by
    rcases hr with h0 | h0
    · omega
    · exact place_lt h0 hq
  have HFt := Lib.hid hFit
  have HBg := Lib.hid (fun W (hb : Below w.heap.size w W) => gvbegin_any b g c l n o K i (fun _ => True) W (hO.nxt hb) hl hn hi1 hr trivial (fun _ _ _ _ => trivial) (fun _ _ _ _ _ _ => trivial))
  have HCo := Lib.hid (fun (F : FuncId) (caps : Array Value) (W : World) => gvcols03_any F caps Am nm cm om K L Ax nx cx ox ix (some ⟨g, 0, none⟩) n c o K i W)
  have Hw := Lib.hid (And.intro hi1 (show K = 0 ∨ o + (K - 1) * i < l.length by rw [hl]; exact hr))
  have Hl := Lib.hid hl
  have Hg := Lib.hid (show g < w.heap.size from hO.lt)
  clear hO hl hn hi1 hr hFit hRn hKb
  unfold mat vec at *
  go_enter Try.func44, Try.ntmps44
  have HA0 := Lib.hid ((((Blk.new_ w 23 #[.float .f64 a] (w.heap.size) (by simp)).alloc (.cells #[.slice Am nm cm, .int .i64 om, .int .i64 K, .int .i64 0, .int .i64 L] 26)).alloc (.cells #[.slice Ax nx cx, .int .i64 ox, .int .i64 0, .int .i64 ix] 76)).alloc (.cells #[.slice (some ⟨g, 0, none⟩) n c, .int .i64 o, .int .i64 K, .int .i64 i] 76))
  have HM0 := Lib.hid (((Blk.new_ (w.alloc (.cells #[.float .f64 a] 23)) 26 #[.slice Am nm cm, .int .i64 om, .int .i64 K, .int .i64 0, .int .i64 L] (w.heap.size + 1) (by simp)).alloc (.cells #[.slice Ax nx cx, .int .i64 ox, .int .i64 0, .int .i64 ix] 76)).alloc (.cells #[.slice (some ⟨g, 0, none⟩) n c, .int .i64 o, .int .i64 K, .int .i64 i] 76))
  have HX0 := Lib.hid ((Blk.new_ ((w.alloc (.cells #[.float .f64 a] 23)).alloc (.cells #[.slice Am nm cm, .int .i64 om, .int .i64 K, .int .i64 0, .int .i64 L] 26)) 76 #[.slice Ax nx cx, .int .i64 ox, .int .i64 0, .int .i64 ix] (w.heap.size + 1 + 1) (by simp)).alloc (.cells #[.slice (some ⟨g, 0, none⟩) n c, .int .i64 o, .int .i64 K, .int .i64 i] 76))
  have HY0 := Lib.hid (Blk.new_ (((w.alloc (.cells #[.float .f64 a] 23)).alloc (.cells #[.slice Am nm cm, .int .i64 om, .int .i64 K, .int .i64 0, .int .i64 L] 26)).alloc (.cells #[.slice Ax nx cx, .int .i64 ox, .int .i64 0, .int .i64 ix] 76)) 76 #[.slice (some ⟨g, 0, none⟩) n c, .int .i64 o, .int .i64 K, .int .i64 i] (w.heap.size + 1 + 1 + 1) (by simp))
  have HB0 := Lib.hid (((((Below.refl w.heap.size w).alloc (Nat.le_refl _) (.cells #[.float .f64 a] 23)).alloc (by simp) (.cells #[.slice Am nm cm, .int .i64 om, .int .i64 K, .int .i64 0, .int .i64 L] 26)).alloc (by simp; omega) (.cells #[.slice Ax nx cx, .int .i64 ox, .int .i64 0, .int .i64 ix] 76)).alloc (by simp; omega) (.cells #[.slice (some ⟨g, 0, none⟩) n c, .int .i64 o, .int .i64 K, .int .i64 i] 76))
  obtain ⟨m0, m1, m2, m3, m4⟩ := cells5 HM0.out
  obtain ⟨x0, x1, x2, x3⟩ := cells4w HX0.out
  obtain ⟨y0, y1, y2, y3⟩ := cells4w HY0.out
  go_wp2_with fail
  refine (HFt.out _ HB0.out).mono ?_
  rintro e w1 ⟨rfl, hb⟩
  have HB1 := Lib.hid (below_nx HB0.out hb)
  have HM1 := Lib.hid (HM0.out.nxt hb)
  have HX1 := Lib.hid (HX0.out.nxt hb)
  have HY1 := Lib.hid (HY0.out.nxt hb)
  have HA1 := Lib.hid (HA0.out.nxt hb)
  clear hb m0 m1 m2 m3 m4 x0 x1 x2 x3 y0 y1 y2 y3
  obtain ⟨m0, m1, m2, m3, m4⟩ := cells5 HM1.out
  obtain ⟨x0, x1, x2, x3⟩ := cells4w HX1.out
  obtain ⟨y0, y1, y2, y3⟩ := cells4w HY1.out
  go_wp2_with fail
  refine (HBg.out _ HB1.out).mono ?_
  rintro e w2 ⟨rfl, m, hm1, hm2, hm3, hm4, hm5⟩
  have HN := Lib.hid (And.intro hm1 (And.intro hm2 (And.intro hm3 (And.intro hm4 hm5))))
  have hng : ∀ p, w.heap.size ≤ p → p ∉ [g] := fun p hp => by simp; have := Hg.out; omega
  have HM2 := Lib.hid (hm5.blk (hng _ (by omega)) HM1.out)
  have HX2 := Lib.hid (hm5.blk (hng _ (by omega)) HX1.out)
  have HY2 := Lib.hid (hm5.blk (hng _ (by omega)) HY1.out)
  have HA2 := Lib.hid (hm5.blk (hng _ (by omega)) HA1.out)
  clear hm1 hm2 hm3 hm4 hm5 hng m0 m1 m2 m3 m4 x0 x1 x2 x3 y0 y1 y2 y3
  obtain ⟨m0, m1, m2, m3, m4⟩ := cells5 HM2.out
  obtain ⟨x0, x1, x2, x3⟩ := cells4w HX2.out
  obtain ⟨y0, y1, y2, y3⟩ := cells4w HY2.out
  go_wp2_with fail
  refine (HCo.out _ _ _).mono ?_
  rintro e w3 ⟨rfl, hb⟩
  have HQ := Lib.hid hb
  clear hb m0 m1 m2 m3 m4 x0 x1 x2 x3 y0 y1 y2 y3
  go_wp2_with fail
  go_ret
  obtain ⟨n1, n2, n3, n4, n5⟩ := HN.out
  exact ⟨rfl, m, n1, fun q hq => ⟨m.getD q 0, n2 q hq, rfl⟩, n3.nxt HQ.out, (Chg.of_below HB1.out).trans (n5.nxt HQ.out)⟩


theorem run_sameAddr_nearZ {P : Program} {w : World} {b o g : Nat} {t : TypeId} {cs : Array Value} {v : Value} (hne : b ≠ g) (hc : w.cell? ⟨b, o, none⟩ = some v) (hf : w.frozen? ⟨b, o, none⟩ = false) (hB : Blk w g t cs) (hs : 0 < cs.size) :
    (sameAddr ⟨g, 0, none⟩ ⟨b, o, none⟩).run P w = .ok false w := by
  obtain ⟨ca, ta, fr, ha, m, hm⟩ : ∃ ca ta fr, w.heap[b]? = some (.cells ca ta fr) ∧ ∃ m, ca.size = m + 1 := by
    unfold World.cell? at hc
    simp only at hc
    split at hc
    · rename_i ca ta fr h
      refine ⟨ca, ta, fr, h, ca.size - 1, ?_⟩
      have h1 := (Array.getElem?_eq_some_iff.1 hc).1
      omega
    · cases hc
  have hg := hB
  unfold Blk at hg
  have hs0 : cs.size ≠ 0 := by omega
  obtain ⟨lo, hi⟩ := fr
  have hf' : (decide (lo ≤ o) && decide (o < hi)) = false := by
    simpa [World.frozen?, ha] using hf
  have hg2 : g ≠ b := fun e => hne e.symm
  cases h1 : decide (lo ≤ m + 1) && decide (m + 1 < hi)
  all_goals simp [sameAddr, hg2, World.frozen?, ha, hg, hf', noView, viewAt, World.shape?, mayBeOne, stringish, hs0, h1, hm]
theorem run_eql_nearZ {W : World} {b o g : Nat} {t : TypeId} {cs : Array Value} {v : Value} (hne : b ≠ g) (hc : W.cell? ⟨b, o, none⟩ = some v) (hf : W.frozen? ⟨b, o, none⟩ = false) (hB : Blk W g t cs) (hs : 0 < cs.size) :
    (binOp .eql 71 (.pointer (some ⟨g, 0, none⟩)) (.pointer (some ⟨b, o, none⟩))).run Try.prog W = .ok (.bool false) W := by
  have hz : (Try.prog.info? 23).map (fun i => i.size) = some 1 := by kernel_rfl
  obtain ⟨j, hj, hsz⟩ := Option.map_eq_some_iff.1 hz
  have h0 := run_sameAddr_nearZ (P := Try.prog) hne hc hf hB hs
  have h : ∀ d : Nat, (Op.equalIn (d + 1) 71 (.pointer (some ⟨g, 0, none⟩)) (.pointer (some ⟨b, o, none⟩))).run Try.prog W = .ok false W := fun d => by
    simp [Op.equalIn, run_underlying Try.underlying71, sizeOf, typeInfo, hj, hsz, h0]
  simp only [binOp]
  simp [Op.equal, Op.maxDepth, h 9999]
theorem both_pos2Z {n n' : Nat} {off r k ld off' r' k' ld' : Int} (h : bothB n off r k ld n' off' r' k' ld' = true) : 0 < n ∧ 0 < n' := by
  unfold bothB at h
  simp only [Bool.and_eq_true, Bool.not_eq_true', Bool.or_eq_false_iff, beq_eq_false_iff_ne, ne_eq] at h
  have g1 := of_decide_eq_true h.1.1.1
  have g2 := of_decide_eq_true h.1.1.2
  have h0 : 0 ≤ (k - 1) * ld := Int.mul_nonneg (by omega) (by omega)
  have h1 : 0 ≤ (k' - 1) * ld' := Int.mul_nonneg (by omega) (by omega)
  omega
theorem meet_mineZ (g cN : Nat) (l : List Nat) (n : Nat) (off r k ld : Int) (A : Option Addr) (n' c' : Nat) (l' : List Nat) (off' r' k' ld' : Int) (w : World) (hO : Own w g l) (hl : l.length = n) (hA : Row w A (f64s l')) (hl' : l'.length = n') (hfz : ∀ b o, A = some ⟨b, o, none⟩ → l' ≠ [] → w.frozen? ⟨b, o, none⟩ = false) (hne : ∀ b o, A = some ⟨b, o, none⟩ → l' ≠ [] → b ≠ g)
    (hn : n < 9223372036854775808) (hn' : n' < 9223372036854775808) (ho : I64 off) (hr : I64 r) (hk : I64 k) (hi : I64 ld) (ho' : I64 off') (hr' : I64 r') (hk' : I64 k') (hi' : I64 ld') :
    Calls Try.prog 32 #[mat (some ⟨g, 0, none⟩) n cN off r k ld, mat A n' c' off' r' k' ld'] w fun e w' => e = .returned (.bool false) ∧ Below w.heap.size w w' := by
  cases hb : bothB n off r k ld n' off' r' k' ld'
  · exact meet_none _ _ cN off r k ld _ _ c' off' r' k' ld' w hn ho hr hk hi hn' ho' hr' hk' hi' hb
  · have h0 := both_pos2Z hb
    have hl2 : l' ≠ [] := by rintro rfl; simp at hl'; omega
    obtain ⟨b, o, rfl, hbl, hcell⟩ := hA.at_ (f64s_get l' 0 (by omega))
    have hfr := hfz b o rfl hl2
    have hbg := hne b o rfl hl2
    refine meet_far g 0 _ cN off r k ld b o _ c' off' r' k' ld' w hn ho hr hk hi hn' ho' hr' hk' hi' hb h0.1 h0.2 fun W hW => ?_
    obtain ⟨cs, hB, ht⟩ := hO.nxt hW
    refine run_eql_nearZ hbg (cell_below hcell hW) ((hW.frozen (p := ⟨b, o, none⟩) hbl).trans hfr) hB ?_
    have h1 : (cs.toList.take l.length).length = l.length := by rw [ht]; simp [f64s]
    rw [List.length_take] at h1
    simp at h1; omega

/-- A list that is read lies anywhere but in block g. -/
def FarM (W : World) (A : Option Addr) (l : List Nat) (g : Nat) : Prop := Row W A (f64s l) ∧ (∀ p q, A = some ⟨p, q, none⟩ → l ≠ [] → W.frozen? ⟨p, q, none⟩ = false) ∧ ∀ p q, A = some ⟨p, q, none⟩ → l ≠ [] → p ≠ g
theorem FarM.lt {W : World} {A : Option Addr} {l : List Nat} {g p q : Nat} (h : FarM W A l g) (e : A = some ⟨p, q, none⟩) (hl : l ≠ []) : p < W.heap.size := by
  have h0 : 0 < l.length := List.length_pos_iff.2 hl
  obtain ⟨b', o', e', hlt, _⟩ := h.1.at_ (f64s_get l 0 h0)
  rw [e] at e'
  injection e' with e'
  injection e' with e1 e2
  subst e1
  exact hlt
theorem FarM.nxt {W W' : World} {A : Option Addr} {l : List Nat} {g : Nat} (h : FarM W A l g) (hb : Below W.heap.size W W') : FarM W' A l g :=
  ⟨h.1.below hb, fun p q e hl => (hb.frozen (p := ⟨p, q, none⟩) (h.lt e hl)).trans (h.2.1 p q e hl), h.2.2⟩
theorem FarM.chg {W W' : World} {A : Option Addr} {l : List Nat} {g : Nat} (h : FarM W A l g) (hc : Chg [g] W W') : FarM W' A l g := by
  refine ⟨?_, fun p q e hl => ?_, h.2.2⟩
  · rcases h.1 with h1 | ⟨p, q, e, h1⟩
    · exact .inl h1
    · by_cases hz : l = []
      · rw [hz]; exact .inl rfl
      · exact .inr ⟨p, q, e, fun i v hi => hc.cell (by simpa using h.2.2 p q e hz) (h1 i v hi)⟩
  · have hk := hc.block p (h.lt e hl) (by simpa using h.2.2 p q e hl)
    have := h.2.1 p q e hl
    unfold World.frozen? at this ⊢
    simp only at this ⊢
    rw [hk]
    exact this
theorem far_meet (g c : Nat) (l : List Nat) (n : Nat) (off r k ld : Int) (A : Option Addr) (n' c' : Nat) (l' : List Nat) (off' r' k' ld' : Int) (W : World) (hO : Own W g l) (hl : l.length = n) (hA : FarM W A l' g) (hl' : l'.length = n')
    (hn : n < 9223372036854775808) (hn' : n' < 9223372036854775808) (ho : I64 off) (hr : I64 r) (hk : I64 k) (hi : I64 ld) (ho' : I64 off') (hr' : I64 r') (hk' : I64 k') (hi' : I64 ld') :
    Calls Try.prog 32 #[mat (some ⟨g, 0, none⟩) n c off r k ld, mat A n' c' off' r' k' ld'] W fun e w' => e = .returned (.bool false) ∧ Below W.heap.size W w' :=
  meet_mineZ g c l n off r k ld A n' c' l' off' r' k' ld' W hO hl hA.1 hl' hA.2.1 hA.2.2 hn hn' ho hr hk hi ho' hr' hk' hi'

set_option maxHeartbeats 1000000 in
theorem gemul_two (a b : Nat) (Ax : Option Addr) (cx nx : Nat) (lx : List Nat) (om Lm : Nat) (Ay : Option Addr) (cy ny : Nat) (ly : List Nat) (oy Ly : Nat) (g c n : Nat) (l : List Nat) (o L R K C : Nat) (w : World)
    (hFx : FarM w Ax lx g) (hlx : lx.length = nx) (hnx : nx < 1048576) (hWx : Wds lx) (hL1x : 1 ≤ Lm) (hRLx : R ≤ Lm) (hxr : R = 0 ∨ K = 0 ∨ om + (K - 1) * Lm + (R - 1) < nx) (hom : I64 om) (hLm : I64 Lm)
    (hFy : FarM w Ay ly g) (hly : ly.length = ny) (hny : ny < 1048576) (hWy : Wds ly) (hL1y : 1 ≤ Ly) (hRLy : K ≤ Ly) (hyr : K = 0 ∨ C = 0 ∨ oy + (C - 1) * Ly + (K - 1) < ny) (hoy : I64 oy) (hLy : I64 Ly)
    (hO : Own w g l) (hl : l.length = n) (hn : n < 1048576) (hWl : Wds l) (hL1 : 1 ≤ L) (hRL : R ≤ L) (hmr : R = 0 ∨ C = 0 ∨ o + (C - 1) * L + (R - 1) < n) (hoI : I64 o) (hLI : I64 L)
    (hRb : R < 1048576) (hKb : K < 1048576) (hCb : C < 1048576) :
    Calls Try.prog 33 #[.float .f64 a, mat Ax nx cx om R K Lm, mat Ay ny cy oy K C Ly, .float .f64 b, mat (some ⟨g, 0, none⟩) n c o R C L] w fun e w' => e = .returned (.int .i64 0) ∧ ∃ l', Own w' g l' ∧ Imr l o R C L (GeR a b l o L lx om Lm ly oy Ly K) l' ∧ Chg [g] w w' := by
  have iR : I64 (R : Int) := by unfold I64; omega
  have iK : I64 (K : Int) := by unfold I64; omega
  have iC : I64 (C : Int) := by unfold I64; omega
  have i1 : I64 1 := by unfold I64; omega
  have hF := fun W (hb : Below w.heap.size w W) => gefits_ok Ax nx cx om Lm Ay ny cy oy Ly (some ⟨g, 0, none⟩) n c o L R K C W iR iK iC (by omega) hom hLm (by omega) hoy hLy (by omega) hoI hLI (by rw [mat_right hL1x hRLx hxr, mat_right hL1y hRLy hyr, mat_right hL1 hRL hmr]; rfl)
    (fun W' hb' => far_meet g c l n o R C L Ax nx cx lx om R K Lm W' ((hO.nxt hb).nxt hb') hl ((hFx.nxt hb).nxt hb') hlx (by omega) (by omega) hoI iR iC hLI hom iR iK hLm)
    (fun W' hb' => far_meet g c l n o R C L Ay ny cy ly oy K C Ly W' ((hO.nxt hb).nxt hb') hl ((hFy.nxt hb).nxt hb') hly (by omega) (by omega) hoI iR iC hLI hoy iK iC hLy)
  rcases Nat.eq_zero_or_pos R with h0 | h0
  · subst h0
    refine (gemul_none a b _ nx cx om 0 K Lm _ ny cy oy K C Ly _ n c o C L w hF).mono ?_
    rintro e w' ⟨e1, hb⟩
    exact ⟨e1, l, hO.nxt hb, ⟨rfl, fun a ha => by omega, fun _ _ => rfl⟩, Chg.of_below hb⟩
  · refine gemul_ok a b _ nx cx om Lm _ ny cy oy Ly g c n l o L R K C _ w hO hl hn hRL hL1 hmr (by omega) hRb hCb hKb hoI hLI (by omega) hoy hLy (mat_right hL1y hRLy hyr) hF fun W j lj hj hp hOj hc => ?_
    obtain ⟨ox, hox, hox2, hoxI, hoxr⟩ := ge_col hj hyr hoy hny
    rw [hox]
    have hPn := ge_jL hmr (by omega) hj
    have hlj : lj.length = n := by rw [hp.1, hl]
    have hjL : j * L ≤ (C - 1) * L := Nat.mul_le_mul_right L (by omega)
    have iP : I64 ((o + j * L : Nat) : Int) := by unfold I64; omega
    have v1 : vecB ny (ox : Int) (K : Int) 1 = true := vec_right (i := 1) (Nat.le_refl 1) hoxr
    have v2 : vecB n ((o + j * L : Nat) : Int) (R : Int) 1 = true := vec_right (i := 1) (Nat.le_refl 1) (.inr hPn)
    have x1 := hFx.chg hc
    have y1 := hFy.chg hc
    have hFt : ∀ W', Below W.heap.size W W' → Calls Try.prog 49 #[mat Ax nx cx om R K Lm, vec Ay ny cy ox K 1, vec (some ⟨g, 0, none⟩) n c ((o + j * L : Nat) : Int) R 1, .int .i64 (K : Int), .int .i64 (R : Int)] W' fun e w' => e = .returned (.int .i64 0) ∧ Below W'.heap.size W' w' := fun W' hb => gvfits_ok _ nx cx om R K Lm _ ny cy ox K 1 _ n c _ R 1 W' (by omega) hom iR iK hLm (by omega) hoxI iK i1 (by omega) iP iR i1 (by rw [mat_right hL1x hRLx hxr, v1, v2]; rfl)
        (fun W2 hb2 => far_meet g c lj n _ 1 R 1 Ax nx cx lx om R K Lm W2 ((hOj.nxt hb).nxt hb2) hlj ((x1.nxt hb).nxt hb2) hlx (by omega) (by omega) iP i1 iR i1 hom iR iK hLm)
        (fun W2 hb2 => far_meet g c lj n _ 1 R 1 Ay ny cy ly ox 1 K 1 W2 ((hOj.nxt hb).nxt hb2) hlj ((y1.nxt hb).nxt hb2) hly (by omega) (by omega) iP i1 iR i1 hoxI i1 iK i1)
    by_cases hK : K = 0
    · subst hK
      refine (gvmul_ok03 a b g c n lj (o + j * L) R 1 Ax cx nx lx om Lm Ay cy ny ly ox 1 W hOj hlj hn (Nat.le_refl _) (.inr hPn) hRb hFt).mono ?_
      rintro e w' ⟨e1, m, m1, m2, m3, m4⟩
      refine ⟨e1, m, fun q hq => ?_, m3, m4⟩
      refine (m2 q hq).congr ?_ (fun k hk => by omega) (fun k hk => by omega)
      have h2 := hp.2.1 q hq j hj
      rw [if_neg (by omega)] at h2
      rw [show o + j * L + q * 1 = o + q + j * L by omega]
      exact h2
    · have hx0 : 0 < lx.length := by rw [hlx]; have := (hxr.resolve_left (by omega)).resolve_left hK; omega
      have hy0 : 0 < ly.length := by rw [hly]; have := (hyr.resolve_left hK).resolve_left (by omega); omega
      obtain ⟨gm, ym, rfl, _, _⟩ := hFx.1.at_ (f64s_get lx 0 hx0)
      obtain ⟨gv, yv, rfl, _, _⟩ := hFy.1.at_ (f64s_get ly 0 hy0)
      refine (gvmul_ok3 a b g c n lj (o + j * L) R 1 gm ym cx nx lx om K Lm gv yv cy ny ly ox 1 W hOj hlj hn (Nat.le_refl _) (.inr hPn) x1.1 hlx hnx hL1x hRLx hxr hWx y1.1 hly hny (Nat.le_refl _) hoxr hWy hom hLm hoxI i1 hRb hKb
        (hFx.2.2 gm ym rfl (List.length_pos_iff.1 hx0)) (hFy.2.2 gv yv rfl (List.length_pos_iff.1 hy0)) hFt).mono ?_
      rintro e w' ⟨e1, m, m1, m2, m3, m4⟩
      refine ⟨e1, m, fun q hq => ?_, m3, m4⟩
      refine (m2 q hq).congr ?_ (fun k hk => rfl) (fun k hk => ?_)
      · have h2 := hp.2.1 q hq j hj
        rw [if_neg (by omega)] at h2
        rw [show o + j * L + q * 1 = o + q + j * L by omega]
        exact h2
      · have e4 : ox = oy + j * Ly := hox2.resolve_left (by omega)
        rw [e4, Nat.mul_one]
end Go.Proofs.Ytbeefnekblepfaa
