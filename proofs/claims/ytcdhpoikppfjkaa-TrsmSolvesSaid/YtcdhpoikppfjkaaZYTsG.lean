/-
Gemv: Mul where the matrix lies anywhere that isn't written to. Conditions: as each says.
-/
import Derived.Test.YtcdhpoikppfjkaaWaam
set_option linter.unusedVariables false
set_option linter.unusedSimpArgs false
set_option linter.unnecessarySimpa false
namespace Go.Proofs.Ytcdhpoikppfjkaa
open Go.RowKit
attribute [local go_sem ↓] Go.wp_at_zero Go.wp_at_succ

/-- A matrix' numbers lie somewhere. -/
def MxR (W : World) (A : Option Addr) (o K C L : Nat) (f : Nat → Nat → Nat) : Prop := ∀ i, i < K → ∀ k, k < C → ∃ b x, A = some ⟨b, x, none⟩ ∧ W.cell? ⟨b, x + (o + i + k * L), none⟩ = some (.float .f64 (f i k))
theorem MxR.nxt {W W' : World} {A : Option Addr} {o K C L : Nat} {f : Nat → Nat → Nat} (h : MxR W A o K C L f) (hb : Below W.heap.size W W') : MxR W' A o K C L f := fun i hi k hk => by
  obtain ⟨b, x, e, hc⟩ := h i hi k hk
  exact ⟨b, x, e, cell_below hc hb⟩
/-- What a column does to a number. -/
def ColR (Pr : Nat → Nat → Nat → Prop) (fm : Nat → Nat → Nat) (lx : List Nat) (ox ix q k s r : Nat) : Prop := ∃ p, Pr (fm q k) (lx.getD (ox + k * ix) 0) p ∧ Comes .add s p r
def MulP (a b y : Nat) (fm : Nat → Nat → Nat) (C : Nat) (lx : List Nat) (ox ix q r : Nat) : Prop := ∃ s, BegR b y s ∧ Chn (ColR (MulR a) fm lx ox ix q) s C r

set_option maxRecDepth 100000 in
set_option maxHeartbeats 2000000 in
theorem gvcols4_any (F : FuncId) (caps : Array Value) (I : World → Prop) (Pr : Nat → Nat → Nat → Prop) (g c n : Nat) (l : List Nat) (o K i : Nat) (Am : Option Addr) (cm nm : Nat) (fm : Nat → Nat → Nat) (om C L : Nat) (gx cx nx : Nat) (lx : List Nat) (ox ix : Nat) (w : World)
    (hF : ∀ args W, (callFunc F args).run Try.prog W = .ok (.enter F args) W) (hO : Own w g l) (hl : l.length = n) (hn : n < 1048576) (hi1 : 1 ≤ i) (hr : K = 0 ∨ o + (K - 1) * i < n)
    (hM : MxR w Am om K C L fm) (hnm : nm < 1048576) (hL1 : 1 ≤ L) (hKL : K ≤ L) (hmr : K = 0 ∨ C = 0 ∨ om + (C - 1) * L + (K - 1) < nm)
    (hX : VCells w gx lx ox C ix) (hnx : nx < 1048576) (hxr : C = 0 ∨ ox + (C - 1) * ix < nx) (hom : I64 om) (hLI : I64 L) (hKb : K < 1048576) (hCb : C < 1048576) 
    (hms : ∀ W q v, q < K → MxR W Am om K C L fm → MxR (W.setCell ⟨g, o + q * i, none⟩ (.float .f64 v)) Am om K C L fm) (hdx : gx = g → ∀ b, b < C → ∀ q, q < K → ox + b * ix ≠ o + q * i)
    (hI : I w) (hIb : ∀ W W', I W → Below W.heap.size W W' → I W') (hIs : ∀ W q v, q < K → I W → I (W.setCell ⟨g, o + q * i, none⟩ (.float .f64 v)))
    (hC : ∀ W a b, a < K → b < C → I W → Calls Try.prog F (#[.float .f64 (fm a b), .float .f64 (lx.getD (ox + b * ix) 0)] ++ caps) W fun e w' => ∃ p, e = .returned (.float .f64 p) ∧ Pr (fm a b) (lx.getD (ox + b * ix) 0) p ∧ Below W.heap.size W w') :
    Calls Try.prog 68 #[mat Am nm cm om K C L, vec (some ⟨gx, 0, none⟩) nx cx ox C ix, vec (some ⟨g, 0, none⟩) n c o K i, .func (.func F) #[] caps] w
      fun e w' => e = .returned (.tuple #[]) ∧ ∃ m : List Nat, m.length = K ∧ (∀ q, q < K → Chn (ColR Pr fm lx ox ix q) (l.getD (o + q * i) 0) C (m.getD q 0)) ∧ Own w' g (wrt l o i m K) ∧ Chg [g] w w' := by
  have HM0 := Lib.hid hM
  have HX0 := Lib.hid hX
  have HXr := Lib.hid (fun q (h : q < C) => show ox + q * ix < nx from by
    rcases hxr with h0 | h0
    · omega
    · exact place_lt h0 h)
  have HMr := Lib.hid (fun a b (ha : a < K) (hb : b < C) => mat_lt hmr ha hb)
  have HCl := Lib.hid (fun W (q : Nat) (hq : q < C) => vcol_some Am nm cm (om : Int) (K : Int) (C : Int) (L : Int) (q : Int) W (by omega) hom (by unfold I64; omega) (by unfold I64; omega) hLI (by unfold I64; omega) (mat_right hL1 hKL hmr) (by omega))
  have HPl := Lib.hid (fun q (hq : q < C) W => gvplace_any (some ⟨gx, 0, none⟩) nx cx ox C ix q W (by have := HXr.out q hq; omega))
  have HEach := Lib.hid (fun W (hgz : g < W.heap.size) (pf pc po : Nat) (O q f : Nat) (l1 : List Nat) (hl1 : l1.length = n) (h1 : Own W g l1) (hq : q < C) (hO0 : 0 < K → O = om + q * L) (hf : f = lx.getD (ox + q * ix) 0) (hpf : pf ≠ g) (hpc : pc ≠ g) (hpo : po ≠ g) 
      (hi : I W) (hm : MxR W Am om K C L fm) (hx : VCells W gx lx ox C ix) (hcf : W.cell? ⟨pf, 0, none⟩ = some (.func (.func F) #[] caps)) (hcc : Blk W pc 66 #[.slice Am nm cm, .int .i64 (O : Int), .int .i64 (K : Int), .int .i64 ((1 : Nat) : Int)]) (hco : W.cell? ⟨po, 0, none⟩ = some (.float .f64 f)) =>
    gveach_any 77 #[.pointer (some ⟨pf, 0, none⟩), .pointer (some ⟨pc, 0, none⟩), .pointer (some ⟨po, 0, none⟩)]
      (fun W => (I W ∧ MxR W Am om K C L fm ∧ VCells W gx lx ox C ix) ∧ W.cell? ⟨pf, 0, none⟩ = some (.func (.func F) #[] caps) ∧ Blk W pc 66 #[.slice Am nm cm, .int .i64 (O : Int), .int .i64 (K : Int), .int .i64 ((1 : Nat) : Int)] ∧ W.cell? ⟨po, 0, none⟩ = some (.float .f64 f))
      (fun j r => ColR Pr fm lx ox ix j q (l1.getD (o + j * i) 0) r) g n c l1 o K i W (fun args W => gvbyc_enters args W) h1 hl1 hn hi1 hr
      ⟨⟨hi, hm, hx⟩, hcf, hcc, hco⟩
      (fun W W' h hb => ⟨⟨hIb _ _ h.1.1 hb, h.1.2.1.nxt hb, h.1.2.2.nxt hb⟩, cell_below h.2.1 hb, h.2.2.1.nxt hb, cell_below h.2.2.2 hb⟩)
      (fun W j v hj _ h => ⟨⟨hIs _ _ _ hj h.1.1, hms _ _ _ hj h.1.2.1, h.1.2.2.set_ (fun e b hb => hdx e b hb j hj) _⟩, (cell_set hpf _).trans h.2.1, h.2.2.1.other hpc _, (cell_set hpo _).trans h.2.2.2⟩)
      (fun W j hj h => by
        have hO1 := hO0 (by omega)
        obtain ⟨gm, ym, eA, hcell⟩ := h.1.2.1 j hj q hq
        have h22 := h.2.2.1
        rw [eA] at h22
        have hbd := HMr.out j q hj hq
        have hcc := hC
        subst hf
        subst hO1
        have := gvbyc_one F caps I (fun p => Pr (fm j q) (lx.getD (ox + q * ix) 0) p) (fm j q) (lx.getD (ox + q * ix) 0) (l1.getD (o + j * i) 0) pf pc po gm ym nm cm (om + q * L) K 1 j W hF h.1.1 hIb (fun W hi => hC W j q hj hq hi) h.2.1 h22 h.2.2.2
          (by rw [Nat.mul_one, show ym + (om + q * L + j) = ym + (om + j + q * L) by omega]; exact hcell) (by rw [Nat.mul_one]; exact hbd) hnm
        exact this.mono fun e w' ⟨p, r, e1, e2, e3, e4⟩ => ⟨r, e1, ⟨p, e2, e3⟩, e4⟩))
  have HO := Lib.hid hO
  have Hl := Lib.hid hl
  have HI0 := Lib.hid hI
  have HIb := Lib.hid hIb
  have Hw := Lib.hid (And.intro hi1 hr)
  have hCb2 := hCb
  clear hF hO hl hn hi1 hr hM hnm hL1 hKL hmr hX hnx hxr hom hLI hKb hCb hms hdx hI hIb hIs hC
  unfold mat vec at *
  go_enter Try.func68, Try.ntmps68
  have HZm := Lib.hid ((((Blk.new w 24 #[.slice Am nm cm, .int .i64 om, .int .i64 K, .int .i64 C, .int .i64 L]).alloc (.cells #[.slice (some ⟨gx, 0, none⟩) nx cx, .int .i64 ox, .int .i64 C, .int .i64 ix] 66)).alloc (.cells #[.slice (some ⟨g, 0, none⟩) n c, .int .i64 o, .int .i64 K, .int .i64 i] 66)).alloc (.cells #[.func (.func F) #[] caps] 70))
  have HZx := Lib.hid (((Blk.new_ (w.alloc (.cells #[.slice Am nm cm, .int .i64 om, .int .i64 K, .int .i64 C, .int .i64 L] 24)) 66 #[.slice (some ⟨gx, 0, none⟩) nx cx, .int .i64 ox, .int .i64 C, .int .i64 ix] (w.heap.size + 1) (by simp)).alloc (.cells #[.slice (some ⟨g, 0, none⟩) n c, .int .i64 o, .int .i64 K, .int .i64 i] 66)).alloc (.cells #[.func (.func F) #[] caps] 70))
  have HZy := Lib.hid ((Blk.new_ ((w.alloc (.cells #[.slice Am nm cm, .int .i64 om, .int .i64 K, .int .i64 C, .int .i64 L] 24)).alloc (.cells #[.slice (some ⟨gx, 0, none⟩) nx cx, .int .i64 ox, .int .i64 C, .int .i64 ix] 66)) 66 #[.slice (some ⟨g, 0, none⟩) n c, .int .i64 o, .int .i64 K, .int .i64 i] (w.heap.size + 1 + 1) (by simp)).alloc (.cells #[.func (.func F) #[] caps] 70))
  have HZf := Lib.hid (Blk.new_ (((w.alloc (.cells #[.slice Am nm cm, .int .i64 om, .int .i64 K, .int .i64 C, .int .i64 L] 24)).alloc (.cells #[.slice (some ⟨gx, 0, none⟩) nx cx, .int .i64 ox, .int .i64 C, .int .i64 ix] 66)).alloc (.cells #[.slice (some ⟨g, 0, none⟩) n c, .int .i64 o, .int .i64 K, .int .i64 i] 66)) 70 #[.func (.func F) #[] caps] (w.heap.size + 1 + 1 + 1) (by simp))
  have hbl0 : Below w.heap.size w _ := ((((Below.refl w.heap.size w).alloc (Nat.le_refl _) (.cells #[.slice Am nm cm, .int .i64 om, .int .i64 K, .int .i64 C, .int .i64 L] 24)).alloc (by simp) (.cells #[.slice (some ⟨gx, 0, none⟩) nx cx, .int .i64 ox, .int .i64 C, .int .i64 ix] 66)).alloc (by simp; omega) (.cells #[.slice (some ⟨g, 0, none⟩) n c, .int .i64 o, .int .i64 K, .int .i64 i] 66)).alloc (by simp; omega) (.cells #[.func (.func F) #[] caps] 70)
  have HO1 := Lib.hid (HO.out.nxt hbl0)
  have HM1 := Lib.hid (HM0.out.nxt hbl0)
  have HX1 := Lib.hid (HX0.out.nxt hbl0)
  have HI1 := Lib.hid (HIb.out _ _ HI0.out hbl0)
  have HC1 := Lib.hid (Chg.of_below (G := [g]) hbl0)
  have Hgz := Lib.hid (show g < w.heap.size from HO.out.lt)
  clear hbl0
  obtain ⟨x0, x1, x2, x3⟩ := cells4w HZx.out
  go_wp2_with fail
  clear x0 x1 x2 x3
  generalize hzm : w.heap.size = zm at *
  generalize hzx : zm + 1 = zx at *
  generalize hzy : zx + 1 = zy at *
  generalize hzf : zy + 1 = zf at *
  have HNe := Lib.hid (show g ≠ zm ∧ g ≠ zx ∧ g ≠ zy ∧ g ≠ zf from by have := Hgz.out; omega)
  clear hzm hzx hzy hzf
  go_loopw [13] (fun a wr => ∃ (q : Nat) (m : List Nat), q ≤ C ∧ a = .int .i64 q ∧ Hid (m.length = K ∧ (∀ j, j < K → Chn (ColR Pr fm lx ox ix j) (l.getD (o + j * i) 0) q (m.getD j 0)) ∧ Own wr g (wrt l o i m K) ∧ (I wr ∧ MxR wr Am om K C L fm ∧ VCells wr gx lx ox C ix) ∧ Chg [g] w wr ∧ Blk wr zm 24 #[.slice Am nm cm, .int .i64 om, .int .i64 K, .int .i64 C, .int .i64 L] ∧ Blk wr zx 66 #[.slice (some ⟨gx, 0, none⟩) nx cx, .int .i64 ox, .int .i64 C, .int .i64 ix] ∧ Blk wr zy 66 #[.slice (some ⟨g, 0, none⟩) n c, .int .i64 o, .int .i64 K, .int .i64 i] ∧ Blk wr zf 70 #[.func (.func F) #[] caps])) (fun a _ => C - (intOf a).toNat)
  case atStart => exact ⟨0, lst l o i K, Nat.zero_le _, rfl, Lib.hid ⟨lst_length _ _ _ _, fun j hj => (lst_getD l o i hj), by rw [wrt_lst l o i K Hw.out.1 (by rw [Hl.out]; exact Hw.out.2)]; exact HO1.out, ⟨HI1.out, HM1.out, HX1.out⟩, HC1.out, HZm.out, HZx.out, HZy.out, HZf.out⟩⟩
  case round =>
    obtain ⟨q, m, hq, rfl, HH⟩ := hrel
    by_cases hlt : q < C
    · have HZm1 := Lib.hid HH.out.2.2.2.2.2.1
      have HZx1 := Lib.hid HH.out.2.2.2.2.2.2.1
      have HZy1 := Lib.hid HH.out.2.2.2.2.2.2.2.1
      have hqc : (q : Int) < (C : Int) := by omega
      have hq1 : q + 1 ≤ 1048576 := by omega
      have hce := HH.out.2.2.2.1.2.2 q hlt
      have hbx := HXr.out q hlt
      have HCol0 := Lib.hid (fun W => HCl.out W q hlt)
      have HPx0 := Lib.hid (HPl.out q hlt)
      obtain ⟨O, hO⟩ : ∃ O : Nat, colOff (om : Int) (K : Int) (L : Int) (q : Int) = (O : Int) ∧ (0 < K → O = om + q * L) := by
        unfold colOff
        by_cases e : K = 0
        · exact ⟨om, by rw [if_pos (by omega)], by omega⟩
        · exact ⟨om + q * L, by rw [if_neg (by omega)]; simp, fun _ => rfl⟩
      rw [hO.1] at HCol0
      obtain ⟨f, hf⟩ : ∃ f, lx.getD (ox + q * ix) 0 = f := ⟨_, rfl⟩
      obtain ⟨P, hPd⟩ : ∃ P, ox + q * ix = P := ⟨_, rfl⟩
      have HEa0 := Lib.hid (fun wa (pc po : Nat) (hbw : Below wr.heap.size wr wa) (h1 : wr.heap.size ≤ pc) (h2 : wr.heap.size ≤ po) (hB : Blk wa pc 66 #[.slice Am nm cm, .int .i64 (O : Int), .int .i64 (K : Int), .int .i64 ((1 : Nat) : Int)]) (ho : wa.cell? ⟨po, 0, none⟩ = some (.float .f64 f)) => by
        obtain ⟨e1, e2, e3, e4, e5, e6, e7, e8, e9⟩ := HH.out
        have hgw : g < wr.heap.size := e3.lt
        exact HEach.out wa (by have := hbw.size; omega) zf pc po O q f (wrt l o i m K) (by rw [wrt_length, Hl.out]) (e3.nxt hbw) hlt hO.2 hf.symm (fun e => HNe.out.2.2.2 e.symm) (by omega) (by omega) (HIb.out _ _ e4.1 hbw) (e4.2.1.nxt hbw) (e4.2.2.nxt hbw) (cell_below (e9.cell 0) hbw) hB ho)
      have HDone0 := Lib.hid (show ∀ wa, Below wr.heap.size wr wa → ∀ wb (m' : List Nat), m'.length = K → (∀ j, j < K → ColR Pr fm lx ox ix j q ((wrt l o i m K).getD (o + j * i) 0) (m'.getD j 0)) → Own wb g (wrt (wrt l o i m K) o i m' K) → (I wb ∧ MxR wb Am om K C L fm ∧ VCells wb gx lx ox C ix) → Chg [g] wa wb →
          Hid (m'.length = K ∧ (∀ j, j < K → Chn (ColR Pr fm lx ox ix j) (l.getD (o + j * i) 0) (q + 1) (m'.getD j 0)) ∧ Own wb g (wrt l o i m' K) ∧ (I wb ∧ MxR wb Am om K C L fm ∧ VCells wb gx lx ox C ix) ∧ Chg [g] w wb ∧ Blk wb zm 24 #[.slice Am nm cm, .int .i64 om, .int .i64 K, .int .i64 C, .int .i64 L] ∧ Blk wb zx 66 #[.slice (some ⟨gx, 0, none⟩) nx cx, .int .i64 ox, .int .i64 C, .int .i64 ix] ∧ Blk wb zy 66 #[.slice (some ⟨g, 0, none⟩) n c, .int .i64 o, .int .i64 K, .int .i64 i] ∧ Blk wb zf 70 #[.func (.func F) #[] caps]) from fun wa hbw wb m' h1 h2 h3 h4 h5 => Lib.hid (by
        obtain ⟨e1, e2, e3, e4, e5, e6, e7, e8, e9⟩ := HH.out
        obtain ⟨n1, n2, n3, n4⟩ := HNe.out
        have hR : K = 0 ∨ o + (K - 1) * i < l.length := by rw [Hl.out]; exact Hw.out.2
        rw [wrt_wrt l o i m m' K Hw.out.1 hR] at h3
        refine ⟨h1, fun j hj => ⟨m.getD j 0, e2 j hj, ?_⟩, h3, h4, (e5.nxt hbw).trans h5, h5.blk (by simp; exact fun e => n1 e.symm) (e6.nxt hbw), h5.blk (by simp; exact fun e => n2 e.symm) (e7.nxt hbw), h5.blk (by simp; exact fun e => n3 e.symm) (e8.nxt hbw), h5.blk (by simp; exact fun e => n4 e.symm) (e9.nxt hbw)⟩
        have := h2 j hj
        rw [wrt_at l o i m K Hw.out.1 hR hj] at this
        exact this))
      rw [hf, hPd] at hce
      rw [hPd] at HPx0 hbx
      have b2 := hbx
      have HXc0 := Lib.hid hce
      clear hce hbx hf hPd hO
      obtain ⟨c0, c1, c2, c3, c4⟩ := cells5 HZm1.out
      obtain ⟨d0, d1, d2, d3⟩ := cells4w HZx1.out
      go_wp2_with fail
      clear c0 c1 c2 c3 c4 d0 d1 d2 d3
      have HCol := HCol0
      have HPx := HPx0
      have HXc := HXc0
      have HEa := HEa0
      have HDone := HDone0
      have HZm2 := HZm1
      have HZx2 := HZx1
      have HZy2 := HZy1
      generalize wr = wq at *
      refine wp_region_inv [16, 17, 18, 19, 20, 21, 22, 23, 24, 25, 9, 10] (fun d s W => (d 0 = true → s 16 = .agg #[.slice Am nm cm, .int .i64 (om : Int), .int .i64 (K : Int), .int .i64 (C : Int), .int .i64 (L : Int)]) ∧ (d 1 = true → s 17 = .int .i64 (q : Int)) ∧ (d 2 = true → s 18 = .agg #[.slice Am nm cm, .int .i64 (O : Int), .int .i64 (K : Int), .int .i64 1]) ∧ (d 3 = true → s 19 = .pointer (some ⟨zx, 0, none⟩)) ∧ (d 4 = true → s 20 = .slice (some ⟨gx, 0, none⟩) nx cx) ∧ (d 5 = true → s 21 = .agg #[.slice (some ⟨gx, 0, none⟩) nx cx, .int .i64 (ox : Int), .int .i64 (C : Int), .int .i64 (ix : Int)]) ∧ (d 6 = true → s 22 = .int .i64 (q : Int)) ∧ (d 7 = true → s 23 = .int .i64 (P : Int)) ∧ (d 8 = true → s 24 = .pointer (some ⟨gx, P, none⟩)) ∧ (d 9 = true → s 25 = .float .f64 f) ∧ (d 10 = true → BoxV W (s 9) wq.heap.size (d 12) (.slice Am nm cm) (.int .i64 (O : Int)) (.int .i64 (K : Int)) (.int .i64 1)) ∧ (d 11 = true → BoxF W (s 10) wq.heap.size (d 13) (.float .f64 f)) ∧ (d 12 = true → d 10 = true) ∧ (d 13 = true → d 11 = true) ∧ Below wq.heap.size wq W)
        rfl (by kernel_rfl) ?_ ?_ ?_
      · exact ⟨by simp, by simp, by simp, by simp, by simp, by simp, by simp, by simp, by simp, by simp, by simp, by simp, by simp, by simp, (Below.refl _ _).drew⟩
      · refine ⟨?_, ?_, ?_, ?_, ?_, ?_, ?_, ?_, ?_, ?_, ?_, ?_, ?_, ?_, trivial⟩
        all_goals
          intro d s W hJ hfr hd hdep
          simp only [List.mem_cons, forall_eq_or_imp, List.not_mem_nil, false_implies, implies_true, and_true, Region.binds] at hdep
          have f4 := hfr 4 (by decide)
          have f5 := hfr 5 (by decide)
          have f8 := hfr 8 (by decide)
          simp at f4 f5 f8 hdep
          obtain ⟨h0, h1, h2, h3, h4, h5, h6, h7, h8, h9, h10, h11, x0, x1, hT⟩ := hJ
        · unfold OpSteps
          obtain ⟨p0, p1, p2, p3, p4⟩ := cells5 (HZm2.out.below hT HZm2.out.lt)
          simp [go_sem, evS, f4, p0, p1, p2, p3, p4]
          exact ⟨fun _ => by simp [sput], fun h => by simpa [sput] using h1 (by simpa [did] using h), fun h => by simpa [sput] using h2 (by simpa [did] using h), fun h => by simpa [sput] using h3 (by simpa [did] using h), fun h => by simpa [sput] using h4 (by simpa [did] using h), fun h => by simpa [sput] using h5 (by simpa [did] using h), fun h => by simpa [sput] using h6 (by simpa [did] using h), fun h => by simpa [sput] using h7 (by simpa [did] using h), fun h => by simpa [sput] using h8 (by simpa [did] using h), fun h => by simpa [sput] using h9 (by simpa [did] using h), fun h => by simpa [sput, did] using (h10 (by simpa [did] using h)), fun h => by simpa [sput, did] using (h11 (by simpa [did] using h)), by simpa [sput, did] using x0, by simpa [sput, did] using x1, hT⟩
        · unfold OpSteps
          simp [go_sem, evS, f8]
          exact ⟨fun h => by simpa [sput] using h0 (by simpa [did] using h), fun _ => by simp [sput], fun h => by simpa [sput] using h2 (by simpa [did] using h), fun h => by simpa [sput] using h3 (by simpa [did] using h), fun h => by simpa [sput] using h4 (by simpa [did] using h), fun h => by simpa [sput] using h5 (by simpa [did] using h), fun h => by simpa [sput] using h6 (by simpa [did] using h), fun h => by simpa [sput] using h7 (by simpa [did] using h), fun h => by simpa [sput] using h8 (by simpa [did] using h), fun h => by simpa [sput] using h9 (by simpa [did] using h), fun h => by simpa [sput, did] using (h10 (by simpa [did] using h)), fun h => by simpa [sput, did] using (h11 (by simpa [did] using h)), by simpa [sput, did] using x0, by simpa [sput, did] using x1, hT⟩
        · have g0 := h0 (by simp [hdep])
          have g1 := h1 (by simp [hdep])
          unfold OpSteps
          simp [go_sem, evS, g0, g1]
          refine (HCol.out W).mono ?_
          rintro e W' ⟨rfl, hb⟩
          refine ⟨_, rfl, ?_⟩
          exact ⟨fun h => by simpa [sput] using h0 (by simpa [did] using h), fun h => by simpa [sput] using h1 (by simpa [did] using h), fun _ => by simp [sput], fun h => by simpa [sput] using h3 (by simpa [did] using h), fun h => by simpa [sput] using h4 (by simpa [did] using h), fun h => by simpa [sput] using h5 (by simpa [did] using h), fun h => by simpa [sput] using h6 (by simpa [did] using h), fun h => by simpa [sput] using h7 (by simpa [did] using h), fun h => by simpa [sput] using h8 (by simpa [did] using h), fun h => by simpa [sput] using h9 (by simpa [did] using h), fun h => by simpa [sput, did] using (h10 (by simpa [did] using h)).below hb, fun h => by simpa [sput, did] using (h11 (by simpa [did] using h)).below hb, by simpa [sput, did] using x0, by simpa [sput, did] using x1, below_nx hT hb⟩
        · unfold OpSteps
          simp [go_sem, evS, f5]
          exact ⟨fun h => by simpa [sput] using h0 (by simpa [did] using h), fun h => by simpa [sput] using h1 (by simpa [did] using h), fun h => by simpa [sput] using h2 (by simpa [did] using h), fun _ => by simp [sput], fun h => by simpa [sput] using h4 (by simpa [did] using h), fun h => by simpa [sput] using h5 (by simpa [did] using h), fun h => by simpa [sput] using h6 (by simpa [did] using h), fun h => by simpa [sput] using h7 (by simpa [did] using h), fun h => by simpa [sput] using h8 (by simpa [did] using h), fun h => by simpa [sput] using h9 (by simpa [did] using h), fun h => by simpa [sput, did] using (h10 (by simpa [did] using h)), fun h => by simpa [sput, did] using (h11 (by simpa [did] using h)), by simpa [sput, did] using x0, by simpa [sput, did] using x1, hT⟩
        · have g3 := h3 (by simp [hdep])
          unfold OpSteps
          obtain ⟨p0, p1, p2, p3⟩ := cells4w (HZx2.out.below hT HZx2.out.lt)
          simp [go_sem, evS, g3, p0, p1, p2, p3]
          exact ⟨fun h => by simpa [sput] using h0 (by simpa [did] using h), fun h => by simpa [sput] using h1 (by simpa [did] using h), fun h => by simpa [sput] using h2 (by simpa [did] using h), fun h => by simpa [sput] using h3 (by simpa [did] using h), fun _ => by simp [sput], fun h => by simpa [sput] using h5 (by simpa [did] using h), fun h => by simpa [sput] using h6 (by simpa [did] using h), fun h => by simpa [sput] using h7 (by simpa [did] using h), fun h => by simpa [sput] using h8 (by simpa [did] using h), fun h => by simpa [sput] using h9 (by simpa [did] using h), fun h => by simpa [sput, did] using (h10 (by simpa [did] using h)), fun h => by simpa [sput, did] using (h11 (by simpa [did] using h)), by simpa [sput, did] using x0, by simpa [sput, did] using x1, hT⟩
        · unfold OpSteps
          obtain ⟨p0, p1, p2, p3⟩ := cells4w (HZx2.out.below hT HZx2.out.lt)
          simp [go_sem, evS, f5, p0, p1, p2, p3]
          exact ⟨fun h => by simpa [sput] using h0 (by simpa [did] using h), fun h => by simpa [sput] using h1 (by simpa [did] using h), fun h => by simpa [sput] using h2 (by simpa [did] using h), fun h => by simpa [sput] using h3 (by simpa [did] using h), fun h => by simpa [sput] using h4 (by simpa [did] using h), fun _ => by simp [sput], fun h => by simpa [sput] using h6 (by simpa [did] using h), fun h => by simpa [sput] using h7 (by simpa [did] using h), fun h => by simpa [sput] using h8 (by simpa [did] using h), fun h => by simpa [sput] using h9 (by simpa [did] using h), fun h => by simpa [sput, did] using (h10 (by simpa [did] using h)), fun h => by simpa [sput, did] using (h11 (by simpa [did] using h)), by simpa [sput, did] using x0, by simpa [sput, did] using x1, hT⟩
        · unfold OpSteps
          simp [go_sem, evS, f8]
          exact ⟨fun h => by simpa [sput] using h0 (by simpa [did] using h), fun h => by simpa [sput] using h1 (by simpa [did] using h), fun h => by simpa [sput] using h2 (by simpa [did] using h), fun h => by simpa [sput] using h3 (by simpa [did] using h), fun h => by simpa [sput] using h4 (by simpa [did] using h), fun h => by simpa [sput] using h5 (by simpa [did] using h), fun _ => by simp [sput], fun h => by simpa [sput] using h7 (by simpa [did] using h), fun h => by simpa [sput] using h8 (by simpa [did] using h), fun h => by simpa [sput] using h9 (by simpa [did] using h), fun h => by simpa [sput, did] using (h10 (by simpa [did] using h)), fun h => by simpa [sput, did] using (h11 (by simpa [did] using h)), by simpa [sput, did] using x0, by simpa [sput, did] using x1, hT⟩
        · have g5 := h5 (by simp [hdep])
          have g6 := h6 (by simp [hdep])
          unfold OpSteps
          simp [go_sem, evS, g5, g6]
          refine (HPx.out W).mono ?_
          rintro e W' ⟨rfl, hb⟩
          refine ⟨_, rfl, ?_⟩
          exact ⟨fun h => by simpa [sput] using h0 (by simpa [did] using h), fun h => by simpa [sput] using h1 (by simpa [did] using h), fun h => by simpa [sput] using h2 (by simpa [did] using h), fun h => by simpa [sput] using h3 (by simpa [did] using h), fun h => by simpa [sput] using h4 (by simpa [did] using h), fun h => by simpa [sput] using h5 (by simpa [did] using h), fun h => by simpa [sput] using h6 (by simpa [did] using h), fun _ => by simp [sput], fun h => by simpa [sput] using h8 (by simpa [did] using h), fun h => by simpa [sput] using h9 (by simpa [did] using h), fun h => by simpa [sput, did] using (h10 (by simpa [did] using h)).below hb, fun h => by simpa [sput, did] using (h11 (by simpa [did] using h)).below hb, by simpa [sput, did] using x0, by simpa [sput, did] using x1, below_nx hT hb⟩
        · have g4 := h4 (by simp [hdep])
          have g7 := h7 (by simp [hdep])
          unfold OpSteps
          simp [go_sem, evS, g4, g7, b2]
          exact ⟨fun h => by simpa [sput] using h0 (by simpa [did] using h), fun h => by simpa [sput] using h1 (by simpa [did] using h), fun h => by simpa [sput] using h2 (by simpa [did] using h), fun h => by simpa [sput] using h3 (by simpa [did] using h), fun h => by simpa [sput] using h4 (by simpa [did] using h), fun h => by simpa [sput] using h5 (by simpa [did] using h), fun h => by simpa [sput] using h6 (by simpa [did] using h), fun h => by simpa [sput] using h7 (by simpa [did] using h), fun _ => by simp [sput], fun h => by simpa [sput] using h9 (by simpa [did] using h), fun h => by simpa [sput, did] using (h10 (by simpa [did] using h)), fun h => by simpa [sput, did] using (h11 (by simpa [did] using h)), by simpa [sput, did] using x0, by simpa [sput, did] using x1, hT⟩
        · have g8 := h8 (by simp [hdep])
          unfold OpSteps
          have pc := cell_below HXc.out hT
          simp [go_sem, evS, g8, pc]
          exact ⟨fun h => by simpa [sput] using h0 (by simpa [did] using h), fun h => by simpa [sput] using h1 (by simpa [did] using h), fun h => by simpa [sput] using h2 (by simpa [did] using h), fun h => by simpa [sput] using h3 (by simpa [did] using h), fun h => by simpa [sput] using h4 (by simpa [did] using h), fun h => by simpa [sput] using h5 (by simpa [did] using h), fun h => by simpa [sput] using h6 (by simpa [did] using h), fun h => by simpa [sput] using h7 (by simpa [did] using h), fun h => by simpa [sput] using h8 (by simpa [did] using h), fun _ => by simp [sput], fun h => by simpa [sput, did] using (h10 (by simpa [did] using h)), fun h => by simpa [sput, did] using (h11 (by simpa [did] using h)), by simpa [sput, did] using x0, by simpa [sput, did] using x1, hT⟩
        · unfold OpSteps
          simp [go_sem, evS]
          exact ⟨fun h => by simpa [sput] using h0 (by simpa [did] using h), fun h => by simpa [sput] using h1 (by simpa [did] using h), fun h => by simpa [sput] using h2 (by simpa [did] using h), fun h => by simpa [sput] using h3 (by simpa [did] using h), fun h => by simpa [sput] using h4 (by simpa [did] using h), fun h => by simpa [sput] using h5 (by simpa [did] using h), fun h => by simpa [sput] using h6 (by simpa [did] using h), fun h => by simpa [sput] using h7 (by simpa [did] using h), fun h => by simpa [sput] using h8 (by simpa [did] using h), fun h => by simpa [sput] using h9 (by simpa [did] using h), fun _ => ⟨W.heap.size, _, _, _, _, by simp [sput], Blk.new W _ _, hT.size, fun h => by have := x0 (by simpa [did] using h); simp [hd] at this⟩, fun h => by simpa [sput, did] using (h11 (by simpa [did] using h)).below below_one, fun _ => by simp [did], by simpa [sput, did] using x1, below_al hT⟩
        · unfold OpSteps
          simp [go_sem, evS]
          exact ⟨fun h => by simpa [sput] using h0 (by simpa [did] using h), fun h => by simpa [sput] using h1 (by simpa [did] using h), fun h => by simpa [sput] using h2 (by simpa [did] using h), fun h => by simpa [sput] using h3 (by simpa [did] using h), fun h => by simpa [sput] using h4 (by simpa [did] using h), fun h => by simpa [sput] using h5 (by simpa [did] using h), fun h => by simpa [sput] using h6 (by simpa [did] using h), fun h => by simpa [sput] using h7 (by simpa [did] using h), fun h => by simpa [sput] using h8 (by simpa [did] using h), fun h => by simpa [sput] using h9 (by simpa [did] using h), fun h => by simpa [sput, did] using (h10 (by simpa [did] using h)).below below_one, fun _ => ⟨W.heap.size, _, by simp [sput], Blk.new W _ _, hT.size, fun h => by have := x1 (by simpa [did] using h); simp [hd] at this⟩, by simpa [sput, did] using x0, fun _ => by simp [did], below_al hT⟩
        · have g10 := h10 (by simp [hdep])
          have g2 := h2 (by simp [hdep])
          unfold OpSteps
          obtain ⟨p9, z0, z1, z2, z3, gp, hB9, hlo, hfu⟩ := g10
          obtain ⟨fr0, fr1, fr2, fr3⟩ := frozen4w hB9
          obtain ⟨k0, k1, k2, k3⟩ := cells4w hB9
          simp [go_sem, evS, g2, gp, fr0, fr1, fr2, fr3, k0, k1, k2, k3]
          exact ⟨fun h => by simpa [sput] using h0 (by simpa [did] using h), fun h => by simpa [sput] using h1 (by simpa [did] using h), fun h => by simpa [sput] using h2 (by simpa [did] using h), fun h => by simpa [sput] using h3 (by simpa [did] using h), fun h => by simpa [sput] using h4 (by simpa [did] using h), fun h => by simpa [sput] using h5 (by simpa [did] using h), fun h => by simpa [sput] using h6 (by simpa [did] using h), fun h => by simpa [sput] using h7 (by simpa [did] using h), fun h => by simpa [sput] using h8 (by simpa [did] using h), fun h => by simpa [sput] using h9 (by simpa [did] using h), fun h => ⟨p9, _, _, _, _, by simpa [sput] using gp, Blk.store4v hB9 _ _ _ _, hlo, fun _ => ⟨rfl, rfl, rfl, rfl⟩⟩, fun h => by simpa [sput, did] using (h11 (by simpa [did] using h)).far hB9 _ _ _ _, fun _ => by simp [did, hdep], by simpa [sput, did] using x1, below_sets4 hT hlo _ _ _ _⟩
        · have g11 := h11 (by simp [hdep])
          have g9 := h9 (by simp [hdep])
          unfold OpSteps
          obtain ⟨p9, z0, gp, hB9, hlo, hfu⟩ := g11
          have fr0 := hB9.frozen 0
          have k0 := hB9.cell 0
          simp [go_sem, evS, g9, gp, fr0, k0]
          exact ⟨fun h => by simpa [sput] using h0 (by simpa [did] using h), fun h => by simpa [sput] using h1 (by simpa [did] using h), fun h => by simpa [sput] using h2 (by simpa [did] using h), fun h => by simpa [sput] using h3 (by simpa [did] using h), fun h => by simpa [sput] using h4 (by simpa [did] using h), fun h => by simpa [sput] using h5 (by simpa [did] using h), fun h => by simpa [sput] using h6 (by simpa [did] using h), fun h => by simpa [sput] using h7 (by simpa [did] using h), fun h => by simpa [sput] using h8 (by simpa [did] using h), fun h => by simpa [sput] using h9 (by simpa [did] using h), fun h => by simpa [sput, did] using (h10 (by simpa [did] using h)).far hB9 0 _, fun h => ⟨p9, _, by simpa [sput] using gp, hB9.set_ 0 _, hlo, fun _ => rfl⟩, by simpa [sput, did] using x0, fun _ => by simp [did, hdep], hT.setCell (p := ⟨p9, 0, none⟩) hlo _⟩
      intro d s W hJ hd
      obtain ⟨h0, h1, h2, h3, h4, h5, h6, h7, h8, h9, h10, h11, x0, x1, hT⟩ := hJ
      obtain ⟨pc, y0, y1, y2, y3, hs9, hBc, hlc, hfc⟩ := h10 (hd 10 (by decide))
      obtain ⟨po, yo, hs10, hBo, hlo, hfo⟩ := h11 (hd 11 (by decide))
      obtain ⟨rfl, rfl, rfl, rfl⟩ := hfc (hd 12 (by decide))
      obtain rfl := hfo (hd 13 (by decide))
      have HBc := Lib.hid hBc
      have HBo := Lib.hid (hBo.cell 0)
      have HL2 := Lib.hid (And.intro hlc hlo)
      have HBw := Lib.hid hT
      clear h0 h1 h2 h3 h4 h5 h6 h7 h8 h9 h10 h11 x0 x1 hT hd hBc hBo hlc hlo hfc hfo
      simp [setAll, hs9, hs10]
      clear hs9 hs10
      generalize s 16 = s16
      generalize s 17 = s17
      generalize s 18 = s18
      generalize s 19 = s19
      generalize s 20 = s20
      generalize s 21 = s21
      generalize s 22 = s22
      generalize s 23 = s23
      generalize s 24 = s24
      generalize s 25 = s25
      generalize W = wa at *
      have HZy3 := Lib.hid (HZy2.out.below HBw.out HZy2.out.lt)
      obtain ⟨e0, e1, e2, e3⟩ := cells4w HZy3.out
      go_wp2_with fail
      refine (HEa.out wa pc po HBw.out HL2.out.1 HL2.out.2 HBc.out HBo.out).mono ?_
      rintro e wb ⟨rfl, m', hm1, hm2, hm3, hm4, hm5⟩
      have HN := Lib.hid (HDone.out wa HBw.out wb m' hm1 hm2 hm3 hm4.1 hm5)
      clear hm1 hm2 hm3 hm4 hm5 e0 e1 e2 e3
      go_wp2_with fail
      go_roundw
      case rel => exact ⟨q + 1, m', by omega, by go_num, HN.out⟩
      case measure => simp [intOf]; omega
    · obtain rfl : q = C := by omega
      have hqc : ¬ (q : Int) < (q : Int) := by omega
      go_wp2_with fail
      go_end0
      obtain ⟨e1, e2, e3, e4, e5, e6⟩ := HH.out
      exact ⟨rfl, m, e1, e2, e3, e5⟩

set_option maxRecDepth 100000 in
set_option maxHeartbeats 2000000 in
theorem gvmul4_ok (a b : Nat) (g c n : Nat) (l : List Nat) (o K i : Nat) (Am : Option Addr) (cm nm : Nat) (fm : Nat → Nat → Nat) (om C L : Nat) (gx cx nx : Nat) (lx : List Nat) (ox ix : Nat) (w : World)
    (hO : Own w g l) (hl : l.length = n) (hn : n < 1048576) (hi1 : 1 ≤ i) (hr : K = 0 ∨ o + (K - 1) * i < n)
    (hM : MxR w Am om K C L fm) (hnm : nm < 1048576) (hL1 : 1 ≤ L) (hKL : K ≤ L) (hmr : K = 0 ∨ C = 0 ∨ om + (C - 1) * L + (K - 1) < nm)
    (hX : VCells w gx lx ox C ix) (hnx : nx < 1048576) (hix : 1 ≤ ix) (hxr : C = 0 ∨ ox + (C - 1) * ix < nx) (hom : I64 om) (hLI : I64 L) (hox : I64 ox) (hixI : I64 ix) (hKb : K < 1048576) (hCb : C < 1048576)
    (hms : ∀ W q v, q < K → MxR W Am om K C L fm → MxR (W.setCell ⟨g, o + q * i, none⟩ (.float .f64 v)) Am om K C L fm) (hdx : gx = g → ∀ b, b < C → ∀ q, q < K → ox + b * ix ≠ o + q * i)
    (hFit : ∀ W, Below w.heap.size w W → Calls Try.prog 66 #[mat Am nm cm om K C L, vec (some ⟨gx, 0, none⟩) nx cx ox C ix, vec (some ⟨g, 0, none⟩) n c o K i, .int .i64 (C : Int), .int .i64 (K : Int)] W fun e w' => e = .returned (.int .i64 0) ∧ Below W.heap.size W w') :
    Calls Try.prog 55 #[.float .f64 a, mat Am nm cm om K C L, vec (some ⟨gx, 0, none⟩) nx cx ox C ix, .float .f64 b, vec (some ⟨g, 0, none⟩) n c o K i] w fun e w' => e = .returned (.int .i64 0) ∧
      ∃ m : List Nat, m.length = K ∧ (∀ q, q < K → MulP a b (l.getD (o + q * i) 0) fm C lx ox ix q (m.getD q 0)) ∧ Own w' g (wrt l o i m K) ∧ Chg [g] w w' := by
  have hRn : ∀ q, q < K → o + q * i < n := fun q hq => by
    rcases hr with h0 | h0
    · omega
    · exact place_lt h0 hq
  have HFt := Lib.hid hFit
  have HBg := Lib.hid (fun W (hb : Below w.heap.size w W) => gvbegin_any b g c l n o K i (fun W => (MxR W Am om K C L fm ∧ VCells W gx lx ox C ix)) W (hO.nxt hb) hl hn hi1 hr ⟨hM.nxt hb, hX.nxt hb⟩ (fun W W' h hb' => ⟨h.1.nxt hb', h.2.nxt hb'⟩) (fun W q v hq hv h => ⟨hms _ _ _ hq h.1, h.2.set_ (fun e b hb => hdx e b hb q hq) _⟩))
  have HCo := Lib.hid (fun W (l1 : List Nat) (pa : Nat) (hp : pa ≠ g) (hl1 : l1.length = n) (h1 : Own W g l1) (hI : (MxR W Am om K C L fm ∧ VCells W gx lx ox C ix)) (hA : W.cell? ⟨pa, 0, none⟩ = some (.float .f64 a)) =>
    gvcols4_any 69 #[.pointer (some ⟨pa, 0, none⟩)] (fun W => W.cell? ⟨pa, 0, none⟩ = some (.float .f64 a)) (MulR a) g c n l1 o K i Am cm nm fm om C L gx cx nx lx ox ix W (fun args W => gvmul_enters args W) h1 hl1 hn hi1 hr
      hI.1 hnm hL1 hKL hmr hI.2 hnx hxr hom hLI hKb hCb hms hdx hA (fun W W' h hb => cell_below h hb) (fun W q v hq h => (cell_set hp _).trans h)
      (fun W x f hx hf h => gvmul_one a (fm x f) (lx.getD (ox + f * ix) 0) pa W h))
  have Hw := Lib.hid (And.intro hi1 (show K = 0 ∨ o + (K - 1) * i < l.length by rw [hl]; exact hr))
  have Hl := Lib.hid hl
  have Hg := Lib.hid (show g < w.heap.size from hO.lt)
  clear hO hl hn hi1 hr hM hnm hL1 hKL hmr hX hnx hix hxr hom hLI hox hixI hms hdx hFit hRn hKb hCb
  unfold mat vec at *
  go_enter Try.func55, Try.ntmps55
  have HA0 := Lib.hid ((((Blk.new_ w 43 #[.float .f64 a] (w.heap.size) (by simp)).alloc (.cells #[.slice Am nm cm, .int .i64 om, .int .i64 K, .int .i64 C, .int .i64 L] 24)).alloc (.cells #[.slice (some ⟨gx, 0, none⟩) nx cx, .int .i64 ox, .int .i64 C, .int .i64 ix] 66)).alloc (.cells #[.slice (some ⟨g, 0, none⟩) n c, .int .i64 o, .int .i64 K, .int .i64 i] 66))
  have HM0 := Lib.hid (((Blk.new_ (w.alloc (.cells #[.float .f64 a] 43)) 24 #[.slice Am nm cm, .int .i64 om, .int .i64 K, .int .i64 C, .int .i64 L] (w.heap.size + 1) (by simp)).alloc (.cells #[.slice (some ⟨gx, 0, none⟩) nx cx, .int .i64 ox, .int .i64 C, .int .i64 ix] 66)).alloc (.cells #[.slice (some ⟨g, 0, none⟩) n c, .int .i64 o, .int .i64 K, .int .i64 i] 66))
  have HX0 := Lib.hid ((Blk.new_ ((w.alloc (.cells #[.float .f64 a] 43)).alloc (.cells #[.slice Am nm cm, .int .i64 om, .int .i64 K, .int .i64 C, .int .i64 L] 24)) 66 #[.slice (some ⟨gx, 0, none⟩) nx cx, .int .i64 ox, .int .i64 C, .int .i64 ix] (w.heap.size + 1 + 1) (by simp)).alloc (.cells #[.slice (some ⟨g, 0, none⟩) n c, .int .i64 o, .int .i64 K, .int .i64 i] 66))
  have HY0 := Lib.hid (Blk.new_ (((w.alloc (.cells #[.float .f64 a] 43)).alloc (.cells #[.slice Am nm cm, .int .i64 om, .int .i64 K, .int .i64 C, .int .i64 L] 24)).alloc (.cells #[.slice (some ⟨gx, 0, none⟩) nx cx, .int .i64 ox, .int .i64 C, .int .i64 ix] 66)) 66 #[.slice (some ⟨g, 0, none⟩) n c, .int .i64 o, .int .i64 K, .int .i64 i] (w.heap.size + 1 + 1 + 1) (by simp))
  have HB0 := Lib.hid (((((Below.refl w.heap.size w).alloc (Nat.le_refl _) (.cells #[.float .f64 a] 43)).alloc (by simp) (.cells #[.slice Am nm cm, .int .i64 om, .int .i64 K, .int .i64 C, .int .i64 L] 24)).alloc (by simp; omega) (.cells #[.slice (some ⟨gx, 0, none⟩) nx cx, .int .i64 ox, .int .i64 C, .int .i64 ix] 66)).alloc (by simp; omega) (.cells #[.slice (some ⟨g, 0, none⟩) n c, .int .i64 o, .int .i64 K, .int .i64 i] 66))
  obtain ⟨m0, m1, m2, m3, m4⟩ := cells5 HM0.out
  obtain ⟨x0, x1, x2, x3⟩ := cells4w HX0.out
  obtain ⟨y0, y1, y2, y3⟩ := cells4w HY0.out
  go_wp2_with fail
  refine (HFt.out _ HB0.out).mono ?_
  rintro e w1 ⟨rfl, hb⟩
  have HB1 := Lib.hid (below_nx HB0.out hb)
  have HM1 := Lib.hid (HM0.out.nxt hb)
  have HX1 := Lib.hid (HX0.out.nxt hb)
  have HY1 := Lib.hid (HY0.out.nxt hb)
  have HA1 := Lib.hid (HA0.out.nxt hb)
  clear hb m0 m1 m2 m3 m4 x0 x1 x2 x3 y0 y1 y2 y3
  obtain ⟨m0, m1, m2, m3, m4⟩ := cells5 HM1.out
  obtain ⟨x0, x1, x2, x3⟩ := cells4w HX1.out
  obtain ⟨y0, y1, y2, y3⟩ := cells4w HY1.out
  go_wp2_with fail
  refine (HBg.out _ HB1.out).mono ?_
  rintro e w2 ⟨rfl, m, hm1, hm2, hm3, hm4, hm5⟩
  have HN := Lib.hid (And.intro hm1 (And.intro hm2 (And.intro hm3 (And.intro hm4 hm5))))
  have hng : ∀ p, w.heap.size ≤ p → p ∉ [g] := fun p hp => by simp; have := Hg.out; omega
  have HM2 := Lib.hid (hm5.blk (hng _ (by omega)) HM1.out)
  have HX2 := Lib.hid (hm5.blk (hng _ (by omega)) HX1.out)
  have HY2 := Lib.hid (hm5.blk (hng _ (by omega)) HY1.out)
  have HA2 := Lib.hid (hm5.blk (hng _ (by omega)) HA1.out)
  clear hm1 hm2 hm3 hm4 hm5 hng m0 m1 m2 m3 m4 x0 x1 x2 x3 y0 y1 y2 y3
  obtain ⟨m0, m1, m2, m3, m4⟩ := cells5 HM2.out
  obtain ⟨x0, x1, x2, x3⟩ := cells4w HX2.out
  obtain ⟨y0, y1, y2, y3⟩ := cells4w HY2.out
  go_wp2_with fail
  refine (HCo.out _ _ _ (by have := Hg.out; omega) (by rw [wrt_length, Hl.out]) HN.out.2.2.1 HN.out.2.2.2.1 (HA2.out.cell 0)).mono ?_
  rintro e w3 ⟨rfl, m', hp1, hp2, hp3, hp5⟩
  have HQ := Lib.hid (And.intro hp1 (And.intro hp2 (And.intro hp3 hp5)))
  clear hp1 hp2 hp3 hp5 m0 m1 m2 m3 m4 x0 x1 x2 x3 y0 y1 y2 y3
  go_wp2_with fail
  go_ret
  obtain ⟨k1, k2, k3, k4⟩ := HQ.out
  obtain ⟨n1, n2, n3, n4, n5⟩ := HN.out
  rw [wrt_wrt l o i m m' K Hw.out.1 Hw.out.2] at k3
  refine ⟨rfl, m', k1, fun q hq => ⟨m.getD q 0, n2 q hq, ?_⟩, k3, ((Chg.of_below HB1.out).trans n5).trans k4⟩
  have := k2 q hq
  rw [wrt_at l o i m K Hw.out.1 Hw.out.2 hq] at this
  exact this

end Go.Proofs.Ytcdhpoikppfjkaa
