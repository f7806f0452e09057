/-
The program's Mul of many numbers, none of which is 0. Conditions: as it says.
-/
import Derived.Test.YtbkbeglmfhaleaaGreatDoorUcg
import Derived.Test.YtbkbeglmfhaleaaGreatDoorInv
import Derived.Test.YtbkbeglmfhaleaaGreatDoorIng
import Derived.Lib.SliceRun
import Derived.Test.YtbkbeglmfhaleaaGreatDoorMem
import Derived.Test.YtbkbeglmfhaleaaGreatDoorNumA
import Derived.WalkLawsBesides
import Derived.WalkSpells
import Derived.LoopTactic
import Derived.Outline
import Derived.Deep.QuietTactic
import Derived.BigQuiet
import Derived.RegionTactic
import Derived.Test.YtbkbeglmfhaleaaGreatDoorUci
import Derived.Deep.Slices
import Derived.Deep.Fields
import Derived.ChangeSame
import Derived.Laws.Cover2
import Derived.Test.YtbkbeglmfhaleaaGreatDoorFam
set_option linter.unusedVariables false
set_option linter.unusedSimpArgs false
namespace Go.Proofs.YtbkbeglmfhaleaaGreatDoor
open Go.RowKit
attribute [local go_sem ↓] Go.wp_at_zero Go.wp_at_succ

theorem blk_nx {W W' w9 : World} {g : Nat} {t : TypeId} {cs : Array Value} (h : Blk W g t cs) (hb : Below W.heap.size W W') : Blk W' g t cs := h.below hb h.lt
theorem dds_get (xs : List D4) (k : Nat) (hk : k < xs.length) : (dds xs).take (k + 1) = (dds xs).take k ++ [xs[k].d] := by
  have hk' : k < (dds xs).length := by unfold dds; simpa using hk
  have e : (dds xs)[k]'hk' = xs[k].d := List.getElem_map _
  rw [List.take_succ_eq_append_getElem hk', e]
theorem one_ne : dy 1 0 ≠ 0 := fun h => by rw [dy_eq_zero] at h; cases h
set_option maxHeartbeats 2000000 in
set_option maxRecDepth 20000 in
theorem pmul_walk (A : Option Addr) (n c : Nat) (xs : List D4) (w : World) (hn : xs.length = n) (hl : Dl w A xs) (ho : Oks w xs) (hbig : n ≤ 1099511627776)
    (hc : ∀ W, Below w.heap.size w W → Calls Tryz.prog 49 #[.slice A n c, .func (.func 50) #[] #[]] W fun e w' => e = .returned (.bool false) ∧ Below W.heap.size W w')
    (hz : ∀ x ∈ xs, x.d ≠ 0) (hF : ∀ x ∈ xs, Fitp x.d) (hP : ∀ k, k ≤ n → Fitp (dpr ((dds xs).take k))) (hg : Glob w) :
    Calls Tryz.prog 20 #[.slice A n c] w (RetP (dpr (dds xs)) w) := by
  have HC := Lib.hid hc
  have HL := Lib.hid hl
  have HO := Lib.hid ho
  have HN := Lib.hid hn
  have HZ := Lib.hid hz
  have HF := Lib.hid hF
  have HP := Lib.hid hP
  have HG := Lib.hid hg
  clear hc hl ho hn hz hF hP hg
  go_enter Tryz.func20, Tryz.ntmps20
  go_wp2_with fail
  have hbl := (Below.refl w.heap.size w).alloc (Nat.le_refl _) (.cells #[.bool false, .slice none 0 0, .bool false, .slice none 0 0] 37)
  refine (HC.out _ hbl).mono ?_
  rintro e w1 ⟨rfl, hb1⟩
  have HBr := Lib.hid ((Blk.new w 37 #[.bool false, .slice none 0 0, .bool false, .slice none 0 0]).below hb1 (by simp))
  have HBl := Lib.hid (hbl.trans (hb1.mono (by simp)))
  clear hb1 hbl
  go_wp2_with fail
  refine (pint_v 1 w1 (by omega) (by omega) (HG.out.below HBl.out)).mono ?_
  rintro e w2 ⟨v, rfl, hv, hb2⟩
  obtain ⟨p, hpo, rfl, hpd⟩ := hv.d4
  have HBr2 := Lib.hid (blk_nx (w9 := w) HBr.out hb2)
  have HBl2 := Lib.hid (HBl.out.trans (hb2.mono HBl.out.size))
  have HPo := Lib.hid hpo
  have HPd := Lib.hid hpd
  clear hb2 hpo hpd hv
  unfold D4.val
  go_wp2_with fail
  have hzp := HBl2.out.size
  have hsr := HBr2.out.lt
  obtain ⟨zp, hzq⟩ : ∃ zp, w2.heap.size = zp := ⟨_, rfl⟩
  have HB0 := Lib.hid (Blk.new_ w2 37 p.cells.toArray zp hzq)
  have HBr3 := Lib.hid (HBr2.out.alloc (.cells p.cells.toArray 37))
  have HBl3 := Lib.hid (HBl2.out.alloc hzp (.cells p.cells.toArray 37))
  have HPo3 := Lib.hid (HPo.out.below ((Below.refl w2.heap.size w2).alloc (Nat.le_refl _) (.cells p.cells.toArray 37)))
  rw [hzq]
  rw [hzq] at hsr hzp
  go_loopw [12] (fun i wr => ∃ (k : Nat) (p : D4), k ≤ n ∧ i = .int .i64 k ∧ p.d = dpr ((dds xs).take k) ∧ p.d ≠ 0 ∧ p.ok wr ∧ Blk wr zp 37 p.cells.toArray ∧ Blk wr w.heap.size 37 #[.bool false, .slice none 0 0, .bool false, .slice none 0 0] ∧ Below w.heap.size w wr) (fun i _ => n - (intOf i).toNat)
  case atStart => exact ⟨0, p, Nat.zero_le _, rfl, by rw [HPd.out]; rfl, fun h => one_ne (HPd.out.symm.trans h), HPo3.out, HB0.out, HBr3.out, HBl3.out⟩
  case round =>
    obtain ⟨k, q, hk, rfl, hqd, hq0, hqo, hB, hBr, hb⟩ := hrel
    by_cases hlt : k < n
    · have hkx : k < xs.length := by rw [HN.out]; exact hlt
      obtain ⟨b, o, hA, hblt, x0, x1, x2, x3⟩ := (HL.out.below hb).at_ hkx
      subst hA
      have hxo := (HO.out _ (List.getElem_mem hkx)).below hb
      have hxz := HZ.out _ (List.getElem_mem hkx)
      have hxf := HF.out _ (List.getElem_mem hkx)
      have hqf := HP.out k hk
      rw [← hqd] at hqf
      have hnext : dpr ((dds xs).take (k + 1)) = q.d * xs[k].d := by rw [dds_get xs k hkx, dpr_snoc, ← hqd]
      generalize hxk : xs[k] = x at *
      obtain ⟨m1, m2, m3⟩ := mul_ne hq0 hxz
      have e4 : (k : Int) < (n : Int) := by omega
      have hwx : wl (expo x.d) ≤ 1 := wl_small (by have := hxf.2; omega) (by have := hxf.2; omega)
      have hwq : wl (expo q.d) ≤ 1 := wl_small (by have := hqf.2; omega) (by have := hqf.2; omega)
      have hT := fun W (hW : Below wr.heap.size wr W) => times_any q.A q.n q.c (mant q.d) x.A x.n x.c (mant x.d) W (hqo.1.below hW) (hxo.1.below hW) hqf.1 hxf.1 (fun h => hq0 ((mant_eq_zero _).1 h)) (fun h => hxz ((mant_eq_zero _).1 h))
      have hS := fun W (hW : Below wr.heap.size wr W) => plus_any q.A' q.n' q.c' (expo q.d) x.A' x.n' x.c' (expo x.d) W (hqo.2.below hW) (hxo.2.below hW) (by omega) (by omega)
      rw [← m1] at hT
      rw [← m2] at hS
      have HT := Lib.hid hT
      have HS := Lib.hid hS
      have HNx := Lib.hid hnext
      have HM3 := Lib.hid m3
      have HB := Lib.hid hB
      have HBr := Lib.hid hBr
      have HBb := Lib.hid hb
      clear hT hS hnext m1 m2 m3 hBr hb hqf hxf hwx hwq hqd hq0 hxz hxk hqo hxo hkx
      have hzl := HB.out.lt
      have hwl := HBr.out.lt
      generalize q.d * x.d = D at *
      have hV0 := (Below.refl wr.heap.size wr).alloc (Nat.le_refl _) (.cells x.cells.toArray 37)
      have HB5 := Lib.hid (Blk.new wr 37 x.cells.toArray)
      have HBz := Lib.hid (HB.out.alloc (.cells x.cells.toArray 37))
      have HBy := Lib.hid (HBr.out.alloc (.cells x.cells.toArray 37))
      have HV0 := Lib.hid hV0
      have hs1 : (wr.alloc (.cells x.cells.toArray 37)).heap.size = wr.heap.size + 1 := by simp
      go_wp2_with fail
      change Blk wr zp 37 #[.bool (ng (mant q.d)), .slice q.A q.n q.c, .bool (ng (expo q.d)), .slice q.A' q.n' q.c'] at hB
      have HB6 : Hid (Blk (wr.alloc (.cells #[.bool (ng (mant x.d)), .slice x.A x.n x.c, .bool (ng (expo x.d)), .slice x.A' x.n' x.c'] 37)) wr.heap.size 37 #[.bool (ng (mant x.d)), .slice x.A x.n x.c, .bool (ng (expo x.d)), .slice x.A' x.n' x.c']) := HB5
      have HB7 : Hid (Blk (wr.alloc (.cells #[.bool (ng (mant x.d)), .slice x.A x.n x.c, .bool (ng (expo x.d)), .slice x.A' x.n' x.c'] 37)) zp 37 #[.bool (ng (mant q.d)), .slice q.A q.n q.c, .bool (ng (expo q.d)), .slice q.A' q.n' q.c']) := HBz
      have HB8 : Hid (Blk (wr.alloc (.cells #[.bool (ng (mant x.d)), .slice x.A x.n x.c, .bool (ng (expo x.d)), .slice x.A' x.n' x.c'] 37)) w.heap.size 37 #[.bool false, .slice none 0 0, .bool false, .slice none 0 0]) := HBy
      have HV : Hid (Below wr.heap.size wr (wr.alloc (.cells #[.bool (ng (mant x.d)), .slice x.A x.n x.c, .bool (ng (expo x.d)), .slice x.A' x.n' x.c'] 37))) := HV0
      clear HB5 HBz HBy HV0 hV0 hB hs1
      generalize wr.alloc (.cells #[.bool (ng (mant x.d)), .slice x.A x.n x.c, .bool (ng (expo x.d)), .slice x.A' x.n' x.c'] 37) = V at *
      have hVs := HV.out.size
      generalize wr.heap.size = z5 at *
      have HBV := Lib.hid (HBb.out.trans (HV.out.mono (by omega)))
      refine wp_region_inv [16, 17, 18, 19, 20, 21, 22, 23, 24, 25, 26] (fun d s W => (d 0 = true → s 16 = .pointer (some ⟨zp, 0, none⟩)) ∧ (d 1 = true → s 17 = .agg #[.bool (ng (mant q.d)), .slice q.A q.n q.c]) ∧ (d 2 = true → s 18 = .pointer (some ⟨z5, 0, none⟩)) ∧ (d 3 = true → s 19 = .agg #[.bool (ng (mant x.d)), .slice x.A x.n x.c]) ∧ (d 4 = true → WV W (s 20) (mant D)) ∧ (d 5 = true → s 21 = .pointer (some ⟨zp, 2, none⟩)) ∧ (d 6 = true → s 22 = .agg #[.bool (ng (expo q.d)), .slice q.A' q.n' q.c']) ∧ (d 7 = true → s 23 = .pointer (some ⟨z5, 2, none⟩)) ∧ (d 8 = true → s 24 = .agg #[.bool (ng (expo x.d)), .slice x.A' x.n' x.c']) ∧ (d 9 = true → WV W (s 25) (expo D)) ∧ (d 10 = true → PV W (s 26) D) ∧ (d 1 = true → d 0 = true) ∧ (d 3 = true → d 2 = true) ∧ (d 4 = true → d 0 = true ∧ d 1 = true ∧ d 2 = true ∧ d 3 = true) ∧ (d 6 = true → d 5 = true) ∧ (d 8 = true → d 7 = true) ∧ (d 9 = true → d 5 = true ∧ d 6 = true ∧ d 7 = true ∧ d 8 = true) ∧ (d 10 = true → d 0 = true ∧ d 1 = true ∧ d 2 = true ∧ d 3 = true ∧ d 4 = true ∧ d 5 = true ∧ d 6 = true ∧ d 7 = true ∧ d 8 = true ∧ d 9 = true) ∧ (d 11 = true → d 0 = true ∧ d 1 = true ∧ d 2 = true ∧ d 3 = true ∧ d 4 = true ∧ d 5 = true ∧ d 6 = true ∧ d 7 = true ∧ d 8 = true ∧ d 9 = true ∧ d 10 = true) ∧ ((d 11 = false → Below V.heap.size V W) ∧ (d 11 = true → PBx W (zp) (D) ∧ Below w.heap.size w W ∧ Blk W (w.heap.size) 37 #[.bool false, .slice none 0 0, .bool false, .slice none 0 0])))
        rfl (by kernel_rfl) ?_ ?_ ?_
      · exact ⟨by simp, by simp, by simp, by simp, by simp, by simp, by simp, by simp, by simp, by simp, by simp, by simp, by simp, by simp, by simp, by simp, by simp, by simp, by simp, ⟨fun _ => (Below.refl _ _).drew, fun h => by simp at h⟩⟩
      · refine ⟨?_, ?_, ?_, ?_, ?_, ?_, ?_, ?_, ?_, ?_, ?_, ?_, trivial⟩
        all_goals
          intro d s W hJ hfr hd hdep
          simp only [List.mem_cons, forall_eq_or_imp, List.not_mem_nil, false_implies, implies_true, and_true, Region.binds] at hdep
          have f3 := hfr 3 (by decide)
          have f5 := hfr 5 (by decide)
          simp at f3 f5 hdep
          obtain ⟨h0, h1, h2, h3, h4, h5, h6, h7, h8, h9, h10, x0, x1, x2, x3, x4, x5, x6, x7, hT⟩ := hJ
        · have hl : d 11 = false := by
            cases h : d 11
            · rfl
            · have := x7 h; simp [hd] at this
          replace hT := hT.1 hl
          unfold OpSteps
          simp [go_sem, evS, f3]
          exact ⟨fun _ => by simp [sput], fun h => by simpa [sput] using h1 (by simpa [did] using h), fun h => by simpa [sput] using h2 (by simpa [did] using h), fun h => by simpa [sput] using h3 (by simpa [did] using h), fun h => by simpa [sput] using h4 (by simpa [did] using h), fun h => by simpa [sput] using h5 (by simpa [did] using h), fun h => by simpa [sput] using h6 (by simpa [did] using h), fun h => by simpa [sput] using h7 (by simpa [did] using h), fun h => by simpa [sput] using h8 (by simpa [did] using h), fun h => by simpa [sput] using h9 (by simpa [did] using h), fun h => by simpa [sput] using h10 (by simpa [did] using h), fun h => by have := x0 (by simpa [did] using h); simp [did, this], fun h => by have := x1 (by simpa [did] using h); simp [did, this], fun h => by have := x2 (by simpa [did] using h); simp [did, this], fun h => by have := x3 (by simpa [did] using h); simp [did, this], fun h => by have := x4 (by simpa [did] using h); simp [did, this], fun h => by have := x5 (by simpa [did] using h); simp [did, this], fun h => by have := x6 (by simpa [did] using h); simp [did, this], fun h => by have := x7 (by simpa [did] using h); simp [did, this], ⟨fun _ => hT, fun h => by simp [did, hl] at h⟩⟩
        · have hl : d 11 = false := by
            cases h : d 11
            · rfl
            · have := x7 h; simp [hd] at this
          replace hT := hT.1 hl
          have g0 := h0 (by simp [hdep])
          unfold OpSteps
          obtain ⟨p0, p1, p2, p3, _⟩ := cells4 (HB7.out.below hT HB7.out.lt)
          simp [go_sem, evS, g0, p0, p1, p2, p3]
          exact ⟨fun h => by simpa [sput] using h0 (by simpa [did] using h), fun _ => by simp [sput], fun h => by simpa [sput] using h2 (by simpa [did] using h), fun h => by simpa [sput] using h3 (by simpa [did] using h), fun h => by simpa [sput] using h4 (by simpa [did] using h), fun h => by simpa [sput] using h5 (by simpa [did] using h), fun h => by simpa [sput] using h6 (by simpa [did] using h), fun h => by simpa [sput] using h7 (by simpa [did] using h), fun h => by simpa [sput] using h8 (by simpa [did] using h), fun h => by simpa [sput] using h9 (by simpa [did] using h), fun h => by simpa [sput] using h10 (by simpa [did] using h), fun _ => by simp [did, hdep], fun h => by have := x1 (by simpa [did] using h); simp [did, this], fun h => by have := x2 (by simpa [did] using h); simp [did, this], fun h => by have := x3 (by simpa [did] using h); simp [did, this], fun h => by have := x4 (by simpa [did] using h); simp [did, this], fun h => by have := x5 (by simpa [did] using h); simp [did, this], fun h => by have := x6 (by simpa [did] using h); simp [did, this], fun h => by have := x7 (by simpa [did] using h); simp [did, this], ⟨fun _ => hT, fun h => by simp [did, hl] at h⟩⟩
        · have hl : d 11 = false := by
            cases h : d 11
            · rfl
            · have := x7 h; simp [hd] at this
          replace hT := hT.1 hl
          unfold OpSteps
          simp [go_sem, evS, f5]
          exact ⟨fun h => by simpa [sput] using h0 (by simpa [did] using h), fun h => by simpa [sput] using h1 (by simpa [did] using h), fun _ => by simp [sput], fun h => by simpa [sput] using h3 (by simpa [did] using h), fun h => by simpa [sput] using h4 (by simpa [did] using h), fun h => by simpa [sput] using h5 (by simpa [did] using h), fun h => by simpa [sput] using h6 (by simpa [did] using h), fun h => by simpa [sput] using h7 (by simpa [did] using h), fun h => by simpa [sput] using h8 (by simpa [did] using h), fun h => by simpa [sput] using h9 (by simpa [did] using h), fun h => by simpa [sput] using h10 (by simpa [did] using h), fun h => by have := x0 (by simpa [did] using h); simp [did, this], fun h => by have := x1 (by simpa [did] using h); simp [did, this], fun h => by have := x2 (by simpa [did] using h); simp [did, this], fun h => by have := x3 (by simpa [did] using h); simp [did, this], fun h => by have := x4 (by simpa [did] using h); simp [did, this], fun h => by have := x5 (by simpa [did] using h); simp [did, this], fun h => by have := x6 (by simpa [did] using h); simp [did, this], fun h => by have := x7 (by simpa [did] using h); simp [did, this], ⟨fun _ => hT, fun h => by simp [did, hl] at h⟩⟩
        · have hl : d 11 = false := by
            cases h : d 11
            · rfl
            · have := x7 h; simp [hd] at this
          replace hT := hT.1 hl
          have g2 := h2 (by simp [hdep])
          unfold OpSteps
          obtain ⟨p0, p1, p2, p3, _⟩ := cells4 (HB6.out.below hT HB6.out.lt)
          simp [go_sem, evS, g2, p0, p1, p2, p3]
          exact ⟨fun h => by simpa [sput] using h0 (by simpa [did] using h), fun h => by simpa [sput] using h1 (by simpa [did] using h), fun h => by simpa [sput] using h2 (by simpa [did] using h), fun _ => by simp [sput], fun h => by simpa [sput] using h4 (by simpa [did] using h), fun h => by simpa [sput] using h5 (by simpa [did] using h), fun h => by simpa [sput] using h6 (by simpa [did] using h), fun h => by simpa [sput] using h7 (by simpa [did] using h), fun h => by simpa [sput] using h8 (by simpa [did] using h), fun h => by simpa [sput] using h9 (by simpa [did] using h), fun h => by simpa [sput] using h10 (by simpa [did] using h), fun h => by have := x0 (by simpa [did] using h); simp [did, this], fun _ => by simp [did, hdep], fun h => by have := x2 (by simpa [did] using h); simp [did, this], fun h => by have := x3 (by simpa [did] using h); simp [did, this], fun h => by have := x4 (by simpa [did] using h); simp [did, this], fun h => by have := x5 (by simpa [did] using h); simp [did, this], fun h => by have := x6 (by simpa [did] using h); simp [did, this], fun h => by have := x7 (by simpa [did] using h); simp [did, this], ⟨fun _ => hT, fun h => by simp [did, hl] at h⟩⟩
        · have hl : d 11 = false := by
            cases h : d 11
            · rfl
            · have := x7 h; simp [hd] at this
          replace hT := hT.1 hl
          have g1 := h1 (by simp [hdep])
          have g3 := h3 (by simp [hdep])
          unfold OpSteps
          simp [go_sem, evS, g1, g3]
          refine (HT.out W (HV.out.trans (hT.mono hVs))).mono ?_
          rintro e W' ⟨A9, n9, c9, rfl, hv, hb⟩
          refine ⟨_, rfl, ?_⟩
          exact ⟨fun h => by simpa [sput] using h0 (by simpa [did] using h), fun h => by simpa [sput] using h1 (by simpa [did] using h), fun h => by simpa [sput] using h2 (by simpa [did] using h), fun h => by simpa [sput] using h3 (by simpa [did] using h), fun _ => ⟨_, _, _, by simp [sput], hv⟩, fun h => by simpa [sput] using h5 (by simpa [did] using h), fun h => by simpa [sput] using h6 (by simpa [did] using h), fun h => by simpa [sput] using h7 (by simpa [did] using h), fun h => by simpa [sput] using h8 (by simpa [did] using h), fun h => by simpa [sput] using (h9 (by simpa [did] using h)).below hb, fun h => by simpa [sput] using (h10 (by simpa [did] using h)).below hb, fun h => by have := x0 (by simpa [did] using h); simp [did, this], fun h => by have := x1 (by simpa [did] using h); simp [did, this], fun _ => by have y1 := x0 (by simp [hdep]); have y3 := x1 (by simp [hdep]); simp [did, hdep, y1, y3], fun h => by have := x3 (by simpa [did] using h); simp [did, this], fun h => by have := x4 (by simpa [did] using h); simp [did, this], fun h => by have := x5 (by simpa [did] using h); simp [did, this], fun h => by have := x6 (by simpa [did] using h); simp [did, this], fun h => by have := x7 (by simpa [did] using h); simp [did, this], ⟨fun _ => below_np hT hb, fun h => by simp [did, hl] at h⟩⟩
        · have hl : d 11 = false := by
            cases h : d 11
            · rfl
            · have := x7 h; simp [hd] at this
          replace hT := hT.1 hl
          unfold OpSteps
          simp [go_sem, evS, f3]
          exact ⟨fun h => by simpa [sput] using h0 (by simpa [did] using h), fun h => by simpa [sput] using h1 (by simpa [did] using h), fun h => by simpa [sput] using h2 (by simpa [did] using h), fun h => by simpa [sput] using h3 (by simpa [did] using h), fun h => by simpa [sput] using h4 (by simpa [did] using h), fun _ => by simp [sput], fun h => by simpa [sput] using h6 (by simpa [did] using h), fun h => by simpa [sput] using h7 (by simpa [did] using h), fun h => by simpa [sput] using h8 (by simpa [did] using h), fun h => by simpa [sput] using h9 (by simpa [did] using h), fun h => by simpa [sput] using h10 (by simpa [did] using h), fun h => by have := x0 (by simpa [did] using h); simp [did, this], fun h => by have := x1 (by simpa [did] using h); simp [did, this], fun h => by have := x2 (by simpa [did] using h); simp [did, this], fun h => by have := x3 (by simpa [did] using h); simp [did, this], fun h => by have := x4 (by simpa [did] using h); simp [did, this], fun h => by have := x5 (by simpa [did] using h); simp [did, this], fun h => by have := x6 (by simpa [did] using h); simp [did, this], fun h => by have := x7 (by simpa [did] using h); simp [did, this], ⟨fun _ => hT, fun h => by simp [did, hl] at h⟩⟩
        · have hl : d 11 = false := by
            cases h : d 11
            · rfl
            · have := x7 h; simp [hd] at this
          replace hT := hT.1 hl
          have g5 := h5 (by simp [hdep])
          unfold OpSteps
          obtain ⟨p0, p1, p2, p3, _⟩ := cells4 (HB7.out.below hT HB7.out.lt)
          simp [go_sem, evS, g5, p0, p1, p2, p3]
          exact ⟨fun h => by simpa [sput] using h0 (by simpa [did] using h), fun h => by simpa [sput] using h1 (by simpa [did] using h), fun h => by simpa [sput] using h2 (by simpa [did] using h), fun h => by simpa [sput] using h3 (by simpa [did] using h), fun h => by simpa [sput] using h4 (by simpa [did] using h), fun h => by simpa [sput] using h5 (by simpa [did] using h), fun _ => by simp [sput], fun h => by simpa [sput] using h7 (by simpa [did] using h), fun h => by simpa [sput] using h8 (by simpa [did] using h), fun h => by simpa [sput] using h9 (by simpa [did] using h), fun h => by simpa [sput] using h10 (by simpa [did] using h), fun h => by have := x0 (by simpa [did] using h); simp [did, this], fun h => by have := x1 (by simpa [did] using h); simp [did, this], fun h => by have := x2 (by simpa [did] using h); simp [did, this], fun _ => by simp [did, hdep], fun h => by have := x4 (by simpa [did] using h); simp [did, this], fun h => by have := x5 (by simpa [did] using h); simp [did, this], fun h => by have := x6 (by simpa [did] using h); simp [did, this], fun h => by have := x7 (by simpa [did] using h); simp [did, this], ⟨fun _ => hT, fun h => by simp [did, hl] at h⟩⟩
        · have hl : d 11 = false := by
            cases h : d 11
            · rfl
            · have := x7 h; simp [hd] at this
          replace hT := hT.1 hl
          unfold OpSteps
          simp [go_sem, evS, f5]
          exact ⟨fun h => by simpa [sput] using h0 (by simpa [did] using h), fun h => by simpa [sput] using h1 (by simpa [did] using h), fun h => by simpa [sput] using h2 (by simpa [did] using h), fun h => by simpa [sput] using h3 (by simpa [did] using h), fun h => by simpa [sput] using h4 (by simpa [did] using h), fun h => by simpa [sput] using h5 (by simpa [did] using h), fun h => by simpa [sput] using h6 (by simpa [did] using h), fun _ => by simp [sput], fun h => by simpa [sput] using h8 (by simpa [did] using h), fun h => by simpa [sput] using h9 (by simpa [did] using h), fun h => by simpa [sput] using h10 (by simpa [did] using h), fun h => by have := x0 (by simpa [did] using h); simp [did, this], fun h => by have := x1 (by simpa [did] using h); simp [did, this], fun h => by have := x2 (by simpa [did] using h); simp [did, this], fun h => by have := x3 (by simpa [did] using h); simp [did, this], fun h => by have := x4 (by simpa [did] using h); simp [did, this], fun h => by have := x5 (by simpa [did] using h); simp [did, this], fun h => by have := x6 (by simpa [did] using h); simp [did, this], fun h => by have := x7 (by simpa [did] using h); simp [did, this], ⟨fun _ => hT, fun h => by simp [did, hl] at h⟩⟩
        · have hl : d 11 = false := by
            cases h : d 11
            · rfl
            · have := x7 h; simp [hd] at this
          replace hT := hT.1 hl
          have g7 := h7 (by simp [hdep])
          unfold OpSteps
          obtain ⟨p0, p1, p2, p3, _⟩ := cells4 (HB6.out.below hT HB6.out.lt)
          simp [go_sem, evS, g7, p0, p1, p2, p3]
          exact ⟨fun h => by simpa [sput] using h0 (by simpa [did] using h), fun h => by simpa [sput] using h1 (by simpa [did] using h), fun h => by simpa [sput] using h2 (by simpa [did] using h), fun h => by simpa [sput] using h3 (by simpa [did] using h), fun h => by simpa [sput] using h4 (by simpa [did] using h), fun h => by simpa [sput] using h5 (by simpa [did] using h), fun h => by simpa [sput] using h6 (by simpa [did] using h), fun h => by simpa [sput] using h7 (by simpa [did] using h), fun _ => by simp [sput], fun h => by simpa [sput] using h9 (by simpa [did] using h), fun h => by simpa [sput] using h10 (by simpa [did] using h), fun h => by have := x0 (by simpa [did] using h); simp [did, this], fun h => by have := x1 (by simpa [did] using h); simp [did, this], fun h => by have := x2 (by simpa [did] using h); simp [did, this], fun h => by have := x3 (by simpa [did] using h); simp [did, this], fun _ => by simp [did, hdep], fun h => by have := x5 (by simpa [did] using h); simp [did, this], fun h => by have := x6 (by simpa [did] using h); simp [did, this], fun h => by have := x7 (by simpa [did] using h); simp [did, this], ⟨fun _ => hT, fun h => by simp [did, hl] at h⟩⟩
        · have hl : d 11 = false := by
            cases h : d 11
            · rfl
            · have := x7 h; simp [hd] at this
          replace hT := hT.1 hl
          have g6 := h6 (by simp [hdep])
          have g8 := h8 (by simp [hdep])
          unfold OpSteps
          simp [go_sem, evS, g6, g8]
          refine (HS.out W (HV.out.trans (hT.mono hVs))).mono ?_
          rintro e W' ⟨A9, n9, c9, rfl, hv, hb⟩
          refine ⟨_, rfl, ?_⟩
          exact ⟨fun h => by simpa [sput] using h0 (by simpa [did] using h), fun h => by simpa [sput] using h1 (by simpa [did] using h), fun h => by simpa [sput] using h2 (by simpa [did] using h), fun h => by simpa [sput] using h3 (by simpa [did] using h), fun h => by simpa [sput] using (h4 (by simpa [did] using h)).below hb, fun h => by simpa [sput] using h5 (by simpa [did] using h), fun h => by simpa [sput] using h6 (by simpa [did] using h), fun h => by simpa [sput] using h7 (by simpa [did] using h), fun h => by simpa [sput] using h8 (by simpa [did] using h), fun _ => ⟨_, _, _, by simp [sput], hv⟩, fun h => by simpa [sput] using (h10 (by simpa [did] using h)).below hb, fun h => by have := x0 (by simpa [did] using h); simp [did, this], fun h => by have := x1 (by simpa [did] using h); simp [did, this], fun h => by have := x2 (by simpa [did] using h); simp [did, this], fun h => by have := x3 (by simpa [did] using h); simp [did, this], fun h => by have := x4 (by simpa [did] using h); simp [did, this], fun _ => by have y6 := x3 (by simp [hdep]); have y8 := x4 (by simp [hdep]); simp [did, hdep, y6, y8], fun h => by have := x6 (by simpa [did] using h); simp [did, this], fun h => by have := x7 (by simpa [did] using h); simp [did, this], ⟨fun _ => below_np hT hb, fun h => by simp [did, hl] at h⟩⟩
        · have hl : d 11 = false := by
            cases h : d 11
            · rfl
            · have := x7 h; simp [hd] at this
          replace hT := hT.1 hl
          have g4 := h4 (by simp [hdep])
          have g9 := h9 (by simp [hdep])
          unfold OpSteps
          obtain ⟨AT, nT, cT, gT, hWT⟩ := g4
          obtain ⟨AS, nS, cS, gS, hWS⟩ := g9
          simp [go_sem, evS, gT, gS]
          exact ⟨fun h => by simpa [sput] using h0 (by simpa [did] using h), fun h => by simpa [sput] using h1 (by simpa [did] using h), fun h => by simpa [sput] using h2 (by simpa [did] using h), fun h => by simpa [sput] using h3 (by simpa [did] using h), fun h => by simpa [sput] using h4 (by simpa [did] using h), fun h => by simpa [sput] using h5 (by simpa [did] using h), fun h => by simpa [sput] using h6 (by simpa [did] using h), fun h => by simpa [sput] using h7 (by simpa [did] using h), fun h => by simpa [sput] using h8 (by simpa [did] using h), fun h => by simpa [sput] using h9 (by simpa [did] using h), fun _ => pv_build (by simp [sput]) hWT hWS, fun h => by have := x0 (by simpa [did] using h); simp [did, this], fun h => by have := x1 (by simpa [did] using h); simp [did, this], fun h => by have := x2 (by simpa [did] using h); simp [did, this], fun h => by have := x3 (by simpa [did] using h); simp [did, this], fun h => by have := x4 (by simpa [did] using h); simp [did, this], fun h => by have := x5 (by simpa [did] using h); simp [did, this], fun _ => by have y4 := x2 (by simp [hdep]); have y9 := x5 (by simp [hdep]); simp [did, hdep, y4, y9], fun h => by have := x7 (by simpa [did] using h); simp [did, this], ⟨fun _ => hT, fun h => by simp [did, hl] at h⟩⟩
        · have g10 := h10 (by simp [hdep])
          unfold OpSteps
          replace hT := hT.1 hd
          obtain ⟨A9, n9, c9, A8, n8, c8, gv, hD9⟩ := g10
          have hB9 := HB7.out.below hT HB7.out.lt
          obtain ⟨k0, k1, k2, k3, fr0, fr1, fr2, fr3⟩ := cells4 hB9
          simp [go_sem, evS, f3, gv, fr0, fr1, fr2, fr3, k0, k1, k2, k3]
          exact ⟨fun h => by simpa [sput] using h0 (by simpa [did] using h), fun h => by simpa [sput] using h1 (by simpa [did] using h), fun h => by simpa [sput] using h2 (by simpa [did] using h), fun h => by simpa [sput] using h3 (by simpa [did] using h), fun h => by simpa [sput] using (h4 (by simpa [did] using h)).store4 hB9 _ _ _ _, fun h => by simpa [sput] using h5 (by simpa [did] using h), fun h => by simpa [sput] using h6 (by simpa [did] using h), fun h => by simpa [sput] using h7 (by simpa [did] using h), fun h => by simpa [sput] using h8 (by simpa [did] using h), fun h => by simpa [sput] using (h9 (by simpa [did] using h)).store4 hB9 _ _ _ _, fun h => by simpa [sput] using (h10 (by simpa [did] using h)).store4 hB9 _ _ _ _, fun h => by have := x0 (by simpa [did] using h); simp [did, this], fun h => by have := x1 (by simpa [did] using h); simp [did, this], fun h => by have := x2 (by simpa [did] using h); simp [did, this], fun h => by have := x3 (by simpa [did] using h); simp [did, this], fun h => by have := x4 (by simpa [did] using h); simp [did, this], fun h => by have := x5 (by simpa [did] using h); simp [did, this], fun h => by have := x6 (by simpa [did] using h); simp [did, this], fun _ => by have y10 := x6 (by simp [hdep]); simp [did, hdep, y10], ⟨fun h => by simp [did] at h, fun _ => ⟨pbx_store hB9 hD9, (((((HBV.out.trans (hT.mono HBV.out.size)).setCell (p := ⟨zp, 0, none⟩) (by simp <;> omega) _).setCell (p := ⟨zp, 1, none⟩) (by simp <;> omega) _).setCell (p := ⟨zp, 2, none⟩) (by simp <;> omega) _).setCell (p := ⟨zp, 3, none⟩) (by simp <;> omega) _), (((((HB8.out.below hT HB8.out.lt).other (p := ⟨zp, 0, none⟩) (by simp <;> omega) _).other (p := ⟨zp, 1, none⟩) (by simp <;> omega) _).other (p := ⟨zp, 2, none⟩) (by simp <;> omega) _).other (p := ⟨zp, 3, none⟩) (by simp <;> omega) _)⟩⟩⟩
      intro d s W hJ hd
      obtain ⟨h0, h1, h2, h3, h4, h5, h6, h7, h8, h9, h10, x0, x1, x2, x3, x4, x5, x6, x7, hT⟩ := hJ
      obtain ⟨hBx, hBl, hKp⟩ := hT.2 (hd 11 (by decide))
      have HBx2 := Lib.hid hBx
      have HBl2 := Lib.hid hBl
      have HKp2 := Lib.hid hKp
      clear h0 h1 h2 h3 h4 h5 h6 h7 h8 h9 h10 x0 x1 x2 x3 x4 x5 x6 x7 hT hd hBx hBl hKp
      simp [setAll]
      generalize s 16 = s16
      generalize s 17 = s17
      generalize s 18 = s18
      generalize s 19 = s19
      generalize s 20 = s20
      generalize s 21 = s21
      generalize s 22 = s22
      generalize s 23 = s23
      generalize s 24 = s24
      generalize s 25 = s25
      generalize s 26 = s26
      have h9 := hbig
      go_wp2_with fail
      obtain ⟨p9, hp1, hp2, hp3⟩ := HBx2.out
      go_roundw
      case rel => exact ⟨k + 1, p9, by omega, by go_num, by rw [hp1, HNx.out], by rw [hp1]; exact HM3.out, hp2, hp3, HKp2.out, HBl2.out⟩
      case measure => simp [intOf] <;> omega
    · obtain rfl : k = n := by omega
      have e4 : ¬ (k : Int) < (k : Int) := by omega
      have hfin9 : q.d = dpr (dds xs) := by rw [hqd, List.take_of_length_le (by unfold dds; rw [List.length_map, HN.out]; exact Nat.le_refl _)]
      have HFn := Lib.hid hfin9
      have HQo := Lib.hid hqo
      have HBr9 := Lib.hid hBr
      have HBb := Lib.hid hb
      change Blk wr zp 37 #[.bool (ng (mant q.d)), .slice q.A q.n q.c, .bool (ng (expo q.d)), .slice q.A' q.n' q.c'] at hB
      obtain ⟨y0, y1, y2, y3, _⟩ := cells4 hB
      obtain ⟨r0, r1, r2, r3, f0, f1, f2, f3⟩ := cells4 hBr
      clear hqd hq0 hqo hB hBr hb hfin9
      go_wp2_with fail
      clear r0 r1 r2 r3 f0 f1 f2 f3
      obtain ⟨k0, k1, k2, k3, _⟩ := cells4 (Blk.store4 HBr9.out (.bool (ng (mant q.d))) (.slice q.A q.n q.c) (.bool (ng (expo q.d))) (.slice q.A' q.n' q.c'))
      rw [← HFn.out]
      exact bodyPost_ret (v := .agg #[.bool (ng (mant q.d)), .slice q.A q.n q.c, .bool (ng (expo q.d)), .slice q.A' q.n' q.c']) (by simp [results, Tryz.results20, go_sem, k0, k1, k2, k3]) rfl
        (RetD.retp (RetD_def _ _ _ _ _ _ _ _ _ _ _ _ _ rfl rfl rfl rfl (Wh.store4 HQo.out.1 HBr9.out _ _ _ _) (Wh.store4 HQo.out.2 HBr9.out _ _ _ _) ((((HBb.out.setCell (by simp <;> omega) _).setCell (by simp <;> omega) _).setCell (by simp <;> omega) _).setCell (by simp <;> omega) _)))
end Go.Proofs.YtbkbeglmfhaleaaGreatDoor
/-
The program's Mul, of any numbers. Conditions: the numbers lie in few digits.
-/
set_option linter.unusedVariables false
namespace Go.Proofs.YtbkbeglmfhaleaaGreatDoor
open Go.RowKit

theorem zero_dmul (d : Dyadic) : 0 * d = 0 := by rw [← dy_zero 0, ← dy_mant d, dy_mul, Int.zero_mul, dy_zero, dy_zero]
theorem dmul_zero (d : Dyadic) : d * 0 = 0 := by rw [← dy_zero 0, ← dy_mant d, dy_mul, Int.mul_zero, dy_zero, dy_zero]
theorem foldl_zero (l : List Dyadic) : l.foldl (· * ·) (0 : Dyadic) = 0 := by
  induction l with
  | nil => rfl
  | cons d l ih => rw [List.foldl_cons, zero_dmul]; exact ih
theorem foldl_any (l : List Dyadic) (a : Dyadic) (h : l.any isz = true) : l.foldl (· * ·) a = 0 := by
  induction l generalizing a with
  | nil => cases h
  | cons d l ih =>
    rw [List.foldl_cons]
    rw [List.any_cons] at h
    cases hd : isz d with
    | true => rw [isz_true.1 hd, dmul_zero]; exact foldl_zero l
    | false => rw [hd] at h; exact ih _ (by simpa using h)
theorem dpr_zero (l : List Dyadic) (h : l.any isz = true) : dpr l = 0 := foldl_any l _ h
theorem foldl_sz (l : List Dyadic) (a : Dyadic) (j k : Nat) (ha : Sz j a) (h : ∀ d ∈ l, Sz k d) : Sz (j + l.length * k) (l.foldl (· * ·) a) := by
  induction l generalizing a j with
  | nil => simpa using ha
  | cons d l ih =>
    rw [List.foldl_cons]
    have := ih (a * d) (j + k) (ha.mul (h d List.mem_cons_self) (Nat.le_refl _)) fun x hx => h x (List.mem_cons_of_mem _ hx)
    refine this.mono ?_
    rw [List.length_cons, Nat.succ_mul]; omega
theorem dpr_sz (l : List Dyadic) (k : Nat) (h : ∀ d ∈ l, Sz k d) : Sz (1 + l.length * k) (dpr l) := foldl_sz l _ 1 k (Sz.int (by decide)) h
theorem pmul_any (A : Option Addr) (n c : Nat) (xs : List D4) (w : World) (hn : xs.length = n) (hl : Dl w A xs) (ho : Oks w xs) (hbig : n ≤ 65536) (k : Nat) (hk : ∀ x ∈ xs, Sz k x.d) (hs : 1 + n * k ≤ 134217720) (hA : n = 0 → A = none ∨ ∃ b o, A = some ⟨b, o, none⟩ ∧ b < w.heap.size) (hg : Glob w) :
    Calls Tryz.prog 20 #[.slice A n c] w (RetP (dpr (dds xs)) w) := by
  have hdk : ∀ d ∈ dds xs, Sz k d := by
    intro d hd
    unfold dds at hd
    obtain ⟨x, hx, rfl⟩ := List.mem_map.1 hd
    exact hk x hx
  have hdl : (dds xs).length = n := by unfold dds; rw [List.length_map]; exact hn
  cases hz : (dds xs).any isz with
  | true =>
    have h0 : 0 < xs.length := by
      cases xs with
      | nil => cases hz
      | cons x xs => simp
    obtain ⟨b, o, rfl, hb, _⟩ := hl.at_ h0
    rw [dpr_zero _ hz]
    exact pmul_zero b o n c xs w hn hl ho hb (by omega) hz
  | false =>
    have hnz : ∀ x ∈ xs, x.d ≠ 0 := by
      intro x hx h
      have : (dds xs).any isz = true := List.any_eq_true.2 ⟨x.d, by unfold dds; exact List.mem_map.2 ⟨x, hx, rfl⟩, isz_true.2 h⟩
      rw [hz] at this; cases this
    have hfit : ∀ x ∈ xs, Fitp x.d := fun x hx => (hk x hx).fitp (by
      have h0 : 0 < n := by rw [← hn]; exact List.length_pos_of_mem hx
      have := Nat.le_mul_of_pos_left k h0
      omega)
    have hP : ∀ j, j ≤ n → Fitp (dpr ((dds xs).take j)) := fun j hj => (dpr_sz ((dds xs).take j) k fun d hd => hdk d (List.mem_of_mem_take hd)).fitp (by
      rw [List.length_take]
      have := Nat.mul_le_mul_right k (show min j (dds xs).length ≤ n by omega)
      omega)
    refine pmul_walk A n c xs w hn hl ho (by omega) (fun W hW => ?_) hnz hfit hP hg
    by_cases h0 : n = 0
    · subst h0
      rcases hA rfl with rfl | ⟨b, o, rfl, hb⟩
      · exact contz_nil c W
      · have := contz_any b o 0 c xs W hn (hl.below hW) (ho.below hW) (Nat.lt_of_lt_of_le hb hW.size) (by omega)
        rw [hz] at this; exact this
    · obtain ⟨b, o, rfl, hb, _⟩ := hl.at_ (i := 0) (by omega)
      have := contz_any b o n c xs W hn (hl.below hW) (ho.below hW) (Nat.lt_of_lt_of_le hb hW.size) (by omega)
      rw [hz] at this; exact this
end Go.Proofs.YtbkbeglmfhaleaaGreatDoor
/-
A list of numbers of the call's own: slices.Clone. Conditions: as it says.
-/
set_option linter.unusedVariables false
namespace Go.Proofs.YtbkbeglmfhaleaaGreatDoor
open Go.RowKit

/-- A list of numbers that lies at the start of a block of the call's own. -/
def OwnD (B : Nat) (W : World) (v : Value) (xs : List D4) : Prop :=
  ∃ (g cap : Nat) (cur : Array Value), v = .slice (some ⟨g, 0, none⟩) xs.length cap ∧ B ≤ g ∧ Blk W g 37 cur ∧ xs.length ≤ cap ∧ cap ≤ maxLen ∧ cur.size = cap * 4 ∧ cur.toList.take (xs.length * 4) = d4s xs
theorem OwnD.dl {B : Nat} {W : World} {v : Value} {xs : List D4} (h : OwnD B W v xs) : ∃ (g cap : Nat), v = .slice (some ⟨g, 0, none⟩) xs.length cap ∧ B ≤ g ∧ g < W.heap.size ∧ xs.length ≤ cap ∧ Dl W (some ⟨g, 0, none⟩) xs := by
  obtain ⟨g, cap, cur, h1, h2, h3, h4, _, h5, h6⟩ := h
  refine ⟨g, cap, h1, h2, h3.lt, h4, .inr ⟨g, 0, rfl, fun i v hi => ?_⟩⟩
  rw [Nat.zero_add, h3.cell i]
  rw [← h6, List.getElem?_take] at hi
  split at hi
  · rw [← Array.getElem?_toList]; exact hi
  · cases hi
set_option maxRecDepth 20000 in
theorem info_D : (Tryz.prog.info? 37).map (fun i => (i.zero, i.size, i.bytes)) = some (some (.agg #[.bool false, .slice none 0 0, .bool false, .slice none 0 0]), 4, 64) := by kernel_rfl
set_option maxRecDepth 20000 in
theorem clone_d (b o n c : Nat) (xs : List D4) (w : World) (hn : xs.length = n) (hbig : n ≤ 1099511627776) (hl : Dl w (some ⟨b, o, none⟩) xs) :
    Calls Tryz.prog 81 #[.slice (some ⟨b, o, none⟩) n c] w fun e w' => ∃ v, e = .returned v ∧ OwnD w.heap.size w' v xs ∧ Below w.heap.size w w' := by
  obtain ⟨i, hi, hzz⟩ := Option.map_eq_some_iff.1 info_D
  simp only [Prod.mk.injEq] at hzz
  obtain ⟨hz, hs, hb⟩ := hzz
  have h := AnyE.slices_Clone Tryz.cloneD i _ 4 64 hi hz hs hb rfl (by decide) sizeD b o n c (d4s xs) w (by rw [d4s_length, hn]) (by unfold maxLen; omega) (by omega)
    (fun j u hj => by
      rcases hl with h0 | ⟨b', o', e', hc⟩
      · rw [h0] at hj; cases hj
      · injection e' with e'
        injection e' with e2 e3
        subst e2 e3
        exact hc j u hj)
    (fun u hu => by
      unfold d4s at hu
      obtain ⟨x, _, hx⟩ := List.mem_flatMap.1 hu
      exact x.cells_one u hx)
  change Calls Tryz.prog 81 _ _ _ at h
  refine h.mono ?_
  rintro e w' ⟨v, rfl, ⟨_, ho⟩, hnn, hb⟩
  refine ⟨v, rfl, ?_, hb⟩
  rcases ho with ⟨h1, _⟩ | ⟨g, cap, cur, h1, h2, h3, h4, h5, h6, h7⟩
  · exact absurd h1 hnn
  · subst hn
    exact ⟨g, cap, cur, h1, h2, h3, h4, h5, h6, h7⟩
end Go.Proofs.YtbkbeglmfhaleaaGreatDoor
/-
clear at a list of numbers. Conditions: as each says.
-/
set_option linter.unusedVariables false
set_option linter.unusedSimpArgs false
namespace Go.Proofs.YtbkbeglmfhaleaaGreatDoor
open Go.RowKit

theorem run_clear_agg {P : Program} (w : World) (t e : TypeId) (z : Value) (k : Nat) (ht : P.underlying t = some (.slice e)) (hv : ∀ w, (zeroValue e).run P w = .ok z w) (hz : z.cells.size = k) (h1 : ∀ v ∈ z.cells, v.oneCell' = true) (hk : 0 < k) (b o n c : Nat) (hn : 0 < n)
    (hc : ∀ j, j < n * k → (w.cell? ⟨b, o + j, none⟩).isSome = true) (hf : ∀ j, j < n * k → w.frozen? ⟨b, o + j, none⟩ = false) :
    ∃ zs : List Value, zs.length = n * k ∧ ∀ ty, (Builtin.clear_ #[t] ty #[.slice (some ⟨b, o, none⟩) n c]).run P w = .ok (.tuple #[]) (w.setCells b o zs) := by
  have hl : (Builtin.zeroCells z.cells n).toList.length = n * k := by
    simp [Builtin.zeroCells, hz, Nat.mul_comm]
  refine ⟨(Builtin.zeroCells z.cells n).toList, hl, fun ty => ?_⟩
  have ho : ∀ v ∈ (Builtin.zeroCells z.cells n).toList, v.oneCell' = true := by
    intro v hv'
    simp only [Builtin.zeroCells, Array.toList_map, List.mem_map] at hv'
    obtain ⟨i, _, rfl⟩ := hv'
    have hi : i % z.cells.size < z.cells.size := Nat.mod_lt _ (by omega)
    rw [getElem!_pos z.cells _ hi]
    exact h1 _ (Array.getElem_mem hi)
  have hst := run_storeCells_cells (P := P) b o (Builtin.zeroCells z.cells n).toList 0 w (by rw [hl]; simpa using hc) (by rw [hl]; simpa using hf) ho
  simp only [Nat.add_zero] at hst
  obtain ⟨m, rfl⟩ : ∃ m, n = m + 1 := ⟨n - 1, by omega⟩
  simp [Builtin.clear_, run_underlying ht, hv, hst]
/-- Cells stored one by one. -/
theorem blk_setCells {w : World} {g : Nat} {t : TypeId} {cur : Array Value} (h : Blk w g t cur) (o : Nat) (zs : List Value) :
    ∃ cur' : Array Value, Blk (w.setCells g o zs) g t cur' ∧ cur'.size = cur.size ∧ (∀ i, i < o → cur'[i]? = cur[i]?) ∧ ∀ B, B ≤ g → Below B w (w.setCells g o zs) := by
  induction zs generalizing w o cur with
  | nil => exact ⟨cur, h, rfl, fun _ _ => rfl, fun B _ => Below.refl _ _⟩
  | cons z zs ih =>
    obtain ⟨c, h1, h2, h3, h4⟩ := ih (h.set_ o z) (o + 1)
    refine ⟨c, h1, by simpa using h2, fun i hi => ?_, fun B hB => ((Below.refl B w).setCell hB z).trans (h4 B hB)⟩
    rw [h3 i (by omega), Array.getElem?_setIfInBounds_ne (by omega)]
end Go.Proofs.YtbkbeglmfhaleaaGreatDoor
/-
slices.DeleteFunc at numbers: those that are 0. Conditions: as each says.
-/
set_option linter.unusedVariables false
set_option linter.unusedSimpArgs false
namespace Go.Proofs.YtbkbeglmfhaleaaGreatDoor
open Go.RowKit
attribute [local go_sem ↓] Go.wp_at_zero Go.wp_at_succ

set_option maxRecDepth 20000 in
theorem idx_d (b o n c : Nat) (xs : List D4) (w : World) (hn : xs.length = n) (hl : Dl w (some ⟨b, o, none⟩) xs) (ho : Oks w xs) (hb : b < w.heap.size) (hbig : n ≤ 1099511627776) :
    ((∀ x ∈ xs, isz x.d = false) → Calls Tryz.prog 86 #[.slice (some ⟨b, o, none⟩) n c, .func (.func 82) #[] #[]] w fun e w' => e = .returned (.int .i64 (-1)) ∧ Below w.heap.size w w') ∧
    ∀ i (h : i < xs.length), isz xs[i].d = true → (∀ j (h : j < xs.length), j < i → isz xs[j].d = false) → Calls Tryz.prog 86 #[.slice (some ⟨b, o, none⟩) n c, .func (.func 82) #[] #[]] w fun e w' => e = .returned (.int .i64 (i : Int)) ∧ Below w.heap.size w w' := by
  have ho' : ∀ a ∈ xs, D4.ok w a := ho
  let zs : List (D4T w) := xs.pmap (fun x h => ⟨x, h⟩) ho'
  have hzl : zs.length = n := (List.length_pmap).trans hn
  have e1 : ∀ j (hj : j < xs.length), zs[j]!.1 = xs[j] := fun j hj => by
    rw [getElem!_pos zs j (by omega)]; show (xs.pmap (fun x h => (⟨x, h⟩ : D4T w)) ho')[j].1 = xs[j]; rw [List.getElem_pmap]
  have h := AnyQ.slices_IndexFunc Tryz.idxD 4 isAggD sizeD (fun x : D4T w => x.1.cells) (fun _ => rfl) (fun x : D4T w => isz x.1.d) 82 #[] (enters_of Tryz.func82 (by kernel_rfl) rfl) b o n c zs w
    (fun W x hb => (partz_any (x.2.below hb)).mono fun e w' ⟨h1, h2⟩ => ⟨h1, hb.trans (h2.mono hb.size)⟩) (by omega) (by omega) hb
    (fun j hj i v hi => by
      have hj' : j < xs.length := by omega
      rw [e1 j hj'] at hi
      have hi4 : i < 4 := by
        have := (List.getElem?_eq_some_iff.1 hi).1
        rw [D4.cells_len] at this; exact this
      rcases hl with h0 | ⟨b', o', e', hc⟩
      · have := d4s_length xs
        rw [h0] at this
        simp only [List.length_nil] at this
        omega
      · injection e' with e'
        injection e' with e2 e3
        subst e2 e3
        have := hc (j * 4 + i) v (by rw [d4s_get xs j i hj' hi4]; exact hi)
        rw [← Nat.add_assoc] at this
        exact this)
  rw [List.take_of_length_le (by omega)] at h
  change Calls Tryz.prog 86 _ _ _ at h
  constructor
  · intro hall
    have := Lib.idxBy_miss (fun (_ y : D4T w) => isz y.1.d) zs n default (fun j hj => by show isz zs[j]!.1.d = false; rw [e1 j (by omega)]; exact hall _ (List.getElem_mem _))
    rw [List.take_of_length_le (by omega)] at this
    rw [this] at h
    exact h
  · intro i hi hz hlt
    have := Lib.idxBy_hit (fun (_ y : D4T w) => isz y.1.d) zs n i default (by omega) (by omega) (by show isz zs[i]!.1.d = true; rw [e1 i hi]; exact hz) (fun j hj => by show isz zs[j]!.1.d = false; rw [e1 j (by omega)]; exact hlt j (by omega) hj)
    rw [List.take_of_length_le (by omega)] at this
    rw [this] at h
    exact h
/-- Those that aren't 0. -/
def nzs (xs : List D4) : List D4 := xs.filter fun x => !isz x.d
theorem nzs_all {xs : List D4} (h : ∀ x ∈ xs, isz x.d = false) : nzs xs = xs := by
  unfold nzs
  rw [List.filter_eq_self]
  intro x hx
  rw [h x hx]; rfl
theorem nzs_take {xs : List D4} {k : Nat} (hk : k < xs.length) : nzs (xs.take (k + 1)) = nzs (xs.take k) ++ (if isz xs[k].d then [] else [xs[k]]) := by
  unfold nzs
  rw [List.take_succ_eq_append_getElem hk, List.filter_append]
  cases h : isz xs[k].d <;> simp [h]
theorem nzs_len (xs : List D4) (k : Nat) : (nzs (xs.take k)).length ≤ k := by
  unfold nzs
  have h1 := List.length_filter_le (fun x : D4 => !isz x.d) (xs.take k)
  rw [List.length_take] at h1
  omega
/-- None is 0. -/
theorem del_none (g n cap : Nat) (xs : List D4) (w : World) (hn : xs.length = n) (hl : Dl w (some ⟨g, 0, none⟩) xs) (ho : Oks w xs) (hb : g < w.heap.size) (hbig : n ≤ 1099511627776) (hz : ∀ x ∈ xs, isz x.d = false) :
    Calls Tryz.prog 80 #[.slice (some ⟨g, 0, none⟩) n cap, .func (.func 82) #[] #[]] w fun e w' => e = .returned (.slice (some ⟨g, 0, none⟩) n cap) ∧ Below w.heap.size w w' := by
  have hi := (idx_d g 0 n cap xs w hn hl ho hb hbig).1 hz
  have HI := Lib.hid hi
  clear hi hl ho hz hn
  go_enter Tryz.func80, Tryz.ntmps80
  go_wp2_with fail
  refine HI.out.mono ?_
  rintro e w1 ⟨rfl, hb1⟩
  go_wp2_with fail
  go_ret
  exact ⟨rfl, hb1⟩
end Go.Proofs.YtbkbeglmfhaleaaGreatDoor
/-
slices.DeleteFunc at numbers, of which one is 0. Conditions: as it says.
-/
set_option linter.unusedVariables false
set_option linter.unusedSimpArgs false
namespace Go.Proofs.YtbkbeglmfhaleaaGreatDoor
open Go.RowKit
attribute [local go_sem ↓] Go.wp_at_zero Go.wp_at_succ

/-- DeleteFunc has looked at j numbers, and kept i of them. -/
def DelI (W : World) (g cap : Nat) (xs : List D4) (i j : Nat) : Prop :=
  ∃ cur : Array Value, Blk W g 37 cur ∧ cur.size = cap * 4 ∧ i = (nzs (xs.take j)).length ∧ cur.toList.take (i * 4) = d4s (nzs (xs.take j)) ∧
    ∀ m (h : m < xs.length) (q : Nat), j ≤ m → q < 4 → cur[m * 4 + q]? = xs[m].cells[q]?
theorem DelI.below {B : Nat} {W W' : World} {g cap i j : Nat} {xs : List D4} (h : DelI W g cap xs i j) (hb : Below B W W') (hg : g < B) : DelI W' g cap xs i j := by
  obtain ⟨cur, h1, h2⟩ := h
  exact ⟨cur, h1.below hb hg, h2⟩
theorem DelI.skip {W : World} {g cap i j : Nat} {xs : List D4} (h : DelI W g cap xs i j) (hj : j < xs.length) (hz : isz xs[j].d = true) : DelI W g cap xs i (j + 1) := by
  obtain ⟨cur, h1, h2, h3, h4, h5⟩ := h
  have e : nzs (xs.take (j + 1)) = nzs (xs.take j) := by rw [nzs_take hj, hz]; simp
  exact ⟨cur, h1, h2, by rw [e]; exact h3, by rw [e]; exact h4, fun m hm q hjm hq => h5 m hm q (by omega) hq⟩
theorem DelI.lt {W : World} {g cap i j : Nat} {xs : List D4} (h : DelI W g cap xs i j) : g < W.heap.size := by
  obtain ⟨cur, h1, _⟩ := h
  exact h1.lt
theorem DelI.cells {W : World} {g cap i j : Nat} {xs : List D4} (h : DelI W g cap xs i j) (hj : j < xs.length) :
    W.cell? ⟨g, j * 4, none⟩ = some (.bool (ng (mant xs[j].d))) ∧ W.cell? ⟨g, j * 4 + 1, none⟩ = some (.slice xs[j].A xs[j].n xs[j].c) ∧ W.cell? ⟨g, j * 4 + 2, none⟩ = some (.bool (ng (expo xs[j].d))) ∧ W.cell? ⟨g, j * 4 + 3, none⟩ = some (.slice xs[j].A' xs[j].n' xs[j].c') := by
  obtain ⟨cur, h1, h2, h3, h4, h5⟩ := h
  exact ⟨(h1.cell _).trans (h5 j hj 0 (Nat.le_refl _) (by omega)), (h1.cell _).trans (h5 j hj 1 (Nat.le_refl _) (by omega)), (h1.cell _).trans (h5 j hj 2 (Nat.le_refl _) (by omega)), (h1.cell _).trans (h5 j hj 3 (Nat.le_refl _) (by omega))⟩
theorem DelI.room {W : World} {g cap i j m : Nat} {xs : List D4} (h : DelI W g cap xs i j) (hm : m < cap) : ∃ u0 u1 u2 u3, W.cell? ⟨g, m * 4, none⟩ = some u0 ∧ W.cell? ⟨g, m * 4 + 1, none⟩ = some u1 ∧ W.cell? ⟨g, m * 4 + 2, none⟩ = some u2 ∧ W.cell? ⟨g, m * 4 + 3, none⟩ = some u3 ∧
    W.frozen? ⟨g, m * 4, none⟩ = false ∧ W.frozen? ⟨g, m * 4 + 1, none⟩ = false ∧ W.frozen? ⟨g, m * 4 + 2, none⟩ = false ∧ W.frozen? ⟨g, m * 4 + 3, none⟩ = false := by
  obtain ⟨cur, h1, h2, _⟩ := h
  have a := h1.cell (m * 4)
  have b := h1.cell (m * 4 + 1)
  have c := h1.cell (m * 4 + 2)
  have d := h1.cell (m * 4 + 3)
  rw [Array.getElem?_eq_getElem (by omega)] at a b c d
  exact ⟨_, _, _, _, a, b, c, d, h1.frozen _, h1.frozen _, h1.frozen _, h1.frozen _⟩
theorem take_set4 (cur : List Value) (l : List Value) (i : Nat) (v0 v1 v2 v3 : Value) (h : cur.take (i * 4) = l) (hi : i * 4 + 4 ≤ cur.length) : ((((cur.set (i * 4) v0).set (i * 4 + 1) v1).set (i * 4 + 2) v2).set (i * 4 + 3) v3).take ((i + 1) * 4) = l ++ [v0, v1, v2, v3] := by
  subst h
  apply List.ext_getElem?
  intro m
  rw [List.getElem?_take]
  by_cases hm : m < i * 4
  · rw [if_pos (by omega), List.getElem?_set_ne (by omega), List.getElem?_set_ne (by omega), List.getElem?_set_ne (by omega), List.getElem?_set_ne (by omega), List.getElem?_append_left (by simp; omega), List.getElem?_take, if_pos hm]
  · rw [List.getElem?_append_right (by simp; omega)]
    have e : (cur.take (i * 4)).length = i * 4 := by simp; omega
    rw [e]
    rcases Nat.lt_or_ge m (i * 4 + 4) with h4 | h4
    · rw [if_pos (by omega)]
      rcases (show m = i * 4 ∨ m = i * 4 + 1 ∨ m = i * 4 + 2 ∨ m = i * 4 + 3 by omega) with rfl | rfl | rfl | rfl
      · rw [List.getElem?_set_ne (by omega), List.getElem?_set_ne (by omega), List.getElem?_set_ne (by omega), List.getElem?_set_self (by omega)]; simp
      · rw [List.getElem?_set_ne (by omega), List.getElem?_set_ne (by omega), List.getElem?_set_self (by simp; omega), show i * 4 + 1 - i * 4 = 1 by omega]; rfl
      · rw [List.getElem?_set_ne (by omega), List.getElem?_set_self (by simp; omega), show i * 4 + 2 - i * 4 = 2 by omega]; rfl
      · rw [List.getElem?_set_self (by simp; omega), show i * 4 + 3 - i * 4 = 3 by omega]; rfl
    · rw [if_neg (by omega), List.getElem?_eq_none (by simp; omega)]
theorem DelI.keep {W : World} {g cap i j : Nat} {xs : List D4} (h : DelI W g cap xs i j) (hj : j < xs.length) (hc : xs.length ≤ cap) {x : D4} (hx : xs[j] = x) (hz : isz x.d = false) :
    DelI ((((W.setCell ⟨g, i * 4, none⟩ (.bool (ng (mant x.d)))).setCell ⟨g, i * 4 + 1, none⟩ (.slice x.A x.n x.c)).setCell ⟨g, i * 4 + 2, none⟩ (.bool (ng (expo x.d)))).setCell ⟨g, i * 4 + 3, none⟩ (.slice x.A' x.n' x.c')) g cap xs (i + 1) (j + 1) := by
  obtain ⟨cur, h1, h2, h3, h4, h5⟩ := h
  have hij : i ≤ j := by rw [h3]; exact nzs_len xs j
  have e : nzs (xs.take (j + 1)) = nzs (xs.take j) ++ [x] := by rw [nzs_take hj, hx, hz]; simp
  refine ⟨_, (((h1.set_ _ _).set_ _ _).set_ _ _).set_ _ _, by simpa using h2, by rw [e, List.length_append, ← h3]; rfl, ?_, fun m hm q hjm hq => ?_⟩
  · rw [e, d4s_append, d4s_one]
    simp only [Array.toList_setIfInBounds]
    exact take_set4 _ _ i _ _ _ _ h4 (by simp [h2]; omega)
  · rw [Array.getElem?_setIfInBounds_ne (by omega), Array.getElem?_setIfInBounds_ne (by omega), Array.getElem?_setIfInBounds_ne (by omega), Array.getElem?_setIfInBounds_ne (by omega)]
    exact h5 m hm q (by omega) hq
end Go.Proofs.YtbkbeglmfhaleaaGreatDoor
/-
slices.DeleteFunc at numbers, of which one is 0: the walk. Conditions: as it says.
-/
set_option linter.unusedVariables false
set_option linter.unusedSimpArgs false
namespace Go.Proofs.YtbkbeglmfhaleaaGreatDoor
open Go.RowKit
attribute [local go_sem ↓] Go.wp_at_zero Go.wp_at_succ

/-- What DeleteFunc came to. -/
def DelR (u : World) (g cap : Nat) (xs : List D4) (e : Ending) (w' : World) : Prop :=
  e = .returned (.slice (some ⟨g, 0, none⟩) (nzs xs).length cap) ∧ (∃ cur : Array Value, Blk w' g 37 cur ∧ cur.size = cap * 4 ∧ cur.toList.take ((nzs xs).length * 4) = d4s (nzs xs)) ∧ Below u.heap.size u w'
set_option maxHeartbeats 2000000 in
set_option maxRecDepth 20000 in
theorem del_some (u : World) (g n cap : Nat) (cur : Array Value) (xs : List D4) (w : World) (hn : xs.length = n) (hcap : n ≤ cap) (hcb : n ≤ 1099511627776) (hcm : cap ≤ 9223372036854775807) (hB : Blk w g 37 cur) (hcs : cur.size = cap * 4) (hct : cur.toList.take (n * 4) = d4s xs)
    (ho : Oks u xs) (hu : Below u.heap.size u w) (hug : u.heap.size ≤ g) (i0 : Nat) (hi0 : i0 < xs.length) (hz : isz xs[i0].d = true) (hlt0 : ∀ j (h : j < xs.length), j < i0 → isz xs[j].d = false) :
    Calls Tryz.prog 80 #[.slice (some ⟨g, 0, none⟩) n cap, .func (.func 82) #[] #[]] w (DelR u g cap xs) := by
  have hdl : Dl w (some ⟨g, 0, none⟩) xs := .inr ⟨g, 0, rfl, fun i v hi => by
    rw [Nat.zero_add, hB.cell i]
    rw [← hct, List.getElem?_take] at hi
    split at hi
    · rw [← Array.getElem?_toList]; exact hi
    · cases hi⟩
  have hi := (idx_d g 0 n cap xs w hn hdl (ho.below hu) hB.lt (by omega)).2 i0 hi0 hz hlt0
  have hall : ∀ x ∈ xs.take i0, isz x.d = false := by
    intro x hx
    obtain ⟨j, hj, rfl⟩ := List.getElem_of_mem hx
    rw [List.length_take] at hj
    rw [List.getElem_take]
    exact hlt0 j (by omega) (by omega)
  have hnz : nzs (xs.take (i0 + 1)) = xs.take i0 := by rw [nzs_take hi0, hz, nzs_all hall]; simp
  have hstart : DelI w g cap xs i0 (i0 + 1) := by
    refine ⟨cur, hB, hcs, by rw [hnz, List.length_take]; omega, ?_, fun m hm q hjm hq => ?_⟩
    · rw [hnz, d4s_take xs i0 (by omega), ← hct, List.take_take]; congr 1; omega
    · have h9 := d4s_get xs m q hm hq
      rw [← hct, List.getElem?_take, if_pos (by omega), Array.getElem?_toList] at h9
      exact h9
  have e1 : ((i0 : Int) == -1) = false := by simp
  have hi0n : i0 < n := by omega
  have hgl := hB.lt
  have HI := Lib.hid hi
  have HSt := Lib.hid hstart
  have HO := Lib.hid ho
  have HN := Lib.hid hn
  have HU := Lib.hid hu
  clear hi hstart ho hn hu hdl hB hcs hct hall hnz hlt0 hz
  go_enter Tryz.func80, Tryz.ntmps80
  go_wp2_with fail
  refine HI.out.mono ?_
  rintro e w1 ⟨rfl, hb1⟩
  have HD := Lib.hid (HSt.out.below hb1 hgl)
  have HU1 := Lib.hid (HU.out.trans (hb1.mono HU.out.size))
  clear hb1
  go_wp2_with fail
  go_loopw [5, 6] (fun a b wr => ∃ i j : Nat, a = .int .i64 i ∧ b = .int .i64 j ∧ j ≤ n ∧ i < j ∧ DelI wr g cap xs i j ∧ Below u.heap.size u wr) (fun _ b _ => n - (intOf b).toNat)
  case atStart => exact ⟨i0, i0 + 1, rfl, by go_num, by omega, by omega, HD.out, HU1.out⟩
  case round =>
    obtain ⟨i, j, rfl, rfl, hjn, hij, hD, hb⟩ := hrel
    by_cases hlt : j < n
    · have hjx : j < xs.length := by rw [HN.out]; exact hlt
      obtain ⟨x0, x1, x2, x3⟩ := hD.cells hjx
      have hxo := (HO.out _ (List.getElem_mem hjx)).below hb
      have hkeep := fun W (h : DelI W g cap xs i j) => h.keep hjx (by rw [HN.out]; exact hcap) rfl
      have hskip := fun W (h : DelI W g cap xs i j) => h.skip hjx
      generalize hxx : xs[j] = x at *
      have e4 : (j : Int) < (n : Int) := by omega
      have e5 : (i : Int) < (n : Int) := by omega
      have hgw := hD.lt
      have hpz := fun W (hW : Below wr.heap.size wr W) => partz_any (w := W) (hxo.below hW)
      have HPz := Lib.hid hpz
      have HKp := Lib.hid hkeep
      have HSk := Lib.hid hskip
      have HDD := Lib.hid hD
      have HBb := Lib.hid hb
      have hV := (Below.refl wr.heap.size wr).alloc (Nat.le_refl _) (.cells #[.bool (ng (mant x.d)), .slice x.A x.n x.c, .bool (ng (expo x.d)), .slice x.A' x.n' x.c'] 37)
      have hB5 := Blk.new wr 37 #[.bool (ng (mant x.d)), .slice x.A x.n x.c, .bool (ng (expo x.d)), .slice x.A' x.n' x.c']
      have HV := Lib.hid hV
      have HB5 := Lib.hid hB5
      clear hkeep hskip hD hb hxo hpz hV hB5 hxx
      unfold D4.val at HPz
      go_wp2_with fail
      refine (HPz.out _ HV.out).mono ?_
      rintro e w2 ⟨rfl, hb2⟩
      have hVW := HV.out.trans (hb2.mono HV.out.size)
      have HD2 := Lib.hid (HDD.out.below hVW hgw)
      have HB2 := Lib.hid (HBb.out.trans (hVW.mono HBb.out.size))
      obtain ⟨y0, y1, y2, y3, _⟩ := cells4 (HB5.out.below hb2 HB5.out.lt)
      clear hb2 hVW
      cases hz : isz x.d with
      | true =>
        have HS := Lib.hid (HSk.out _ HD2.out hz)
        have h9 := hcb
        clear hz
        go_wp2_with fail
        go_roundw
        case rel => exact ⟨i, j + 1, rfl, by go_num, by omega, by omega, HS.out, HB2.out⟩
        case measure => simp [intOf] <;> omega
      | false =>
        have HS := Lib.hid (HKp.out _ HD2.out hz)
        obtain ⟨u0, u1, u2, u3, z0, z1, z2, z3, f0, f1, f2, f3⟩ := HD2.out.room (show i < cap by omega)
        have h9 := hcb
        clear hz
        go_wp2_with fail
        go_roundw
        case rel => exact ⟨i + 1, j + 1, by go_num, by go_num, by omega, by omega, HS.out, (((HB2.out.setCell hug _).setCell hug _).setCell hug _).setCell hug _⟩
        case measure => simp [intOf] <;> omega
    · obtain rfl : j = n := by omega
      have e4 : ¬ (j : Int) < (j : Int) := by omega
      obtain ⟨c9, h1, h2, h3, h4, h5⟩ := hD
      obtain ⟨zs, hzl, hcl⟩ := run_clear_agg (P := Tryz.prog) wr 24 37 (.agg #[.bool false, .slice none 0 0, .bool false, .slice none 0 0]) 4 Tryz.underlying24 (fun w => Tryz.zeroValue37 w) rfl (by decide) (by omega) g (i * 4) (j - i) (cap - i) (by omega)
        (fun m hm => by rw [h1.cell, Array.getElem?_eq_getElem (by omega)]; rfl) (fun m hm => h1.frozen _)
      obtain ⟨c8, k1, k2, k3, k4⟩ := blk_setCells h1 (i * 4) zs
      have hxt : xs.take j = xs := List.take_of_length_le (by rw [HN.out]; exact Nat.le_refl _)
      rw [hxt] at h3 h4
      have hfin : c8.toList.take (i * 4) = d4s (nzs xs) := by
        rw [← h4]
        apply List.ext_getElem?
        intro m
        rw [List.getElem?_take, List.getElem?_take]
        split
        · rw [Array.getElem?_toList, Array.getElem?_toList]; exact k3 m (by assumption)
        · rfl
      have HRes := Lib.hid (show Blk (wr.setCells g (i * 4) zs) g 37 c8 ∧ c8.size = cap * 4 ∧ c8.toList.take (i * 4) = d4s (nzs xs) from ⟨k1, k2.trans h2, hfin⟩)
      have HB3 := Lib.hid (hb.trans ((k4 u.heap.size hug)))
      have e5 : (i : Int) ≤ (j : Int) := by omega
      have e6 : (i : Int) ≤ (cap : Int) := by omega
      have e7 : ¬ i = cap := by omega
      have e8 : ¬ cap = i := by omega
      have H3 := Lib.hid h3
      clear h1 h2 h3 h4 h5 hzl k1 k2 k3 k4 hfin hb hxt
      go_wp2_with fail
      go_ret
      exact ⟨by rw [← H3.out]; rfl, ⟨c8, HRes.out.1, HRes.out.2.1, by rw [← H3.out]; exact HRes.out.2.2⟩, HB3.out⟩
end Go.Proofs.YtbkbeglmfhaleaaGreatDoor
/-
slices.SortFunc at numbers, by their exponents: 12 at most. Conditions: as each says.
-/
set_option linter.unusedVariables false
set_option linter.unusedSimpArgs false
namespace Go.Proofs.YtbkbeglmfhaleaaGreatDoor
open Go.RowKit Go.Sort Go.Shelf

section
variable {α : Type} [Inhabited α]
theorem below_sort (B : Nat) (enc : α → List Value) (k : Nat) (w : World) (blk off m : Nat) (dk : Array α) (os : Array Obj) (hB : B ≤ blk) (hb : blk < w.heap.size) : RowKit.Below B w (sortWorldK enc k w blk off m dk os) := by
  refine ⟨rfl, rfl, rfl, ?_, fun q hq => ?_⟩
  · unfold sortWorldK putRowK
    rw [size_grow, size_putRow]
    exact Nat.le_add_right _ _
  · show ((putRowK enc k (Sort.ahead w m) blk off dk).heap ++ os)[q]? = _
    have hs : (putRowK enc k (Sort.ahead w m) blk off dk).heap.size = w.heap.size := by unfold putRowK; rw [size_putRow]; rfl
    rw [Array.getElem?_append_left (by omega)]
    show (w.heap.modify blk _)[q]? = _
    rw [Array.getElem?_modify, if_neg (by omega)]
theorem blk_sort {w : World} {g : Nat} {t : TypeId} {cur : Array Value} (h : Blk w g t cur) (enc : α → List Value) (k off m : Nat) (dk : Array α) (os : Array Obj) :
    Blk (sortWorldK enc k w g off m dk os) g t (putCells id off (flatK enc k dk) cur) := by
  have hl := h.lt
  unfold Blk at *
  show ((putRowK enc k (Sort.ahead w m) g off dk).heap ++ os)[g]? = _
  have hs : (putRowK enc k (Sort.ahead w m) g off dk).heap.size = w.heap.size := by unfold putRowK; rw [size_putRow]; rfl
  rw [Array.getElem?_append_left (by omega)]
  show (w.heap.modify g _)[g]? = _
  rw [Array.getElem?_modify, if_pos rfl, h]
  rfl
end
/-- A number that lies so, with an exponent of one word. -/
abbrev D4S (u : World) := { x : D4 // x.ok u ∧ (expo x.d).natAbs < Q }
instance (u : World) : Inhabited (D4S u) := ⟨⟨default, ⟨Wh.zero _ _ _, Wh.zero _ _ _⟩, by show (expo 0).natAbs < Q; rw [expo_zero]; unfold Q; decide⟩⟩
/-- By exponents. -/
def cfD (u : World) (x y : D4S u) : Int := Lib.compareInt (expo x.1.d) (expo y.1.d)
theorem cfD_lt (u : World) (x y : D4S u) : ltOf (cfD u) x y = decide (expo x.1.d < expo y.1.d) := by
  unfold ltOf cfD Lib.compareInt
  split
  · simp [*]
  · split <;> simp <;> omega
theorem swoD (u : World) : SWO (ltOf (cfD u)) := by
  constructor
  · intro x; rw [cfD_lt]; simp
  · intro x y z h1 h2
    rw [cfD_lt] at *
    simp only [decide_eq_true_eq] at *
    omega
  · intro x y z h1 h2
    rw [cfD_lt] at *
    simp only [decide_eq_false_iff_not] at *
    omega
def encD (u : World) (x : D4S u) : List Value := x.1.cells
theorem flat_get (u : World) (d : Array (D4S u)) (t : Nat) (h : t < d.size * 4) : some (flatK (encD u) 4 d)[t]! = (d4s (d.toList.map (·.1)))[t]? := by
  have hq : t / 4 < d.size := by omega
  have hl : (d.toList.map (·.1)).length = d.size := by simp
  have e := d4s_get (d.toList.map (·.1)) (t / 4) (t % 4) (by omega) (by omega)
  rw [show t / 4 * 4 + t % 4 = t by omega] at e
  rw [e, get_flatK _ _ _ _ h]
  have e1 : (d.toList.map (·.1))[t / 4]'(by omega) = (d[t / 4]!).1 := by rw [List.getElem_map, getElem!_pos d _ hq]; simp
  rw [e1]
  unfold encD
  rw [List.getElem?_eq_getElem (by rw [D4.cells_len]; omega), getElem!_pos _ _ (by rw [D4.cells_len]; omega)]
set_option maxRecDepth 20000 in
theorem sort_d (u : World) (g cap : Nat) (cur : Array Value) (xs : List D4) (w : World) (h12 : xs.length ≤ 12) (hcap : xs.length ≤ cap) (hB : Blk w g 37 cur) (hcs : cur.size = cap * 4) (hct : cur.toList.take (xs.length * 4) = d4s xs)
    (ho : Oks u xs) (hu : RowKit.Below u.heap.size u w) (hug : u.heap.size ≤ g) (hE : ∀ x ∈ xs, (expo x.d).natAbs < Q) :
    Calls Tryz.prog 83 #[.slice (some ⟨g, 0, none⟩) xs.length cap, .func (.func 84) #[] #[]] w fun e w' =>
      e = .returned (.tuple #[]) ∧ ∃ (ys : List D4) (c2 : Array Value), ys.Perm xs ∧ Rising (dds ys) ∧ Blk w' g 37 c2 ∧ c2.size = cap * 4 ∧ c2.toList.take (xs.length * 4) = d4s ys ∧ RowKit.Below u.heap.size u w' := by
  have hh : ∀ a ∈ xs, D4.ok u a ∧ (expo a.d).natAbs < Q := fun a ha => ⟨ho a ha, hE a ha⟩
  obtain ⟨zs, hzs⟩ : ∃ zs : Array (D4S u), zs = (xs.pmap (fun x h => (⟨x, h⟩ : D4S u)) hh).toArray := ⟨_, rfl⟩
  have hzl : zs.size = xs.length := by rw [hzs]; simp
  have hzm : zs.toList.map (·.1) = xs := by rw [hzs]; simp [List.map_pmap]
  have hH : HoldsK (encD u) 4 w g 0 zs := fun j hj => by
    rw [size_flatK] at hj
    have e := flat_get u zs j hj
    rw [hzm, ← hct, List.getElem?_take, if_pos (by omega), Array.getElem?_toList] at e
    refine ⟨?_, hB.frozen _⟩
    rw [Nat.zero_add, hB.cell j, ← e]; rfl
  have hcmp : CmpLays Tryz.prog 84 #[] (encD u) 4 (cfD u) g 0 zs.size w := fun m os dk hs x y => by
    have hb := hu.trans (below_sort u.heap.size (encD u) 4 w g 0 m dk os hug hB.lt)
    exact (partc_any (x.2.1.below hb) (y.2.1.below hb) x.2.2 y.2.2).mono fun e w' h => ⟨h.1, h.2.form⟩
  have h := AnyQ.slices_SortFunc_small_sorted Tryz.sortD 4 isAggD sizeD (encD u) (fun _ => rfl) (fun x v hv => x.1.cells_one v hv) (cfD u) 84 #[] (swoD u) g 0 cap zs w (enters_of Tryz.func84 (by kernel_rfl) rfl) hcmp hH hB.lt (by omega)
    (fun n W hn => (Any.bits_Len Tryz.bitsLenD n W (by omega) (by omega)).mono fun _ _ h => ⟨⟨_, h.1⟩, h.2⟩)
  rw [hzl] at h
  change Calls Tryz.prog 83 _ _ _ at h
  refine h.mono ?_
  rintro e w' ⟨rfl, d', n, os, hp, hs, rfl⟩
  have hds : d'.size = xs.length := hp.1.trans hzl
  have hperm : d'.toList.Perm zs.toList := by
    have := hp.2.2
    rw [show d'.extract 0 xs.length = d' by rw [← hds]; simp, show zs.extract 0 xs.length = zs by rw [← hzl]; simp] at this
    exact this
  refine ⟨rfl, d'.toList.map (·.1), _, by rw [← hzm]; exact hperm.map _, ?_, blk_sort hB (encD u) 4 0 n d' os, by unfold putCells; simpa using hcs, ?_, hu.trans (below_sort u.heap.size (encD u) 4 w g 0 n d' os hug hB.lt)⟩
  · unfold Rising dds
    rw [List.map_map, List.pairwise_map, List.pairwise_iff_getElem]
    intro i j hi hj hij
    have hi' : i < d'.size := by simpa using hi
    have hj' : j < d'.size := by simpa using hj
    have := hs i j (Nat.zero_le _) hij (by omega)
    rw [cfD_lt, getElem!_pos d' j hj', getElem!_pos d' i hi'] at this
    simp only [decide_eq_false_iff_not] at this
    simp only [Function.comp, Array.getElem_toList]
    omega
  · apply List.ext_getElem?
    intro t
    rw [List.getElem?_take]
    by_cases ht : t < xs.length * 4
    · rw [if_pos ht, ← flat_get u d' t (by omega), Array.getElem?_toList]
      unfold putCells
      rw [Array.getElem?_mapIdx, Array.getElem?_eq_getElem (by omega)]
      simp only [Option.map_some, size_flatK]
      rw [if_pos (by omega)]
      rfl
    · rw [if_neg ht, List.getElem?_eq_none (by rw [d4s_length]; simp; omega)]
end Go.Proofs.YtbkbeglmfhaleaaGreatDoor
/-
slices.DeleteFunc at numbers, whatever they are; then they are sorted. Conditions: as each says.
-/
set_option linter.unusedVariables false
namespace Go.Proofs.YtbkbeglmfhaleaaGreatDoor
open Go.RowKit

theorem first_zero (xs : List D4) : (∀ x ∈ xs, isz x.d = false) ∨ ∃ i, ∃ (h : i < xs.length), isz xs[i].d = true ∧ ∀ j (h : j < xs.length), j < i → isz xs[j].d = false := by
  induction xs with
  | nil => exact .inl fun x hx => by cases hx
  | cons x xs ih =>
    cases hx : isz x.d with
    | true => exact .inr ⟨0, by simp, by simpa using hx, fun j _ hj => absurd hj (Nat.not_lt_zero _)⟩
    | false =>
      rcases ih with h | ⟨i, hi, h1, h2⟩
      · left
        intro y hy
        rcases List.mem_cons.1 hy with rfl | hy
        · exact hx
        · exact h y hy
      · right
        refine ⟨i + 1, by simp; omega, by simpa using h1, fun j hj hji => ?_⟩
        cases j with
        | zero => simpa using hx
        | succ j => simpa using h2 j (by simpa using hj) (by omega)
theorem del_any (u : World) (g cap : Nat) (cur : Array Value) (xs : List D4) (w : World) (hcap : xs.length ≤ cap) (hcb : xs.length ≤ 1099511627776) (hcm : cap ≤ 9223372036854775807) (hB : Blk w g 37 cur) (hcs : cur.size = cap * 4) (hct : cur.toList.take (xs.length * 4) = d4s xs)
    (ho : Oks u xs) (hu : Below u.heap.size u w) (hug : u.heap.size ≤ g) :
    Calls Tryz.prog 80 #[.slice (some ⟨g, 0, none⟩) xs.length cap, .func (.func 82) #[] #[]] w (DelR u g cap xs) := by
  rcases first_zero xs with hz | ⟨i0, hi0, hz, hlt⟩
  · have hdl : Dl w (some ⟨g, 0, none⟩) xs := .inr ⟨g, 0, rfl, fun i v hi => by
      rw [Nat.zero_add, hB.cell i]
      rw [← hct, List.getElem?_take] at hi
      split at hi
      · rw [← Array.getElem?_toList]; exact hi
      · cases hi⟩
    refine (del_none g xs.length cap xs w rfl hdl (ho.below hu) hB.lt (by omega) hz).mono ?_
    rintro e w' ⟨rfl, hb⟩
    rw [show DelR u g cap xs = fun e w' => DelR u g cap xs e w' from rfl]
    refine ⟨by rw [nzs_all hz], ⟨cur, hB.below hb hB.lt, hcs, by rw [nzs_all hz]; exact hct⟩, hu.trans (hb.mono hu.size)⟩
  · exact del_some u g xs.length cap cur xs w rfl hcap hcb hcm hB hcs hct ho hu hug i0 hi0 hz hlt
/-- Those that are left hold their numbers, none of them 0, and their sum is that of all. -/
theorem nzs_ok {u : World} {xs : List D4} (h : Oks u xs) : Oks u (nzs xs) := fun x hx => h x (List.mem_filter.1 hx).1
theorem nzs_ne {xs : List D4} : ∀ x ∈ nzs xs, x.d ≠ 0 := fun x hx => isz_false.1 (by simpa using (List.mem_filter.1 hx).2)
theorem nzs_mem {xs : List D4} {x : D4} (h : x ∈ nzs xs) : x ∈ xs := (List.mem_filter.1 h).1
theorem nzs_length (xs : List D4) : (nzs xs).length ≤ xs.length := List.length_filter_le _ _
theorem nzs_sum (xs : List D4) : dysum (dds (nzs xs)) = dysum (dds xs) := by
  induction xs with
  | nil => rfl
  | cons x xs ih =>
    unfold nzs dds at *
    rw [List.filter_cons]
    cases hz : isz x.d with
    | true =>
      rw [if_neg (by simp)]
      show _ = x.d + dysum _
      rw [ih, isz_true.1 hz, dz_add]
    | false =>
      rw [if_pos (by simp)]
      show x.d + dysum _ = x.d + dysum _
      rw [ih]
theorem dds_perm {xs ys : List D4} (h : xs.Perm ys) : dysum (dds xs) = dysum (dds ys) := dysum_perm (h.map _)
end Go.Proofs.YtbkbeglmfhaleaaGreatDoor
/-
Sums in parts, step by step; a list's part as it lies. Conditions: as each says.
-/
set_option linter.unusedVariables false
set_option linter.unusedSimpArgs false
namespace Go.Proofs.YtbkbeglmfhaleaaGreatDoor
open Go.RowKit

theorem dds_length (xs : List D4) : (dds xs).length = xs.length := by unfold dds; simp
theorem dds_drop (xs : List D4) (k : Nat) : dds (xs.drop k) = (dds xs).drop k := by unfold dds; rw [List.map_drop]
theorem dds_take (xs : List D4) (k : Nat) : dds (xs.take k) = (dds xs).take k := by unfold dds; rw [List.map_take]
theorem dds_getElem (xs : List D4) (k : Nat) (h : k < (dds xs).length) : (dds xs)[k] = (xs[k]'(by rw [dds_length] at h; exact h)).d := List.getElem_map (fun x : D4 => x.d)
/-- What the loop of the parts keeps: where the parts so far end, and how far the next one reaches. -/
def PtI (K : Nat) (L : List D4) (q fr : Nat) (Ps : List (List D4)) (r : Int) : Prop :=
  PartsTo (dds L) fr (Ps.map dds) ∧ fr ≤ q ∧ (fr = q → q = 0) ∧ (∀ d ∈ ((dds L).drop fr).take (q - fr), fin d + 64 ≤ r) ∧ r.natAbs ≤ K + 64 ∧ Ps.flatten = L.take fr
theorem PtI.first (K : Nat) (L : List D4) : PtI K L 0 0 [] 0 := ⟨PartsTo.start _, Nat.le_refl _, fun _ => rfl, fun d hd => by simp at hd, by simp, by simp⟩
theorem mem_next {l : List Dyadic} {fr q : Nat} (h : fr ≤ q) (hq : q < l.length) {d : Dyadic} (hd : d ∈ (l.drop fr).take (q + 1 - fr)) : d ∈ (l.drop fr).take (q - fr) ∨ d = l[q] := by
  obtain ⟨i, hi, rfl⟩ := List.mem_iff_getElem.1 hd
  rw [List.length_take, List.length_drop] at hi
  rw [List.getElem_take, List.getElem_drop]
  by_cases e : i = q - fr
  · right
    have : fr + i = q := by omega
    simp [this]
  · left
    refine List.mem_iff_getElem.2 ⟨i, by rw [List.length_take, List.length_drop]; omega, ?_⟩
    rw [List.getElem_take, List.getElem_drop]
section
variable {K : Nat} {L : List D4} {q fr : Nat} {Ps : List (List D4)} {r : Int}
theorem PtI.one (h : PtI K L q fr Ps r) (hf : ¬ fr < q) (hq : q < L.length) (hk : (fin L[q].d).natAbs ≤ K) : PtI K L (q + 1) fr Ps (fin L[q].d + 64) := by
  obtain ⟨h1, h2, h3, h4, h5, h6⟩ := h
  have e : fr = q := by omega
  have e0 := h3 e
  subst e
  refine ⟨h1, by omega, fun e => by omega, fun d hd => ?_, by omega, h6⟩
  rcases mem_next (Nat.le_refl _) (by rw [dds_length]; exact hq) hd with h | h
  · simp at h
  · rw [h, dds_getElem]; exact Int.le_refl _
theorem PtI.more (h : PtI K L q fr Ps r) (hf : fr < q) (hq : q < L.length) (hk : (fin L[q].d).natAbs ≤ K) (hr : r < fin L[q].d + 64) : PtI K L (q + 1) fr Ps (fin L[q].d + 64) := by
  obtain ⟨h1, h2, h3, h4, h5, h6⟩ := h
  refine ⟨h1, by omega, fun e => by omega, fun d hd => ?_, by omega, h6⟩
  rcases mem_next h2 (by rw [dds_length]; exact hq) hd with h | h
  · have := h4 d h; omega
  · rw [h, dds_getElem]; exact Int.le_refl _
theorem PtI.less (h : PtI K L q fr Ps r) (hf : fr < q) (hq : q < L.length) (hr : ¬ r < fin L[q].d + 64) : PtI K L (q + 1) fr Ps r := by
  obtain ⟨h1, h2, h3, h4, h5, h6⟩ := h
  refine ⟨h1, by omega, fun e => by omega, fun d hd => ?_, h5, h6⟩
  rcases mem_next h2 (by rw [dds_length]; exact hq) hd with h | h
  · exact h4 d h
  · rw [h, dds_getElem]; omega
theorem PtI.cut (h : PtI K L q fr Ps r) (hf : fr < q) (hq : q < L.length) (hk : (fin L[q].d).natAbs ≤ K) (hR : Rising (dds L)) (hr : r < expo L[q].d) : PtI K L (q + 1) q (Ps ++ [(L.drop fr).take (q - fr)]) (fin L[q].d + 64) := by
  obtain ⟨h1, h2, h3, h4, h5, h6⟩ := h
  refine ⟨?_, by omega, fun e => by omega, fun d hd => ?_, by omega, by
    rw [List.flatten_append, h6]
    simp only [List.flatten_cons, List.flatten_nil, List.append_nil]
    rw [← List.take_add]; congr 1; omega⟩
  · rw [List.map_append]
    have e : [(L.drop fr).take (q - fr)].map dds = [((dds L).drop fr).take (q - fr)] := by
      show [dds _] = _
      rw [dds_take, dds_drop]
    rw [e]
    refine h1.cut h2 r h4 fun d hd => ?_
    obtain ⟨i, hi, rfl⟩ := List.mem_iff_getElem.1 hd
    rw [List.length_drop] at hi
    rw [List.getElem_drop]
    by_cases e0 : i = 0
    · subst e0
      simp only [Nat.add_zero]
      rw [dds_getElem]; exact hr
    · have hql : q < (dds L).length := by rw [dds_length]; exact hq
      have := (List.pairwise_iff_getElem.1 hR) q (q + i) hql (by omega) (by omega)
      rw [dds_getElem] at this
      omega
  · rcases mem_next (Nat.le_refl _) (by rw [dds_length]; exact hq) hd with h | h
    · simp at h
    · rw [h, dds_getElem]; exact Int.le_refl _
theorem PtI.done (h : PtI K L q fr Ps r) (hq : q = L.length) : (((Ps ++ [L.drop fr]).map dds).flatten = dds L ∧ ((Ps ++ [L.drop fr]).map dds).Pairwise PApart ∧ (Ps ++ [L.drop fr]).flatten = L) := by
  have := h.1.done
  rw [List.map_append]
  have e : [L.drop fr].map dds = [(dds L).drop fr] := by show [dds _] = _; rw [dds_drop]
  rw [e]
  exact ⟨this.1, this.2, by rw [List.flatten_append, h.2.2.2.2.2]; simp⟩
end
/-- A part of a list of numbers, as a slice. -/
def PSl (W : World) (v : Value) (P : List D4) : Prop := ∃ A c, v = .slice A P.length c ∧ Dl W A P
theorem PSl.below {W W' : World} {v : Value} {P : List D4} (h : PSl W v P) (hb : Below W.heap.size W W') : PSl W' v P := by
  obtain ⟨A, c, h1, h2⟩ := h
  exact ⟨A, c, h1, h2.below hb⟩
theorem dl_sub {W : World} {g : Nat} {L : List D4} (h : Dl W (some ⟨g, 0, none⟩) L) (fr k : Nat) (hf : fr ≤ L.length) : Dl W (some ⟨g, fr * 4, none⟩) ((L.drop fr).take k) := by
  refine .inr ⟨g, fr * 4, rfl, fun i v hi => ?_⟩
  have e : d4s ((L.drop fr).take k) = ((d4s L).drop (fr * 4)).take (min k (L.length - fr) * 4) := by
    rw [← d4s_drop L fr hf]
    by_cases hk : k ≤ L.length - fr
    · rw [Nat.min_eq_left hk, ← d4s_take _ _ (by rw [List.length_drop]; exact hk)]
    · rw [Nat.min_eq_right (by omega), List.take_of_length_le (by rw [List.length_drop]; omega), List.take_of_length_le (by rw [d4s_length, List.length_drop]; omega)]
  rw [e, List.getElem?_take] at hi
  split at hi
  · rw [List.getElem?_drop] at hi
    rcases h with h0 | ⟨b, o, e', hc⟩
    · rw [h0] at hi; cases hi
    · injection e' with e'
      injection e' with e1 e2
      subst e1 e2
      have := hc _ _ hi
      rw [Nat.zero_add] at this
      exact this
  · cases hi
theorem dl_end {W : World} {g : Nat} {L : List D4} (h : Dl W (some ⟨g, 0, none⟩) L) (fr : Nat) (hf : fr ≤ L.length) : Dl W (some ⟨g, fr * 4, none⟩) (L.drop fr) := by
  have := dl_sub h fr (L.length - fr) hf
  rw [List.take_of_length_le (by rw [List.length_drop]; exact Nat.le_refl _)] at this
  exact this
/-- Parts, one by one. -/
def Psl (W : World) (vs : List Value) (Ps : List (List D4)) : Prop := vs.length = Ps.length ∧ ∀ i (h : i < vs.length) (h' : i < Ps.length), PSl W vs[i] Ps[i]
theorem Psl.nil (W : World) : Psl W [] [] := ⟨rfl, fun i h => by simp at h⟩
theorem Psl.below {W W' : World} {vs : List Value} {Ps : List (List D4)} (h : Psl W vs Ps) (hb : Below W.heap.size W W') : Psl W' vs Ps := ⟨h.1, fun i h1 h2 => (h.2 i h1 h2).below hb⟩
theorem Psl.snoc {W : World} {vs : List Value} {Ps : List (List D4)} {v : Value} {P : List D4} (h : Psl W vs Ps) (hv : PSl W v P) : Psl W (vs ++ [v]) (Ps ++ [P]) := by
  refine ⟨by rw [List.length_append, List.length_append, h.1]; rfl, fun i h1 h2 => ?_⟩
  rw [List.length_append, List.length_singleton] at h1
  by_cases hi : i < vs.length
  · rw [List.getElem_append_left hi, List.getElem_append_left (by rw [← h.1]; exact hi)]
    exact h.2 i hi _
  · obtain rfl : i = vs.length := by omega
    rw [List.getElem_append_right (Nat.le_refl _), List.getElem_append_right (by rw [h.1]; exact Nat.le_refl _)]
    simp only [Nat.sub_self, h.1, List.getElem_singleton]
    exact hv
/-- The box of the reach. -/
def Rch (W : World) (z : Nat) (r : Int) : Prop := ∃ B n c, Blk W z 35 #[.bool (ng r), .slice B n c] ∧ Wh W B n c r
/-- What parts came to. -/
def PartR (w : World) (xs : List D4) (e : Ending) (w' : World) : Prop :=
  ∃ (B : Option Addr) (d : Nat) (vs : List Value) (Ps : List (List D4)) (L : List D4), e = .returned (.slice B Ps.length d) ∧ Row w' B vs ∧ Psl w' vs Ps ∧ Ps.length ≤ L.length + 1 ∧ ((Ps.map dds).flatten = dds L ∧ (Ps.map dds).Pairwise PApart ∧ Ps.flatten = L) ∧ Rising (dds L) ∧ L.Perm (nzs xs) ∧ Below w.heap.size w w'
end Go.Proofs.YtbkbeglmfhaleaaGreatDoor
/-
The program's end: the exponent of the first power of 2 above a number. Conditions: as each says.
-/
set_option linter.unusedVariables false
set_option linter.unusedSimpArgs false
namespace Go.Proofs.YtbkbeglmfhaleaaGreatDoor
open Go.RowKit
attribute [local go_sem ↓] Go.wp_at_zero Go.wp_at_succ

theorem held4t {w W : World} {b0 o0 b1 o1 b2 o2 b3 o3 : Nat} {v0 v1 v2 v3 : Value} (h : W.cell? ⟨b0, o0, none⟩ = some v0 ∧ W.cell? ⟨b1, o1, none⟩ = some v1 ∧ W.cell? ⟨b2, o2, none⟩ = some v2 ∧ W.cell? ⟨b3, o3, none⟩ = some v3 ∧ Below w.heap.size w W)
    (g : Nat) (h0 : b0 ≠ g) (h1 : b1 ≠ g) (h2 : b2 ≠ g) (h3 : b3 ≠ g) (hg : w.heap.size ≤ g) (x0 x1 : Value) :
    ((W.setCell ⟨g, 0, none⟩ x0).setCell ⟨g, 1, none⟩ x1).cell? ⟨b0, o0, none⟩ = some v0 ∧
    ((W.setCell ⟨g, 0, none⟩ x0).setCell ⟨g, 1, none⟩ x1).cell? ⟨b1, o1, none⟩ = some v1 ∧
    ((W.setCell ⟨g, 0, none⟩ x0).setCell ⟨g, 1, none⟩ x1).cell? ⟨b2, o2, none⟩ = some v2 ∧
    ((W.setCell ⟨g, 0, none⟩ x0).setCell ⟨g, 1, none⟩ x1).cell? ⟨b3, o3, none⟩ = some v3 ∧
    Below w.heap.size w ((W.setCell ⟨g, 0, none⟩ x0).setCell ⟨g, 1, none⟩ x1) := by
  refine ⟨?_, ?_, ?_, ?_, (h.2.2.2.2.setCell hg _).setCell hg _⟩
  · rw [cell_set h0, cell_set h0]; exact h.1
  · rw [cell_set h1, cell_set h1]; exact h.2.1
  · rw [cell_set h2, cell_set h2]; exact h.2.2.1
  · rw [cell_set h3, cell_set h3]; exact h.2.2.2.1
set_option maxHeartbeats 1000000 in
theorem pend_any (A : Option Addr) (n c : Nat) (A' : Option Addr) (n' c' : Nat) (d : Dyadic) (w : World) (hD : Dr w A n c A' n' c' d) (hf : Fitp d) :
    Calls Tryz.prog 60 #[.agg #[.bool (ng (mant d)), .slice A n c, .bool (ng (expo d)), .slice A' n' c']] w (RetW (fin d) w) := by
  have hbl9 := bl_wl (mant d) _ hf.1
  have hfin : expo d + (bl (mant d).natAbs : Int) = fin d := rfl
  have HWd := Lib.hid (fun W (hb : Below w.heap.size w W) => width_any A n c (mant d) W (hD.1.below hb) (by rw [hD.1.1]; have := hf.1; omega))
  have hwe : wl (expo d) ≤ 1 := wl_small (by have := hf.2; omega) (by have := hf.2; omega)
  have hPl := fun (B : Option Addr) (k q : Nat) W (hb : Below w.heap.size w W) (hw : Wh W B k q ((bl (mant d).natAbs : Nat) : Int)) => plus_any A' n' c' (expo d) B k q ((bl (mant d).natAbs : Nat) : Int) W (hD.2.below hb) hw (by omega) (by have := wl_small (k := ((bl (mant d).natAbs : Nat) : Int)) (by omega) (by omega); omega)
  rw [hfin] at hPl
  generalize bl (mant d).natAbs = L at *
  generalize fin d = F at *
  have HPl := Lib.hid hPl
  have HL := Lib.hid (fun W => wholeOf_any (L : Int) W (by omega) (by omega))
  clear hPl hfin hwe hD hf hbl9
  go_enter Tryz.func60, Tryz.ntmps60
  go_wp2_with fail
  have HB := Lib.hid ((Blk.new w 37 #[.bool (ng (mant d)), .slice A n c, .bool (ng (expo d)), .slice A' n' c']).alloc (.cells #[.bool false, .slice none 0 0] 35))
  have hBd := Blk.new_ (w.alloc (.cells #[.bool (ng (mant d)), .slice A n c, .bool (ng (expo d)), .slice A' n' c'] 37)) 35 #[.bool false, .slice none 0 0] (w.heap.size + 1) (by simp)
  have HBl := Lib.hid (((Below.refl w.heap.size w).alloc (Nat.le_refl _) (.cells #[.bool (ng (mant d)), .slice A n c, .bool (ng (expo d)), .slice A' n' c'] 37)).alloc (by simp) (.cells #[.bool false, .slice none 0 0] 35))
  obtain ⟨c0, c1, c2, c3, _⟩ := cells4 HB.out
  go_region_held3 (fun w' => w'.cell? ⟨w.heap.size, 0, none⟩ = some (.bool (ng (mant d))) ∧ w'.cell? ⟨w.heap.size, 1, none⟩ = some (.slice A n c) ∧ w'.cell? ⟨w.heap.size, 2, none⟩ = some (.bool (ng (expo d))) ∧ w'.cell? ⟨w.heap.size, 3, none⟩ = some (.slice A' n' c') ∧ Below w.heap.size w w')
    (first | exact ⟨c0, c1, c2, c3, HBl.out.drew⟩ | exact held4c ‹_ ∧ _ ∧ _ ∧ _ ∧ Below w.heap.size w _› hbP | exact held4c ‹_ ∧ _ ∧ _ ∧ _ ∧ Below w.heap.size w _› hbO | exact held4c ‹_ ∧ _ ∧ _ ∧ _ ∧ Below w.heap.size w _› hbW | exact held4t ‹_ ∧ _ ∧ _ ∧ _ ∧ Below w.heap.size w _› _ (by omega) (by omega) (by omega) (by omega) (by omega) _ _)
    (first
      | (go_at_call 39; refine (HWd.out _ (‹_ ∧ _ ∧ _ ∧ _ ∧ Below w.heap.size w _›).2.2.2.2).mono ?_; rintro e1 wW ⟨rfl, hbW⟩; have hBW := Blk.next (by assumption) hbW; obtain ⟨r0, r1, f0, f1⟩ := cells2 hBW; skip)
      | (go_at_call 55; refine (HL.out _).mono ?_; rintro e1 wO ⟨BO, kO, dO, rfl, hWO, hbO⟩; have hBO := Blk.next (by assumption) hbO; obtain ⟨r0, r1, f0, f1⟩ := cells2 hBO; skip)
      | (go_at_call 53; refine (HPl.out _ _ _ _ (‹_ ∧ _ ∧ _ ∧ _ ∧ Below w.heap.size w _›).2.2.2.2 (by exact hWO)).mono ?_; rintro e1 wP ⟨BP, kP, dP, rfl, hWP, hbP⟩; have hBP := Blk.next (by assumption) hbP; obtain ⟨r0, r1, f0, f1⟩ := cells2 hBP; skip))
  go_wp2_with fail
  clear r0 r1 f0 f1
  obtain ⟨k0, k1, _⟩ := cells2 (Blk.store2 hBP (.bool (ng F)) (.slice BP kP dP))
  exact bodyPost_ret (v := .agg #[.bool (ng F), .slice BP kP dP]) (by simp [results, Tryz.results60, go_sem, k0, k1]) rfl
    (RetW_def _ _ _ _ _ _ _ rfl (Wh.store2 hWP hBP _ _) (‹_ ∧ _ ∧ _ ∧ _ ∧ Below w.heap.size w _›).2.2.2.2)
end Go.Proofs.YtbkbeglmfhaleaaGreatDoor
/-
The program's parts of a sum. Conditions: 12 numbers at most, of few digits.
-/
set_option linter.unusedVariables false
set_option linter.unusedSimpArgs false
set_option linter.unnecessarySimpa false
namespace Go.Proofs.YtbkbeglmfhaleaaGreatDoor
open Go.RowKit
attribute [local go_sem ↓] Go.wp_at_zero Go.wp_at_succ

theorem info_P : (Tryz.prog.info? 24).map (fun i => (i.zero, i.size, i.bytes)) = some (some (.slice none 0 0), 1, 24) := by kernel_rfl
theorem maxL {c : Nat} (h : c ≤ maxLen) : c ≤ 9223372036854775807 := by unfold maxLen at h; omega
theorem bz {zz : Nat} {w3 W W' : World} (hz : w3.heap.size = zz) (h : Below zz w3 W) (hb : Below W.heap.size W W') : Below zz w3 W' := by subst hz; exact below_nx h hb
theorem bz_al {zz : Nat} {w3 W : World} (hz : w3.heap.size = zz) (h : Below zz w3 W) (o : Obj) : Below zz w3 (W.alloc o) := by subst hz; exact below_al h
theorem small_q {k : Int} (h : k.natAbs ≤ 134217100) : k.natAbs < Q := by unfold Q; omega
theorem cmpI_gt {a b : Int} (h : b < a) : Lib.compareInt a b = 1 := by
  unfold Lib.compareInt
  rw [if_neg (by omega), if_pos h]
theorem cmpI_le {a b : Int} (h : ¬ b < a) : Lib.compareInt a b ≤ 0 := by
  unfold Lib.compareInt
  split <;> (try split) <;> omega
/-- What stands once a round's end is reckoned: the box of the reach, the boxes of the round. -/
theorem Rch.store {W : World} {z : Nat} {r r' : Int} {B : Option Addr} {n c : Nat} (h : Rch W z r) (hw : Wh W B n c r') : Rch ((W.setCell ⟨z, 0, none⟩ (.bool (ng r'))).setCell ⟨z, 1, none⟩ (.slice B n c)) z r' := by
  obtain ⟨B0, n0, c0, h1, _⟩ := h
  exact ⟨B, n, c, h1.store2 _ _, hw.store2 h1 _ _⟩
theorem Rch.nxt {W W' : World} {z : Nat} {r : Int} (h : Rch W z r) (hb : Below W.heap.size W W') : Rch W' z r := by
  obtain ⟨B, n, c, h1, h2⟩ := h
  exact ⟨B, n, c, h1.below hb h1.lt, h2.below hb⟩
/-- A box of a whole number, whatever it is. -/
def Rbx (W : World) (z : Nat) : Prop := ∃ a B n c, Blk W z 35 #[.bool a, .slice B n c]
theorem Rch.rbx {W : World} {z : Nat} {r : Int} (h : Rch W z r) : Rbx W z := by
  obtain ⟨B, n, c, h1, _⟩ := h
  exact ⟨_, B, n, c, h1⟩
theorem Rbx.nxt {W W' : World} {z : Nat} (h : Rbx W z) (hb : Below W.heap.size W W') : Rbx W' z := by
  obtain ⟨a, B, n, c, h1⟩ := h
  exact ⟨a, B, n, c, h1.below hb h1.lt⟩
theorem Rbx.store {W : World} {z : Nat} {r' : Int} {B : Option Addr} {n c : Nat} (h : Rbx W z) (hw : Wh W B n c r') : Rch ((W.setCell ⟨z, 0, none⟩ (.bool (ng r'))).setCell ⟨z, 1, none⟩ (.slice B n c)) z r' := by
  obtain ⟨a, B0, n0, c0, h1⟩ := h
  exact ⟨B, n, c, h1.store2 _ _, hw.store2 h1 _ _⟩
theorem Rbx.grown {W W' : World} {z : Nat} {v : Value} (h : Rbx W z) (hg : W.grownBy W' v.ownBlock) (hne : v.ownBlock ≠ some z) : Rbx W' z := by
  obtain ⟨a, B, n, c, h1⟩ := h
  exact ⟨a, B, n, c, (hg.block z h1.lt (fun e => hne e.symm)).trans h1⟩
theorem blk_grown {W W' : World} {z : Nat} {t : TypeId} {cs : Array Value} {v : Value} (h : Blk W z t cs) (hg : W.grownBy W' v.ownBlock) (hne : v.ownBlock ≠ some z) : Blk W' z t cs := (hg.block z h.lt (fun e => hne e.symm)).trans h
theorem Rbx.only {W W' : World} {z g : Nat} (h : Rbx W z) (hO : Only g W W') (hne : z ≠ g) : Rbx W' z := by
  obtain ⟨a, B, n, c, h1⟩ := h
  exact ⟨a, B, n, c, hO.blk hne h1⟩
theorem own_store {W : World} {B : Nat} {v : Value} {m : Nat} {vs : List Value} (h : W.ownsRow (B + 1) 24 1 v m vs) (z : Nat) (u u' : Value) (hz : z = B := by rfl) : ((W.setCell ⟨z, 0, none⟩ u).setCell ⟨z, 1, none⟩ u').ownsRow (B + 1) 24 1 v m vs := by
  subst hz
  refine ⟨h.1, h.2.imp id ?_⟩
  rintro ⟨g, cap, cur, h1, h2, h3, h4⟩
  exact ⟨g, cap, cur, h1, h2, Blk.other (Blk.other h3 (p := ⟨z, 0, none⟩) (by show g ≠ z; omega) u) (p := ⟨z, 1, none⟩) (by show g ≠ z; omega) u', h4⟩
/-- The list behind a slice of slices. -/
theorem own_rowP {W : World} {B : Nat} {v : Value} {m : Nat} {vs : List Value} (h : W.ownsRow B 24 1 v m vs) : ∃ A d, v = .slice A m d ∧ Row W A vs := by
  obtain ⟨h0, ⟨rfl, rfl⟩ | ⟨g, cap, cur, h1, h2, h3, h4, h5, h6, h7⟩⟩ := h
  · exact ⟨none, 0, rfl, .inl (List.length_eq_zero_iff.1 (by omega))⟩
  · refine ⟨_, cap, h1, .inr ⟨g, 0, rfl, fun i u hi => ?_⟩⟩
    have hB : Blk W g 24 cur := h3
    rw [Nat.zero_add, hB.cell i]
    rw [← h7, List.getElem?_take] at hi
    split at hi
    · rw [← Array.getElem?_toList]; exact hi
    · cases hi

set_option maxRecDepth 100000 in
set_option maxHeartbeats 4000000 in
theorem pparts_any (b o n c : Nat) (xs : List D4) (w : World) (hn : xs.length = n) (h12 : n ≤ 12) (hl : Dl w (some ⟨b, o, none⟩) xs) (ho : Oks w xs) (K : Nat) (hK : K ≤ 134217000) (hk : ∀ x ∈ xs, Sz K x.d) :
    Calls Tryz.prog 47 #[.slice (some ⟨b, o, none⟩) n c] w (PartR w xs) := by
  subst hn
  obtain ⟨i0, hi, hzz⟩ := Option.map_eq_some_iff.1 info_P
  simp only [Prod.mk.injEq] at hzz
  obtain ⟨hz0, hz1, hz2⟩ := hzz
  have HCl := Lib.hid (clone_d b o xs.length c xs w rfl (by omega) hl)
  have HDe := Lib.hid (fun (g cap : Nat) (cur : Array Value) W (h1 : xs.length ≤ cap) (h2 : cap ≤ 9223372036854775807) (h3 : Blk W g 37 cur) (h4 : cur.size = cap * 4) (h5 : cur.toList.take (xs.length * 4) = d4s xs) (h6 : Below w.heap.size w W) (h7 : w.heap.size ≤ g) => del_any w g cap cur xs W h1 (by omega) h2 h3 h4 h5 ho h6 h7)
  have HSo := Lib.hid (fun (g cap : Nat) (cur : Array Value) W (h1 : (nzs xs).length ≤ cap) (h3 : Blk W g 37 cur) (h4 : cur.size = cap * 4) (h5 : cur.toList.take ((nzs xs).length * 4) = d4s (nzs xs)) (h6 : Below w.heap.size w W) (h7 : w.heap.size ≤ g) =>
    sort_d w g cap cur (nzs xs) W (Nat.le_trans (nzs_length xs) (by omega)) h1 h3 h4 h5 (nzs_ok ho) h6 h7 (fun x hx => small_q (Nat.le_trans (hk x (nzs_mem hx)).expo_.1 (by omega))))
  have HOk := Lib.hid ho
  have HK := Lib.hid hk
  have HNl := Lib.hid (show (nzs xs).length ≤ 12 from Nat.le_trans (nzs_length xs) (by omega))
  have HNx := Lib.hid (nzs_length xs)
  clear hl ho hk
  go_enter Tryz.func47, Tryz.ntmps47
  go_wp2_with fail
  refine HCl.out.mono ?_
  rintro e w1 ⟨v, rfl, ⟨g, cap, cur, rfl, hg, hB, hcap, hcm, hcs, hct⟩, hb⟩
  have H1 := Lib.hid (And.intro hB (And.intro hcs (And.intro hct (And.intro hb (And.intro hg (And.intro hcap hcm))))))
  clear hB hcs hct hb hg hcap hcm
  go_wp2_with fail
  refine (HDe.out g cap cur _ H1.out.2.2.2.2.2.1 (maxL H1.out.2.2.2.2.2.2) H1.out.1 H1.out.2.1 H1.out.2.2.1 H1.out.2.2.2.1 H1.out.2.2.2.2.1).mono ?_
  rintro e w2 ⟨rfl, ⟨cur2, hB2, hcs2, hct2⟩, hb2⟩
  have H2 := Lib.hid (And.intro hB2 (And.intro hcs2 (And.intro hct2 hb2)))
  clear hB2 hcs2 hct2 hb2
  go_wp2_with fail
  refine (HSo.out g cap cur2 _ (Nat.le_trans HNx.out H1.out.2.2.2.2.2.1) H2.out.1 H2.out.2.1 H2.out.2.2.1 H2.out.2.2.2 H1.out.2.2.2.2.1).mono ?_
  rintro e w3 ⟨rfl, L, c3, hp, hr, hB3, hcs3, hct3, hb3⟩
  have hLl : L.length = (nzs xs).length := hp.length_eq
  have hgl : g < w3.heap.size := hB3.lt
  have hdl : Dl w3 (some ⟨g, 0, none⟩) L := .inr ⟨g, 0, rfl, fun i v hi => by
    rw [Nat.zero_add, hB3.cell i]
    rw [← hct3, List.getElem?_take] at hi
    split at hi
    · rw [← Array.getElem?_toList]; exact hi
    · cases hi⟩
  have HDl := Lib.hid hdl
  have HRi := Lib.hid hr
  have HPm := Lib.hid hp
  have HW3 := Lib.hid hb3
  have HOL := Lib.hid (show Oks w3 L from fun x hx => (HOk.out x (nzs_mem (hp.mem_iff.1 hx))).below hb3)
  have HKL := Lib.hid (fun x (hx : x ∈ L) => HK.out x (nzs_mem (hp.mem_iff.1 hx)))
  have hm12 : L.length ≤ 12 := by rw [hLl]; exact HNl.out
  have hmc : L.length ≤ cap := by rw [hLl]; exact Nat.le_trans HNx.out H1.out.2.2.2.2.2.1
  have hcap2 : cap ≤ 9223372036854775807 := maxL H1.out.2.2.2.2.2.2
  obtain ⟨m, hm⟩ : ∃ m, L.length = m := ⟨_, rfl⟩
  rw [hm] at hm12 hmc hLl
  have HM := Lib.hid hm
  have HCp := Lib.hid (And.intro hmc hcap2)
  obtain ⟨zz, hzz⟩ : ∃ zz, w3.heap.size = zz := ⟨_, rfl⟩
  have HZl := Lib.hid hzz
  have HB0 := Lib.hid (show Below zz w3 (w3.alloc (.cells #[.bool false, .slice none 0 0] 35)) from (Below.refl _ _).alloc (Nat.le_of_eq hzz.symm) _)
  have HZz := Lib.hid (Nat.le_refl zz)
  have HZ0 := Lib.hid (show Rch (w3.alloc (.cells #[.bool false, .slice none 0 0] 35)) zz 0 from ⟨none, 0, 0, Blk.new_ w3 _ _ zz hzz, Wh.zero _ _ _⟩)
  have H64 := Lib.hid (fun W => wholeOf_any 64 W (by omega) (by omega))
  clear hp hr hB3 hcs3 hct3 hb3 hdl hm hmc hcap2 h12 HCl HDe HSo
  rw [← hLl]
  clear hLl
  go_wp2_with fail
  go_loopw [3, 5, 16] (fun out fv iv wr => ∃ (q fr : Nat) (Ps : List (List D4)) (vs : List Value) (r : Int), q ≤ m ∧ Ps.length ≤ q ∧ fv = .int .i64 (fr : Int) ∧ iv = .int .i64 (q : Int) ∧ Hid (PtI K L q fr Ps r ∧ Psl w3 vs Ps) ∧ Rch wr zz r ∧ wr.ownsRow (zz + 1) 24 1 out Ps.length vs ∧ Below zz w3 wr) (fun _ _ iv _ => m - (intOf iv).toNat)
  case atStart => exact ⟨0, 0, [], [], 0, Nat.zero_le _, Nat.le_refl _, rfl, rfl, Lib.hid ⟨PtI.first K L, Psl.nil _⟩, HZ0.out, World.ownsRow_nil _ _ _ _, HB0.out⟩
  case round =>
    obtain ⟨q, fr, Ps, vs, r, hq, hPq, rfl, rfl, HI, hZ, hOw, hB⟩ := hrel
    by_cases hlt : q < m
    · have hqL : q < L.length := by rw [HM.out]; exact hlt
      have hB3 : Below w3.heap.size w3 wr := by rw [HZl.out]; exact hB
      obtain ⟨bb, oo, hAe, _, y0, y1, y2, y3⟩ := (HDl.out.below hB3).at_ hqL
      injection hAe with hAe
      injection hAe with hA1 hA2
      subst hA1
      subst hA2
      simp only [Nat.zero_add] at y0 y1 y2 y3
      have hxo := HOL.out _ (List.getElem_mem hqL)
      have hxk := HKL.out _ (List.getElem_mem hqL)
      have hEx := hxk.expo_
      have hrb := HI.out.1.2.2.2.2.1
      have hfq := HI.out.1.2.1
      have hOne := fun hf => HI.out.1.one hf hqL hEx.2
      have hMore := fun hf hr => HI.out.1.more hf hqL hEx.2 hr
      have hLess := fun hf hr => HI.out.1.less hf hqL hr
      have hCut := fun hf hr => HI.out.1.cut hf hqL hEx.2 HRi.out hr
      have hfit := hxk.fitp (by omega)
      generalize L[q] = x at *
      have HOne := Lib.hid hOne
      have HPsl := Lib.hid HI.out.2
      have HLt := Lib.hid (fun k hk => (hOw.lt k hk).2)
      have HMore := Lib.hid hMore
      have HLess := Lib.hid hLess
      have HCut := Lib.hid hCut
      have hb3 := fun W (hb : Below zz w3 W) => show Below w3.heap.size w3 W from by rw [HZl.out]; exact hb
      have HEn := Lib.hid (fun W (hb : Below zz w3 W) => pend_any x.A x.n x.c x.A' x.n' x.c' x.d W (hxo.below (hb3 W hb)) hfit)
      have HPl := Lib.hid (fun B n c B' n' c' W (h : Wh W B n c (fin x.d)) (h' : Wh W B' n' c' 64) => plus_any B n c (fin x.d) B' n' c' 64 W h h' (by have := wl_small (k := fin x.d) (by omega) (by omega); omega) (by have := wl_small (k := 64) (by omega) (by omega); omega))
      have HC1 := Lib.hid (fun B n c W (hb : Below zz w3 W) (h : Wh W B n c r) => cmp_small x.A' x.n' x.c' (expo x.d) B n c r W (hxo.below (hb3 W hb)).2 h (small_q (by omega)) (small_q (by omega)))
      have HC2 := Lib.hid (fun B n c B' n' c' W (h : Wh W B n c (fin x.d + 64)) (h' : Wh W B' n' c' r) => cmp_small B n c (fin x.d + 64) B' n' c' r W h h' (small_q (by omega)) (small_q (by omega)))
      have HX := Lib.hid (Blk.new wr 37 #[.bool (ng (mant x.d)), .slice x.A x.n x.c, .bool (ng (expo x.d)), .slice x.A' x.n' x.c'])
      have HBx := Lib.hid (bz_al HZl.out hB (.cells #[.bool (ng (mant x.d)), .slice x.A x.n x.c, .bool (ng (expo x.d)), .slice x.A' x.n' x.c'] 37))
      have HZx := Lib.hid (hZ.nxt (below_one (o := .cells #[.bool (ng (mant x.d)), .slice x.A x.n x.c, .bool (ng (expo x.d)), .slice x.A' x.n' x.c'] 37)))
      have HOx := Lib.hid (hOw.alloc (.cells #[.bool (ng (mant x.d)), .slice x.A x.n x.c, .bool (ng (expo x.d)), .slice x.A' x.n' x.c'] 37))
      have hqm : (q : Int) < (m : Int) := by omega
      have hq1 : q + 1 ≤ 1048576 := by omega
      clear hOne hMore hLess hCut hxo hxk hEx hfit hb3 hrb hB3 hB hZ hOw hqL HK H1 H2
      by_cases hf : fr < q
      · have hf2 : (fr : Int) < (q : Int) := by omega
        have hf3 : ¬ fr = q := by omega
        have hf4 : ((q : Int) == (fr : Int)) = false := by simp; omega
        have hf5 : (q == fr) = false := by simp; omega
        obtain ⟨Bz, nz, cz, hz1, hz2⟩ := HZx.out
        obtain ⟨s0, s1, _⟩ := cells2 hz1
        have HWz := Lib.hid hz2
        clear hz1 hz2
        obtain ⟨x0, x1, x2, x3, _⟩ := cells4 HX.out
        have hqcap : q ≤ cap := by have := HCp.out.1; omega
        by_cases hcut : r < expo x.d
        · have HC1b := Lib.hid (fun B n c W hb h => HC1.out B n c W hb h)
          rw [cmpI_gt hcut] at HC1b
          go_wp2_with fail
          refine (HC1b.out _ _ _ _ HBx.out HWz.out).mono ?_
          rintro e w5 ⟨rfl, hb⟩
          have HB2 := Lib.hid (bz HZl.out HBx.out hb.1)
          have HZ2 := Lib.hid (HZx.out.nxt hb.1).rbx
          have HOw1 := Lib.hid (ownsRow_below HOx.out hb.1)
          have H72 := Lib.hid (HX.out.below hb.1 HX.out.lt)
          clear hb s0 s1 x0 x1 x2 x3
          have HN := Lib.hid (Blk.new w5 24 #[.slice (some ⟨g, fr * 4, none⟩) (q - fr) (q - fr)])
          have HOw2 := Lib.hid (HOw1.out.alloc (.cells #[.slice (some ⟨g, fr * 4, none⟩) (q - fr) (q - fr)] 24))
          have HBn := Lib.hid (bz_al HZl.out HB2.out (.cells #[.slice (some ⟨g, fr * 4, none⟩) (q - fr) (q - fr)] 24))
          have HZn := Lib.hid (HZ2.out.nxt (below_one (o := .cells #[.slice (some ⟨g, fr * 4, none⟩) (q - fr) (q - fr)] 24)))
          have H7n := Lib.hid (H72.out.alloc (.cells #[.slice (some ⟨g, fr * 4, none⟩) (q - fr) (q - fr)] 24))
          go_wp2_with (at_builtin; refine wpList_append_own _ rfl _ _ 78 rfl (zz + 1) 24 i0 (.slice none 0 0) 1 24 Tryz.underlying78 hi hz0 hz1 hz2 rfl (by decide) _ Ps.length vs rfl HOw2.out ⟨w5.heap.size, 0, none⟩ 1 1 [.slice (some ⟨g, fr * 4, none⟩) (q - fr) (q - fr)] rfl rfl ?c1 (by intro u hu; simp at hu; subst hu; rfl) ?c3 ?c4 ?c5 ?_)
          case c1 =>
            intro j u hj
            match j, hj with
            | 0, hj =>
              have : u = .slice (some ⟨g, fr * 4, none⟩) (q - fr) (q - fr) := by simpa using hj.symm
              subst this
              exact HN.out.cell 0
            | j + 1, hj => simp at hj
          case c3 => unfold maxLen; omega
          case c4 => omega
          case c5 => (try simp); have := HB2.out.size; have := HZl.out; omega
          intro v' w' hown' hgrow _
          have HOw3 := Lib.hid hown'
          have HB3 := Lib.hid (HBn.out.grown hgrow (by have := HBn.out.size; have := HZl.out; omega) (fun k hk => by have := (HOw2.out.lt k hk).1; omega))
          have HZ3 := Lib.hid (HZn.out.grown hgrow (fun e => by have := (HOw2.out.lt _ e).1; omega))
          have H73 := Lib.hid (blk_grown H7n.out hgrow (fun e => by have := HLt.out _ e; omega))
          clear hown' hgrow
          obtain ⟨x0, x1, x2, x3, _⟩ := cells4 H73.out
          go_wp2_with fail
          refine (HEn.out _ HB3.out).mono ?_
          rintro e wb ⟨BE, nE, cE, rfl, hE, hb⟩
          have HE := Lib.hid hE
          have HBb := Lib.hid (bz HZl.out HB3.out hb)
          have HZb := Lib.hid (HZ3.out.nxt hb)
          have HOwb := Lib.hid (ownsRow_below HOw3.out hb)
          clear hE hb x0 x1 x2 x3
          go_wp2_with fail
          refine (H64.out _).mono ?_
          rintro e wc ⟨B6, n6, c6, rfl, h6, hb⟩
          have HS6 := Lib.hid h6
          have HEc := Lib.hid (HE.out.below hb)
          have HBc := Lib.hid (bz HZl.out HBb.out hb)
          have HZc := Lib.hid (HZb.out.nxt hb)
          have HOwc := Lib.hid (ownsRow_below HOwb.out hb)
          clear h6 hb
          go_wp2_with fail
          refine (HPl.out _ _ _ _ _ _ _ HEc.out HS6.out).mono ?_
          rintro e wd ⟨B8, n8, c8, rfl, h8, hb⟩
          have HBd := Lib.hid (bz_al HZl.out (bz HZl.out HBc.out hb) (.cells #[.bool (ng (fin x.d + 64)), .slice B8 n8 c8] 35))
          have HZd := Lib.hid ((HZc.out.nxt hb).nxt (below_one (o := .cells #[.bool (ng (fin x.d + 64)), .slice B8 n8 c8] 35)))
          have HOwd := Lib.hid ((ownsRow_below HOwc.out hb).alloc (.cells #[.bool (ng (fin x.d + 64)), .slice B8 n8 c8] 35))
          have H8d := Lib.hid (Blk.new wd 35 #[.bool (ng (fin x.d + 64)), .slice B8 n8 c8])
          have HWd := Lib.hid (h8.below (below_one (o := .cells #[.bool (ng (fin x.d + 64)), .slice B8 n8 c8] 35)))
          clear h8 hb
          obtain ⟨e0, e1, _⟩ := cells2 H8d.out
          obtain ⟨az, Bz, nz, cz, hz1⟩ := HZd.out
          obtain ⟨r0, r1, f0, f1⟩ := cells2 hz1
          have hzl := hz1.lt
          clear hz1
          have HRes := Lib.hid (HZd.out.store HWd.out)
          have HBf := Lib.hid ((HBd.out.setCell (p := ⟨zz, 0, none⟩) HZz.out (.bool (ng (fin x.d + 64)))).setCell (p := ⟨zz, 1, none⟩) HZz.out (.slice B8 n8 c8))
          have HOwf := Lib.hid (own_store HOwd.out zz (.bool (ng (fin x.d + 64))) (.slice B8 n8 c8))
          go_wp2_with fail
          go_roundw
          case rel => exact ⟨q + 1, q, Ps ++ [(L.drop fr).take (q - fr)], vs ++ [.slice (some ⟨g, fr * 4, none⟩) (q - fr) (q - fr)], fin x.d + 64, by omega, by simp; omega, rfl, by go_num, Lib.hid (⟨HCut.out hf hcut, HPsl.out.snoc ⟨_, _, by rw [List.length_take, List.length_drop, HM.out, Nat.min_eq_left (by omega)], dl_sub HDl.out fr (q - fr) (by rw [HM.out]; omega)⟩⟩), HRes.out, by rw [List.length_append, List.length_singleton]; exact HOwf.out, HBf.out⟩
          case measure => simp [intOf]; omega
        · have hcz := cmpI_le hcut
          obtain ⟨zc, hzc⟩ : ∃ zc, Lib.compareInt (expo x.d) r = zc := ⟨_, rfl⟩
          rw [hzc] at HC1 hcz
          have hcz2 : ¬ 0 < zc := by omega
          go_wp2_with fail
          refine (HC1.out _ _ _ _ HBx.out HWz.out).mono ?_
          rintro e w5 ⟨rfl, hb⟩
          have HB2 := Lib.hid (bz HZl.out HBx.out hb.1)
          have HZ2 := Lib.hid (HZx.out.nxt hb.1)
          have HOw2 := Lib.hid (ownsRow_below HOx.out hb.1)
          have H72 := Lib.hid (HX.out.below hb.1 HX.out.lt)
          clear hb s0 s1 x0 x1 x2 x3 hzc
          by_cases hmr : r < fin x.d + 64
          · rw [cmpI_gt hmr] at HC2
            obtain ⟨x0, x1, x2, x3, _⟩ := cells4 H72.out
            go_wp2_with fail
            refine (HEn.out _ HB2.out).mono ?_
            rintro e wb ⟨BE, nE, cE, rfl, hE, hb⟩
            have HE := Lib.hid hE
            have HBb := Lib.hid (bz HZl.out HB2.out hb)
            have HZb := Lib.hid (HZ2.out.nxt hb)
            have HOwb := Lib.hid (ownsRow_below HOw2.out hb)
            clear hE hb x0 x1 x2 x3
            go_wp2_with fail
            refine (H64.out _).mono ?_
            rintro e wc ⟨B6, n6, c6, rfl, h6, hb⟩
            have HS6 := Lib.hid h6
            have HEc := Lib.hid (HE.out.below hb)
            have HBc := Lib.hid (bz HZl.out HBb.out hb)
            have HZc := Lib.hid (HZb.out.nxt hb)
            have HOwc := Lib.hid (ownsRow_below HOwb.out hb)
            clear h6 hb
            go_wp2_with fail
            refine (HPl.out _ _ _ _ _ _ _ HEc.out HS6.out).mono ?_
            rintro e wd ⟨B8, n8, c8, rfl, h8, hb⟩
            have HBd := Lib.hid (bz_al HZl.out (bz HZl.out HBc.out hb) (.cells #[.bool (ng (fin x.d + 64)), .slice B8 n8 c8] 35))
            have HZd := Lib.hid ((HZc.out.nxt hb).nxt (below_one (o := .cells #[.bool (ng (fin x.d + 64)), .slice B8 n8 c8] 35)))
            have HOwd := Lib.hid ((ownsRow_below HOwc.out hb).alloc (.cells #[.bool (ng (fin x.d + 64)), .slice B8 n8 c8] 35))
            have H8d := Lib.hid (Blk.new wd 35 #[.bool (ng (fin x.d + 64)), .slice B8 n8 c8])
            have HWd := Lib.hid (h8.below (below_one (o := .cells #[.bool (ng (fin x.d + 64)), .slice B8 n8 c8] 35)))
            clear h8 hb
            obtain ⟨e0, e1, _⟩ := cells2 H8d.out
            obtain ⟨Bz, nz, cz, hz1, hz2⟩ := HZd.out
            obtain ⟨r0, r1, _⟩ := cells2 hz1
            have HWz := Lib.hid hz2
            clear hz1 hz2
            go_wp2_with fail
            refine (HC2.out _ _ _ _ _ _ _ HWd.out HWz.out).mono ?_
            rintro e we ⟨rfl, hb⟩
            have HBe := Lib.hid (bz HZl.out HBd.out hb.1)
            have HZe := Lib.hid (HZd.out.nxt hb.1)
            have HOwe := Lib.hid (ownsRow_below HOwd.out hb.1)
            have H8e := Lib.hid (H8d.out.below hb.1 H8d.out.lt)
            have HWe := Lib.hid (HWd.out.below hb.1)
            clear hb r0 r1 e0 e1
            obtain ⟨e0, e1, _⟩ := cells2 H8e.out
            obtain ⟨Bz, nz, cz, hz1, _⟩ := HZe.out
            obtain ⟨r0, r1, f0, f1⟩ := cells2 hz1
            have hzl := hz1.lt
            clear hz1
            have HRes := Lib.hid (HZe.out.store HWe.out)
            have HBf := Lib.hid ((HBe.out.setCell (p := ⟨zz, 0, none⟩) HZz.out (.bool (ng (fin x.d + 64)))).setCell (p := ⟨zz, 1, none⟩) HZz.out (.slice B8 n8 c8))
            have HOwf := Lib.hid (own_store HOwe.out zz (.bool (ng (fin x.d + 64))) (.slice B8 n8 c8))
            go_wp2_with fail
            go_roundw
            case rel => exact ⟨q + 1, fr, Ps, vs, fin x.d + 64, by omega, by omega, rfl, by go_num, Lib.hid (⟨HMore.out hf hmr, HPsl.out⟩), HRes.out, HOwf.out, HBf.out⟩
            case measure => simp [intOf]; omega
          · have hcy := cmpI_le hmr
            obtain ⟨zd, hzd⟩ : ∃ zd, Lib.compareInt (fin x.d + 64) r = zd := ⟨_, rfl⟩
            rw [hzd] at HC2 hcy
            have hcy2 : ¬ 0 < zd := by omega
            clear hzd
            obtain ⟨x0, x1, x2, x3, _⟩ := cells4 H72.out
            go_wp2_with fail
            refine (HEn.out _ HB2.out).mono ?_
            rintro e wb ⟨BE, nE, cE, rfl, hE, hb⟩
            have HE := Lib.hid hE
            have HBb := Lib.hid (bz HZl.out HB2.out hb)
            have HZb := Lib.hid (HZ2.out.nxt hb)
            have HOwb := Lib.hid (ownsRow_below HOw2.out hb)
            clear hE hb x0 x1 x2 x3
            go_wp2_with fail
            refine (H64.out _).mono ?_
            rintro e wc ⟨B6, n6, c6, rfl, h6, hb⟩
            have HS6 := Lib.hid h6
            have HEc := Lib.hid (HE.out.below hb)
            have HBc := Lib.hid (bz HZl.out HBb.out hb)
            have HZc := Lib.hid (HZb.out.nxt hb)
            have HOwc := Lib.hid (ownsRow_below HOwb.out hb)
            clear h6 hb
            go_wp2_with fail
            refine (HPl.out _ _ _ _ _ _ _ HEc.out HS6.out).mono ?_
            rintro e wd ⟨B8, n8, c8, rfl, h8, hb⟩
            have HBd := Lib.hid (bz_al HZl.out (bz HZl.out HBc.out hb) (.cells #[.bool (ng (fin x.d + 64)), .slice B8 n8 c8] 35))
            have HZd := Lib.hid ((HZc.out.nxt hb).nxt (below_one (o := .cells #[.bool (ng (fin x.d + 64)), .slice B8 n8 c8] 35)))
            have HOwd := Lib.hid ((ownsRow_below HOwc.out hb).alloc (.cells #[.bool (ng (fin x.d + 64)), .slice B8 n8 c8] 35))
            have H8d := Lib.hid (Blk.new wd 35 #[.bool (ng (fin x.d + 64)), .slice B8 n8 c8])
            have HWd := Lib.hid (h8.below (below_one (o := .cells #[.bool (ng (fin x.d + 64)), .slice B8 n8 c8] 35)))
            clear h8 hb
            obtain ⟨e0, e1, _⟩ := cells2 H8d.out
            obtain ⟨Bz, nz, cz, hz1, hz2⟩ := HZd.out
            obtain ⟨r0, r1, _⟩ := cells2 hz1
            have HWz := Lib.hid hz2
            clear hz1 hz2
            go_wp2_with fail
            refine (HC2.out _ _ _ _ _ _ _ HWd.out HWz.out).mono ?_
            rintro e we ⟨rfl, hb⟩
            have HBe := Lib.hid (bz HZl.out HBd.out hb.1)
            have HZe := Lib.hid (HZd.out.nxt hb.1)
            have HOwe := Lib.hid (ownsRow_below HOwd.out hb.1)
            have H8e := Lib.hid (H8d.out.below hb.1 H8d.out.lt)
            have HWe := Lib.hid (HWd.out.below hb.1)
            clear hb r0 r1 e0 e1
            obtain ⟨e0, e1, _⟩ := cells2 H8e.out
            have HRes := HZe
            have HBf := HBe
            have HOwf := Lib.hid HOwe.out
            go_wp2_with fail
            go_roundw
            case rel => exact ⟨q + 1, fr, Ps, vs, r, by omega, by omega, rfl, by go_num, Lib.hid (⟨HLess.out hf hmr, HPsl.out⟩), HRes.out, HOwf.out, HBf.out⟩
            case measure => simp [intOf]; omega
      · have hf2 : ¬ (fr : Int) < (q : Int) := by omega
        have hf4 : ((q : Int) == (fr : Int)) = true := by simp; omega
        have hf5 : (q == fr) = true := by simp; omega
        have HB2 := HBx
        have HZ2 := Lib.hid HZx.out.rbx
        have HOw2 := HOx
        have H72 := HX
        obtain ⟨x0, x1, x2, x3, _⟩ := cells4 H72.out
        go_wp2_with fail
        refine (HEn.out _ HB2.out).mono ?_
        rintro e wb ⟨BE, nE, cE, rfl, hE, hb⟩
        have HE := Lib.hid hE
        have HBb := Lib.hid (bz HZl.out HB2.out hb)
        have HZb := Lib.hid (HZ2.out.nxt hb)
        have HOwb := Lib.hid (ownsRow_below HOw2.out hb)
        clear hE hb x0 x1 x2 x3
        go_wp2_with fail
        refine (H64.out _).mono ?_
        rintro e wc ⟨B6, n6, c6, rfl, h6, hb⟩
        have HS6 := Lib.hid h6
        have HEc := Lib.hid (HE.out.below hb)
        have HBc := Lib.hid (bz HZl.out HBb.out hb)
        have HZc := Lib.hid (HZb.out.nxt hb)
        have HOwc := Lib.hid (ownsRow_below HOwb.out hb)
        clear h6 hb
        go_wp2_with fail
        refine (HPl.out _ _ _ _ _ _ _ HEc.out HS6.out).mono ?_
        rintro e wd ⟨B8, n8, c8, rfl, h8, hb⟩
        have HBd := Lib.hid (bz_al HZl.out (bz HZl.out HBc.out hb) (.cells #[.bool (ng (fin x.d + 64)), .slice B8 n8 c8] 35))
        have HZd := Lib.hid ((HZc.out.nxt hb).nxt (below_one (o := .cells #[.bool (ng (fin x.d + 64)), .slice B8 n8 c8] 35)))
        have HOwd := Lib.hid ((ownsRow_below HOwc.out hb).alloc (.cells #[.bool (ng (fin x.d + 64)), .slice B8 n8 c8] 35))
        have H8d := Lib.hid (Blk.new wd 35 #[.bool (ng (fin x.d + 64)), .slice B8 n8 c8])
        have HWd := Lib.hid (h8.below (below_one (o := .cells #[.bool (ng (fin x.d + 64)), .slice B8 n8 c8] 35)))
        clear h8 hb
        obtain ⟨e0, e1, _⟩ := cells2 H8d.out
        obtain ⟨az, Bz, nz, cz, hz1⟩ := HZd.out
        obtain ⟨r0, r1, f0, f1⟩ := cells2 hz1
        have hzl := hz1.lt
        clear hz1
        have HRes := Lib.hid (HZd.out.store HWd.out)
        have HBf := Lib.hid ((HBd.out.setCell (p := ⟨zz, 0, none⟩) HZz.out (.bool (ng (fin x.d + 64)))).setCell (p := ⟨zz, 1, none⟩) HZz.out (.slice B8 n8 c8))
        have HOwf := Lib.hid (own_store HOwd.out zz (.bool (ng (fin x.d + 64))) (.slice B8 n8 c8))
        go_wp2_with fail
        go_roundw
        case rel => exact ⟨q + 1, fr, Ps, vs, fin x.d + 64, by omega, by omega, rfl, by go_num, Lib.hid (⟨HOne.out hf, HPsl.out⟩), HRes.out, HOwf.out, HBf.out⟩
        case measure => simp [intOf]; omega
    · obtain rfl : q = m := by omega
      have hqm : ¬ (q : Int) < (q : Int) := by omega
      have hfq := HI.out.1.2.1
      have hdone := HI.out.1.done HM.out.symm
      have HPs := Lib.hid (show Psl w3 (vs ++ [.slice (some ⟨g, fr * 4, none⟩) (q - fr) (cap - fr)]) (Ps ++ [L.drop fr]) from HI.out.2.snoc ⟨_, _, by rw [List.length_drop, HM.out], dl_end HDl.out fr (by rw [HM.out]; exact hfq)⟩)
      have HDo := Lib.hid hdone
      have hcf : cap = fr → fr = 0 := fun e => by
        have h1 := HI.out.1.2.2.1
        have h2 := HCp.out.1
        omega
      have hqc := HCp.out.1
      have hfc : fr ≤ cap := by omega
      have hfi : (fr : Int) ≤ (q : Int) := by omega
      have hfj : (q : Int) ≤ (cap : Int) := by omega
      have hfk : (fr : Int) ≤ (cap : Int) := by omega
      have hf0 : (0 : Int) ≤ (fr : Int) := by omega
      have HOw1 := Lib.hid hOw
      have HB2 := Lib.hid hB
      have HN := Lib.hid (Blk.new wr 24 #[.slice (some ⟨g, fr * 4, none⟩) (q - fr) (cap - fr)])
      have HOw2 := Lib.hid (HOw1.out.alloc (.cells #[.slice (some ⟨g, fr * 4, none⟩) (q - fr) (cap - fr)] 24))
      have HBn := Lib.hid (bz_al HZl.out HB2.out (.cells #[.slice (some ⟨g, fr * 4, none⟩) (q - fr) (cap - fr)] 24))
      clear hdone hOw hB
      by_cases hce : cap = fr
      · have hf9 := hcf hce
        have hq0 : q = 0 := by omega
        have hc0 : cap = 0 := by omega
        clear hce hcf
        subst hf9
        subst hc0
        subst hq0
        have HN := Lib.hid (Blk.new wr 24 #[.slice (some ⟨g, 0, none⟩) 0 0])
        have HOw2 := Lib.hid (HOw1.out.alloc (.cells #[.slice (some ⟨g, 0, none⟩) 0 0] 24))
        have HBn := Lib.hid (bz_al HZl.out HB2.out (.cells #[.slice (some ⟨g, 0, none⟩) 0 0] 24))
        have HPs0 := Lib.hid (show Psl w3 (vs ++ [.slice (some ⟨g, 0, none⟩) 0 0]) (Ps ++ [L.drop 0]) from HPs.out)
        go_wp2_with (at_builtin; refine wpList_append_own _ rfl _ _ 78 rfl (zz + 1) 24 i0 (.slice none 0 0) 1 24 Tryz.underlying78 hi hz0 hz1 hz2 rfl (by decide) _ Ps.length vs rfl HOw2.out ⟨wr.heap.size, 0, none⟩ 1 1 [.slice (some ⟨g, 0, none⟩) 0 0] rfl rfl ?k1 (by intro u hu; simp at hu; subst hu; rfl) ?k3 ?k4 ?k5 ?_)
        case k3 => unfold maxLen; omega
        case k4 => omega
        case k5 => (try simp); have := HB2.out.size; have := HZl.out; omega
        intro v' w' hown' hgrow _
        have hres := HBn.out.grown hgrow (by have := HBn.out.size; have := HZl.out; omega) (fun k hk => by have := (HOw2.out.lt k hk).1; omega)
        obtain ⟨A9, d9, rfl, hrow⟩ := own_rowP hown'
        have HRow := Lib.hid hrow
        have HRes := Lib.hid hres
        clear hown' hgrow hrow hres
        go_wp2_with fail
        go_ret
        have hb9 : Below w3.heap.size w3 w' := by rw [HZl.out]; exact HRes.out
        exact ⟨A9, d9, _, _, L, by rw [List.length_append]; rfl, HRow.out, HPs0.out.below hb9, by rw [List.length_append, List.length_singleton, HM.out]; omega, HDo.out, HRi.out, HPm.out, below_nx HW3.out hb9⟩
      · have hce2 : ¬ fr = cap := fun e => hce e.symm
        clear hcf
        go_wp2_with (at_builtin; refine wpList_append_own _ rfl _ _ 78 rfl (zz + 1) 24 i0 (.slice none 0 0) 1 24 Tryz.underlying78 hi hz0 hz1 hz2 rfl (by decide) _ Ps.length vs rfl HOw2.out ⟨wr.heap.size, 0, none⟩ 1 1 [.slice (some ⟨g, fr * 4, none⟩) (q - fr) (cap - fr)] rfl rfl ?d1 (by intro u hu; simp at hu; subst hu; rfl) ?d3 ?d4 ?d5 ?_)
        case d3 => unfold maxLen; omega
        case d4 => omega
        case d5 => (try simp); have := HB2.out.size; have := HZl.out; omega
        intro v' w' hown' hgrow _
        have hres := HBn.out.grown hgrow (by have := HBn.out.size; have := HZl.out; omega) (fun k hk => by have := (HOw2.out.lt k hk).1; omega)
        obtain ⟨A9, d9, rfl, hrow⟩ := own_rowP hown'
        have HRow := Lib.hid hrow
        have HRes := Lib.hid hres
        clear hown' hgrow hrow hres
        go_wp2_with fail
        go_ret
        have hb9 : Below w3.heap.size w3 w' := by rw [HZl.out]; exact HRes.out
        exact ⟨A9, d9, _, _, L, by rw [List.length_append]; rfl, HRow.out, HPs.out.below hb9, by rw [List.length_append, List.length_singleton, HM.out]; omega, HDo.out, HRi.out, HPm.out, below_nx HW3.out hb9⟩

end Go.Proofs.YtbkbeglmfhaleaaGreatDoor
/-
The program's parts of no numbers. Conditions: none.
-/
set_option linter.unusedVariables false
set_option linter.unusedSimpArgs false
namespace Go.Proofs.YtbkbeglmfhaleaaGreatDoor
open Go.RowKit
attribute [local go_sem ↓] Go.wp_at_zero Go.wp_at_succ

theorem ins_nil (F : Value) (w : World) : Calls Tryz.prog 127 #[.slice none 0 0, .int .i64 0, .int .i64 0, F] w fun e w' => e = .returned (.tuple #[]) ∧ w = w' := by
  obtain ⟨z, hz⟩ : ∃ z : Int, z = 1 := ⟨_, rfl⟩
  go_enter Tryz.func127, Tryz.ntmps127
  go_wp2_with fail
  go_loopw [8] (fun i wr => i = .int .i64 1 ∧ wr = w) (fun _ _ => 0)
  case atStart => exact ⟨rfl, rfl⟩
  case round =>
    obtain ⟨rfl, rfl⟩ := hrel
    go_wp2_with fail
    go_end0
    exact ⟨rfl, rfl⟩
set_option maxRecDepth 100000 in
set_option maxHeartbeats 2000000 in
theorem pdq_nil (F : Value) (q : Int) (w : World) : Calls Tryz.prog 106 #[.slice none 0 0, .int .i64 0, .int .i64 0, .int .i64 q, F] w fun e w' => e = .returned (.tuple #[]) ∧ w = w' := by
  go_enter Tryz.func106, Tryz.ntmps106
  go_wp2_with fail
  go_loopw [1, 2] (fun i j wr => i = .int .i64 0 ∧ j = .int .i64 0 ∧ wr = w) (fun _ _ _ => 0)
  case atStart => exact ⟨rfl, rfl, rfl⟩
  case round =>
    obtain ⟨rfl, rfl, rfl⟩ := hrel
    go_wp2_with fail
    refine (ins_nil F _).mono ?_
    rintro e w1 ⟨rfl, rfl⟩
    go_wp2_with fail
    (try simp only [Exit.inBlock, Exit.then])
    refine bodyPost_ret (results_none rfl _ _ _) rfl ?_
    exact ⟨rfl, rfl⟩
theorem sort_nil (F : Value) (w : World) : Calls Tryz.prog 83 #[.slice none 0 0, F] w fun e w' => e = .returned (.tuple #[]) ∧ w = w' := by
  have HL := Lib.hid (fun W => Any.bits_Len Tryz.bitsLenD 0 W (by omega) (by omega))
  go_enter Tryz.func83, Tryz.ntmps83
  go_wp2_with fail
  refine (HL.out _).mono ?_
  rintro e w1 ⟨rfl, rfl⟩
  go_wp2_with fail
  refine (pdq_nil F _ _).mono ?_
  rintro e w2 ⟨rfl, rfl⟩
  go_wp2_with fail
  go_end0
  exact ⟨rfl, rfl⟩
theorem idx_nil (F : Value) (w : World) : Calls Tryz.prog 86 #[.slice none 0 0, F] w fun e w' => e = .returned (.int .i64 (-1)) ∧ w = w' := by
  go_enter Tryz.func86, Tryz.ntmps86
  go_wp2_with fail
  go_loopw [8] (fun i wr => i = .int .i64 0 ∧ wr = w) (fun _ _ => 0)
  case atStart => exact ⟨rfl, rfl⟩
  case round =>
    obtain ⟨rfl, rfl⟩ := hrel
    go_wp2_with fail
    go_ret
    exact ⟨rfl, rfl⟩
theorem del_nil (F : Value) (w : World) : Calls Tryz.prog 80 #[.slice none 0 0, F] w fun e w' => e = .returned (.slice none 0 0) ∧ w = w' := by
  have HI := Lib.hid (idx_nil F w)
  go_enter Tryz.func80, Tryz.ntmps80
  go_wp2_with fail
  refine HI.out.mono ?_
  rintro e w1 ⟨rfl, rfl⟩
  go_wp2_with fail
  go_ret
  exact ⟨rfl, rfl⟩
set_option maxRecDepth 100000 in
set_option maxHeartbeats 2000000 in
theorem pparts_nil (w : World) : Calls Tryz.prog 47 #[.slice none 0 0] w (PartR w []) := by
  obtain ⟨i0, hi, hzz⟩ := Option.map_eq_some_iff.1 info_P
  simp only [Prod.mk.injEq] at hzz
  obtain ⟨hz0, hz1, hz2⟩ := hzz
  have HCl := Lib.hid (AnyE.slices_Clone_nil Tryz.cloneD 0 0 w)
  go_enter Tryz.func47, Tryz.ntmps47
  go_wp2_with fail
  refine HCl.out.mono ?_
  rintro e w1 ⟨rfl, rfl⟩
  go_wp2_with fail
  refine (del_nil _ _).mono ?_
  rintro e w2 ⟨rfl, rfl⟩
  go_wp2_with fail
  refine (sort_nil _ _).mono ?_
  rintro e w3 ⟨rfl, rfl⟩
  obtain ⟨zz, hzz⟩ : ∃ zz, w1.heap.size = zz := ⟨_, rfl⟩
  have HZl := Lib.hid hzz
  have HB0 := Lib.hid (show Below zz w1 (w1.alloc (.cells #[.bool false, .slice none 0 0] 35)) from (Below.refl _ _).alloc (Nat.le_of_eq hzz.symm) _)
  clear hzz
  go_wp2_with fail
  go_loopw [3, 5, 16] (fun l f i wr => l = .slice none 0 0 ∧ f = .int .i64 0 ∧ i = .int .i64 0 ∧ Below zz w1 wr) (fun _ _ _ _ => 0)
  case atStart => exact ⟨rfl, rfl, rfl, HB0.out⟩
  case round =>
    obtain ⟨rfl, rfl, rfl, hB⟩ := hrel
    have HB2 := Lib.hid hB
    have HN := Lib.hid (Blk.new wr 24 #[.slice none 0 0])
    have HBn := Lib.hid (bz_al HZl.out HB2.out (.cells #[.slice none 0 0] 24))
    have HO := Lib.hid (show (wr.alloc (.cells #[.slice none 0 0] 24)).ownsRow zz 24 1 (.slice none 0 0) 0 [] from ⟨rfl, .inl ⟨rfl, rfl⟩⟩)
    clear hB
    go_wp2_with (at_builtin; refine wpList_append_own _ rfl _ _ 78 rfl zz 24 i0 (.slice none 0 0) 1 24 Tryz.underlying78 hi hz0 hz1 hz2 rfl (by decide) _ 0 [] rfl HO.out ⟨wr.heap.size, 0, none⟩ 1 1 [.slice none 0 0] rfl rfl ?k1 (by intro u hu; simp at hu; subst hu; rfl) ?k3 ?k4 ?k5 ?_)
    case k1 =>
      intro j u hj
      match j, hj with
      | 0, hj =>
        have : u = .slice none 0 0 := by simpa using hj.symm
        subst this
        exact HN.out.cell 0
      | j + 1, hj => simp at hj
    case k3 => unfold maxLen; omega
    case k4 => omega
    case k5 => (try simp); have := HB2.out.size; have := HZl.out; omega
    intro v' w' hown' hgrow _
    have hres := HBn.out.grown hgrow (by have := HBn.out.size; have := HZl.out; omega) (fun k hk => by simp [Value.ownBlock] at hk)
    obtain ⟨A9, d9, rfl, hrow⟩ := own_rowP hown'
    have HRow := Lib.hid hrow
    have HRes := Lib.hid hres
    clear hown' hgrow hrow hres
    go_wp2_with fail
    go_ret
    have hb9 : Below w1.heap.size w1 w' := by rw [HZl.out]; exact HRes.out
    exact ⟨A9, d9, [.slice none 0 0], [[]], [], rfl, HRow.out, ⟨rfl, fun q h1 h2 => by
      have : q = 0 := by simpa using h1
      subst this
      exact ⟨none, 0, rfl, .inl rfl⟩⟩, by simp, ⟨by simp [dds], by simp, rfl⟩, by simp [dds, Rising], .refl _, hb9⟩
end Go.Proofs.YtbkbeglmfhaleaaGreatDoor
/-
A list of structs of the call's own, whose room holds noughts: one more is appended, and what lies elsewhere stays. Conditions: as each says.
-/
set_option linter.unusedVariables false
set_option linter.unusedSimpArgs false
namespace Go.Proofs.YtbkbeglmfhaleaaGreatDoor
open Go.RowKit

/-- A list of the call's own: its elements' cells lie at the beginning of a block; the room behind them holds a zero element's cells. -/
def OwZ (w : World) (base : Nat) (e : TypeId) (z : Array Value) (v : Value) (n : Nat) (xs : List Value) : Prop :=
  xs.length = n * z.size ∧ ((v = .slice none 0 0 ∧ n = 0) ∨ ∃ g cap cur, v = .slice (some ⟨g, 0, none⟩) n cap ∧ base ≤ g ∧ Blk w g e cur ∧ n ≤ cap ∧ cap ≤ maxLen ∧ cur.size = cap * z.size ∧ cur.toList.take (n * z.size) = xs ∧ ∀ (j : Nat) u, n * z.size ≤ j → cur[j]? = some u → u ∈ z.toList)
theorem OwZ.nil (w : World) (base : Nat) (e : TypeId) (z : Array Value) : OwZ w base e z (.slice none 0 0) 0 [] := ⟨by simp, .inl ⟨rfl, rfl⟩⟩
/-- What an append leaves as it was: all cells but those of the list's own room. -/
def AppK (w w' : World) (v : Value) (k : Nat) : Prop := ∀ b o u, w.cell? ⟨b, o, none⟩ = some u → (v.ownBlock = some b → o < k) → w'.cell? ⟨b, o, none⟩ = some u
section
variable {w w' : World} {base : Nat} {e : TypeId} {z : Array Value} {v : Value} {n : Nat} {xs : List Value}
theorem OwZ.lt (h : OwZ w base e z v n xs) : ∀ k, v.ownBlock = some k → base ≤ k ∧ k < w.heap.size := by
  intro k hk
  rcases h.2 with ⟨rfl, _⟩ | ⟨g, cap, cur, rfl, hb, hg, _⟩
  · simp [Value.ownBlock] at hk
  · simp [Value.ownBlock] at hk
    subst hk
    exact ⟨hb, hg.lt⟩
theorem OwZ.below (h : OwZ w base e z v n xs) (hb : Below w.heap.size w w') : OwZ w' base e z v n xs := by
  refine ⟨h.1, h.2.imp id ?_⟩
  rintro ⟨g, cap, cur, h1, h2, h3, h4⟩
  exact ⟨g, cap, cur, h1, h2, h3.below hb h3.lt, h4⟩
theorem OwZ.other (h : OwZ w base e z v n xs) {p : Addr} (hp : p.block < base) (u : Value) : OwZ (w.setCell p u) base e z v n xs := by
  refine ⟨h.1, h.2.imp id ?_⟩
  rintro ⟨g, cap, cur, h1, h2, h3, h4⟩
  exact ⟨g, cap, cur, h1, h2, h3.other (by omega) u, h4⟩
theorem OwZ.row (h : OwZ w base e z v n xs) : ∃ A c, v = .slice A n c ∧ n ≤ c ∧ Row w A xs := by
  obtain ⟨h0, ⟨rfl, rfl⟩ | ⟨g, cap, cur, h1, h2, h3, h4, h5, h6, h7, _⟩⟩ := h
  · exact ⟨none, 0, rfl, Nat.le_refl _, .inl (List.length_eq_zero_iff.1 (by omega))⟩
  · refine ⟨_, cap, h1, h4, .inr ⟨g, 0, rfl, fun i u hi => ?_⟩⟩
    rw [Nat.zero_add, h3.cell i]
    rw [← h7, List.getElem?_take] at hi
    split at hi
    · rw [← Array.getElem?_toList]; exact hi
    · cases hi
/-- Cells of the list's room are a zero element's. -/
theorem OwZ.spare (h : OwZ w base e z v n xs) {b o : Nat} {u : Value} (hv : v.ownBlock = some b) (hc : w.cell? ⟨b, o, none⟩ = some u) (ho : n * z.size ≤ o) : u ∈ z.toList := by
  obtain ⟨h0, ⟨rfl, rfl⟩ | ⟨g, cap, cur, rfl, h2, h3, h4, h5, h6, h7, h8⟩⟩ := h
  · simp [Value.ownBlock] at hv
  · simp [Value.ownBlock] at hv
    subst hv
    rw [h3.cell o] at hc
    exact h8 o u ho hc
/-- A row whose last cell isn't a zero element's stays as it is. -/
theorem AppK.row (hk : AppK w w' v (n * z.size)) (h : OwZ w base e z v n xs) {A : Option Addr} {us : List Value} (hR : Row w A us) (hl : us = [] ∨ ∃ u, us.getLast? = some u ∧ u ∉ z.toList) : Row w' A us := by
  rcases hR with rfl | ⟨b, o, rfl, hc⟩
  · exact .inl rfl
  · rcases hl with rfl | ⟨ul, hul, hnz⟩
    · exact .inl rfl
    · refine .inr ⟨b, o, rfl, fun i u hi => hk b (o + i) u (hc i u hi) fun hv => ?_⟩
      have hlen : i < us.length := (List.getElem?_eq_some_iff.1 hi).1
      rw [List.getLast?_eq_getElem?] at hul
      have hlast := hc _ _ hul
      rcases Nat.lt_or_ge (o + (us.length - 1)) (n * z.size) with h1 | h1
      · omega
      · exact absurd (h.spare hv hlast h1) hnz
end
theorem zeroCells_mem (z : Array Value) (k j : Nat) (u : Value) (hz : 0 < z.size) (h : (Builtin.zeroCells z k)[j]? = some u) : u ∈ z.toList := by
  unfold Builtin.zeroCells at h
  rw [Array.getElem?_map] at h
  obtain ⟨i, _, rfl⟩ := Option.map_eq_some_iff.1 h
  have hlt : i % z.size < z.size := Nat.mod_lt _ hz
  rw [getElem!_pos z _ hlt]
  exact Array.getElem_mem_toList hlt
section
variable {P : Program}
/-- One more element. -/
theorem run_append_z (w : World) (base : Nat) (t ty e : TypeId) (i : TypeInfo) (z : Value) (ht : P.underlying t = some (.slice e)) (hi : P.info? e = some i) (hz : i.zero = some z) (hzs : z.cells.size = i.size) (hsz : 0 < i.size)
    (v : Value) (n : Nat) (xs : List Value) (hown : OwZ w base e z.cells v n xs) (a : Addr) (c : Nat) (news : List Value) (hl : news.length = i.size) (hnews : ∀ (j : Nat) u, news[j]? = some u → w.cell? (a.add j) = some u) (h1 : ∀ u ∈ news, u.oneCell' = true)
    (hn : n < 1048576) (hby : i.bytes ≤ 1048576) (hbase : base ≤ w.heap.size) :
    ∃ v' w', (Builtin.append_ #[t, t] ty #[v, .slice (some a) 1 c]).run P w = .ok v' w' ∧ OwZ w' base e z.cells v' (n + 1) (xs ++ news) ∧ w.grownBy w' v.ownBlock ∧ AppK w w' v (n * z.cells.size) := by
  have hl1 : news.length = 1 * i.size := by omega
  have hbb : (n + 1) * i.bytes ≤ 140737488355328 := by
    have : (n + 1) * i.bytes ≤ 1048576 * 1048576 := Nat.mul_le_mul hn hby
    omega
  have hlen : (xs ++ news).length = (n + 1) * z.cells.size := by rw [List.length_append, hown.1, hl, hzs, Nat.add_mul]; omega
  -- a new block
  have hnew : ∀ old, OwZ (w.drew.alloc (.cells (xs.toArray ++ news.toArray ++ Builtin.zeroCells z.cells (grownCap w (n + 1) old e - (n + 1))) e)) base e z.cells (.slice (some ⟨w.heap.size, 0, none⟩) (n + 1) (grownCap w (n + 1) old e)) (n + 1) (xs ++ news) := fun old => by
    have hge := grownCap_ge w (n + 1) old e
    have hcm : grownCap w (n + 1) old e ≤ maxLen := grownCap_le_maxLen w (n + 1) old e (by unfold maxLen; omega)
    have hsize : (xs.toArray ++ news.toArray).size = (n + 1) * z.cells.size := by
      rw [Array.size_append, List.size_toArray, List.size_toArray, ← List.length_append]; exact hlen
    refine ⟨hlen, .inr ⟨w.heap.size, _, _, rfl, hbase, Blk.new_ w.drew e _ _ rfl, hge, hcm, ?_, ?_, ?_⟩⟩
    · rw [Array.size_append, hsize, size_zeroCells, ← Nat.add_mul]
      congr 1
      omega
    · rw [Array.toList_append, Array.toList_append, ← hlen]
      exact List.take_left
    · intro j u hj hu
      rw [Array.getElem?_append_right (by rw [hsize]; exact hj)] at hu
      exact zeroCells_mem _ _ _ _ (by omega) hu
  have hkeep : ∀ (o : Obj) (vv : Value) (k : Nat), AppK w (w.drew.alloc o) vv k := fun o vv k b q u hc _ => cell_below hc ((Below.refl w.heap.size w).drew.alloc (Nat.le_refl _) o)
  have hgr : ∀ (o : Obj) (r : Option Nat), w.grownBy (w.drew.alloc o) r := fun o r => ⟨rfl, rfl, rfl, by simp, fun k hk _ => ((Below.refl w.heap.size w).drew.alloc (Nat.le_refl _) o).block k hk⟩
  rcases hown.2 with ⟨rfl, rfl⟩ | ⟨g, cap, cur, rfl, hbg, hg, hnc, hcm, hcs, htake, hsp⟩
  · have hx : xs = [] := List.length_eq_zero_iff.1 (by simpa using hown.1)
    subst hx
    have hr := run_append_nil (P := P) w t ty e i z ht hi hz a 1 c news hl1 hnews (by omega) (by omega) (by omega)
    have h2 := hnew 0
    simp only [Nat.zero_add, List.nil_append, Array.empty_append] at h2
    exact ⟨_, _, hr, h2, hgr _ _, hkeep _ _ _⟩
  · by_cases hroom : n + 1 ≤ cap
    · have hfit : n * i.size + news.length ≤ cur.size := by
        rw [hl, hcs, hzs]
        have := Nat.mul_le_mul_right i.size hroom
        rw [Nat.add_mul] at this
        omega
      have hr := run_append_room (P := P) w t ty e i ht hi g n cap cur hg a 1 c news hl1 hnews h1 hroom hfit
      have hcl : cur.toList.length = cur.size := by simp
      have htl : (cur.toList.take (n * i.size)).length = n * i.size := by rw [List.length_take, hcl]; omega
      refine ⟨_, _, hr, ⟨hlen, .inr ⟨g, cap, _, rfl, hbg, setRow_heap w g cur _ e _ hg, hroom, hcm, ?_, ?_, ?_⟩⟩, ⟨rfl, rfl, rfl, by simp, fun k _ hk => setRow_other w g k _ (fun e => hk (by simp [Value.ownBlock, e]))⟩, ?_⟩
      · simp only [List.size_toArray, List.length_append, List.length_take, List.length_drop, hcl]
        omega
      · rw [← hzs, htake, ← hlen]
        exact List.take_left
      · intro j u hj hu
        rw [List.getElem?_toArray, List.getElem?_append_right (by rw [List.length_append, htl, hl]; rw [hzs, Nat.add_mul] at hj; omega), List.getElem?_drop] at hu
        rw [List.length_append, htl, hl] at hu
        rw [hzs, Nat.add_mul] at hj
        rw [show n * i.size + i.size + (j - (n * i.size + i.size)) = j by omega, Array.getElem?_toList] at hu
        exact hsp j u (by rw [hzs]; omega) hu
      · intro b o u hc ho
        by_cases hb : b = g
        · subst hb
          have ho2 := ho rfl
          rw [hzs] at ho2
          have hB2 : Blk (w.setRow b (cur.toList.take (n * i.size) ++ news ++ cur.toList.drop (n * i.size + news.length)).toArray) b e (cur.toList.take (n * i.size) ++ news ++ cur.toList.drop (n * i.size + news.length)).toArray := setRow_heap w b cur _ e _ hg
          rw [hB2.cell, List.getElem?_toArray, List.getElem?_append_left (by rw [List.length_append, htl]; omega), List.getElem?_append_left (by rw [htl]; exact ho2), List.getElem?_take, if_pos ho2, Array.getElem?_toList]
          rw [hg.cell o] at hc
          exact hc
        · exact (World.cell?_of_block (a := ⟨b, o, none⟩) (setRow_other w g b _ hb)).trans hc
    · have holds : ∀ (j : Nat) u, xs[j]? = some u → w.cell? ((⟨g, 0, none⟩ : Addr).add j) = some u := fun j u hu => by
        have hadd : (⟨g, 0, none⟩ : Addr).add j = ⟨g, j, none⟩ := by unfold Addr.add; split <;> simp_all
        rw [hadd, hg.cell j]
        rw [← htake, List.getElem?_take] at hu
        split at hu
        · rw [← Array.getElem?_toList]; exact hu
        · cases hu
      have hr := run_append_grow (P := P) w t ty e i z ht hi hz ⟨g, 0, none⟩ n cap xs (by rw [hown.1, hzs]) holds a 1 c news hl1 hnews (by omega) (by omega) (growslice_fits (by omega) hbb)
      exact ⟨_, _, hr, hnew cap, hgr _ _, hkeep _ _ _⟩
theorem wpList_append_z (w : World) {ops : Array Oper} {rest : List Oper} {o : Oper} {a : Act} {Q : Exit → Act → World → Prop} (hgd : o.guard = none) (s x : Operand) (t : TypeId)
    (ho : o.op = .call { callee := .builtin .append, args := #[s, x], argTypes := #[t, t] })
    (base : Nat) (e : TypeId) (i : TypeInfo) (z : Value) (ht : P.underlying t = some (.slice e)) (hi : P.info? e = some i) (hz : i.zero = some z) (hzs : z.cells.size = i.size) (hsz : 0 < i.size)
    (v : Value) (n : Nat) (xs : List Value) (hs : a.eval s = v) (hown : OwZ w base e z.cells v n xs) (ad : Addr) (c : Nat) (news : List Value) (hx : a.eval x = .slice (some ad) 1 c) (hl : news.length = i.size) (hnews : ∀ (j : Nat) u, news[j]? = some u → w.cell? (ad.add j) = some u) (h1 : ∀ u ∈ news, u.oneCell' = true)
    (hn : n < 1048576) (hby : i.bytes ≤ 1048576) (hbase : base ≤ w.heap.size)
    (h : ∀ v' w', OwZ w' base e z.cells v' (n + 1) (xs ++ news) → w.grownBy w' v.ownBlock → AppK w w' v (n * z.cells.size) → wpList P ops Q rest (a.put o.dst v') w') : wpList P ops Q (o :: rest) a w :=
  wpList_plain hgd fun _ hK => by
    obtain ⟨v', w', hr, h2, h3, h4⟩ := run_append_z (P := P) w base t o.type e i z ht hi hz hzs hsz v n xs hown ad c news hl hnews h1 hn hby hbase
    unfold Oper.wp execOp
    simp only [ho, resolve, invoke, builtin, Sem.run_bind, Sem.run_pure, Result.andThen_ok, List.map_toArray, List.map_cons, List.map_nil, hs, hx, hr]
    exact hK _ _ (h v' w' h2 h3 h4)
end
end Go.Proofs.YtbkbeglmfhaleaaGreatDoor
/-
The program's Add, of any numbers. Conditions: 12 numbers at most, of few digits.
-/
set_option linter.unusedVariables false
set_option linter.unusedSimpArgs false
set_option linter.unnecessarySimpa false
namespace Go.Proofs.YtbkbeglmfhaleaaGreatDoor
open Go.RowKit
attribute [local go_sem ↓] Go.wp_at_zero Go.wp_at_succ

theorem last_dig {z : Int} (h : u64s (dig z) ≠ []) : ∃ u, (u64s (dig z)).getLast? = some u ∧ u ∉ (#[.bool false, .slice none 0 0, .bool false, .slice none 0 0] : Array Value).toList := by
  refine ⟨(u64s (dig z)).getLast h, List.getLast?_eq_some_getLast h, fun hm => ?_⟩
  obtain ⟨d, _, hd⟩ := List.mem_map.1 (List.getLast_mem h)
  rw [← hd] at hm
  simp at hm
theorem Wh.app {w w' : World} {base n : Nat} {v : Value} {xs : List Value} {A : Option Addr} {k c : Nat} {z : Int} (hk : AppK w w' v (n * (#[.bool false, .slice none 0 0, .bool false, .slice none 0 0] : Array Value).size)) (h : OwZ w base 37 #[.bool false, .slice none 0 0, .bool false, .slice none 0 0] v n xs) (hw : Wh w A k c z) : Wh w' A k c z :=
  ⟨hw.1, hw.2.1, hk.row h hw.2.2 (by
    by_cases e : u64s (dig z) = []
    · exact .inl e
    · exact .inr (last_dig e))⟩
theorem D4.ok.app {w w' : World} {base n : Nat} {v : Value} {xs : List Value} {x : D4} (hk : AppK w w' v (n * (#[.bool false, .slice none 0 0, .bool false, .slice none 0 0] : Array Value).size)) (h : OwZ w base 37 #[.bool false, .slice none 0 0, .bool false, .slice none 0 0] v n xs) (hx : x.ok w) : x.ok w' := ⟨Wh.app hk h hx.1, Wh.app hk h hx.2⟩
theorem D4.ok.store {w : World} {x : D4} (hx : x.ok w) {g : Nat} {t : TypeId} {a a' : Bool} {A A' : Option Addr} {n c n' c' : Nat} (hB : Blk w g t #[.bool a, .slice A n c, .bool a', .slice A' n' c']) (u0 u1 u2 u3 : Value) :
    x.ok ((((w.setCell ⟨g, 0, none⟩ u0).setCell ⟨g, 1, none⟩ u1).setCell ⟨g, 2, none⟩ u2).setCell ⟨g, 3, none⟩ u3) := ⟨hx.1.store4 hB _ _ _ _, hx.2.store4 hB _ _ _ _⟩
theorem pv_eq {W : World} {v : Value} {d d' : Dyadic} (h : PV W v d) (e : d = d') : PV W v d' := by subst e; exact h
/-- The parts' sums that aren't 0. -/
def psums (Ps : List (List D4)) : List Dyadic := ((Ps.map dds).map dysum).filter (· != 0)
theorem psums_snoc0 {Ps : List (List D4)} {i : Nat} (h : i < Ps.length) (h0 : dysum (dds Ps[i]) = 0) : psums (Ps.take (i + 1)) = psums (Ps.take i) := by
  unfold psums
  rw [List.take_succ_eq_append_getElem h, List.map_append, List.map_append, List.filter_append]
  simp [h0]
theorem psums_snoc1 {Ps : List (List D4)} {i : Nat} (h : i < Ps.length) (h0 : dysum (dds Ps[i]) ≠ 0) : psums (Ps.take (i + 1)) = psums (Ps.take i) ++ [dysum (dds Ps[i])] := by
  unfold psums
  rw [List.take_succ_eq_append_getElem h, List.map_append, List.map_append, List.filter_append]
  simp [h0]
theorem psums_mem {Ps : List (List D4)} {d : Dyadic} (h : d ∈ psums Ps) : ∃ P ∈ Ps, d = dysum (dds P) := by
  unfold psums at h
  obtain ⟨h1, _⟩ := List.mem_filter.1 h
  obtain ⟨a, ha, rfl⟩ := List.mem_map.1 h1
  obtain ⟨P, hP, rfl⟩ := List.mem_map.1 ha
  exact ⟨P, hP, rfl⟩
theorem dds_snoc (S : List D4) (y : D4) : dds (S ++ [y]) = dds S ++ [y.d] := by unfold dds; simp

set_option maxRecDepth 100000 in
set_option maxHeartbeats 4000000 in
theorem padd_walk (va : Value) (xs : List D4) (w : World) (h12 : xs.length ≤ 12) (HP : ∀ W, Below w.heap.size w W → Calls Tryz.prog 47 #[va] W (PartR W xs)) (ho : Oks w xs) (K : Nat) (hK : K ≤ 134216000) (hk : ∀ x ∈ xs, Sz K x.d) (hg : Glob w) :
    Calls Tryz.prog 19 #[va] w (RetP (dysum (dds xs)) w) := by
  obtain ⟨i0, hi, hzz⟩ := Option.map_eq_some_iff.1 info_D
  simp only [Prod.mk.injEq] at hzz
  obtain ⟨hz0, hz1, hz2⟩ := hzz
  have hzc : (Value.agg #[.bool false, .slice none 0 0, .bool false, .slice none 0 0]).cells = #[.bool false, .slice none 0 0, .bool false, .slice none 0 0] := rfl
  have HPa := Lib.hid HP
  have HOx := Lib.hid ho
  have HKx := Lib.hid hk
  have HG := Lib.hid hg
  have H12 := Lib.hid h12
  clear HP ho hk hg h12
  go_enter Tryz.func19, Tryz.ntmps19
  have HB0 := Lib.hid (below_al (Below.refl w.heap.size w) (o := .cells #[.bool false, .slice none 0 0, .bool false, .slice none 0 0] 37))
  have HR0 := Lib.hid (Blk.new w 37 #[.bool false, .slice none 0 0, .bool false, .slice none 0 0])
  go_wp2_with fail
  refine (HPa.out _ HB0.out).mono ?_
  rintro e w2 ⟨B, dc, vs, Ps, L, rfl, hRv, hPs, hPl, ⟨hfl, hpw, hfL⟩, hri, hpm, hb⟩
  have HB2 := Lib.hid (below_nx HB0.out hb)
  have HR2 := Lib.hid (HR0.out.below hb HR0.out.lt)
  have hLm : ∀ x ∈ L, x ∈ xs := fun x hx => nzs_mem (hpm.mem_iff.1 hx)
  have hL12 : L.length ≤ 12 := by rw [hpm.length_eq]; exact Nat.le_trans (nzs_length xs) H12.out
  have hPL : ∀ P ∈ Ps, ∀ x ∈ P, x ∈ L := fun P hP x hx => by rw [← hfL]; exact List.mem_flatten.2 ⟨P, hP, hx⟩
  have hPr : ∀ P ∈ Ps, Rising (dds P) ∧ P.length ≤ 12 := fun P hP => by
    have h1 : (dds P).Sublist (dds L) := by rw [← hfl]; exact List.sublist_flatten_of_mem (List.mem_map.2 ⟨P, hP, rfl⟩)
    refine ⟨hri.sublist h1, ?_⟩
    have := h1.length_le
    rw [dds_length, dds_length] at this
    omega
  have HJ := Lib.hid (fun (P : List D4) (hP : P ∈ Ps) (A : Option Addr) (ca : Nat) W (hb2 : Below w2.heap.size w2 W) (hd : Dl w2 A P) => pjoin_any A P.length ca P W rfl (by have := (hPr P hP).2; omega) (hd.below hb2) (fun x hx => (HOx.out x (hLm x (hPL P hP x hx))).below (below_nx HB2.out hb2)) K (by omega) (fun x hx => HKx.out x (hLm x (hPL P hP x hx))) (hPr P hP).1 (HG.out.below (below_nx HB2.out hb2)))
  have hps := parts_sums (Ps.map dds) hfl hpw hri (fun d hd => by
    obtain ⟨x, hx, rfl⟩ := List.mem_map.1 hd
    exact nzs_ne x (hpm.mem_iff.1 hx)) (by rw [dds_length]; omega)
  have hsz : ∀ d ∈ psums Ps, Sz (K + 12) d := fun d hd => by
    obtain ⟨P, hP, rfl⟩ := psums_mem hd
    exact Sz.sum (dds P) (fun d hd => by
      obtain ⟨x, hx, rfl⟩ := List.mem_map.1 hd
      exact HKx.out x (hLm x (hPL P hP x hx))) 12 (by rw [dds_length]; exact (hPr P hP).2)
  have hsum : dysum (psums Ps) = dysum (dds xs) := hps.2.trans ((dds_perm hpm).trans (nzs_sum xs))
  have hrs : Rising (psums Ps) := hps.1
  have hpl : (psums Ps).length ≤ Ps.length := by unfold psums; exact Nat.le_trans (List.length_filter_le _ _) (by simp)
  have hm13 : Ps.length ≤ 13 := by omega
  have HJ2 := Lib.hid (fun (S : List D4) (hS : dds S = psums Ps) (hSl : S.length ≤ 65536) (A : Option Addr) (ca : Nat) W (hb2 : Below w2.heap.size w2 W) (hd : Dl W A S) (hoS : Oks W S) => pjoin_any A S.length ca S W rfl hSl hd hoS (K + 12) (by omega) (fun x hx => hsz x.d (by rw [← hS]; exact List.mem_map.2 ⟨x, hx, rfl⟩)) (by rw [hS]; exact hrs) (HG.out.below (below_nx HB2.out hb2)))
  have HSm := Lib.hid hsum
  have HRv := Lib.hid hRv
  have HPs := Lib.hid hPs
  clear hRv hPs hfl hpw hfL hri hpm hb hLm hL12 hPL hPr hps hsz hsum hrs hpl hPl
  have hvl := HPs.out.1
  obtain ⟨m, hm⟩ : ∃ m, Ps.length = m := ⟨_, rfl⟩
  have HM := Lib.hid hm
  obtain ⟨zz, hzz⟩ : ∃ zz, w2.heap.size = zz := ⟨_, rfl⟩
  have HZl := Lib.hid hzz
  have HBz := Lib.hid (show Below zz w2 w2 from Below.refl _ _)
  rw [hm] at hvl hm13
  go_wp2_with fail
  go_loopw [3, 10] (fun out iv wr => ∃ (q : Nat) (S : List D4), q ≤ m ∧ S.length ≤ q ∧ iv = .int .i64 (q : Int) ∧ Hid (dds S = psums (Ps.take q) ∧ Oks wr S) ∧ OwZ wr zz 37 #[.bool false, .slice none 0 0, .bool false, .slice none 0 0] out S.length (d4s S) ∧ Below zz w2 wr) (fun _ iv _ => m - (intOf iv).toNat)
  case atStart => exact ⟨0, [], Nat.zero_le _, Nat.le_refl _, rfl, Lib.hid ⟨rfl, fun x hx => by cases hx⟩, OwZ.nil _ _ _ _, HBz.out⟩
  case round =>
    obtain ⟨q, S, hq, hSq, rfl, HI, hOw, hB⟩ := hrel
    have hB3 : Below w2.heap.size w2 wr := by rw [HZl.out]; exact hB
    by_cases hlt : q < m
    · have hqP : q < Ps.length := by rw [HM.out]; exact hlt
      have hqv : q < vs.length := by rw [hvl]; exact hlt
      obtain ⟨A, ca, hv, hd⟩ := HPs.out.2 q hqv hqP
      obtain ⟨bv, ov, hAe, _, hc⟩ := (HRv.out.below hB3).at_ (List.getElem?_eq_getElem hqv)
      rw [hv] at hc
      subst hAe
      have hJo := HJ.out Ps[q] (List.getElem_mem hqP) A ca wr hB3 hd
      have hs0 := psums_snoc0 hqP
      have hs1 := psums_snoc1 hqP
      generalize hPe : Ps[q] = Pq at *
      have HJo := Lib.hid hJo
      have HS0 := Lib.hid hs0
      have HS1 := Lib.hid hs1
      have HOw := Lib.hid hOw
      have HB := Lib.hid hB
      have hqm : (q : Int) < (m : Int) := by omega
      have hq1 : q + 1 ≤ 1048576 := by omega
      clear hJo hs0 hs1 hv hd hB3 hB hOw hPe hqv hqP
      go_wp2_with fail
      refine HJo.out.mono ?_
      rintro e w3 ⟨v, rfl, hpv, hb⟩
      obtain ⟨y, hyo, rfl, hyd⟩ := hpv.d4
      unfold D4.val
      have HY := Lib.hid (hyo.below (below_one (o := .cells #[.bool (ng (mant y.d)), .slice y.A y.n y.c, .bool (ng (expo y.d)), .slice y.A' y.n' y.c'] 37)))
      have HX := Lib.hid (Blk.new w3 37 #[.bool (ng (mant y.d)), .slice y.A y.n y.c, .bool (ng (expo y.d)), .slice y.A' y.n' y.c'])
      have HB3 := Lib.hid (bz_al HZl.out (bz HZl.out HB.out hb) (.cells #[.bool (ng (mant y.d)), .slice y.A y.n y.c, .bool (ng (expo y.d)), .slice y.A' y.n' y.c'] 37))
      have HOw3 := Lib.hid ((HOw.out.below hb).below (below_one (o := .cells #[.bool (ng (mant y.d)), .slice y.A y.n y.c, .bool (ng (expo y.d)), .slice y.A' y.n' y.c'] 37)))
      have HO3 := Lib.hid (show Oks _ S from fun x hx => ((HI.out.2 x hx).below hb).below (below_one (o := .cells #[.bool (ng (mant y.d)), .slice y.A y.n y.c, .bool (ng (expo y.d)), .slice y.A' y.n' y.c'] 37)))
      have HYd := Lib.hid hyd
      have HSg := Lib.hid (fun W (h : y.ok W) => psign_v h.pv)
      unfold D4.val at HSg
      clear hyo hpv hb hc hyd
      obtain ⟨x0, x1, x2, x3, _⟩ := cells4 HX.out
      by_cases hz : y.d = 0
      · rw [show (mant y.d).sign = 0 by rw [(mant_eq_zero _).2 hz]; rfl] at HSg
        have HZ0 := Lib.hid hz
        clear hz
        go_wp2_with fail
        refine (HSg.out _ HY.out).mono ?_
        rintro e w4 ⟨rfl, hb⟩
        have HB4 := Lib.hid (bz HZl.out HB3.out hb)
        have HOw4 := Lib.hid (HOw3.out.below hb)
        have HO4 := Lib.hid (HO3.out.below hb)
        clear hb x0 x1 x2 x3
        go_wp2_with fail
        go_roundw
        case rel => exact ⟨q + 1, S, by omega, by omega, by go_num, Lib.hid ⟨HI.out.1.trans (HS0.out (by rw [← HYd.out]; exact HZ0.out)).symm, HO4.out⟩, HOw4.out, HB4.out⟩
        case measure => simp [intOf]; omega
      · obtain ⟨sg, hsg⟩ : ∃ sg, (mant y.d).sign = sg := ⟨_, rfl⟩
        have hs0 : sg ≠ 0 := fun e => hz ((mant_eq_zero _).1 (Int.sign_eq_zero_iff_zero.1 (hsg.trans e)))
        rw [hsg] at HSg
        have hs1 : (sg == 0) = false := by simpa using hs0
        have hs2 : (sg != 0) = true := by simpa [bne] using hs1
        have HZ1 := Lib.hid hz
        clear hz
        go_wp2_with fail
        refine (HSg.out _ HY.out).mono ?_
        rintro e w4 ⟨rfl, hb⟩
        have HB4 := Lib.hid (bz_al HZl.out (bz HZl.out HB3.out hb) (.cells #[.bool (ng (mant y.d)), .slice y.A y.n y.c, .bool (ng (expo y.d)), .slice y.A' y.n' y.c'] 37))
        have HOw4 := Lib.hid ((HOw3.out.below hb).below (below_one (o := .cells #[.bool (ng (mant y.d)), .slice y.A y.n y.c, .bool (ng (expo y.d)), .slice y.A' y.n' y.c'] 37)))
        have HO4 := Lib.hid ((HO3.out.below hb).below (below_one (o := .cells #[.bool (ng (mant y.d)), .slice y.A y.n y.c, .bool (ng (expo y.d)), .slice y.A' y.n' y.c'] 37)))
        have HY4 := Lib.hid ((HY.out.below hb).below (below_one (o := .cells #[.bool (ng (mant y.d)), .slice y.A y.n y.c, .bool (ng (expo y.d)), .slice y.A' y.n' y.c'] 37)))
        have HX4 := Lib.hid (HX.out.below hb HX.out.lt)
        have HN := Lib.hid (Blk.new w4 37 #[.bool (ng (mant y.d)), .slice y.A y.n y.c, .bool (ng (expo y.d)), .slice y.A' y.n' y.c'])
        clear hb x0 x1 x2 x3 hsg
        obtain ⟨x0, x1, x2, x3, _⟩ := cells4 HX4.out
        go_wp2_with (at_builtin; refine wpList_append_z _ rfl _ _ 24 rfl zz 37 i0 (.agg #[.bool false, .slice none 0 0, .bool false, .slice none 0 0]) Tryz.underlying24 hi hz0 (by rw [hz1]; rfl) (by rw [hz1]; decide) _ S.length (d4s S) rfl HOw4.out ⟨w4.heap.size, 0, none⟩ 1 y.cells rfl (by rw [hz1]; rfl) ?c1 (fun u hu => y.cells_one u hu) ?c3 (by rw [hz2]; decide) ?c5 ?_)
        case c1 =>
          intro j u hj
          have e1 : (⟨w4.heap.size, 0, none⟩ : Addr).add j = ⟨w4.heap.size, j, none⟩ := by unfold Addr.add; split <;> simp_all
          rw [e1, HN.out.cell j, ← hj]
          show (y.cells.toArray)[j]? = _
          simp
        case c3 => omega
        case c5 => have := HB4.out.size; have := HZl.out; omega
        intro v' w' hown' hgrow hkp
        have HOw5 := Lib.hid (show OwZ w' zz 37 #[.bool false, .slice none 0 0, .bool false, .slice none 0 0] v' (S ++ [y]).length (d4s (S ++ [y])) by rw [List.length_append, List.length_singleton, d4s_append, d4s_one]; exact hown')
        have HB5 := Lib.hid (HB4.out.grown hgrow (by have := HB4.out.size; have := HZl.out; omega) (fun k hk => by have := (HOw4.out.lt k hk).1; omega))
        have HO5 := Lib.hid (show Oks w' (S ++ [y]) from fun x hx => by
          rcases List.mem_append.1 hx with hx | hx
          · exact (HO4.out x hx).app hkp HOw4.out
          · rw [List.mem_singleton.1 hx]; exact HY4.out.app hkp HOw4.out)
        clear hown' hgrow hkp
        go_wp2_with fail
        go_roundw
        case rel => exact ⟨q + 1, S ++ [y], by omega, by rw [List.length_append, List.length_singleton]; omega, by go_num, Lib.hid ⟨by rw [dds_snoc, HI.out.1, HYd.out]; exact (HS1.out (fun e => HZ1.out (by rw [HYd.out]; exact e))).symm, HO5.out⟩, HOw5.out, HB5.out⟩
        case measure => simp [intOf]; omega
    · obtain rfl : q = m := by omega
      have hqm : ¬ (q : Int) < (q : Int) := by omega
      obtain ⟨A, ca, rfl, hnc, hrow⟩ := hOw.row
      have hall : dds S = psums Ps := by have h := HI.out.1; rw [List.take_of_length_le (by rw [HM.out]; exact Nat.le_refl _)] at h; exact h
      have HJl := Lib.hid (HJ2.out S hall (by omega) A ca wr hB3 hrow HI.out.2)
      have HA := Lib.hid hall
      have HBe := Lib.hid hB3
      clear hOw hB hB3 hnc hrow hall
      go_wp2_with fail
      refine HJl.out.mono ?_
      rintro e w5 ⟨v, rfl, hpv, hb⟩
      obtain ⟨y, hyo, rfl, hyd⟩ := hpv.d4
      unfold D4.val
      have HR5 := Lib.hid ((HR2.out.below (below_nx HBe.out hb) HR2.out.lt))
      have HS5 := Lib.hid (hyo.store HR5.out (.bool (ng (mant y.d))) (.slice y.A y.n y.c) (.bool (ng (expo y.d))) (.slice y.A' y.n' y.c'))
      have HF := Lib.hid (((((below_nx HB2.out (below_nx HBe.out hb)).setCell (p := ⟨w.heap.size, 0, none⟩) (Nat.le_refl _) (.bool (ng (mant y.d)))).setCell (p := ⟨w.heap.size, 1, none⟩) (Nat.le_refl _) (.slice y.A y.n y.c)).setCell (p := ⟨w.heap.size, 2, none⟩) (Nat.le_refl _) (.bool (ng (expo y.d)))).setCell (p := ⟨w.heap.size, 3, none⟩) (Nat.le_refl _) (.slice y.A' y.n' y.c'))
      have HYd := Lib.hid hyd
      obtain ⟨r0, r1, r2, r3, f0, f1, f2, f3⟩ := cells4 HR5.out
      have HBk := Lib.hid (Blk.store4 HR5.out (.bool (ng (mant y.d))) (.slice y.A y.n y.c) (.bool (ng (expo y.d))) (.slice y.A' y.n' y.c'))
      clear hyo hpv hb hyd
      go_wp2_with fail
      obtain ⟨k0, k1, k2, k3, _⟩ := cells4 HBk.out
      exact bodyPost_ret (v := .agg #[.bool (ng (mant y.d)), .slice y.A y.n y.c, .bool (ng (expo y.d)), .slice y.A' y.n' y.c']) (by simp [results, Tryz.results19, go_sem, k0, k1, k2, k3]) rfl ⟨_, rfl, by
        have h := HS5.out.pv
        have e9 : y.d = dysum (dds xs) := by rw [HYd.out, HA.out, HSm.out]
        exact pv_eq h e9, HF.out⟩

theorem padd_any (b o n c : Nat) (xs : List D4) (w : World) (hn : xs.length = n) (h12 : n ≤ 12) (hl : Dl w (some ⟨b, o, none⟩) xs) (ho : Oks w xs) (K : Nat) (hK : K ≤ 134216000) (hk : ∀ x ∈ xs, Sz K x.d) (hg : Glob w) :
    Calls Tryz.prog 19 #[.slice (some ⟨b, o, none⟩) n c] w (RetP (dysum (dds xs)) w) :=
  padd_walk _ xs w (hn ▸ h12) (fun W hb => pparts_any b o n c xs W hn h12 (hl.below hb) (ho.below hb) K (by omega) hk) ho K hK hk hg
theorem padd_nil (w : World) (hg : Glob w) : Calls Tryz.prog 19 #[.slice none 0 0] w (RetP 0 w) :=
  padd_walk _ [] w (by simp) (fun W hb => pparts_nil W) (fun x hx => by cases hx) 0 (by omega) (fun x hx => by cases hx) hg

end Go.Proofs.YtbkbeglmfhaleaaGreatDoor
/-
The document's lists of numbers, as they lie in memory; appending keeps what holds a number. Conditions: as each says.
-/
set_option linter.unusedVariables false
set_option linter.unusedSimpArgs false
namespace Go.Proofs.YtbkbeglmfhaleaaGreatDoor
open Go.RowKit

/-- A number of the document's as it lies: its sign, its digits' list, its place. -/
structure R3 where
  neg : Bool
  A : Option Addr
  n : Nat
  c : Nat
  E : Int
  l : List Nat
def R3.cells (x : R3) : List Value := [.bool x.neg, .slice x.A x.n x.c, .int .i64 x.E]
def R3.val (x : R3) : Value := .agg #[.bool x.neg, .slice x.A x.n x.c, .int .i64 x.E]
def R3.ok (w : World) (x : R3) : Prop := Rd w x.A x.n x.c x.l ∧ Neat x.neg x.l x.E
def R3.num (x : R3) : Dyadic := rdy x.neg x.l x.E
theorem R3.ok.below {w w' : World} {x : R3} (h : x.ok w) (hb : Below w.heap.size w w') : x.ok w' := ⟨h.1.below hb, h.2⟩
theorem R3.ok.dv {w : World} {x : R3} (h : x.ok w) : DV w x.val x.num := ⟨_, _, _, _, _, _, rfl, h.1, h.2, rfl⟩
theorem DV.r3 {w : World} {v : Value} {d : Dyadic} (h : DV w v d) : ∃ x : R3, x.ok w ∧ v = x.val ∧ x.num = d := by
  obtain ⟨neg, A, n, c, E, l, h1, h2, h3, h4⟩ := h
  exact ⟨⟨neg, A, n, c, E, l⟩, ⟨h2, h3⟩, h1, h4⟩
theorem R3.cells_one (x : R3) : ∀ v ∈ x.cells, v.oneCell' = true := by
  intro v hv
  simp only [R3.cells, List.mem_cons, List.not_mem_nil, or_false] at hv
  rcases hv with rfl | rfl | rfl <;> rfl
def r3s (l : List R3) : List Value := l.flatMap R3.cells
theorem r3s_append (l m : List R3) : r3s (l ++ m) = r3s l ++ r3s m := by unfold r3s; rw [List.flatMap_append]
theorem r3s_one (x : R3) : r3s [x] = x.cells := by unfold r3s; simp
theorem r3s_length (l : List R3) : (r3s l).length = l.length * 3 := by
  induction l with
  | nil => rfl
  | cons x l ih => show (x.cells ++ r3s l).length = _; rw [List.length_append, ih, List.length_cons]; show 3 + _ = _; omega
theorem r3s_get (l : List R3) (i j : Nat) (hi : i < l.length) (hj : j < 3) : (r3s l)[i * 3 + j]? = l[i].cells[j]? := by
  induction l generalizing i with
  | nil => simp at hi
  | cons x l ih =>
    show (x.cells ++ r3s l)[i * 3 + j]? = _
    have hx : x.cells.length = 3 := rfl
    cases i with
    | zero => rw [List.getElem?_append_left (by rw [hx]; omega)]; simp
    | succ i =>
      rw [List.getElem?_append_right (by rw [hx]; omega), hx, show (i + 1) * 3 + j - 3 = i * 3 + j by omega, ih i (by simpa using hi)]
      simp
def Rl (w : World) (A : Option Addr) (l : List R3) : Prop := Row w A (r3s l)
theorem Rl.below {w w' : World} {A : Option Addr} {l : List R3} (h : Rl w A l) (hb : Below w.heap.size w w') : Rl w' A l := Row.below h hb
theorem Rl.at_ {w : World} {A : Option Addr} {l : List R3} (h : Rl w A l) {i : Nat} (hi : i < l.length) :
    ∃ b o, A = some ⟨b, o, none⟩ ∧ b < w.heap.size ∧ w.cell? ⟨b, o + i * 3, none⟩ = some (.bool l[i].neg) ∧ w.cell? ⟨b, o + i * 3 + 1, none⟩ = some (.slice l[i].A l[i].n l[i].c) ∧ w.cell? ⟨b, o + i * 3 + 2, none⟩ = some (.int .i64 l[i].E) := by
  have g : ∀ j, j < 3 → (r3s l)[i * 3 + j]? = l[i].cells[j]? := fun j hj => r3s_get l i j hi hj
  rcases h with h | ⟨b, o, e, hc⟩
  · have := r3s_length l
    rw [h] at this
    simp only [List.length_nil] at this
    omega
  · have c0 := hc (i * 3) (.bool l[i].neg) (by have := g 0 (by omega); rw [Nat.add_zero] at this; rw [this]; rfl)
    refine ⟨b, o, e, block_lt c0, c0, ?_, ?_⟩
    · exact hc (i * 3 + 1) _ (by rw [g 1 (by omega)]; rfl)
    · exact hc (i * 3 + 2) _ (by rw [g 2 (by omega)]; rfl)
def Rks (w : World) (l : List R3) : Prop := ∀ x ∈ l, x.ok w
theorem Rks.below {w w' : World} {l : List R3} (h : Rks w l) (hb : Below w.heap.size w w') : Rks w' l := fun x hx => (h x hx).below hb
def rds (l : List R3) : List Dyadic := l.map R3.num
/-- Digits lie in a block of another type than the list's. -/
theorem Rd.grown {w w' : World} {base n : Nat} {e : TypeId} {z : Array Value} {v : Value} {xs : List Value} {A : Option Addr} {k c : Nat} {l : List Nat} (hg : w.grownBy w' v.ownBlock) (h : OwZ w base e z v n xs) (he : e ≠ 3) (hr : Rd w A k c l) : Rd w' A k c l := by
  have hne : ∀ b, IntB w b → some b ≠ v.ownBlock := fun b hb e' => by
    rcases h.2 with ⟨rfl, _⟩ | ⟨g, cap, cur, rfl, _, hB, _⟩
    · simp [Value.ownBlock] at e'
    · simp [Value.ownBlock] at e'
      exact hb.ne hB he e'
  refine ⟨hr.1, hr.2.1, ?_, hr.2.2.2.1, fun b y e' hl => ?_⟩
  · rcases hr.2.2.1 with h0 | ⟨b, o, rfl, hc⟩
    · exact .inl h0
    · by_cases hl : l = []
      · subst hl; exact .inl rfl
      · have hb := hr.2.2.2.2 b o rfl hl
        exact .inr ⟨b, o, rfl, fun i u hi => (World.cell?_of_block (a := ⟨b, o + i, none⟩) (hg.block b hb.lt (hne b hb))).trans (hc i u hi)⟩
  · have hb := hr.2.2.2.2 b y e' hl
    obtain ⟨cs, fr, h1⟩ := hb
    exact ⟨cs, fr, (hg.block b (IntB.lt ⟨cs, fr, h1⟩) (hne b ⟨cs, fr, h1⟩)).trans h1⟩
theorem R3.ok.grown {w w' : World} {base n : Nat} {e : TypeId} {z : Array Value} {v : Value} {xs : List Value} {x : R3} (hg : w.grownBy w' v.ownBlock) (h : OwZ w base e z v n xs) (he : e ≠ 3) (hx : x.ok w) : x.ok w' := ⟨hx.1.grown hg h he, hx.2⟩
/-- Words lie in no block of the document's numbers' list: their last one isn't 0. -/
theorem last_dig3 {z : Int} (h : u64s (dig z) ≠ []) : ∃ u, (u64s (dig z)).getLast? = some u ∧ u ∉ (#[.bool false, .slice none 0 0, .int .i64 0] : Array Value).toList := by
  refine ⟨(u64s (dig z)).getLast h, List.getLast?_eq_some_getLast h, fun hm => ?_⟩
  obtain ⟨d, _, hd⟩ := List.mem_map.1 (List.getLast_mem h)
  rw [← hd] at hm
  simp at hm
theorem D4.ok.app3 {w w' : World} {base n : Nat} {e : TypeId} {v : Value} {xs : List Value} {x : D4} (hk : AppK w w' v (n * (#[.bool false, .slice none 0 0, .int .i64 0] : Array Value).size)) (h : OwZ w base e #[.bool false, .slice none 0 0, .int .i64 0] v n xs) (hx : x.ok w) : x.ok w' := by
  have key : ∀ (A : Option Addr) (k c : Nat) (z : Int), Wh w A k c z → Wh w' A k c z := fun A k c z hw => ⟨hw.1, hw.2.1, hk.row h hw.2.2 (by
    by_cases e : u64s (dig z) = []
    · exact .inl e
    · exact .inr (last_dig3 e))⟩
  exact ⟨key _ _ _ _ hx.1, key _ _ _ _ hx.2⟩
theorem OwZ.kept {w w' : World} {base : Nat} {e : TypeId} {z : Array Value} {v : Value} {n : Nat} {xs : List Value} {r : Option Nat} (h : OwZ w base e z v n xs) (hg : w.grownBy w' r) (hne : ∀ k, v.ownBlock = some k → some k ≠ r) : OwZ w' base e z v n xs := by
  refine ⟨h.1, h.2.imp id ?_⟩
  rintro ⟨g, cap, cur, rfl, h2, h3, h4⟩
  exact ⟨g, cap, cur, rfl, h2, (hg.block g h3.lt (hne g rfl)).trans h3, h4⟩
theorem OwZ.apart {w : World} {base base' : Nat} {e e' : TypeId} {z z' : Array Value} {v v' : Value} {n n' : Nat} {xs xs' : List Value} (h : OwZ w base e z v n xs) (h' : OwZ w base' e' z' v' n' xs') (he : e ≠ e') : ∀ k, v.ownBlock = some k → some k ≠ v'.ownBlock := by
  intro k hk e9
  rcases h.2 with ⟨rfl, _⟩ | ⟨g, cap, cur, rfl, _, hB, _⟩
  · simp [Value.ownBlock] at hk
  · rcases h'.2 with ⟨rfl, _⟩ | ⟨g', cap', cur', rfl, _, hB', _⟩
    · simp [Value.ownBlock] at e9
    · simp [Value.ownBlock] at hk e9
      subst hk
      subst e9
      unfold Blk at hB hB'
      rw [hB] at hB'
      injection hB' with hB'
      injection hB' with _ e8 _
      exact he e8
theorem info_R : (Tryz.prog.info? 30).map (fun i => (i.zero, i.size, i.bytes)) = some (some (.agg #[.bool false, .slice none 0 0, .int .i64 0]), 3, 40) := by kernel_rfl
end Go.Proofs.YtbkbeglmfhaleaaGreatDoor
/-
Vectors and matrices: which are right, by the program and by the document. Conditions: the numbers are of an int's range, the lists' lengths below 2^62.
-/
set_option linter.unusedVariables false
namespace Go.Proofs.YtbkbeglmfhaleaaGreatDoor
open Go.RowKit

/-- An int's range. -/
def I64 (z : Int) : Prop := -9223372036854775808 ≤ z ∧ z < 9223372036854775808

theorem Blk.nxt {w w' : World} {g : Nat} {t : TypeId} {cs : Array Value} (h : Blk w g t cs) (hb : Below w.heap.size w w') : Blk w' g t cs := h.below hb h.lt
theorem cells5 {w : World} {g : Nat} {t : TypeId} {v0 v1 v2 v3 v4 : Value} (h : Blk w g t #[v0, v1, v2, v3, v4]) :
    w.cell? ⟨g, 0, none⟩ = some v0 ∧ w.cell? ⟨g, 1, none⟩ = some v1 ∧ w.cell? ⟨g, 2, none⟩ = some v2 ∧ w.cell? ⟨g, 3, none⟩ = some v3 ∧ w.cell? ⟨g, 4, none⟩ = some v4 :=
  ⟨h.cell 0, h.cell 1, h.cell 2, h.cell 3, h.cell 4⟩
/-- A matrix. -/
def mat (A : Option Addr) (n c : Nat) (off r k ld : Int) : Value := .agg #[.slice A n c, .int .i64 off, .int .i64 r, .int .i64 k, .int .i64 ld]
/-- Is the last of n numbers, from off on and inc apart, below L? -/
def reachB (L off n inc : Int) : Bool := decide (off + (n - 1) * inc < L)
theorem reach_iff {L off n inc : Int} (hinc : 1 ≤ inc) (hl : off < L) : (n - 1 ≤ (L - 1 - off) / inc) ↔ off + (n - 1) * inc < L := by
  rw [Int.le_ediv_iff_mul_le (by omega)]; omega

theorem wrap_id {z : Int} (h : I64 z) : wrap64 z = z := by unfold I64 at h; unfold wrap64; omega

/-- Is off + a b + c below n? -/
def belowB (n off a b c : Int) : Bool := decide (off + a * b + c < n)
theorem below_iff {n off a b c : Int} (ha : 1 ≤ a) (hb : 0 ≤ b) : b ≤ (n - off - c - 1) / a ↔ off + a * b + c < n := by
  rw [Int.le_ediv_iff_mul_le (by omega), Int.mul_comm]; omega

/-- Is a vector of k numbers in a list of n right? -/
def vecB (n : Nat) (off k inc : Int) : Bool := decide (0 ≤ k ∧ 1 ≤ inc ∧ 0 ≤ off ∧ (k = 0 ∨ off + (k - 1) * inc < n))
/-- Is a matrix of r rows and k columns in a list of n right? -/
def matB (n : Nat) (off r k ld : Int) : Bool := decide (0 ≤ r ∧ 0 ≤ k ∧ 1 ≤ ld ∧ r ≤ ld ∧ 0 ≤ off ∧ (r = 0 ∨ k = 0 ∨ off + (k - 1) * ld + (r - 1) < n))

end Go.Proofs.YtbkbeglmfhaleaaGreatDoor
/-
Arguments that are lists of floats, vectors and matrices, opened. Conditions: none.
-/
set_option linter.unusedVariables false
namespace Go.Proofs.YtbkbeglmfhaleaaGreatDoor
open Go.RowKit Go.WideShapes Go.ChangeShapes Go.Deep

/-- The cells of a list of floats. -/
def f64s (l : List Nat) : List Value := l.map fun (b : Nat) => Value.float .f64 b
theorem f64s_get? {l : List Nat} {i : Nat} {v : Value} (h : (f64s l)[i]? = some v) : ∃ hi : i < l.length, v = .float .f64 l[i] := by
  unfold f64s at h
  rw [List.getElem?_map] at h
  rcases Nat.lt_or_ge i l.length with hl | hl
  · rw [List.getElem?_eq_getElem hl] at h
    exact ⟨hl, by simpa using h.symm⟩
  · rw [List.getElem?_eq_none hl] at h; cases h
theorem f64s_get (l : List Nat) (i : Nat) (h : i < l.length) : (f64s l)[i]? = some (.float .f64 l[i]) := by simp [f64s, h]
/-- Each is a word. -/
def Wds (l : List Nat) : Prop := ∀ b ∈ l, b < 18446744073709551616
theorem Wds.at_ {l : List Nat} (h : Wds l) (i : Nat) (hi : i < l.length) : l[i] < 18446744073709551616 := h _ (List.getElem_mem hi)

section
variable {H : Type} {enc : TypeId × Value → H} {P : Program} {w : World} {base : Nat} {spare : Nat → Bool} {held : Bool}
theorem trod_float {e : TypeId} {n : Nat} {v : Value} {y : DataW H × List MemPlace} (he : P.underlying e = some (.float .f64)) (h : DataW.trod enc P w base spare held n e [v] = some y) : ∃ b : Nat, v = .float .f64 b ∧ b < 18446744073709551616 := by
  cases n with
  | zero => simp [DataW.trod] at h
  | succ n =>
    rw [DataW.trod_step] at h
    unfold DataW.trodStep at h
    rw [he] at h
    split at h
    case h_3 k k' b h1 h2 =>
      injection h1 with h1; injection h1 with h1
      subst h1
      split at h
      · rename_i hw
        obtain ⟨rfl, hw⟩ := hw
        exact ⟨b, by simpa using h2, by simpa [Lit.wf] using hw⟩
      · cases h
    all_goals first | cases h; done | (exfalso; rename_i h1 h2; simp at h1; done) | (exfalso; rename_i h1; simp at h1; done) | (exfalso; rename_i h1 h2 h3; simp at h1; done) | skip
    all_goals done

theorem open_flo {t e : TypeId} {n : Nat} {v : Value} {y : DataW H × List MemPlace} (ht : P.underlying t = some (.slice e)) (hc : P.cellsOf e = 1) (he : P.underlying e = some (.float .f64))
    (h : DataW.trod enc P w base spare held n t [v] = some y) : ∃ A c l, v = .slice A l.length c ∧ l.length ≤ c ∧ c < 9223372036854775808 ∧ Wds l ∧ Row w A (f64s l) := by
  rcases open_slice1 ht hc h with ⟨h0, _⟩ | ⟨a, len, cap, m, n, V, D, Pl, hcs, hb, hl, hm, hmm, hx, hi⟩
  · refine ⟨none, 0, [], ?_, by simp, by decide, (fun b hb => by cases hb), .inl rfl⟩
    simpa using h0
  · have hle : len ≤ m := by rw [hmm]; split <;> omega
    have hb' : ∀ i, i < len → ∃ b : Nat, V i = .float .f64 b ∧ b < 18446744073709551616 := fun i h => trod_float he (hi i (by omega)).2
    obtain ⟨B, hB⟩ := choose_lt (α := Nat) (p := fun i b => V i = .float .f64 b ∧ b < 18446744073709551616) hb'
    have hcap : cap < 9223372036854775808 := by unfold maxLen at hm; omega
    refine ⟨some a, cap, (List.range len).map B, by simpa using hcs, by simpa using hl, hcap, ?_, ?_⟩
    · intro b hb
      obtain ⟨i, hi1, rfl⟩ := List.mem_map.1 hb
      exact (hB i (List.mem_range.1 hi1)).2
    · by_cases hz : len = 0
      · subst hz; exact .inl rfl
      · have h0 := (hi 0 (by omega)).1
        obtain ⟨b, o, s⟩ := a
        have hs : s = none := by
          cases s with
          | none => rfl
          | some s => exfalso; simp [Addr.add, World.cell?] at h0; split at h0 <;> cases h0
        subst hs
        refine .inr ⟨b, o, rfl, fun i v hv => ?_⟩
        obtain ⟨hi1, rfl⟩ := f64s_get? hv
        have hil : i < len := by simpa using hi1
        have := (hi i (by omega)).1
        rw [(hB i hil).1] at this
        rw [add_plain] at this
        rw [this]; simp
theorem trod_i64 {e : TypeId} {n : Nat} {v : Value} {y : DataW H × List MemPlace} (he : P.underlying e = some (.int .i64)) (h : DataW.trod enc P w base spare held n e [v] = some y) : ∃ z : Int, v = .int .i64 z ∧ I64 z := by
  obtain ⟨m, hv, _, hw⟩ := DataW.trod_int he h
  refine ⟨m, by simpa using hv, ?_⟩
  simp [Lit.wf, IntKind.min, IntKind.max, IntKind.signed, IntKind.bits] at hw
  unfold I64; omega

/-- A vector. -/
def vec (A : Option Addr) (n c : Nat) (off k inc : Int) : Value := .agg #[.slice A n c, .int .i64 off, .int .i64 k, .int .i64 inc]

theorem open_vec {t : TypeId} {f0 f1 f2 f3 : Field} {e : TypeId} {v : Value} {d : DataW H} {p : List MemPlace} {r : Reach} {b0 : Nat} (hs : P.underlying t = some (.struct #[f0, f1, f2, f3])) (hone : oneCellFields P #[f0, f1, f2, f3] = true) (hC : P.cellsOf t = 4)
    (h0 : P.underlying f0.type = some (.slice e)) (hc : P.cellsOf e = 1) (he : P.underlying e = some (.float .f64)) (h1 : P.underlying f1.type = some (.int .i64)) (h2 : P.underlying f2.type = some (.int .i64)) (h3 : P.underlying f3.type = some (.int .i64))
    (hv : Value.okWide P w r b0 t v) (h : DataW.Trod enc P w base spare held t v d p) :
    ∃ A c l off k inc, v = vec A l.length c off k inc ∧ l.length ≤ c ∧ c < 9223372036854775808 ∧ Wds l ∧ Row w A (f64s l) ∧ I64 off ∧ I64 k ∧ I64 inc := by
  obtain ⟨cs, rfl, hsz⟩ := okWide_struct hs hv
  obtain ⟨ls⟩ := cs
  match ls, hsz.trans hC with
  | [c0, c1, c2, c3], _ =>
    obtain ⟨fuel, hf⟩ := h
    obtain ⟨xs, n, _, hx, _, hlen, hg⟩ := DataW.trod_struct hs hf
    obtain ⟨o0, k0⟩ := hone_of hone 0 f0 rfl
    obtain ⟨o1, k1⟩ := hone_of hone 1 f1 rfl
    obtain ⟨o2, k2⟩ := hone_of hone 2 f2 rfl
    obtain ⟨o3, k3⟩ := hone_of hone 3 f3 rfl
    match xs, hlen with
    | [y0, y1, y2, y3], _ =>
      have g0 : DataW.trod enc P w base spare held n f0.type [c0] = some y0 := by simpa [Value.cells, o0, k0] using hg 0 f0 rfl
      have g1 : DataW.trod enc P w base spare held n f1.type [c1] = some y1 := by simpa [Value.cells, o1, k1] using hg 1 f1 rfl
      have g2 : DataW.trod enc P w base spare held n f2.type [c2] = some y2 := by simpa [Value.cells, o2, k2] using hg 2 f2 rfl
      have g3 : DataW.trod enc P w base spare held n f3.type [c3] = some y3 := by simpa [Value.cells, o3, k3] using hg 3 f3 rfl
      obtain ⟨A, c, l, rfl, q1, q2, q3, q4⟩ := open_flo h0 hc he g0
      obtain ⟨z1, rfl, i1⟩ := trod_i64 h1 g1
      obtain ⟨z2, rfl, i2⟩ := trod_i64 h2 g2
      obtain ⟨z3, rfl, i3⟩ := trod_i64 h3 g3
      exact ⟨A, c, l, z1, z2, z3, rfl, q1, q2, q3, q4, i1, i2, i3⟩

theorem open_mat {t : TypeId} {f0 f1 f2 f3 f4 : Field} {e : TypeId} {v : Value} {d : DataW H} {p : List MemPlace} {r : Reach} {b0 : Nat} (hs : P.underlying t = some (.struct #[f0, f1, f2, f3, f4])) (hone : oneCellFields P #[f0, f1, f2, f3, f4] = true) (hC : P.cellsOf t = 5)
    (h0 : P.underlying f0.type = some (.slice e)) (hc : P.cellsOf e = 1) (he : P.underlying e = some (.float .f64)) (h1 : P.underlying f1.type = some (.int .i64)) (h2 : P.underlying f2.type = some (.int .i64)) (h3 : P.underlying f3.type = some (.int .i64)) (h4 : P.underlying f4.type = some (.int .i64))
    (hv : Value.okWide P w r b0 t v) (h : DataW.Trod enc P w base spare held t v d p) :
    ∃ A c l off r k ld, v = mat A l.length c off r k ld ∧ l.length ≤ c ∧ c < 9223372036854775808 ∧ Wds l ∧ Row w A (f64s l) ∧ I64 off ∧ I64 r ∧ I64 k ∧ I64 ld := by
  obtain ⟨cs, rfl, hsz⟩ := okWide_struct hs hv
  obtain ⟨ls⟩ := cs
  match ls, hsz.trans hC with
  | [c0, c1, c2, c3, c4], _ =>
    obtain ⟨fuel, hf⟩ := h
    obtain ⟨xs, n, _, hx, _, hlen, hg⟩ := DataW.trod_struct hs hf
    obtain ⟨o0, k0⟩ := hone_of hone 0 f0 rfl
    obtain ⟨o1, k1⟩ := hone_of hone 1 f1 rfl
    obtain ⟨o2, k2⟩ := hone_of hone 2 f2 rfl
    obtain ⟨o3, k3⟩ := hone_of hone 3 f3 rfl
    obtain ⟨o4, k4⟩ := hone_of hone 4 f4 rfl
    match xs, hlen with
    | [y0, y1, y2, y3, y4], _ =>
      have g0 : DataW.trod enc P w base spare held n f0.type [c0] = some y0 := by simpa [Value.cells, o0, k0] using hg 0 f0 rfl
      have g1 : DataW.trod enc P w base spare held n f1.type [c1] = some y1 := by simpa [Value.cells, o1, k1] using hg 1 f1 rfl
      have g2 : DataW.trod enc P w base spare held n f2.type [c2] = some y2 := by simpa [Value.cells, o2, k2] using hg 2 f2 rfl
      have g3 : DataW.trod enc P w base spare held n f3.type [c3] = some y3 := by simpa [Value.cells, o3, k3] using hg 3 f3 rfl
      have g4 : DataW.trod enc P w base spare held n f4.type [c4] = some y4 := by simpa [Value.cells, o4, k4] using hg 4 f4 rfl
      obtain ⟨A, c, l, rfl, q1, q2, q3, q4⟩ := open_flo h0 hc he g0
      obtain ⟨z1, rfl, i1⟩ := trod_i64 h1 g1
      obtain ⟨z2, rfl, i2⟩ := trod_i64 h2 g2
      obtain ⟨z3, rfl, i3⟩ := trod_i64 h3 g3
      obtain ⟨z4, rfl, i4⟩ := trod_i64 h4 g4
      exact ⟨A, c, l, z1, z2, z3, z4, rfl, q1, q2, q3, q4, i1, i2, i3, i4⟩
theorem open_flos {t e : TypeId} {v : Value} {d : DataW H} {p : List MemPlace} {r : Reach} {b0 : Nat} (ht : P.underlying t = some (.slice e)) (hc : P.cellsOf e = 1) (he : P.underlying e = some (.float .f64))
    (hv : Value.okWide P w r b0 t v) (h : DataW.Trod enc P w base spare held t v d p) : ∃ A c l, v = .slice A l.length c ∧ l.length ≤ c ∧ c < 9223372036854775808 ∧ Wds l ∧ Row w A (f64s l) := by
  obtain ⟨a, len, cap, rfl⟩ := okWide_slice ht hv
  obtain ⟨fuel, hf⟩ := h
  exact open_flo ht hc he (by simpa [Value.cells] using hf)
theorem open_i64 {t : TypeId} {v : Value} {d : DataW H} {p : List MemPlace} {r : Reach} {b0 : Nat} (ht : P.underlying t = some (.int .i64)) (hv : Value.okWide P w r b0 t v) (h : DataW.Trod enc P w base spare held t v d p) : ∃ z : Int, v = .int .i64 z ∧ I64 z := by
  obtain ⟨z, rfl, _, _, hw⟩ := open_int ht hv h
  refine ⟨z, rfl, ?_⟩
  simp [Lit.wf, IntKind.min, IntKind.max, IntKind.signed, IntKind.bits] at hw
  unfold I64; omega
theorem open_f64 {t : TypeId} {v : Value} {d : DataW H} {p : List MemPlace} {r : Reach} {b0 : Nat} (ht : P.underlying t = some (.float .f64)) (hv : Value.okWide P w r b0 t v) (h : DataW.Trod enc P w base spare held t v d p) : ∃ b : Nat, v = .float .f64 b ∧ b < 18446744073709551616 := by
  obtain ⟨b, rfl, _, _, hw⟩ := open_float ht hv h
  exact ⟨b, rfl, by simpa [Lit.wf] using hw⟩
end
end Go.Proofs.YtbkbeglmfhaleaaGreatDoor
/-
The law's of: floats, exactly, in both ways. Conditions: the list has at most 2^20 numbers.
-/
set_option linter.unusedVariables false
set_option linter.unusedSimpArgs false
set_option linter.unnecessarySimpa false
namespace Go.Proofs.YtbkbeglmfhaleaaGreatDoor
open Go.RowKit
attribute [local go_sem ↓] Go.wp_at_zero Go.wp_at_succ

theorem kind_fin9 (z : Nat) : (kindOf z != 0) = !Fl.fin z := by
  unfold kindOf Fl.fin
  rw [Bool.eq_iff_iff]
  simp only [bne_iff_ne, ne_eq, Bool.not_eq_true', decide_eq_false_iff_not]
  split
  · simp [*]
  · split <;> simp [*]
/-- The document's Finite, of one number. -/
theorem rfin_one (b o c x : Nat) (w : World) (hc : w.cell? ⟨b, o, none⟩ = some (.float .f64 x)) (hx : x < 18446744073709551616) :
    Calls Tryz.prog 31 #[.slice (some ⟨b, o, none⟩) 1 c] w fun e w' => e = .returned (.bool (Fl.fin x)) ∧ w = w' := by
  have hkd := kind_fin9 x
  have HC := Lib.hid hc
  have HX := Lib.hid hx
  clear hc hx
  go_enter Tryz.func31, Tryz.ntmps31
  go_wp2_with fail
  go_loop [3] (fun i => ∃ k : Nat, k ≤ 1 ∧ i = .int .i64 (k : Int) ∧ (k = 1 → Fl.fin x = true)) (fun i => 1 - (intOf i).toNat)
  case atStart => exact ⟨0, by omega, rfl, fun h => by omega⟩
  case round =>
    obtain ⟨k, hk, rfl, ha⟩ := hrel
    have HA := Lib.hid ha
    clear ha
    by_cases hlt : k < 1
    · obtain rfl : k = 0 := by omega
      have hc := HC.out
      cases hf : Fl.fin x
      · rw [hf] at hkd
        have HF := Lib.hid hf
        clear hf
        go_wp2_with fail
        refine (parts_any x _ HX.out).mono ?_
        rintro e w' ⟨rfl, rfl⟩
        go_wp2_with fail
        go_ret
        exact ⟨by rw [HF.out]; rfl, rfl⟩
      · rw [hf] at hkd
        have HF := Lib.hid hf
        clear hf
        go_wp2_with fail
        refine (parts_any x _ HX.out).mono ?_
        rintro e w' ⟨rfl, rfl⟩
        go_wp2_with fail
        go_round
        case rel => exact ⟨1, by omega, by rfl, by first | exact fun _ => HF.out | exact fun _ => trivial | simp⟩
        case measure => simp [intOf]
    · obtain rfl : k = 1 := by omega
      have HF := Lib.hid (HA.out rfl)
      go_wp2_with fail
      go_ret
      exact ⟨by rw [HF.out]; rfl, rfl⟩
/-- Those of the first numbers that are finite, exactly. -/
def fins (l : List Nat) : List Dyadic := (l.filter Fl.fin).map fdy
theorem fins_snoc (l : List Nat) {i : Nat} (h : i < l.length) : fins (l.take (i + 1)) = fins (l.take i) ++ (if Fl.fin l[i] then [fdy l[i]] else []) := by
  unfold fins
  rw [List.take_succ_eq_append_getElem h, List.filter_append, List.map_append]
  cases hf : Fl.fin l[i] <;> simp [hf]
theorem rds_snoc (S : List R3) (y : R3) : rds (S ++ [y]) = rds S ++ [y.num] := by unfold rds; simp
theorem rds_length (S : List R3) : (rds S).length = S.length := by unfold rds; simp
/-- What of keeps: both lists hold the first numbers that are finite. -/
def OfI (l : List Nat) (q : Nat) (W : World) (X : List D4) (Y : List R3) (va vb : Value) : Prop :=
  dds X = fins (l.take q) ∧ rds Y = fins (l.take q) ∧ Oks W X ∧ Rks W Y ∧ (X = [] → va = .slice none 0 0) ∧ (Y = [] → vb = .slice none 0 0)
theorem of_facts {q n c : Nat} (h : q < n) (hn : n < 1048576) (hc : n ≤ c) : ∃ q1 : Nat, q + 1 = q1 ∧ wrap64 ((q : Int) + 1) = (q1 : Int) ∧ IntKind.i64.wrap ((q : Int) + 1) = (q1 : Int) ∧ (q : Int) ≤ (q1 : Int) ∧ (q1 : Int) ≤ (c : Int) ∧ (0 : Int) ≤ (q : Int) ∧ q ≤ q1 ∧ q1 ≤ c ∧ q1 - q = 1 ∧ ¬ c = q := by
  refine ⟨q + 1, rfl, ?_, ?_, by omega, by omega, by omega, by omega, by omega, by omega, by omega⟩
  · unfold wrap64; omega
  · rw [IntWalk.i64_in _ (by omega)]; omega
theorem fin_inf {b : Nat} (h : Fl.fin b = true) : Fl.rung b < Fl.INF := by unfold Fl.fin at h; simpa using h

/-- What of comes to. -/
def OfR (l : List Nat) (w : World) (e : Ending) (w' : World) : Prop :=
  ∃ (va vb : Value) (X : List D4) (Y : List R3), e = .returned (.tuple #[va, vb, .bool true]) ∧ OfI l l.length w' X Y va vb ∧ OwZ w' w.heap.size 37 #[.bool false, .slice none 0 0, .bool false, .slice none 0 0] va X.length (d4s X) ∧ OwZ w' w.heap.size 30 #[.bool false, .slice none 0 0, .int .i64 0] vb Y.length (r3s Y) ∧ Below w.heap.size w w'
set_option maxRecDepth 100000 in
set_option maxHeartbeats 4000000 in
theorem of_law (A : Option Addr) (n c : Nat) (l : List Nat) (w : World) (hA : Row w A (f64s l)) (hW : Wds l) (hl : l.length = n) (hn : n < 1048576) (hnc : n ≤ c) (hg : Glob w) :
    Calls Tryz.prog 7 #[.slice A n c] w (OfR l w) := by
  obtain ⟨i0, hi, hzz⟩ := Option.map_eq_some_iff.1 info_D
  simp only [Prod.mk.injEq] at hzz
  obtain ⟨hz0, hz1, hz2⟩ := hzz
  obtain ⟨j0, hj, hzz⟩ := Option.map_eq_some_iff.1 info_R
  simp only [Prod.mk.injEq] at hzz
  obtain ⟨hy0, hy1, hy2⟩ := hzz
  have HA := Lib.hid hA
  have HW := Lib.hid hW
  have Hl := Lib.hid hl
  have HG := Lib.hid hg
  clear hA hW hl hg
  go_enter Tryz.func7, Tryz.ntmps7
  go_wp2_with fail
  go_loopw [5, 6, 7] (fun va vb iv wr => ∃ (q : Nat) (X : List D4) (Y : List R3), q ≤ n ∧ X.length ≤ q ∧ Y.length ≤ q ∧ iv = .int .i64 (q : Int) ∧ Hid (OfI l q wr X Y va vb) ∧ OwZ wr w.heap.size 37 #[.bool false, .slice none 0 0, .bool false, .slice none 0 0] va X.length (d4s X) ∧ OwZ wr w.heap.size 30 #[.bool false, .slice none 0 0, .int .i64 0] vb Y.length (r3s Y) ∧ Below w.heap.size w wr) (fun _ _ iv _ => n - (intOf iv).toNat)
  case atStart => exact ⟨0, [], [], Nat.zero_le _, Nat.le_refl _, Nat.le_refl _, rfl, Lib.hid ⟨rfl, rfl, (fun x hx => by cases hx), (fun x hx => by cases hx), (fun _ => rfl), (fun _ => rfl)⟩, OwZ.nil _ _ _ _, OwZ.nil _ _ _ _, Below.refl _ _⟩
  case round =>
    obtain ⟨q, X, Y, hq, hXq, hYq, rfl, HI, hOa, hOb, hB⟩ := hrel
    by_cases hlt : q < n
    · have hql : q < l.length := by rw [Hl.out]; exact hlt
      obtain ⟨b, o, rfl, _, hc0⟩ := HA.out.at_ (f64s_get l q hql)
      have hc := cell_below hc0 hB
      have hx64 := HW.out.at_ q hql
      have hsn := fins_snoc l hql
      generalize l[q] = x at *
      have HX := Lib.hid hx64
      have HSn := Lib.hid hsn
      have HC := Lib.hid hc0
      have HB := Lib.hid hB
      have HOa := Lib.hid hOa
      have HOb := Lib.hid hOb
      have HOf := Lib.hid (pof_v x wr hx64 (HG.out.below hB))
      have hqi : (q : Int) < (n : Int) := by omega
      have hq1 : q + 1 ≤ 1048576 := by omega
      obtain ⟨q1, hq1e, hqw, hqk, hle1, hle2, hle3, hle4, hle5, hq1q, hcq⟩ := of_facts hlt hn hnc
      have HQ := Lib.hid hq1e
      clear hc0 hx64 hsn hOa hOb hB hql hq1e
      have HFi := Lib.hid (fun W (hb : Below w.heap.size w W) => rfin_one b (o + q) (c - q) x W (cell_below HC.out hb) HX.out)
      cases hf : Fl.fin x
      · rw [hf] at HOf HSn HFi
        simp only [Bool.false_eq_true, if_false, List.append_nil] at HOf HSn
        clear hf
        go_wp2_with fail
        refine HOf.out.mono ?_
        rintro e w2 ⟨v, rfl, hpv, hb⟩
        obtain ⟨y, hyo, rfl, hyd⟩ := hpv.d4
        unfold D4.val
        have HB2 := Lib.hid (below_al (below_nx HB.out hb) (o := .cells #[.bool (ng (mant y.d)), .slice y.A y.n y.c, .bool (ng (expo y.d)), .slice y.A' y.n' y.c'] 37))
        have HOa2 := Lib.hid ((HOa.out.below hb).below (below_one (o := .cells #[.bool (ng (mant y.d)), .slice y.A y.n y.c, .bool (ng (expo y.d)), .slice y.A' y.n' y.c'] 37)))
        have HOb2 := Lib.hid ((HOb.out.below hb).below (below_one (o := .cells #[.bool (ng (mant y.d)), .slice y.A y.n y.c, .bool (ng (expo y.d)), .slice y.A' y.n' y.c'] 37)))
        have HI2 := Lib.hid (show OfI l (q + 1) (w2.alloc (.cells #[.bool (ng (mant y.d)), .slice y.A y.n y.c, .bool (ng (expo y.d)), .slice y.A' y.n' y.c'] 37)) X Y u5 u6 from ⟨HI.out.1.trans HSn.out.symm, HI.out.2.1.trans HSn.out.symm, (HI.out.2.2.1.below hb).below (below_one (o := .cells #[.bool (ng (mant y.d)), .slice y.A y.n y.c, .bool (ng (expo y.d)), .slice y.A' y.n' y.c'] 37)), (HI.out.2.2.2.1.below hb).below (below_one (o := .cells #[.bool (ng (mant y.d)), .slice y.A y.n y.c, .bool (ng (expo y.d)), .slice y.A' y.n' y.c'] 37)), HI.out.2.2.2.2.1, HI.out.2.2.2.2.2⟩)
        clear hyo hpv hb hyd hc
        go_wp2_with fail
        refine (HFi.out _ HB2.out).mono ?_
        rintro e w3 ⟨rfl, rfl⟩
        go_wp2_with fail
        go_roundw
        case rel => exact ⟨q + 1, X, Y, by omega, by omega, by omega, by rw [HQ.out], HI2, HOa2.out, HOb2.out, HB2.out⟩
        case measure => simp [intOf]; omega
      · rw [hf] at HOf HSn HFi
        simp only [if_true] at HOf HSn
        have HF := Lib.hid (fin_inf hf)
        clear hf
        go_wp2_with fail
        refine HOf.out.mono ?_
        rintro e w2 ⟨v, rfl, hpv, hb⟩
        obtain ⟨y, hyo, rfl, hyd⟩ := hpv.d4
        unfold D4.val
        have HB2 := Lib.hid (below_al (below_nx HB.out hb) (o := .cells #[.bool (ng (mant y.d)), .slice y.A y.n y.c, .bool (ng (expo y.d)), .slice y.A' y.n' y.c'] 37))
        have HOa2 := Lib.hid ((HOa.out.below hb).below (below_one (o := .cells #[.bool (ng (mant y.d)), .slice y.A y.n y.c, .bool (ng (expo y.d)), .slice y.A' y.n' y.c'] 37)))
        have HOb2 := Lib.hid ((HOb.out.below hb).below (below_one (o := .cells #[.bool (ng (mant y.d)), .slice y.A y.n y.c, .bool (ng (expo y.d)), .slice y.A' y.n' y.c'] 37)))
        have HXo2 := Lib.hid ((HI.out.2.2.1.below hb).below (below_one (o := .cells #[.bool (ng (mant y.d)), .slice y.A y.n y.c, .bool (ng (expo y.d)), .slice y.A' y.n' y.c'] 37)))
        have HYo2 := Lib.hid ((HI.out.2.2.2.1.below hb).below (below_one (o := .cells #[.bool (ng (mant y.d)), .slice y.A y.n y.c, .bool (ng (expo y.d)), .slice y.A' y.n' y.c'] 37)))
        have Hyo2 := Lib.hid (hyo.below (below_one (o := .cells #[.bool (ng (mant y.d)), .slice y.A y.n y.c, .bool (ng (expo y.d)), .slice y.A' y.n' y.c'] 37)))
        have HX8 := Lib.hid (Blk.new w2 37 #[.bool (ng (mant y.d)), .slice y.A y.n y.c, .bool (ng (expo y.d)), .slice y.A' y.n' y.c'])
        have HYd := Lib.hid hyd
        clear hyo hpv hb hyd hc
        obtain ⟨x0, x1, x2, x3, _⟩ := cells4 HX8.out
        go_wp2_with fail
        refine (HFi.out _ HB2.out).mono ?_
        rintro e w3 ⟨rfl, rfl⟩
        generalize hw3 : w2.alloc (.cells #[.bool (ng (mant y.d)), .slice y.A y.n y.c, .bool (ng (expo y.d)), .slice y.A' y.n' y.c'] 37) = w3 at *
        clear hw3
        have HB3 := Lib.hid (below_al HB2.out (o := .cells #[.bool (ng (mant y.d)), .slice y.A y.n y.c, .bool (ng (expo y.d)), .slice y.A' y.n' y.c'] 37))
        have HOa3 := Lib.hid (HOa2.out.below (below_one (o := .cells #[.bool (ng (mant y.d)), .slice y.A y.n y.c, .bool (ng (expo y.d)), .slice y.A' y.n' y.c'] 37)))
        have HOb3 := Lib.hid (HOb2.out.below (below_one (o := .cells #[.bool (ng (mant y.d)), .slice y.A y.n y.c, .bool (ng (expo y.d)), .slice y.A' y.n' y.c'] 37)))
        have HXo3 := Lib.hid (HXo2.out.below (below_one (o := .cells #[.bool (ng (mant y.d)), .slice y.A y.n y.c, .bool (ng (expo y.d)), .slice y.A' y.n' y.c'] 37)))
        have HYo3 := Lib.hid (HYo2.out.below (below_one (o := .cells #[.bool (ng (mant y.d)), .slice y.A y.n y.c, .bool (ng (expo y.d)), .slice y.A' y.n' y.c'] 37)))
        have Hyo3 := Lib.hid (Hyo2.out.below (below_one (o := .cells #[.bool (ng (mant y.d)), .slice y.A y.n y.c, .bool (ng (expo y.d)), .slice y.A' y.n' y.c'] 37)))
        have HN := Lib.hid (Blk.new w3 37 #[.bool (ng (mant y.d)), .slice y.A y.n y.c, .bool (ng (expo y.d)), .slice y.A' y.n' y.c'])
        go_wp2_with (at_builtin; refine wpList_append_z _ rfl _ _ 24 rfl w.heap.size 37 i0 (.agg #[.bool false, .slice none 0 0, .bool false, .slice none 0 0]) Tryz.underlying24 hi hz0 (by rw [hz1]; rfl) (by rw [hz1]; decide) _ X.length (d4s X) rfl HOa3.out ⟨w3.heap.size, 0, none⟩ 1 y.cells rfl (by rw [hz1]; rfl) ?c1 (fun u hu => y.cells_one u hu) ?c3 (by rw [hz2]; decide) ?c5 ?_)
        case c1 =>
          intro j u hj
          have e1 : (⟨w3.heap.size, 0, none⟩ : Addr).add j = ⟨w3.heap.size, j, none⟩ := by unfold Addr.add; split <;> simp_all
          rw [e1, HN.out.cell j, ← hj]
          show (y.cells.toArray)[j]? = _
          simp
        case c3 => omega
        case c5 => exact HB3.out.size
        intro va' w4 hown' hgrow hkp
        have HOa4 := Lib.hid (show OwZ w4 w.heap.size 37 #[.bool false, .slice none 0 0, .bool false, .slice none 0 0] va' (X ++ [y]).length (d4s (X ++ [y])) by rw [List.length_append, List.length_singleton, d4s_append, d4s_one]; exact hown')
        have HB4 := Lib.hid (HB3.out.grown hgrow HB3.out.size (fun k hk => by have := (HOa3.out.lt k hk).1; omega))
        have HOb4 := Lib.hid (HOb3.out.kept hgrow (HOb3.out.apart HOa3.out (by decide)))
        have HXo4 := Lib.hid (show Oks w4 (X ++ [y]) from fun z hz => by
          rcases List.mem_append.1 hz with hz | hz
          · exact (HXo3.out z hz).app hkp HOa3.out
          · rw [List.mem_singleton.1 hz]; exact Hyo3.out.app hkp HOa3.out)
        have HYo4 := Lib.hid (show Rks w4 Y from fun z hz => (HYo3.out z hz).grown hgrow HOa3.out (by decide))
        have HRo := Lib.hid (rof_v x w4 HX.out HF.out)
        have hc4 := cell_below HC.out HB4.out
        clear hown' hgrow hkp x0 x1 x2 x3
        go_wp2_with fail
        refine HRo.out.mono ?_
        rintro e w5 ⟨v5, rfl, hdv, hb⟩
        obtain ⟨u, huo, rfl, hud⟩ := hdv.r3
        unfold R3.val
        have HB5 := Lib.hid (below_al (below_nx HB4.out hb) (o := .cells #[.bool u.neg, .slice u.A u.n u.c, .int .i64 u.E] 30))
        have HOa5 := Lib.hid ((HOa4.out.below hb).below (below_one (o := .cells #[.bool u.neg, .slice u.A u.n u.c, .int .i64 u.E] 30)))
        have HOb5 := Lib.hid ((HOb4.out.below hb).below (below_one (o := .cells #[.bool u.neg, .slice u.A u.n u.c, .int .i64 u.E] 30)))
        have HXo5 := Lib.hid ((HXo4.out.below hb).below (below_one (o := .cells #[.bool u.neg, .slice u.A u.n u.c, .int .i64 u.E] 30)))
        have HYo5 := Lib.hid ((HYo4.out.below hb).below (below_one (o := .cells #[.bool u.neg, .slice u.A u.n u.c, .int .i64 u.E] 30)))
        have Huo5 := Lib.hid (huo.below (below_one (o := .cells #[.bool u.neg, .slice u.A u.n u.c, .int .i64 u.E] 30)))
        have HN5 := Lib.hid (Blk.new w5 30 #[.bool u.neg, .slice u.A u.n u.c, .int .i64 u.E])
        have HUd := Lib.hid hud
        clear huo hdv hb hud hc4
        go_wp2_with (at_builtin; refine wpList_append_z _ rfl _ _ 25 rfl w.heap.size 30 j0 (.agg #[.bool false, .slice none 0 0, .int .i64 0]) Tryz.underlying25 hj hy0 (by rw [hy1]; rfl) (by rw [hy1]; decide) _ Y.length (r3s Y) rfl HOb5.out ⟨w5.heap.size, 0, none⟩ 1 u.cells rfl (by rw [hy1]; rfl) ?d1 (fun v hv => u.cells_one v hv) ?d3 (by rw [hy2]; decide) ?d5 ?_)
        case d1 =>
          intro j v hj
          have e1 : (⟨w5.heap.size, 0, none⟩ : Addr).add j = ⟨w5.heap.size, j, none⟩ := by unfold Addr.add; split <;> simp_all
          rw [e1, HN5.out.cell j, ← hj]
          show (u.cells.toArray)[j]? = _
          simp
        case d3 => omega
        case d5 => exact HB5.out.size
        intro vb' w6 hown' hgrow hkp
        have HOb6 := Lib.hid (show OwZ w6 w.heap.size 30 #[.bool false, .slice none 0 0, .int .i64 0] vb' (Y ++ [u]).length (r3s (Y ++ [u])) by rw [List.length_append, List.length_singleton, r3s_append, r3s_one]; exact hown')
        have HB6 := Lib.hid (HB5.out.grown hgrow HB5.out.size (fun k hk => by have := (HOb5.out.lt k hk).1; omega))
        have HOa6 := Lib.hid (HOa5.out.kept hgrow (HOa5.out.apart HOb5.out (by decide)))
        have HI6 := Lib.hid (show OfI l (q + 1) w6 (X ++ [y]) (Y ++ [u]) va' vb' from
          ⟨by rw [dds_snoc, HI.out.1, HYd.out, HSn.out], by rw [rds_snoc, HI.out.2.1, HUd.out, HSn.out], fun z hz => (HXo5.out z hz).app3 hkp HOb5.out, fun z hz => by
            rcases List.mem_append.1 hz with hz | hz
            · exact (HYo5.out z hz).grown hgrow HOb5.out (by decide)
            · rw [List.mem_singleton.1 hz]; exact Huo5.out.grown hgrow HOb5.out (by decide), fun h => by simp at h, fun h => by simp at h⟩)
        clear hown' hgrow hkp
        go_wp2_with fail
        go_roundw
        case rel => exact ⟨q + 1, X ++ [y], Y ++ [u], by omega, by rw [List.length_append, List.length_singleton]; omega, by rw [List.length_append, List.length_singleton]; omega, by rw [HQ.out], HI6, HOa6.out, HOb6.out, HB6.out⟩
        case measure => simp [intOf]; omega
    · obtain rfl : q = n := by omega
      have hqi : ¬ (q : Int) < (q : Int) := by omega
      have HIe := Lib.hid (show OfI l l.length wr X Y u5 u6 by rw [Hl.out]; exact HI.out)
      go_wp2_with fail
      go_ret3
      exact ⟨_, _, X, Y, rfl, HIe.out, hOa, hOb, hB⟩

end Go.Proofs.YtbkbeglmfhaleaaGreatDoor
/-
The program's Sub. Conditions: the numbers lie in few digits.
-/
set_option linter.unusedVariables false
set_option linter.unusedSimpArgs false
set_option linter.unnecessarySimpa false
namespace Go.Proofs.YtbkbeglmfhaleaaGreatDoor
open Go.RowKit
attribute [local go_sem ↓] Go.wp_at_zero Go.wp_at_succ

/-- A list of two numbers, the first one told, behind the block lo. -/
def SlP (W : World) (v : Value) (x : D4) (e : Dyadic) (lo : Nat) : Prop := ∃ (g : Nat) (y : D4), v = .slice (some ⟨g, 0, none⟩) 2 2 ∧ Dl W (some ⟨g, 0, none⟩) [x, y] ∧ y.ok W ∧ y.d = e ∧ lo < g
theorem SlP.below {W W' : World} {v : Value} {x : D4} {e : Dyadic} {lo : Nat} (h : SlP W v x e lo) (hb : Below W.heap.size W W') : SlP W' v x e lo := by
  obtain ⟨g, y, h1, h2, h3, h4⟩ := h
  exact ⟨g, y, h1, h2.below hb, h3.below hb, h4⟩
theorem SlP.store4 {W : World} {v : Value} {x : D4} {e : Dyadic} {z : Nat} (h : SlP W v x e z) {t : TypeId} {a a' : Bool} {A' A'' : Option Addr} {n' c' n'' c'' : Nat} (hB : Blk W z t #[.bool a, .slice A' n' c', .bool a', .slice A'' n'' c'']) (u0 u1 u2 u3 : Value) :
    SlP ((((W.setCell ⟨z, 0, none⟩ u0).setCell ⟨z, 1, none⟩ u1).setCell ⟨z, 2, none⟩ u2).setCell ⟨z, 3, none⟩ u3) v x e z := by
  obtain ⟨g, y, h1, h2, h3, h4, h5⟩ := h
  refine ⟨g, y, h1, ?_, h3.store hB _ _ _ _, h4, h5⟩
  rcases h2 with h2 | ⟨b, o, e', hc⟩
  · exact .inl h2
  · injection e' with e'
    injection e' with e1 e2
    subst e1 e2
    refine .inr ⟨g, 0, rfl, fun i v hi => ?_⟩
    have hne : g ≠ z := by omega
    rw [cell_set hne, cell_set hne, cell_set hne, cell_set hne]
    exact hc i v hi
theorem dl_two (W : World) (x y : D4) : Dl (W.alloc (.cells #[.bool (ng (mant x.d)), .slice x.A x.n x.c, .bool (ng (expo x.d)), .slice x.A' x.n' x.c', .bool (ng (mant y.d)), .slice y.A y.n y.c, .bool (ng (expo y.d)), .slice y.A' y.n' y.c'] 37)) (some ⟨W.heap.size, 0, none⟩) [x, y] := by
  refine .inr ⟨W.heap.size, 0, rfl, fun i v hi => ?_⟩
  rw [Nat.zero_add, (Blk.new W _ _).cell i, ← hi]
  show ((d4s [x, y]).toArray)[i]? = _
  simp
theorem d4_neg_sum (x y : D4) {e : Dyadic} (h : y.d = e) : dysum (dds [x, y]) = x.d + e := by
  show x.d + (y.d + 0) = _
  rw [add_dz, h]

set_option maxRecDepth 100000 in
set_option maxHeartbeats 2000000 in
theorem psub_v {v v' : Value} {d d' : Dyadic} {w : World} (h : PV w v d) (h' : PV w v' d') (K : Nat) (hK : K ≤ 134216000) (hk : Sz K d) (hk' : Sz K d') (hg : Glob w) :
    Calls Tryz.prog 13 #[v, v'] w (RetP (d + -d') w) := by
  obtain ⟨x, hxo, rfl, rfl⟩ := h.d4
  obtain ⟨x9, hxo9, rfl, rfl⟩ := h'.d4
  clear h h'
  unfold D4.val
  have hbv : Below w.heap.size w (((w.alloc (.cells #[.bool (ng (mant x.d)), .slice x.A x.n x.c, .bool (ng (expo x.d)), .slice x.A' x.n' x.c'] 37)).alloc (.cells #[.bool (ng (mant x9.d)), .slice x9.A x9.n x9.c, .bool (ng (expo x9.d)), .slice x9.A' x9.n' x9.c'] 37)).alloc (.cells #[.bool false, .slice none 0 0, .bool false, .slice none 0 0] 37)) := ((((Below.refl w.heap.size w).alloc (Nat.le_refl _) (.cells #[.bool (ng (mant x.d)), .slice x.A x.n x.c, .bool (ng (expo x.d)), .slice x.A' x.n' x.c'] 37)).alloc (by simp) (.cells #[.bool (ng (mant x9.d)), .slice x9.A x9.n x9.c, .bool (ng (expo x9.d)), .slice x9.A' x9.n' x9.c'] 37)).alloc (by simp <;> omega) (.cells #[.bool false, .slice none 0 0, .bool false, .slice none 0 0] 37))
  have HX := Lib.hid (((Blk.new w 37 #[.bool (ng (mant x.d)), .slice x.A x.n x.c, .bool (ng (expo x.d)), .slice x.A' x.n' x.c']).alloc (.cells #[.bool (ng (mant x9.d)), .slice x9.A x9.n x9.c, .bool (ng (expo x9.d)), .slice x9.A' x9.n' x9.c'] 37)).alloc (.cells #[.bool false, .slice none 0 0, .bool false, .slice none 0 0] 37))
  have HY := Lib.hid ((Blk.new_ (w.alloc (.cells #[.bool (ng (mant x.d)), .slice x.A x.n x.c, .bool (ng (expo x.d)), .slice x.A' x.n' x.c'] 37)) 37 #[.bool (ng (mant x9.d)), .slice x9.A x9.n x9.c, .bool (ng (expo x9.d)), .slice x9.A' x9.n' x9.c'] (w.heap.size + 1) (by simp)).alloc (.cells #[.bool false, .slice none 0 0, .bool false, .slice none 0 0] 37))
  have HZ := Lib.hid (Blk.new_ ((w.alloc (.cells #[.bool (ng (mant x.d)), .slice x.A x.n x.c, .bool (ng (expo x.d)), .slice x.A' x.n' x.c'] 37)).alloc (.cells #[.bool (ng (mant x9.d)), .slice x9.A x9.n x9.c, .bool (ng (expo x9.d)), .slice x9.A' x9.n' x9.c'] 37)) 37 #[.bool false, .slice none 0 0, .bool false, .slice none 0 0] (w.heap.size + 1 + 1) (by simp))
  have HNg := Lib.hid (fun W (hb : Below w.heap.size w W) => pneg_v (hxo9.below hb).pv)
  have HAd := Lib.hid (fun W (hb : Below w.heap.size w W) (g8 : Nat) (y8 : D4) (h1 : Dl W (some ⟨g8, 0, none⟩) [x, y8]) (h2 : y8.ok W) (h3 : y8.d = -x9.d) => show Calls Tryz.prog 19 #[.slice (some ⟨g8, 0, none⟩) 2 2] W (RetP (x.d + -x9.d) W) from by
    have := padd_any g8 0 2 2 [x, y8] W rfl (by omega) h1 (fun z hz => by
      rcases List.mem_cons.1 hz with rfl | hz
      · exact hxo.below hb
      · rw [List.mem_singleton.1 hz]; exact h2) K hK (fun z hz => by
      rcases List.mem_cons.1 hz with rfl | hz
      · exact hk
      · rw [List.mem_singleton.1 hz, h3]; exact Sz.neg hk') (hg.below hb)
    rw [d4_neg_sum x y8 h3] at this
    exact this)
  unfold D4.val at HNg
  have HBv := Lib.hid hbv
  clear hxo hxo9 hk hk' hg
  go_enter Tryz.func13, Tryz.ntmps13
  go_wp2_with fail
  generalize (((w.alloc (.cells #[.bool (ng (mant x.d)), .slice x.A x.n x.c, .bool (ng (expo x.d)), .slice x.A' x.n' x.c'] 37)).alloc (.cells #[.bool (ng (mant x9.d)), .slice x9.A x9.n x9.c, .bool (ng (expo x9.d)), .slice x9.A' x9.n' x9.c'] 37)).alloc (.cells #[.bool false, .slice none 0 0, .bool false, .slice none 0 0] 37)) = V at *
  have HBV := HBv
  have hBE : ∀ {W : World}, Below V.heap.size V W → Below w.heap.size w W := fun h => below_np HBV.out h
  clear hbv
  refine wp_region_inv [5, 6, 7, 8, 9] (fun d s W => (d 0 = true → s 5 = .agg #[.bool (ng (mant x.d)), .slice x.A x.n x.c, .bool (ng (expo x.d)), .slice x.A' x.n' x.c']) ∧ (d 1 = true → s 6 = .agg #[.bool (ng (mant x9.d)), .slice x9.A x9.n x9.c, .bool (ng (expo x9.d)), .slice x9.A' x9.n' x9.c']) ∧ (d 2 = true → PV W (s 7) (-x9.d)) ∧ (d 3 = true → SlP W (s 8) x (-x9.d) (w.heap.size + 1 + 1)) ∧ (d 4 = true → PV W (s 9) (x.d + -x9.d)) ∧ (d 2 = true → d 1 = true) ∧ (d 3 = true → d 0 = true ∧ d 1 = true ∧ d 2 = true) ∧ (d 4 = true → d 0 = true ∧ d 1 = true ∧ d 2 = true ∧ d 3 = true) ∧ (d 5 = true → d 0 = true ∧ d 1 = true ∧ d 2 = true ∧ d 3 = true ∧ d 4 = true) ∧ ((d 5 = false → Below V.heap.size V W) ∧ (d 5 = true → PBx W (w.heap.size + 1 + 1) (x.d + -x9.d) ∧ Below w.heap.size w W)))
    rfl (by kernel_rfl) ?_ ?_ ?_
  · exact ⟨by simp, by simp, by simp, by simp, by simp, by simp, by simp, by simp, by simp, ⟨fun _ => (Below.refl _ _).drew, fun h => by simp at h⟩⟩
  · refine ⟨?_, ?_, ?_, ?_, ?_, ?_, trivial⟩
    all_goals
      intro d s W hJ hfr hd hdep
      simp only [List.mem_cons, forall_eq_or_imp, List.not_mem_nil, false_implies, implies_true, and_true, Region.binds] at hdep
      have f2 := hfr 2 (by decide)
      have f3 := hfr 3 (by decide)
      have f4 := hfr 4 (by decide)
      simp at f2 f3 f4 hdep
      obtain ⟨h0, h1, h2, h3, h4, x0, x1, x2, x3, hT⟩ := hJ
    · have hl : d 5 = false := by
        cases h : d 5
        · rfl
        · have := x3 h; simp [hd] at this
      replace hT := hT.1 hl
      unfold OpSteps
      obtain ⟨p0, p1, p2, p3, _⟩ := cells4 (HX.out.below hT HX.out.lt)
      simp [go_sem, evS, f2, p0, p1, p2, p3]
      exact ⟨fun _ => by simp [sput], fun h => by simpa [sput] using h1 (by simpa [did] using h), fun h => by simpa [sput] using h2 (by simpa [did] using h), fun h => by simpa [sput] using h3 (by simpa [did] using h), fun h => by simpa [sput] using h4 (by simpa [did] using h), fun h => by have := x0 (by simpa [did] using h); simp [did, this], fun h => by have := x1 (by simpa [did] using h); simp [did, this], fun h => by have := x2 (by simpa [did] using h); simp [did, this], fun h => by have := x3 (by simpa [did] using h); simp [did, this], ⟨fun _ => hT, fun h => by simp [did, hl] at h⟩⟩
    · have hl : d 5 = false := by
        cases h : d 5
        · rfl
        · have := x3 h; simp [hd] at this
      replace hT := hT.1 hl
      unfold OpSteps
      obtain ⟨p0, p1, p2, p3, _⟩ := cells4 (HY.out.below hT HY.out.lt)
      simp [go_sem, evS, f3, p0, p1, p2, p3]
      exact ⟨fun h => by simpa [sput] using h0 (by simpa [did] using h), fun _ => by simp [sput], fun h => by simpa [sput] using h2 (by simpa [did] using h), fun h => by simpa [sput] using h3 (by simpa [did] using h), fun h => by simpa [sput] using h4 (by simpa [did] using h), fun h => by have := x0 (by simpa [did] using h); simp [did, this], fun h => by have := x1 (by simpa [did] using h); simp [did, this], fun h => by have := x2 (by simpa [did] using h); simp [did, this], fun h => by have := x3 (by simpa [did] using h); simp [did, this], ⟨fun _ => hT, fun h => by simp [did, hl] at h⟩⟩
    · have hl : d 5 = false := by
        cases h : d 5
        · rfl
        · have := x3 h; simp [hd] at this
      replace hT := hT.1 hl
      have g1 := h1 (by simp [hdep])
      unfold OpSteps
      simp [go_sem, evS, g1]
      refine (HNg.out W (hBE hT)).mono ?_
      rintro e W' ⟨v9, rfl, hv, hb⟩
      refine ⟨_, rfl, ?_⟩
      exact ⟨fun h => by simpa [sput] using h0 (by simpa [did] using h), fun h => by simpa [sput] using h1 (by simpa [did] using h), fun _ => by simpa [sput] using hv, fun h => by simpa [sput] using (h3 (by simpa [did] using h)).below hb, fun h => by simpa [sput] using (h4 (by simpa [did] using h)).below hb, fun _ => by simp [did, hdep], fun h => by have := x1 (by simpa [did] using h); simp [did, this], fun h => by have := x2 (by simpa [did] using h); simp [did, this], fun h => by have := x3 (by simpa [did] using h); simp [did, this], ⟨fun _ => below_np hT hb, fun h => by simp [did, hl] at h⟩⟩
    · have hl : d 5 = false := by
        cases h : d 5
        · rfl
        · have := x3 h; simp [hd] at this
      replace hT := hT.1 hl
      have g0 := h0 (by simp [hdep])
      have g2 := h2 (by simp [hdep])
      unfold OpSteps
      obtain ⟨y, hyo, gy, hyd⟩ := g2.d4
      unfold D4.val at gy
      have hb9 : Below W.heap.size W (W.alloc (.cells #[.bool (ng (mant x.d)), .slice x.A x.n x.c, .bool (ng (expo x.d)), .slice x.A' x.n' x.c', .bool (ng (mant y.d)), .slice y.A y.n y.c, .bool (ng (expo y.d)), .slice y.A' y.n' y.c'] 37)) := below_one
      simp [go_sem, evS, g0, gy]
      exact ⟨fun h => by simpa [sput] using h0 (by simpa [did] using h), fun h => by simpa [sput] using h1 (by simpa [did] using h), fun h => by simpa [sput] using (h2 (by simpa [did] using h)).below hb9, fun _ => ⟨_, y, by simp [sput], dl_two W x y, hyo.below hb9, hyd, by have h1 := HZ.out.lt; have h2 := hT.size; omega⟩, fun h => by simpa [sput] using (h4 (by simpa [did] using h)).below hb9, fun h => by have := x0 (by simpa [did] using h); simp [did, this], fun _ => by have y2 := x0 (by simp [hdep]); simp [did, hdep, y2], fun h => by have := x2 (by simpa [did] using h); simp [did, this], fun h => by have := x3 (by simpa [did] using h); simp [did, this], ⟨fun _ => below_np hT hb9, fun h => by simp [did, hl] at h⟩⟩
    · have hl : d 5 = false := by
        cases h : d 5
        · rfl
        · have := x3 h; simp [hd] at this
      replace hT := hT.1 hl
      have g3 := h3 (by simp [hdep])
      unfold OpSteps
      obtain ⟨g8, y8, gs8, hdl8, ho8, hd8, _⟩ := g3
      simp [go_sem, evS, gs8]
      refine (HAd.out W (hBE hT) g8 y8 hdl8 ho8 hd8).mono ?_
      rintro e W' ⟨v9, rfl, hv, hb⟩
      refine ⟨_, rfl, ?_⟩
      exact ⟨fun h => by simpa [sput] using h0 (by simpa [did] using h), fun h => by simpa [sput] using h1 (by simpa [did] using h), fun h => by simpa [sput] using (h2 (by simpa [did] using h)).below hb, fun h => by simpa [sput] using (h3 (by simpa [did] using h)).below hb, fun _ => by simpa [sput] using hv, fun h => by have := x0 (by simpa [did] using h); simp [did, this], fun h => by have := x1 (by simpa [did] using h); simp [did, this], fun _ => by have y3 := x1 (by simp [hdep]); simp [did, hdep, y3], fun h => by have := x3 (by simpa [did] using h); simp [did, this], ⟨fun _ => below_np hT hb, fun h => by simp [did, hl] at h⟩⟩
    · have g4 := h4 (by simp [hdep])
      unfold OpSteps
      replace hT := hT.1 hd
      obtain ⟨A9, n9, c9, A8, n8, c8, gv, hD9⟩ := g4
      have hB9 := HZ.out.below hT HZ.out.lt
      obtain ⟨k0, k1, k2, k3, fr0, fr1, fr2, fr3⟩ := cells4 hB9
      simp [go_sem, evS, f4, gv, fr0, fr1, fr2, fr3, k0, k1, k2, k3]
      exact ⟨fun h => by simpa [sput] using h0 (by simpa [did] using h), fun h => by simpa [sput] using h1 (by simpa [did] using h), fun h => by simpa [sput] using (h2 (by simpa [did] using h)).store4 hB9 _ _ _ _, fun h => by simpa [sput] using (h3 (by simpa [did] using h)).store4 hB9 _ _ _ _, fun h => by simpa [sput] using (h4 (by simpa [did] using h)).store4 hB9 _ _ _ _, fun h => by have := x0 (by simpa [did] using h); simp [did, this], fun h => by have := x1 (by simpa [did] using h); simp [did, this], fun h => by have := x2 (by simpa [did] using h); simp [did, this], fun _ => by have y4 := x2 (by simp [hdep]); simp [did, hdep, y4], ⟨fun h => by simp [did] at h, fun _ => ⟨pbx_store hB9 hD9, (((((HBV.out.trans (hT.mono HBV.out.size)).setCell (p := ⟨w.heap.size + 1 + 1, 0, none⟩) (by simp <;> omega) _).setCell (p := ⟨w.heap.size + 1 + 1, 1, none⟩) (by simp <;> omega) _).setCell (p := ⟨w.heap.size + 1 + 1, 2, none⟩) (by simp <;> omega) _).setCell (p := ⟨w.heap.size + 1 + 1, 3, none⟩) (by simp <;> omega) _)⟩⟩⟩
  intro d s W hJ hd
  obtain ⟨h0, h1, h2, h3, h4, x0, x1, x2, x3, hT⟩ := hJ
  obtain ⟨hBx, hBl⟩ := hT.2 (hd 5 (by decide))
  have HBx2 := Lib.hid hBx
  have HBl2 := Lib.hid hBl
  clear h0 h1 h2 h3 h4 x0 x1 x2 x3 hT hd hBx hBl
  simp [setAll]
  generalize s 5 = s5
  generalize s 6 = s6
  generalize s 7 = s7
  generalize s 8 = s8
  generalize s 9 = s9
  obtain ⟨p9, hp1, hp2, hp3⟩ := HBx2.out
  obtain ⟨k0, k1, k2, k3, _⟩ := cells4 (v0 := .bool (ng (mant p9.d))) (v1 := .slice p9.A p9.n p9.c) (v2 := .bool (ng (expo p9.d))) (v3 := .slice p9.A' p9.n' p9.c') hp3
  have HP1 := Lib.hid hp1
  have HP2 := Lib.hid hp2
  clear hp1 hp2 hp3
  go_wp2_with fail
  exact bodyPost_ret (v := .agg #[.bool (ng (mant p9.d)), .slice p9.A p9.n p9.c, .bool (ng (expo p9.d)), .slice p9.A' p9.n' p9.c']) (by simp [results, Tryz.results13, go_sem, k0, k1, k2, k3]) rfl ⟨_, rfl, pv_eq HP2.out.pv HP1.out, HBl2.out⟩

end Go.Proofs.YtbkbeglmfhaleaaGreatDoor
/-
Lists of numbers as values, what Add and Mul make of them; regions of one fact an operation that end in stores. Conditions: as each says.
-/
set_option linter.unusedVariables false
set_option linter.unusedSimpArgs false
namespace Go.Proofs.YtbkbeglmfhaleaaGreatDoor
open Go.RowKit

theorem mono_pv (d : Dyadic) : Mono fun v W => PV W v d := fun _ _ _ h hb => PV.below h hb
theorem mono_dv (d : Dyadic) : Mono fun v W => DV W v d := fun _ _ _ h hb => DV.below h hb
/-- A list of the program's numbers. -/
def LP (W : World) (v : Value) (ds : List Dyadic) : Prop := ∃ (A : Option Addr) (c : Nat) (xs : List D4), v = .slice A xs.length c ∧ Dl W A xs ∧ Oks W xs ∧ dds xs = ds ∧ (xs = [] → v = .slice none 0 0)
theorem LP.below {W W' : World} {v : Value} {ds : List Dyadic} (h : LP W v ds) (hb : Below W.heap.size W W') : LP W' v ds := by
  obtain ⟨A, c, xs, h1, h2, h3, h4, h5⟩ := h
  exact ⟨A, c, xs, h1, h2.below hb, fun x hx => (h3 x hx).below hb, h4, h5⟩
theorem mono_lp (ds : List Dyadic) : Mono fun v W => LP W v ds := fun _ _ _ h hb => LP.below h hb
theorem LP.add {W : World} {v : Value} {ds : List Dyadic} (h : LP W v ds) (K : Nat) (h12 : ds.length ≤ 12) (hK : K ≤ 134216000) (hk : ∀ d ∈ ds, Sz K d) (hg : Glob W) : Calls Tryz.prog 19 #[v] W (RetP (dysum ds) W) := by
  obtain ⟨A, c, xs, h1, h2, h3, rfl, h5⟩ := h
  by_cases e : xs = []
  · rw [h5 e, e]; exact padd_nil W hg
  · have hp : 0 < xs.length := List.length_pos_iff.2 e
    obtain ⟨b, o, rfl, _⟩ := h2.at_ hp
    rw [h1]
    exact padd_any b o _ c xs W rfl (by rw [dds_length] at h12; exact h12) h2 h3 K hK (fun x hx => hk _ (List.mem_map.2 ⟨x, hx, rfl⟩)) hg
theorem LP.mul {W : World} {v : Value} {ds : List Dyadic} (h : LP W v ds) (k : Nat) (h12 : ds.length ≤ 12) (hk : ∀ d ∈ ds, Sz k d) (hK : k ≤ 10000000) (hg : Glob W) : Calls Tryz.prog 20 #[v] W (RetP (dpr ds) W) := by
  obtain ⟨A, c, xs, h1, h2, h3, rfl, h5⟩ := h
  rw [dds_length] at h12
  have hm : xs.length * k ≤ 12 * 10000000 := Nat.mul_le_mul h12 hK
  rw [h1]
  refine pmul_any A _ c xs W rfl h2 h3 (by omega) k (fun x hx => hk _ (List.mem_map.2 ⟨x, hx, rfl⟩)) (by omega) (fun e => .inl ?_) hg
  have := h5 (List.length_eq_zero_iff.1 e)
  rw [h1] at this
  injection this
/-- Two numbers' cells, one behind the other: a new list. -/
theorem LP.two {W : World} {v v' : Value} {d d' : Dyadic} (h : PV W v d) (h' : PV W v' d') : ∃ cs : List Value, v.cells.toList ++ v'.cells.toList = cs ∧ LP (W.alloc (.cells cs.toArray 37)) (.slice (some ⟨W.heap.size, 0, none⟩) 2 2) [d, d'] := by
  obtain ⟨x, h1, rfl, rfl⟩ := h.d4
  obtain ⟨y, h2, rfl, rfl⟩ := h'.d4
  refine ⟨d4s [x, y], rfl, _, 2, [x, y], rfl, .inr ⟨_, 0, rfl, fun i u hi => ?_⟩, ?_, rfl, fun e => by cases e⟩
  · rw [Nat.zero_add, (Blk.new W 37 (d4s [x, y]).toArray).cell i]; simpa using hi
  · intro z hz
    simp only [List.mem_cons, List.not_mem_nil, or_false] at hz
    rcases hz with rfl | rfl
    · exact h1.below below_one
    · exact h2.below below_one
theorem LP.three {W : World} {v v' v'' : Value} {d d' d'' : Dyadic} (h : PV W v d) (h' : PV W v' d') (h'' : PV W v'' d'') : ∃ cs : List Value, v.cells.toList ++ (v'.cells.toList ++ v''.cells.toList) = cs ∧ LP (W.alloc (.cells cs.toArray 37)) (.slice (some ⟨W.heap.size, 0, none⟩) 3 3) [d, d', d''] := by
  obtain ⟨x, h1, rfl, rfl⟩ := h.d4
  obtain ⟨y, h2, rfl, rfl⟩ := h'.d4
  obtain ⟨z, h3, rfl, rfl⟩ := h''.d4
  refine ⟨d4s [x, y, z], rfl, _, 3, [x, y, z], rfl, .inr ⟨_, 0, rfl, fun i u hi => ?_⟩, ?_, rfl, fun e => by cases e⟩
  · rw [Nat.zero_add, (Blk.new W 37 (d4s [x, y, z]).toArray).cell i]; simpa using hi
  · intro t ht
    simp only [List.mem_cons, List.not_mem_nil, or_false] at ht
    rcases ht with rfl | rfl | rfl
    · exact h1.below below_one
    · exact h2.below below_one
    · exact h3.below below_one
/-- A number of the list's, as it is loaded. -/
theorem Dl.pv {W : World} {A : Option Addr} {xs : List D4} (h : Dl W A xs) (ho : Oks W xs) (i : Nat) (hi : i < (dds xs).length) : ∃ b o a0 a1 a2 a3, A = some ⟨b, o, none⟩ ∧ W.cell? ⟨b, o + i * 4, none⟩ = some a0 ∧ W.cell? ⟨b, o + i * 4 + 1, none⟩ = some a1 ∧ W.cell? ⟨b, o + i * 4 + 2, none⟩ = some a2 ∧ W.cell? ⟨b, o + i * 4 + 3, none⟩ = some a3 ∧ PV W (.agg #[a0, a1, a2, a3]) (dds xs)[i] := by
  have hx : i < xs.length := by rw [dds_length] at hi; exact hi
  obtain ⟨b, o, e, _, c0, c1, c2, c3⟩ := h.at_ hx
  refine ⟨b, o, _, _, _, _, e, c0, c1, c2, c3, ?_⟩
  have e1 : (dds xs)[i] = xs[i].d := List.getElem_map (l := xs) (fun x : D4 => x.d)
  rw [e1]
  exact (ho _ (List.getElem_mem hx)).pv
theorem Rl.dv {W : World} {A : Option Addr} {ys : List R3} (h : Rl W A ys) (ho : Rks W ys) (i : Nat) (hi : i < (rds ys).length) : ∃ b o a0 a1 a2, A = some ⟨b, o, none⟩ ∧ W.cell? ⟨b, o + i * 3, none⟩ = some a0 ∧ W.cell? ⟨b, o + i * 3 + 1, none⟩ = some a1 ∧ W.cell? ⟨b, o + i * 3 + 2, none⟩ = some a2 ∧ DV W (.agg #[a0, a1, a2]) (rds ys)[i] := by
  have hx : i < ys.length := by rw [rds_length] at hi; exact hi
  obtain ⟨b, o, e, _, c0, c1, c2⟩ := h.at_ hx
  refine ⟨b, o, _, _, _, e, c0, c1, c2, ?_⟩
  have e1 : (rds ys)[i] = ys[i].num := List.getElem_map (l := ys) R3.num
  rw [e1]
  exact (ho _ (List.getElem_mem hx)).dv
/-- The numbers of a list lie so. -/
def Ats (W : World) (b o : Nat) (ds : List Dyadic) : Prop := ∀ (i : Nat) (h : i < ds.length), ∃ a0 a1 a2 a3, W.cell? ⟨b, o + i * 4, none⟩ = some a0 ∧ W.cell? ⟨b, o + i * 4 + 1, none⟩ = some a1 ∧ W.cell? ⟨b, o + i * 4 + 2, none⟩ = some a2 ∧ W.cell? ⟨b, o + i * 4 + 3, none⟩ = some a3 ∧ PV W (.agg #[a0, a1, a2, a3]) ds[i]
def Rats (W : World) (b o : Nat) (ds : List Dyadic) : Prop := ∀ (i : Nat) (h : i < ds.length), ∃ a0 a1 a2, W.cell? ⟨b, o + i * 3, none⟩ = some a0 ∧ W.cell? ⟨b, o + i * 3 + 1, none⟩ = some a1 ∧ W.cell? ⟨b, o + i * 3 + 2, none⟩ = some a2 ∧ DV W (.agg #[a0, a1, a2]) ds[i]
theorem Ats.below {W W' : World} {b o : Nat} {ds : List Dyadic} (h : Ats W b o ds) (hb : Below W.heap.size W W') : Ats W' b o ds := fun i hi => by
  obtain ⟨a0, a1, a2, a3, h0, h1, h2, h3, h4⟩ := h i hi
  exact ⟨a0, a1, a2, a3, cell_below h0 hb, cell_below h1 hb, cell_below h2 hb, cell_below h3 hb, h4.below hb⟩
theorem Rats.below {W W' : World} {b o : Nat} {ds : List Dyadic} (h : Rats W b o ds) (hb : Below W.heap.size W W') : Rats W' b o ds := fun i hi => by
  obtain ⟨a0, a1, a2, h0, h1, h2, h4⟩ := h i hi
  exact ⟨a0, a1, a2, cell_below h0 hb, cell_below h1 hb, cell_below h2 hb, h4.below hb⟩
theorem LP.ats {W : World} {v : Value} {ds : List Dyadic} (h : LP W v ds) (hp : 0 < ds.length) : ∃ b o c, v = .slice (some ⟨b, o, none⟩) ds.length c ∧ Ats W b o ds := by
  obtain ⟨A, c, xs, h1, h2, h3, rfl, h5⟩ := h
  obtain ⟨b, o, _, _, _, _, rfl, _⟩ := h2.pv h3 0 hp
  refine ⟨b, o, c, by rw [h1, dds_length], fun i hi => ?_⟩
  obtain ⟨b', o', a0, a1, a2, a3, e, r⟩ := h2.pv h3 i hi
  injection e with e
  injection e with e1 e2
  subst e1
  subst e2
  exact ⟨a0, a1, a2, a3, r⟩
/-- A list of the document's numbers. -/
def LR (W : World) (v : Value) (ds : List Dyadic) : Prop := ∃ (A : Option Addr) (c : Nat) (ys : List R3), v = .slice A ys.length c ∧ Rl W A ys ∧ Rks W ys ∧ rds ys = ds
theorem LR.below {W W' : World} {v : Value} {ds : List Dyadic} (h : LR W v ds) (hb : Below W.heap.size W W') : LR W' v ds := by
  obtain ⟨A, c, xs, h1, h2, h3, h4⟩ := h
  exact ⟨A, c, xs, h1, h2.below hb, h3.below hb, h4⟩
theorem LR.rats {W : World} {v : Value} {ds : List Dyadic} (h : LR W v ds) (hp : 0 < ds.length) : ∃ b o c, v = .slice (some ⟨b, o, none⟩) ds.length c ∧ Rats W b o ds := by
  obtain ⟨A, c, ys, h1, h2, h3, rfl⟩ := h
  obtain ⟨b, o, _, _, _, rfl, _⟩ := h2.dv h3 0 hp
  refine ⟨b, o, c, by rw [h1, rds_length], fun i hi => ?_⟩
  obtain ⟨b', o', a0, a1, a2, e, r⟩ := h2.dv h3 i hi
  injection e with e
  injection e with e1 e2
  subst e1
  subst e2
  exact ⟨a0, a1, a2, r⟩
/-- One number of a list as it lies. -/
def AtD (W : World) (b o i : Nat) (d : Dyadic) : Prop := ∃ a0 a1 a2 a3, W.cell? ⟨b, o + i * 4, none⟩ = some a0 ∧ W.cell? ⟨b, o + i * 4 + 1, none⟩ = some a1 ∧ W.cell? ⟨b, o + i * 4 + 2, none⟩ = some a2 ∧ W.cell? ⟨b, o + i * 4 + 3, none⟩ = some a3 ∧ PV W (.agg #[a0, a1, a2, a3]) d
def RtD (W : World) (b o i : Nat) (d : Dyadic) : Prop := ∃ a0 a1 a2, W.cell? ⟨b, o + i * 3, none⟩ = some a0 ∧ W.cell? ⟨b, o + i * 3 + 1, none⟩ = some a1 ∧ W.cell? ⟨b, o + i * 3 + 2, none⟩ = some a2 ∧ DV W (.agg #[a0, a1, a2]) d
theorem AtD.below {W W' : World} {b o i : Nat} {d : Dyadic} (h : AtD W b o i d) (hb : Below W.heap.size W W') : AtD W' b o i d := by
  obtain ⟨a0, a1, a2, a3, h0, h1, h2, h3, h4⟩ := h
  exact ⟨a0, a1, a2, a3, cell_below h0 hb, cell_below h1 hb, cell_below h2 hb, cell_below h3 hb, h4.below hb⟩
theorem RtD.below {W W' : World} {b o i : Nat} {d : Dyadic} (h : RtD W b o i d) (hb : Below W.heap.size W W') : RtD W' b o i d := by
  obtain ⟨a0, a1, a2, h0, h1, h2, h4⟩ := h
  exact ⟨a0, a1, a2, cell_below h0 hb, cell_below h1 hb, cell_below h2 hb, h4.below hb⟩
theorem Ats.at_ {W : World} {b o : Nat} {ds : List Dyadic} (h : Ats W b o ds) (i : Nat) (hi : i < ds.length) : AtD W b o i ds[i] := h i hi
theorem Rats.at_ {W : World} {b o : Nat} {ds : List Dyadic} (h : Rats W b o ds) (i : Nat) (hi : i < ds.length) : RtD W b o i ds[i] := h i hi
/-- What the law's of comes to, as values. -/
theorem OfR.lists {l : List Nat} {w : World} {e : Ending} {w' : World} (h : OfR l w e w') : ∃ va vb, e = .returned (.tuple #[va, vb, .bool true]) ∧ LP w' va (fins l) ∧ LR w' vb (fins l) ∧ (∃ A c, vb = .slice A (fins l).length c) ∧ (∃ A c, va = .slice A (fins l).length c) ∧ Below w.heap.size w w' := by
  obtain ⟨va, vb, X, Y, h1, ⟨h2, h3, h4, h5, h6, h7⟩, h8, h9, h10⟩ := h
  rw [List.take_length] at h2 h3
  obtain ⟨A, c, e1, _, r1⟩ := h8.row
  obtain ⟨A', c', e2, _, r2⟩ := h9.row
  refine ⟨va, vb, h1, ⟨A, c, X, e1, r1, h4, h2, h6⟩, ⟨A', c', Y, e2, r2, h5, h3⟩, ⟨A', c', ?_⟩, ⟨A, c, ?_⟩, h10⟩
  · rw [← h3, rds_length]; exact e2
  · rw [← h2, dds_length]; exact e1
/-- A box of the document's keeps through a store elsewhere. -/
theorem Bx.far9 {W : World} {p g : Nat} {d : Dyadic} {x0 x1 x2 : Value} (h : Bx W g d) (hne : g ≠ p) (hB : Blk W p 30 #[x0, x1, x2]) (u0 u1 u2 : Value) : Bx (((W.setCell ⟨p, 0, none⟩ u0).setCell ⟨p, 1, none⟩ u1).setCell ⟨p, 2, none⟩ u2) g d := by
  obtain ⟨neg, A, n, c, E, l, h1, h2, h3, h4⟩ := h
  have hv : DV W (.agg #[.bool neg, .slice A n c, .int .i64 E]) d := ⟨_, _, _, _, _, _, rfl, h2, h3, h4⟩
  have h5 := ((hv.far hB (by decide) 0 u0).far (hB.set_ 0 u0) (by decide) 1 u1).far ((hB.set_ 0 u0).set_ 1 u1) (by decide) 2 u2
  obtain ⟨neg', A', n', c', E', l', e, r2, r3, r4⟩ := h5
  injection e with e
  simp only [Array.mk.injEq, List.cons.injEq, Value.bool.injEq, Value.slice.injEq, Value.int.injEq, true_and, and_true] at e
  obtain ⟨rfl, ⟨rfl, rfl, rfl⟩, rfl⟩ := e
  exact ⟨_, _, _, _, _, _, ((h1.other (p := ⟨p, 0, none⟩) hne u0).other (p := ⟨p, 1, none⟩) hne u1).other (p := ⟨p, 2, none⟩) hne u2, r2, r3, r4⟩
/-- An operation that makes a block, or stores. -/
theorem op_makes {P : Program} {o : Oper} {ev : Operand → Value} {w : World} {K : Value → World → Prop} (v : Value) (w' : World) (h : (execOp ev o).run P w = .ok (.value v) w') (hk : K v w') : OpSteps P o ev w K := by
  unfold OpSteps; rw [h]; exact hk
theorem op_skip {P : Program} {o : Oper} {ev : Operand → Value} {w : World} {K : Value → World → Prop} (w' : World) (h : (execOp ev o).run P w = .ok .skip w') (hk : K undef w') : OpSteps P o ev w K := by
  unfold OpSteps; rw [h]; exact hk
/-- A call whose answer is known. -/
theorem op_callv {P : Program} {o : Oper} {ev : Operand → Value} {w : World} {F : Fact} (f : FuncId) (args : Array Value) (v : Value) (h : (execOp ev o).run P w = .ok (.enter f args) w) (hc : Calls P f args w fun e w'' => e = .returned v ∧ Below w.heap.size w w'') (hF : ∀ w', Below w.heap.size w w' → F v w') : OpSteps P o ev w fun v W' => F v W' ∧ Below w.heap.size w W' :=
  op_call f args h (hc.mono fun e w' hh => ⟨v, hh.1, hF w' hh.2, hh.2⟩)
/-- The operations at the end: each waits for all the others, and writes no temporary. -/
def tailB : Nat → List Oper → Bool
  | _, [] => true
  | i, o :: r => o.dst.isNone && (List.range i).all (fun j => (waits o).contains j) && tailB (i + 1) r
theorem tailB.at_ : ∀ {i : Nat} {os : List Oper}, tailB i os = true → ∀ {k : Nat} {o : Oper}, os[k]? = some o → o.dst = none ∧ ∀ j, j < i + k → (waits o).contains j = true
  | i, [], _, k, o, h => by simp at h
  | i, x :: r, h, 0, o, ho => by
    simp only [tailB, Bool.and_eq_true, Option.isNone_iff_eq_none, List.all_eq_true, List.mem_range] at h
    simp at ho
    subst ho
    exact ⟨h.1.1, fun j hj => h.1.2 j (by omega)⟩
  | i, x :: r, h, k + 1, o, ho => by
    simp only [tailB, Bool.and_eq_true] at h
    have := tailB.at_ (os := r) h.2 (k := k) (o := o) (by simpa using ho)
    exact ⟨this.1, fun j hj => this.2 j (by omega)⟩
/-- What holds before the operation k of the end. -/
def StageF (fs : List Fact) (L : List Nat) (w0 : World) (Ts : List ((Nat → Value) → World → Prop)) : Nat → (Nat → Value) → World → Prop
  | 0, s, W => (∀ j, j < L.length → factAt fs j (s (L.getD j 0)) W) ∧ Below w0.heap.size w0 W
  | k + 1, s, W => Ts.getD k (fun _ _ => False) s W
def AllTail (P : Program) (ops : Array Oper) (t0 : Array Value) (L : List Nat) (fs : List Fact) (w0 : World) (Ts : List ((Nat → Value) → World → Prop)) : Nat → List Oper → Prop
  | _, [] => True
  | k, o :: r => (∀ s W, StageF fs L w0 Ts k s W → (∀ k, k ∉ L → s k = t0.getD k undef) → StepG P ops o s W (fun _ W' => Ts.getD k (fun _ _ => False) s W')) ∧ AllTail P ops t0 L fs w0 Ts (k + 1) r
def FamT (fs : List Fact) (L : List Nat) (w0 : World) (Ts : List ((Nat → Value) → World → Prop)) (n : Nat) (d : Nat → Bool) (s : Nat → Value) (W : World) : Prop :=
  (∀ i, n ≤ i → d i = true → ∀ j, j < i → d j = true) ∧ (d n = false → FamJ fs L w0 d s W) ∧ ∀ k, k < Ts.length → d (n + k) = true → (d (n + (k + 1)) = false ∨ k + 1 = Ts.length) → Ts.getD k (fun _ _ => False) s W
theorem tail_steps {P : Program} {ops : Array Oper} {t0 : Array Value} {L : List Nat} {fs : List Fact} {w0 : World} {Ts : List ((Nat → Value) → World → Prop)} : ∀ {k : Nat} {os : List Oper}, AllTail P ops t0 L fs w0 Ts k os → tailB (L.length + k) os = true → k + os.length = Ts.length → AllStepsG P ops t0 L (FamT fs L w0 Ts L.length) (L.length + k) os
  | k, [], _, _, _ => trivial
  | k, o :: r, h, hb, hl => by
    obtain ⟨hdst, hw⟩ := tailB.at_ hb (k := 0) (o := o) rfl
    have hbr : tailB (L.length + k + 1) r = true := by simp only [tailB, Bool.and_eq_true] at hb; exact hb.2
    have hkl : k < Ts.length := by simp only [List.length_cons] at hl; omega
    refine ⟨fun d s W hJ hfr hd hdep => ?_, tail_steps (k := k + 1) h.2 (by rw [← Nat.add_assoc]; exact hbr) (by simp only [List.length_cons] at hl; omega)⟩
    have hall : ∀ j, j < L.length + k → d j = true := fun j hj => by
      have hj2 : j ∈ waits o := by have := hw j (by omega); simpa using this
      obtain ⟨e, he, rfl⟩ := List.mem_map.1 hj2
      obtain ⟨he1, he2⟩ := List.mem_filter.1 he
      exact hdep e he1 he2
    obtain ⟨hJ1, hJ2, hJ3⟩ := hJ
    have hst : StageF fs L w0 Ts k s W := by
      cases k with
      | zero =>
        obtain ⟨h1, h2⟩ := hJ2 hd
        exact ⟨fun j hj => h1 j hj (hall j (by omega)), h2⟩
      | succ k => exact hJ3 k (by omega) (hall _ (by omega)) (.inl hd)
    refine stepG_mono (h.1 s W hst hfr) fun v W' hv => ?_
    rw [hdst]
    have es : sput s none v = s := by funext x; simp [sput]
    rw [es]
    have hself : did d (L.length + k) (L.length + k) = true := by simp [did]
    have hup : ∀ j, d j = true → did d (L.length + k) j = true := fun j hj => by
      by_cases e : j = L.length + k
      · rw [e]; exact hself
      · rw [did_ne d e]; exact hj
    refine ⟨fun i hi hdi j hj => ?_, fun h0 => ?_, fun q hq hdq hor => ?_⟩
    · by_cases e : i = L.length + k
      · exact hup j (hall j (by omega))
      · rw [did_ne d e] at hdi
        exact hup j (hJ1 i hi hdi j hj)
    · exfalso
      by_cases e : L.length = L.length + k
      · rw [← e] at h0 hself
        rw [hself] at h0
        cases h0
      · have := hup L.length (hall _ (by omega))
        rw [this] at h0
        cases h0
    · by_cases e : q = k
      · subst e; exact hv
      · exfalso
        have hdq' : d (L.length + q) = true := by rw [did_ne d (by omega)] at hdq; exact hdq
        by_cases hlt : k < q
        · have := hJ1 (L.length + q) (by omega) hdq' (L.length + k) (by omega)
          rw [hd] at this
          cases this
        · rcases hor with h9 | h9
          · by_cases e2 : q + 1 = k
            · rw [e2, hself] at h9; cases h9
            · have := hup (L.length + (q + 1)) (hall _ (by omega))
              rw [this] at h9
              cases h9
          · omega
theorem head_steps {P : Program} {ops : Array Oper} {t0 : Array Value} {L : List Nat} {fs : List Fact} {w0 : World} {Ts : List ((Nat → Value) → World → Prop)} (hn : L.Nodup) (hm : Monos fs) : ∀ {i : Nat} {os : List Oper}, AllFam P ops t0 L fs w0 i os → famB L i os = true →
    (∀ (j : Nat) (o : Oper), os[j]? = some o → ∀ e ∈ o.after.toList, Region.binds .any e = true → e.on < i + j) → AllStepsG P ops t0 L (FamT fs L w0 Ts L.length) i os
  | i, [], _, _, _ => trivial
  | i, o :: r, h, hb, hon => by
    simp only [famB, Bool.and_eq_true, beq_iff_eq, decide_eq_true_eq] at hb
    obtain ⟨⟨hdst, hlt⟩, hbr⟩ := hb
    refine ⟨fun d s W hJ hfr hd hdep => ?_, head_steps hn hm h.2 hbr fun j o' ho e he hbd => by
      have := hon (j + 1) o' (by simpa using ho) e he hbd
      omega⟩
    obtain ⟨hJ1, hJ2, hJ3⟩ := hJ
    have hno : ∀ q, L.length ≤ q → d q = false := fun q hq => by
      cases hdq : d q
      · rfl
      · have := hJ1 q hq hdq i (by omega)
        rw [hd] at this
        cases this
    have hJ := hJ2 (hno _ (Nat.le_refl _))
    refine stepG_mono (h.1 s W hJ.2 hfr fun j hj => ?_) fun v W' hv => ⟨fun q hq hdq => ?_, fun _ => ⟨fun j hjl hjd => ?_, hJ.2.trans (hv.2.mono hJ.2.size)⟩, fun q hq hdq => ?_⟩
    · have hj2 : j ∈ waits o := by simpa using hj
      obtain ⟨e, he, rfl⟩ := List.mem_map.1 hj2
      obtain ⟨he1, he2⟩ := List.mem_filter.1 he
      have := hon 0 o rfl e he1 he2
      exact hJ.1 e.on (by omega) (hdep e he1 he2)
    · exfalso
      rw [did_ne d (by omega : q ≠ i), hno q hq] at hdq
      cases hdq
    · by_cases e : j = i
      · subst e
        rw [hdst]
        have : sput s (some (L.getD j 0)) v (L.getD j 0) = v := by simp [sput]
        rw [this]
        exact hv.1
      · have hdj : d j = true := by rw [did_ne d e] at hjd; exact hjd
        have : sput s o.dst v (L.getD j 0) = s (L.getD j 0) := by
          rw [hdst]
          unfold sput
          rw [if_neg]
          intro e9
          injection e9 with e9
          exact e (getD_inj hn hjl hlt e9.symm)
        rw [this]
        exact hm.at_ j _ _ _ (hJ.1 j hjl hdj) hv.2
    · exfalso
      rw [did_ne d (by omega : L.length + q ≠ i), hno _ (by omega)] at hdq
      cases hdq
theorem allStepsG_append {P : Program} {ops : Array Oper} {t0 : Array Value} {L : List Nat} {J : (Nat → Bool) → (Nat → Value) → World → Prop} : ∀ {i : Nat} {os ts : List Oper}, AllStepsG P ops t0 L J i os → AllStepsG P ops t0 L J (i + os.length) ts → AllStepsG P ops t0 L J i (os ++ ts)
  | i, [], ts, _, h => by simpa using h
  | i, o :: r, ts, h, h' => ⟨h.1, allStepsG_append h.2 (by rw [show i + 1 + r.length = i + (o :: r).length by simp only [List.length_cons]; omega]; exact h')⟩
theorem famB_len {L : List Nat} : ∀ {i : Nat} {os : List Oper}, famB L i os = true → i + os.length = L.length
  | i, [], h => by simp only [famB, beq_iff_eq] at h; simpa using h
  | i, o :: r, h => by
    simp only [famB, Bool.and_eq_true] at h
    have := famB_len h.2
    simp only [List.length_cons]
    omega
theorem split_at {α : Type} (n : Nat) (l : List α) : l = l.take n ++ l.drop n := (List.take_append_drop n l).symm
theorem PBx.below {W W' : World} {g : Nat} {d : Dyadic} (h : PBx W g d) (hb : Below W.heap.size W W') : PBx W' g d := by
  obtain ⟨p, h1, h2, h3⟩ := h
  exact ⟨p, h1, h2.below hb, h3.below hb h3.lt⟩
/-- THE RULE, where the region ends in stores. -/
theorem wp_region_famt {P : Program} {ops : Array Oper} {Q : Exit → Act → World → Prop} {id : Nat} {t0 : Array Value} {df : List Deferred} {w : World} (L : List Nat) (fs : List Fact) (Ts : List ((Nat → Value) → World → Prop)) (os ts : List Oper) (hm : P.follows .mixedOrders = true) (hops : ops.toList = os ++ ts) (hp : plainG L t0.size 0 ops.toList = true) (hb : famB L 0 os = true) (hn : L.Nodup) (ht : tailB L.length ts = true) (hT : ts.length = Ts.length) (hT0 : 0 < Ts.length) (hmo : Monos fs)
    (hs : AllFam P ops t0 L fs w 0 os) (hts : AllTail P ops t0 L fs w Ts 0 ts)
    (done : ∀ s w', Ts.getD (Ts.length - 1) (fun _ _ => False) s w' → Q .normal ⟨setAll t0 s L, df⟩ w') : (Code.region id ops true).wp P Q ⟨t0, df⟩ w := by
  have hl := famB_len hb
  have hz : ops.size = L.length + Ts.length := by
    have h1 : ops.size = ops.toList.length := by simp
    rw [h1, hops, List.length_append, hT]
    omega
  refine wp_region_invG L (FamT fs L w Ts L.length) hm hp ⟨(fun i _ h => by cases h), (fun _ => ⟨(fun j _ h => by cases h), (Below.refl _ _).drew⟩), (fun k _ h => by cases h)⟩ ?_ fun d s w' hJ hd => done s w' (hJ.2.2 (Ts.length - 1) (by omega) (hd _ (by omega)) (.inr (by omega)))
  rw [hops]
  refine allStepsG_append (head_steps hn hmo hs hb fun j o ho e he hbd => ?_) (by have := tail_steps (k := 0) hts (by simpa using ht) (by omega); rw [show 0 + os.length = L.length + 0 by omega]; exact this)
  refine (plainG_at hp (j := j) (o := o) ?_).1 e (by simpa using he) hbd
  rw [hops, List.getElem?_append_left (by have := (List.getElem?_eq_some_iff.1 ho).1; exact this)]
  exact ho
end Go.Proofs.YtbkbeglmfhaleaaGreatDoor
/-
DyadInts, walked. Conditions: the library's tables are as its text lays them.
-/
set_option linter.unusedVariables false
set_option linter.unusedSimpArgs false
set_option linter.unnecessarySimpa false
namespace Go.Proofs.YtbkbeglmfhaleaaGreatDoor
open Go.RowKit
attribute [local go_sem ↓] Go.wp_at_zero Go.wp_at_succ

theorem awake_dy : fdy 4604930618986332160 = dy 3 (-2) := by
  rw [← fdy_digits (b := 4604930618986332160) (by decide +kernel) (by decide +kernel)]
  rw [show fdm 4604930618986332160 = 3 * 2 ^ 51 by decide +kernel, show Fl.de 4604930618986332160 = -53 by decide +kernel, dy_pow]
  rfl
theorem awake_txt : txt (dy 3 (-2)) = [51, 112, 45, 50] := by
  unfold txt
  rw [mant_dy 3 (-2) (by decide), expo_dy 3 (-2) (by decide)]
  decide +kernel
theorem sz_three : Sz 4 (dy 3 (-2)) := ⟨12, by rw [show dy 3 (-2) = dy (3 * 2 ^ 2) (-4) by rw [dy_pow]; rfl]; rfl, by decide⟩
theorem awakeD_any (w : World) (hg : Glob w) :
    Calls Tryz.prog 6 #[] w fun e w' => e = .returned (.bool true) ∧ Below w.heap.size w w' := by
  have HG := Lib.hid hg
  have HOf := fun W (hg : Glob W) => pof_v 4604930618986332160 W (by decide) hg
  rw [if_pos (by decide +kernel), if_pos (by decide +kernel), awake_dy] at HOf
  have HO := Lib.hid HOf
  have HT := Lib.hid (fun W v (h : PV W v (dy 3 (-2))) (hg : Glob W) => ptext_v h (sz_three.fitp (by omega)) hg)
  rw [awake_txt] at HT
  clear hg HOf
  go_enter Tryz.func6, Tryz.ntmps6
  go_wp2_with fail
  refine (HO.out _ HG.out).mono ?_
  rintro e w1 ⟨v, rfl, ⟨A, n, c, A', n', c', rfl, hd⟩, hb⟩
  have HB1 := Lib.hid hb
  have HD1 := Lib.hid hd
  have HG1 := Lib.hid (HG.out.below hb)
  clear hd hb
  go_wp2_with fail
  refine (HT.out _ _ ⟨A, n, c, A', n', c', rfl, HD1.out.below below_one⟩ (HG1.out.below below_one)).mono ?_
  rintro e w2 ⟨rfl, hb⟩
  have HB2 := Lib.hid (below_nx HB1.out (below_nx below_one hb))
  clear hb
  go_wp2_with fail
  go_ret
  exact ⟨rfl, HB2.out⟩
theorem far_le (k : Int) : (far k).natAbs ≤ 1048576 := by
  unfold far
  split
  · decide
  · split
    · decide
    · omega

end Go.Proofs.YtbkbeglmfhaleaaGreatDoor
