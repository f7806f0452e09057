/-
What the proof rests on: laws of floats, lists, memory and the walks of the functions. Conditions: as each says.
-/
import Derived.Test.YtjjneiidggcfdaaAxesAddZb
import Derived.Below
import Derived.ChangeSame
import Derived.Laws.Cover2
import Derived.Test.YtjjneiidggcfdaaRows
import Derived.KernelRfl
import Derived.WalkKit
import Derived.Laws.Rows
import Derived.Deep.Draws
import Derived.Laws.OwnMore
import Derived.Lib.Hide
import Derived.Laws.FloatBits
import GoSem.Core.Float
import Derived.WalkLawsBesides
import Derived.Laws.BitsAllLaws
import Derived.WalkSpells
import Derived.LoopTactic
import Derived.Outline
import Derived.Laws.Externs
import Derived.Deep.QuietTactic
import Derived.BigQuiet
import Derived.RegionTactic
import Derived.Deep.Slices
import Derived.Deep.Fields
import Derived.Laws.FloatArith
import Derived.Deep.RegionHeld3
import Derived.Deep.DrawnRows
import Derived.Deep.DeepCutAuto
import Derived.Deep.CutBlock
import Derived.Deep.OwnRows
import Derived.IntWalk
import Derived.Deep.RegionWith
import Derived.Laws.AppendOwn
import Derived.LaidEqlPtr
import Derived.BigRegion
import Derived.Orders
import Derived.RowKit3
import Derived.Lib.BitFns
import Derived.Shelf.Abstract
set_option linter.unusedVariables false
set_option linter.unusedSimpArgs false
set_option linter.unnecessarySimpa false
namespace Go.Proofs.Ytjjneiidggcfdaa
open Go.RowKit
attribute [local go_sem ↓] Go.wp_at_zero Go.wp_at_succ


set_option maxRecDepth 100000 in
set_option maxHeartbeats 4000000 in
theorem axesAdd_ok1 (a : Nat) (A : Option Addr) (n c : Nat) (l : List Nat) (off k inc : Int) (A' : Option Addr) (n' c' : Nat) (l' : List Nat) (off' k' inc' : Int) (w : World) (hA : Row w A (f64s l)) (hA' : Row w A' (f64s l')) (hW : Wds l) (hW' : Wds l') (hl : l.length = n) (hl' : l'.length = n') (hn : n ≤ 1000) (hn' : n' ≤ 1000) (hk60 : k ≤ 60) (hk60' : k' ≤ 60) (ho : I64 off) (hk : I64 k) (hi : I64 inc) (ho' : I64 off') (hk' : I64 k') (hi' : I64 inc') (ha : a < 18446744073709551616) (hP : pairI true n off' k' inc' n off k inc = 0) (o K i o' i' : Nat) (q1 : off = o) (q2 : k = K) (q3 : inc = i) (q4 : off' = o') (q5 : k' = K) (q6 : inc' = i') (hi1 : 1 ≤ i) (hi1' : 1 ≤ i') (hr : K = 0 ∨ o + (K - 1) * i < n) (hr' : K = 0 ∨ o' + (K - 1) * i' < n) (hmt : ∀ a, a < K → ∀ b, b < K → o' + a * i' ≠ o + b * i) :
    Calls Try.prog 4 #[.float .f64 a, vec A n c off k inc, vec A' n' c' off' k' inc', .bool true] w fun e w' => e = .returned (.bool true) ∧ Below w.heap.size w w' := by
  have HLg := Lib.hid (fun W => long_any A n c off k inc W)
  have HLg' := Lib.hid (fun W => long_any A' n' c' off' k' inc' W)
  rw [show longB n k = false by unfold longB; simp; omega] at HLg
  rw [show longB n' k' = false by unfold longB; simp; omega] at HLg'
  have HAx := Lib.hid (fun W (hb : Below w.heap.size w W) => show Calls Try.prog 23 #[vec A n c off k inc] W fun e w' => ∃ g c', e = .returned (vec (some ⟨g, 0, none⟩) n c' off k inc) ∧ OwnS w' (fun cs => cs.toList.take (l).length = f64s l) g ∧ W.heap.size ≤ g ∧ Below W.heap.size W w' from by
    have := ralone_any A c l off k inc W (hA.below hb) (by omega)
    rw [hl] at this
    exact this.mono fun e w' ⟨g, c', e1, e2, e3, _, _, e4⟩ => ⟨g, c', e1, e2, e3, e4⟩)

  have HAy := Lib.hid (fun W (hb : Below w.heap.size w W) => show Calls Try.prog 23 #[vec A n c off' k' inc'] W fun e w' => ∃ g c', e = .returned (vec (some ⟨g, 0, none⟩) n c' off' k' inc') ∧ OwnS w' (fun cs => cs.toList.take (l).length = f64s l) g ∧ W.heap.size ≤ g ∧ Below W.heap.size W w' from by
    have := ralone_any A c l off' k' inc' W (hA.below hb) (by omega)
    rw [hl] at this
    exact this.mono fun e w' ⟨g, c', e1, e2, e3, _, _, e4⟩ => ⟨g, c', e1, e2, e3, e4⟩)

  have HRp := Lib.hid (fun W => show Calls Try.prog 25 #[vec A n c off' k' inc', vec A n c off k inc, .bool (decide (0 < n))] W fun e w' => e = .returned (.int .i64 0) ∧ Below W.heap.size W w' from by
    have := rpair_any A A n c off' k' inc' n c off k inc (decide (0 < n)) W (by omega) (by omega) ho' hk' hi' ho hk hi
    rw [pairI_n0, hP] at this; exact this)
  have HAp := Lib.hid (fun W (g c c' : Nat) (hO : Own W g l) => show Calls Try.prog 24 #[.float .f64 a, vec (some ⟨g, 0, none⟩) n c off k inc, vec (some ⟨g, 0, none⟩) n c' off' k' inc'] W fun e w' => e = .returned (.int .i64 0) ∧
      ∃ m : List Nat, m.length = K ∧ (∀ q, q < K → AxR a l o' i' l o i q (m.getD q 0)) ∧ Own w' g (wrt l o' i' m K) ∧ Chg [g] W w' from by
    subst q1 q2 q3 q4 q5 q6
    exact axpy_ok a g g c' c l l n n o' K i' o i W hO hO hl hl (by omega) (by omega) hi1' hr' hr ho' hk hi' ho hi (by rw [show decide (g = g) = true from decide_eq_true rfl]; exact hP) (fun _ => metB_false.2 hmt))
  obtain ⟨X, hX⟩ : ∃ X, lst l o i K = X := ⟨_, rfl⟩
  obtain ⟨Y, hY⟩ : ∃ Y, lst l o' i' K = Y := ⟨_, rfl⟩
  have hXl : X.length = K := by rw [← hX, lst_length]
  have hYl : Y.length = K := by rw [← hY, lst_length]
  have HLx := Lib.hid (fun W (hb : Below w.heap.size w W) => show Calls Try.prog 29 #[vec A n c off k inc] W fun e w' => ∃ B d, e = .returned (.slice B K d) ∧ Row w' B (f64s X) ∧ Below W.heap.size W w' from by
    subst q1 q2 q3
    rw [← hX]
    exact rlist_any A n c l o K i W (hA.below hb) hl (by omega) hr (by omega))
  have HLy := Lib.hid (fun W (hb : Below w.heap.size w W) => show Calls Try.prog 29 #[vec A n c off' k' inc'] W fun e w' => ∃ B d, e = .returned (.slice B K d) ∧ Row w' B (f64s Y) ∧ Below W.heap.size W w' from by
    subst q4 q5 q6
    rw [← hY]
    exact rlist_any A n c l o' K i' W (hA.below hb) hl (by omega) hr' (by omega))

  have HRa := Lib.hid (fun W (B1 B2 : Option Addr) (d1 d2 : Nat) (h1 : Row W B1 (f64s X)) (h2 : Row W B2 (f64s Y)) => raxpy_any a B1 B2 K K d1 d2 X Y W h1 h2 hXl hYl (Nat.le_refl _) (by omega))
  have HWr := Lib.hid (fun W (hb : Below w.heap.size w W) (B : Option Addr) (d : Nat) (m : List Nat) (hm : m.length = K) (hB : Row W B (f64s m)) => show Calls Try.prog 27 #[vec A n c off' k' inc', .slice B K d] W fun e w' => ∃ g c', e = .returned (.slice (some ⟨g, 0, none⟩) n c') ∧ Own w' g (wrt l o' i' m K) ∧ W.heap.size ≤ g ∧ Below W.heap.size W w' from by
    subst q4 q5 q6
    exact rwrite_any A n c l o' K i' B d m W (hA.below hb) hl (by omega) hi1' hr' hB hm)
  have HFin := Lib.hid (fun W (A B : Option Addr) (c d : Nat) (m m' : List Nat) (hm : m.length = K) (hR : ∀ q, q < K → AxR a l o' i' l o i q (m.getD q 0)) (hm' : m'.length = K) (hR' : ∀ q, q < K → AxQ a X Y q (m'.getD q 0)) (h1 : Row W A (f64s (wrt l o' i' m K))) (h2 : Row W B (f64s (wrt l o' i' m' K))) =>
    show Calls Try.prog 26 #[.slice A n c, .slice B n d] W fun e w' => e = .returned (.bool true) ∧ Below W.heap.size W w' from by
      have hal := alike_wrt l o' i' (m := m) (m' := m') K (fun q hq => ax_same ha hW hW hq (hR q hq) (by rw [hX, hY]; exact hR' q hq))
      have := rall_any A B c d _ _ W (wds_wrt hW (wds_of hm (fun q hq => (hR q hq).lt)) _ _ _) (wds_wrt hW (wds_of hm' (fun q hq => (hR' q hq).lt)) _ _ _) h1 h2 (by rw [wrt_length]; omega) hal
      rw [wrt_length, wrt_length, hl] at this
      exact this)
  have HA := Lib.hid hA
  have HA' := Lib.hid hA'
  clear hA hA' hW hW' hl hl' hn hn' hk60 hk60' ho hk hi ho' hk' hi' hP ha q1 q2 q3 q4 q5 q6 hi1 hi1' hr hr' hX hY hXl hYl hmt
  unfold vec at *
  go_enter Try.func4, Try.ntmps4
  have Hx0 := Lib.hid ((Blk.new w 30 #[.slice A n c, .int .i64 off, .int .i64 k, .int .i64 inc]).alloc (.cells #[.slice A' n' c', .int .i64 off', .int .i64 k', .int .i64 inc'] 30))
  have Hy0 := Lib.hid (Blk.new_ (w.alloc (.cells #[.slice A n c, .int .i64 off, .int .i64 k, .int .i64 inc] 30)) 30 #[.slice A' n' c', .int .i64 off', .int .i64 k', .int .i64 inc'] (w.heap.size + 1) (by simp))
  have HB0 := Lib.hid (((Below.refl w.heap.size w).alloc (Nat.le_refl _) (.cells #[.slice A n c, .int .i64 off, .int .i64 k, .int .i64 inc] 30)).alloc (by simp) (.cells #[.slice A' n' c', .int .i64 off', .int .i64 k', .int .i64 inc'] 30))
  obtain ⟨x0, x1, x2, x3⟩ := cells4w Hx0.out
  obtain ⟨y0, y1, y2, y3⟩ := cells4w Hy0.out
  go_wp2_with fail
  refine (awake6_any _).mono ?_
  rintro e w1 ⟨rfl, hb⟩
  have Hx1 := Lib.hid (Hx0.out.nxt hb)
  have Hy1 := Lib.hid (Hy0.out.nxt hb)
  have HB1 := Lib.hid (below_nx HB0.out hb)
  clear hb
  clear x0 x1 x2 x3 y0 y1 y2 y3
  obtain ⟨x0, x1, x2, x3⟩ := cells4w Hx1.out
  obtain ⟨y0, y1, y2, y3⟩ := cells4w Hy1.out
  go_wp2_with fail
  refine (HLg.out _).mono ?_
  rintro e w2 ⟨rfl, hb⟩
  have Hx2 := Lib.hid (Hx1.out.nxt hb)
  have Hy2 := Lib.hid (Hy1.out.nxt hb)
  have HB2 := Lib.hid (below_nx HB1.out hb)
  clear hb
  clear x0 x1 x2 x3 y0 y1 y2 y3
  obtain ⟨x0, x1, x2, x3⟩ := cells4w Hx2.out
  obtain ⟨y0, y1, y2, y3⟩ := cells4w Hy2.out
  go_wp2_with fail
  refine (HLg'.out _).mono ?_
  rintro e w3 ⟨rfl, hb⟩
  have Hx3 := Lib.hid (Hx2.out.nxt hb)
  have Hy3 := Lib.hid (Hy2.out.nxt hb)
  have HB3 := Lib.hid (below_nx HB2.out hb)
  clear hb
  clear x0 x1 x2 x3 y0 y1 y2 y3
  obtain ⟨x0, x1, x2, x3⟩ := cells4w Hx3.out
  obtain ⟨y0, y1, y2, y3⟩ := cells4w Hy3.out
  obtain ⟨f0, _, _, _⟩ := frozen4w Hy3.out
  go_upto_region 7 with fail
  have hb9 : Blk (w3.setCell ⟨w.heap.size + 1, 0, none⟩ (.slice A n c)) (w.heap.size + 1) 30 #[.slice A n c, .int .i64 off', .int .i64 k', .int .i64 inc'] := by simpa using Hy3.out.set_ 0 (.slice A n c)
  have Hx4 := Lib.hid (Hx3.out.other (p := ⟨w.heap.size + 1, 0, none⟩) ((by simp)) (.slice A n c))
  have Hy4 := Lib.hid hb9
  have HB4 := Lib.hid (HB3.out.setCell (p := ⟨w.heap.size + 1, 0, none⟩) ((by simp)) (.slice A n c))
  clear x0 x1 x2 x3 y0 y1 y2 y3
  clear hb9 f0
  generalize (w3.setCell ⟨w.heap.size + 1, 0, none⟩ (.slice A n c)) = w4 at *
  obtain ⟨x0, x1, x2, x3⟩ := cells4w Hx4.out
  obtain ⟨y0, y1, y2, y3⟩ := cells4w Hy4.out
  go_wp2_with fail
  refine wp_region_inv [27, 28, 29, 30, 9, 10] (fun d s W => (d 0 = true → s 27 = .agg #[.slice A n c, .int .i64 off, .int .i64 k, .int .i64 inc]) ∧ (d 2 = true → s 29 = .agg #[.slice A n c, .int .i64 off', .int .i64 k', .int .i64 inc']) ∧ Twn w4.heap.size (fun cs => cs.toList.take (l).length = f64s l) (fun cs => cs.toList.take (l).length = f64s l) (fun g c => .agg #[.slice (some ⟨g, 0, none⟩) n c, .int .i64 off, .int .i64 k, .int .i64 inc]) (fun g c => .agg #[.slice (some ⟨g, 0, none⟩) n c, .int .i64 off', .int .i64 k', .int .i64 inc']) (d 1) (d 3) (s 28) (s 30) W ∧
    Two w4 30 #[.slice none 0 0, .int .i64 0, .int .i64 0, .int .i64 0] (cellsV (s 28)) (cellsV (s 30)) (d 4) (d 5) (d 6) (d 7) (s 9) (s 10) W ∧ (d 6 = true → d 4 = true ∧ d 1 = true) ∧ (d 7 = true → d 5 = true ∧ d 3 = true) ∧ (d 3 = true → d 1 = true))
    rfl (by kernel_rfl) ?_ ?_ ?_
  · exact ⟨by simp, by simp, fun h => by simp at h, ⟨(Below.refl _ _).drew, by simp, by simp, by simp⟩, by simp, by simp, by simp⟩
  · refine ⟨?_, ?_, ?_, ?_, ?_, ?_, ?_, ?_, trivial⟩
    all_goals
      intro d s W hJ hfr hd hdep
      simp only [List.mem_cons, forall_eq_or_imp, List.not_mem_nil, false_implies, implies_true, and_true, Region.binds] at hdep
      have f0 := hfr 5 (by decide)
      have f1 := hfr 6 (by decide)
      simp at f0 f1 hdep
      obtain ⟨h0, h2, hTw, hT, hx, hy, hv⟩ := hJ
      unfold OpSteps
    · obtain ⟨p0, p1, p2, p3⟩ := cells4w (Hx4.out.below hT.1 Hx4.out.lt)
      simp [go_sem, evS, f0, p0, p1, p2, p3]
      exact ⟨fun _ => by simp [sput], fun h => by simpa [sput] using h2 (by simpa [did] using h), by simpa [sput, did] using hTw, by simpa [sput, did] using hT, fun h => by simpa [did] using hx (by simpa [did] using h), fun h => by simpa [did] using hy (by simpa [did] using h), fun h => by simpa [did] using hv (by simpa [did] using h)⟩
    · have g0 := h0 (by simpa using hdep)
      have hd3 : d 3 = false := by
        cases h : d 3
        · rfl
        · have := hv h; rw [hd] at this; cases this
      have hd6 : d 6 = false := by
        cases h : d 6
        · rfl
        · have := (hx h).2; rw [hd] at this; cases this
      simp [go_sem, evS, g0]
      refine (HAx.out W (below_nx HB4.out hT.1)).mono ?_
      rintro e W' ⟨g, c9, rfl, ho, hg, hb⟩
      refine ⟨_, rfl, ?_⟩
      have hT2 := hT.nxt hb
      rw [hd6] at hT2
      have hT2 := hT2.chg1 (a' := cellsV (.agg #[.slice (some ⟨g, 0, none⟩) n c9, .int .i64 off, .int .i64 k, .int .i64 inc]))
      have hTw2 := Twn.first (Z := w4.heap.size) (S := (fun cs => cs.toList.take (l).length = f64s l)) (S' := (fun cs => cs.toList.take (l).length = f64s l)) (f := (fun g c => .agg #[.slice (some ⟨g, 0, none⟩) n c, .int .i64 off, .int .i64 k, .int .i64 inc])) (f' := (fun g c => .agg #[.slice (some ⟨g, 0, none⟩) n c, .int .i64 off', .int .i64 k', .int .i64 inc'])) (d3 := false) (vb := s 30) (c := c9) ho (Nat.le_trans hT.1.size hg) rfl
      exact ⟨fun h => by simpa [sput] using h0 (by simpa [did] using h), fun h => by simpa [sput] using h2 (by simpa [did] using h), by simpa [sput, did, hd3] using hTw2, by simpa [sput, did, hd6] using hT2, fun h => by simp [did, hd6] at h, fun h => by simpa [did] using hy (by simpa [did] using h), fun h => by simp [did]⟩
    · obtain ⟨p0, p1, p2, p3⟩ := cells4w (Hy4.out.below hT.1 Hy4.out.lt)
      simp [go_sem, evS, f1, p0, p1, p2, p3]
      exact ⟨fun h => by simpa [sput] using h0 (by simpa [did] using h), fun _ => by simp [sput], by simpa [sput, did] using hTw, by simpa [sput, did] using hT, fun h => by simpa [did] using hx (by simpa [did] using h), fun h => by simpa [did] using hy (by simpa [did] using h), fun h => by simpa [did] using hv (by simpa [did] using h)⟩
    · have g0 := h2 (by simpa using hdep.1)
      have hd1 : d 1 = true := by simpa using hdep.2
      have hd7 : d 7 = false := by
        cases h : d 7
        · rfl
        · have := (hy h).2; rw [hd] at this; cases this
      simp [go_sem, evS, g0]
      refine (HAy.out W (below_nx HB4.out hT.1)).mono ?_
      rintro e W' ⟨g, c9, rfl, ho, hg, hb⟩
      refine ⟨_, rfl, ?_⟩
      have hT2 := hT.nxt hb
      rw [hd7] at hT2
      have hT2 := hT2.chg2 (b' := cellsV (.agg #[.slice (some ⟨g, 0, none⟩) n c9, .int .i64 off', .int .i64 k', .int .i64 inc']))
      rw [hd1, hd] at hTw
      have hTw2 := hTw.second hb (c' := c9) ho (Nat.le_trans hT.1.size hg) hg
      exact ⟨fun h => by simpa [sput] using h0 (by simpa [did] using h), fun h => by simpa [sput] using h2 (by simpa [did] using h), by simpa [sput, did, hd1] using hTw2, by simpa [sput, did, hd7] using hT2, fun h => by simpa [did] using hx (by simpa [did] using h), fun h => by simp [did, hd7] at h, fun h => by simpa [did] using hd1⟩
    · have hd6 : d 6 = false := by
        cases h : d 6
        · rfl
        · have := (hx h).1; rw [hd] at this; cases this
      rw [hd, hd6] at hT
      have hT2 := hT.alloc1
      have hTw2 := hTw.nxt (below_one (W := W) (o := .cells #[.slice none 0 0, .int .i64 0, .int .i64 0, .int .i64 0] 30))
      simp [go_sem, evS]
      exact ⟨fun h => by simpa [sput] using h0 (by simpa [did] using h), fun h => by simpa [sput] using h2 (by simpa [did] using h), by simpa [sput, did] using hTw2, by simpa [sput, did, hd6] using hT2, fun h => by simp [did, hd6] at h, fun h => by simpa [did] using hy (by simpa [did] using h), fun h => by simpa [did] using hv (by simpa [did] using h)⟩
    · have hd7 : d 7 = false := by
        cases h : d 7
        · rfl
        · have := (hy h).1; rw [hd] at this; cases this
      rw [hd, hd7] at hT
      have hT2 := hT.alloc2
      have hTw2 := hTw.nxt (below_one (W := W) (o := .cells #[.slice none 0 0, .int .i64 0, .int .i64 0, .int .i64 0] 30))
      simp [go_sem, evS]
      exact ⟨fun h => by simpa [sput] using h0 (by simpa [did] using h), fun h => by simpa [sput] using h2 (by simpa [did] using h), by simpa [sput, did] using hTw2, by simpa [sput, did, hd7] using hT2, fun h => by simpa [did] using hx (by simpa [did] using h), fun h => by simp [did, hd7] at h, fun h => by simpa [did] using hv (by simpa [did] using h)⟩
    · have e4 : d 4 = true := by simp [hdep]
      have e1 : d 1 = true := by simp [hdep]
      have hTw0 := hTw
      obtain ⟨gg, cc, hva, hO1, hZ1, hrest⟩ := hTw e1
      rw [hd, e4] at hT
      obtain ⟨p, hp, hp2, hpB⟩ := hT.2.1 rfl
      simp only [Bool.false_eq_true, if_false] at hpB
      obtain ⟨r0, r1, r2, r3⟩ := cells4w hpB
      obtain ⟨q0, q1, q2, q3⟩ := frozen4w hpB
      rw [hp] at hT
      have hfar : ∀ k9, k9 ≠ p → _ := fun k9 (hk9 : k9 ≠ p) => heap_sets4 (w := W) hk9 (.slice (some ⟨gg, 0, none⟩) n cc) (.int .i64 off) (.int .i64 k) (.int .i64 inc)
      have hst := hpB.store4v (.slice (some ⟨gg, 0, none⟩) n cc) (.int .i64 off) (.int .i64 k) (.int .i64 inc)
      have hT2 := hT.store1 (W' := ((((W.setCell ⟨p, 0, none⟩ (.slice (some ⟨gg, 0, none⟩) n cc)).setCell ⟨p, 1, none⟩ (.int .i64 off)).setCell ⟨p, 2, none⟩ (.int .i64 k)).setCell ⟨p, 3, none⟩ (.int .i64 inc))) hfar (by rw [hva]; exact hst) (rest_sets4 _ _ _ _ _ _ _ _ _)
      have hTw2 := hTw0.far hpB (by decide) hfar
      simp [go_sem, evS, hp, hva, r0, r1, r2, r3, q0, q1, q2, q3]
      exact ⟨fun h => by simpa [sput] using h0 (by simpa [did] using h), fun h => by simpa [sput] using h2 (by simpa [did] using h), by simpa [sput, did] using hTw2, by simpa [sput, did, hp, e4] using hT2, fun _ => by simp [did, e4, e1], fun h => by simpa [did] using hy (by simpa [did] using h), fun h => by simpa [did] using hv (by simpa [did] using h)⟩
    · have e5 : d 5 = true := by simp [hdep]
      have e1 : d 3 = true := by simp [hdep]
      have hTw0 := hTw
      obtain ⟨gg0, cc0, hva0, hO1, hZ1, hrest⟩ := hTw (hv e1)
      obtain ⟨gg, cc, hva, hO2, hZ2, hne2⟩ := hrest e1
      rw [hd, e5] at hT
      obtain ⟨p, hp, hp2, hpB⟩ := hT.2.2.1 rfl
      simp only [Bool.false_eq_true, if_false] at hpB
      obtain ⟨r0, r1, r2, r3⟩ := cells4w hpB
      obtain ⟨q0, q1, q2, q3⟩ := frozen4w hpB
      rw [hp] at hT
      have hfar : ∀ k9, k9 ≠ p → _ := fun k9 (hk9 : k9 ≠ p) => heap_sets4 (w := W) hk9 (.slice (some ⟨gg, 0, none⟩) n cc) (.int .i64 off') (.int .i64 k') (.int .i64 inc')
      have hst := hpB.store4v (.slice (some ⟨gg, 0, none⟩) n cc) (.int .i64 off') (.int .i64 k') (.int .i64 inc')
      have hT2 := hT.store2 (W' := ((((W.setCell ⟨p, 0, none⟩ (.slice (some ⟨gg, 0, none⟩) n cc)).setCell ⟨p, 1, none⟩ (.int .i64 off')).setCell ⟨p, 2, none⟩ (.int .i64 k')).setCell ⟨p, 3, none⟩ (.int .i64 inc'))) hfar (by rw [hva]; exact hst) (rest_sets4 _ _ _ _ _ _ _ _ _)
      have hTw2 := hTw0.far hpB (by decide) hfar
      simp [go_sem, evS, hp, hva, r0, r1, r2, r3, q0, q1, q2, q3]
      exact ⟨fun h => by simpa [sput] using h0 (by simpa [did] using h), fun h => by simpa [sput] using h2 (by simpa [did] using h), by simpa [sput, did] using hTw2, by simpa [sput, did, hp, e5] using hT2, fun h => by simpa [did] using hx (by simpa [did] using h), fun _ => by simp [did, e5, e1], fun h => by simpa [did] using hv (by simpa [did] using h)⟩
  intro d s W hJ hd
  obtain ⟨_, _, hTw, hT, _, _, _⟩ := hJ
  obtain ⟨g1, c1, hsA, hO1, hZ1, hrest⟩ := hTw (hd 1 (by decide))
  obtain ⟨g2, c2, hsB, hO2, hZ2, hg12⟩ := hrest (hd 3 (by decide))
  obtain ⟨hb, hp, hq, hne⟩ := hT
  obtain ⟨p, hp, hp2, hpB⟩ := hp (hd 4 (by decide))
  obtain ⟨q, hq, hq2, hqB⟩ := hq (hd 5 (by decide))
  have hpq := hne (hd 4 (by decide)) (hd 5 (by decide))
  rw [hd 6 (by decide), hsA] at hpB
  rw [hd 7 (by decide), hsB] at hqB
  rw [hp, hq] at hpq
  have hpq2 : p ≠ q := fun e => hpq (by rw [e])
  simp only [if_true, cellsV] at hpB hqB
  clear hne hTw hrest hpq hd
  simp [setAll, hp, hq]
  clear hp hq hsA hsB
  generalize s 27 = s26
  generalize s 28 = s27
  generalize s 29 = s28
  generalize s 30 = s29
  have Hx5 := Lib.hid (Hx4.out.below hb Hx4.out.lt)
  have Hy5 := Lib.hid (Hy4.out.below hb Hy4.out.lt)
  have Hp5 := Lib.hid hpB
  have Hq5 := Lib.hid hqB
  have Hu5 := Lib.hid hO1
  have Hv5 := Lib.hid hO2
  have HB5 := Lib.hid (below_nx HB4.out hb)
  have Hg1g2 := Lib.hid hg12
  have hlo0 := Hy4.out.lt
  have Hpqz := Lib.hid (show w.heap.size + 1 < g1 ∧ w.heap.size + 1 < g2 ∧ w.heap.size + 1 < p ∧ w.heap.size + 1 < q by omega)
  have Hpq := Lib.hid hpq2
  clear hpB hqB hO1 hO2 hb hg12 hpq2 hZ1 hZ2 hp2 hq2 hlo0
  clear x0 x1 x2 x3 y0 y1 y2 y3
  obtain ⟨x0, x1, x2, x3⟩ := cells4w Hx5.out
  obtain ⟨y0, y1, y2, y3⟩ := cells4w Hy5.out
  obtain ⟨p0, p1, p2, p3⟩ := cells4w Hp5.out
  obtain ⟨q0, q1, q2, q3⟩ := cells4w Hq5.out
  have Hu5' := Lib.hid (show Own W g1 l from Hu5.out)
  have Hv5' := Lib.hid (show Own W g2 l from Hv5.out)
  clear Hu5 Hv5
  have Hu5 := Hu5'
  have Hv5 := Hv5'
  clear Hu5' Hv5'
  obtain ⟨f0, _, _, _⟩ := frozen4w Hq5.out
  go_upto_region 10 with fail
  have hb9 : Blk (W.setCell ⟨q, 0, none⟩ (.slice (some ⟨g1, 0, none⟩) n c1)) (q) 30 #[.slice (some ⟨g1, 0, none⟩) n c1, .int .i64 off', .int .i64 k', .int .i64 inc'] := by simpa using Hq5.out.set_ 0 (.slice (some ⟨g1, 0, none⟩) n c1)
  have Hx6 := Lib.hid (Hx5.out.other (p := ⟨q, 0, none⟩) ((by have := Hpqz.out; have := Hpq.out; simp; omega)) (.slice (some ⟨g1, 0, none⟩) n c1))
  have Hy6 := Lib.hid (Hy5.out.other (p := ⟨q, 0, none⟩) ((by have := Hpqz.out; have := Hpq.out; simp; omega)) (.slice (some ⟨g1, 0, none⟩) n c1))
  have Hp6 := Lib.hid (Hp5.out.other (p := ⟨q, 0, none⟩) ((by have := Hpqz.out; have := Hpq.out; simp; omega)) (.slice (some ⟨g1, 0, none⟩) n c1))
  have Hu6 := Lib.hid (Hu5.out.other (p := ⟨q, 0, none⟩) (own_ne Hu5.out Hq5.out (by decide)) (.slice (some ⟨g1, 0, none⟩) n c1))
  have Hv6 := Lib.hid (Hv5.out.other (p := ⟨q, 0, none⟩) (own_ne Hv5.out Hq5.out (by decide)) (.slice (some ⟨g1, 0, none⟩) n c1))
  have Hq6 := Lib.hid hb9
  have HB6 := Lib.hid (HB5.out.setCell (p := ⟨q, 0, none⟩) ((by have := Hpqz.out; have := Hpq.out; simp; omega)) (.slice (some ⟨g1, 0, none⟩) n c1))
  clear x0 x1 x2 x3 y0 y1 y2 y3 p0 p1 p2 p3 q0 q1 q2 q3
  clear hb9 f0
  generalize (W.setCell ⟨q, 0, none⟩ (.slice (some ⟨g1, 0, none⟩) n c1)) = W5 at *
  obtain ⟨x0, x1, x2, x3⟩ := cells4w Hx6.out
  obtain ⟨y0, y1, y2, y3⟩ := cells4w Hy6.out
  obtain ⟨p0, p1, p2, p3⟩ := cells4w Hp6.out
  obtain ⟨q0, q1, q2, q3⟩ := cells4w Hq6.out
  go_wp2_with fail
  refine (HAp.out _ _ _ _ Hu6.out).mono ?_
  rintro e w6 ⟨rfl, m, hm1, hm2, hm3, hc⟩
  have Hx7 := Lib.hid (hc.blk (by have := Hpqz.out; simp; omega) Hx6.out)
  have Hy7 := Lib.hid (hc.blk (by have := Hpqz.out; simp; omega) Hy6.out)
  have Hp7 := Lib.hid (hc.blk (fun h => own_ne Hu6.out Hp6.out (by decide) (List.mem_singleton.1 h).symm) Hp6.out)
  have Hq7 := Lib.hid (hc.blk (fun h => own_ne Hu6.out Hq6.out (by decide) (List.mem_singleton.1 h).symm) Hq6.out)
  have Hu7 := Lib.hid hm3
  have HB7 := Lib.hid (hc.below HB6.out HB6.out.size (fun x hx => by have := Hpqz.out; simp at hx; omega))
  have HM := Lib.hid (And.intro hm1 hm2)
  clear hm1 hm2 hm3 hc
  clear x0 x1 x2 x3 y0 y1 y2 y3 p0 p1 p2 p3 q0 q1 q2 q3
  obtain ⟨x0, x1, x2, x3⟩ := cells4w Hx7.out
  obtain ⟨y0, y1, y2, y3⟩ := cells4w Hy7.out
  obtain ⟨p0, p1, p2, p3⟩ := cells4w Hp7.out
  obtain ⟨q0, q1, q2, q3⟩ := cells4w Hq7.out
  go_wp2_with fail
  refine (HRp.out _).mono ?_
  rintro e w7 ⟨rfl, hb⟩
  have Hx8 := Lib.hid (Hx7.out.nxt hb)
  have Hy8 := Lib.hid (Hy7.out.nxt hb)
  have Hp8 := Lib.hid (Hp7.out.nxt hb)
  have Hq8 := Lib.hid (Hq7.out.nxt hb)
  have Hu8 := Lib.hid (Hu7.out.nxt hb)
  have HB8 := Lib.hid (below_nx HB7.out hb)
  clear hb
  clear x0 x1 x2 x3 y0 y1 y2 y3 p0 p1 p2 p3 q0 q1 q2 q3
  obtain ⟨x0, x1, x2, x3⟩ := cells4w Hx8.out
  obtain ⟨y0, y1, y2, y3⟩ := cells4w Hy8.out
  obtain ⟨p0, p1, p2, p3⟩ := cells4w Hp8.out
  obtain ⟨q0, q1, q2, q3⟩ := cells4w Hq8.out
  go_wp2_with fail
  refine wp_region_inv [76, 77, 78, 79, 80, 81, 82, 83, 13] (fun d s W => (d 0 = true → s 76 = .agg #[.slice A n c, .int .i64 off', .int .i64 k', .int .i64 inc']) ∧ (d 1 = true → s 77 = .float .f64 a) ∧ (d 2 = true → s 78 = .agg #[.slice A n c, .int .i64 off, .int .i64 k, .int .i64 inc]) ∧ (d 3 = true → SlR W (s 79) K X) ∧ (d 4 = true → s 80 = .agg #[.slice A n c, .int .i64 off', .int .i64 k', .int .i64 inc']) ∧ (d 5 = true → SlR W (s 81) K Y) ∧ (d 6 = true → SlM W (s 82) K (AxQ a X Y)) ∧ (d 7 = true → SlO W (s 83) n (fun M => ∃ m' : List Nat, m'.length = K ∧ (∀ q, q < K → AxQ a X Y q (m'.getD q 0)) ∧ M = wrt l o' i' m' K)) ∧ (d 8 = true → SlO W (s 13) n (fun M => ∃ m' : List Nat, m'.length = K ∧ (∀ q, q < K → AxQ a X Y q (m'.getD q 0)) ∧ M = wrt l o' i' m' K)) ∧ Below w7.heap.size w7 W)
    rfl (by kernel_rfl) ?_ ?_ ?_
  · exact ⟨by simp, by simp, by simp, by simp, by simp, by simp, by simp, by simp, by simp, (Below.refl _ _).drew⟩
  · refine ⟨?_, ?_, ?_, ?_, ?_, ?_, ?_, ?_, ?_, trivial⟩
    all_goals
      intro d s W hJ hfr hd hdep
      simp only [List.mem_cons, forall_eq_or_imp, List.not_mem_nil, false_implies, implies_true, and_true, Region.binds] at hdep
      have f0 := hfr 0 (by decide)
      have f5 := hfr 5 (by decide)
      have f6 := hfr 6 (by decide)
      simp at f0 f5 f6 hdep
      obtain ⟨h0, h1, h2, h3, h4, h5, h6, h7, h8, hT⟩ := hJ
    · unfold OpSteps
      obtain ⟨p0, p1, p2, p3⟩ := cells4w (Hy8.out.below hT Hy8.out.lt)
      simp [go_sem, evS, f6, p0, p1, p2, p3]
      exact ⟨fun _ => by simp [sput], fun h => by simpa [sput] using h1 (by simpa [did] using h), fun h => by simpa [sput] using h2 (by simpa [did] using h), fun h => by simpa [sput] using h3 (by simpa [did] using h), fun h => by simpa [sput] using h4 (by simpa [did] using h), fun h => by simpa [sput] using h5 (by simpa [did] using h), fun h => by simpa [sput] using h6 (by simpa [did] using h), fun h => by simpa [sput] using h7 (by simpa [did] using h), fun h => by simpa [sput] using h8 (by simpa [did] using h), hT⟩
    · unfold OpSteps
      simp [go_sem, evS, f0]
      exact ⟨fun h => by simpa [sput] using h0 (by simpa [did] using h), fun _ => by simp [sput], fun h => by simpa [sput] using h2 (by simpa [did] using h), fun h => by simpa [sput] using h3 (by simpa [did] using h), fun h => by simpa [sput] using h4 (by simpa [did] using h), fun h => by simpa [sput] using h5 (by simpa [did] using h), fun h => by simpa [sput] using h6 (by simpa [did] using h), fun h => by simpa [sput] using h7 (by simpa [did] using h), fun h => by simpa [sput] using h8 (by simpa [did] using h), hT⟩
    · unfold OpSteps
      obtain ⟨p0, p1, p2, p3⟩ := cells4w (Hx8.out.below hT Hx8.out.lt)
      simp [go_sem, evS, f5, p0, p1, p2, p3]
      exact ⟨fun h => by simpa [sput] using h0 (by simpa [did] using h), fun h => by simpa [sput] using h1 (by simpa [did] using h), fun _ => by simp [sput], fun h => by simpa [sput] using h3 (by simpa [did] using h), fun h => by simpa [sput] using h4 (by simpa [did] using h), fun h => by simpa [sput] using h5 (by simpa [did] using h), fun h => by simpa [sput] using h6 (by simpa [did] using h), fun h => by simpa [sput] using h7 (by simpa [did] using h), fun h => by simpa [sput] using h8 (by simpa [did] using h), hT⟩
    · have g2 := h2 (by simp [hdep])
      unfold OpSteps
      simp [go_sem, evS, g2]
      refine (HLx.out W (below_nx HB8.out hT)).mono ?_
      rintro e W' ⟨LA, dA, rfl, hr, hb⟩
      refine ⟨_, rfl, ?_⟩
      exact ⟨fun h => by simpa [sput] using h0 (by simpa [did] using h), fun h => by simpa [sput] using h1 (by simpa [did] using h), fun h => by simpa [sput] using h2 (by simpa [did] using h), fun _ => by simpa [sput] using (show SlR W' (.slice LA K dA) K X from ⟨LA, dA, rfl, hr⟩), fun h => by simpa [sput] using h4 (by simpa [did] using h), fun h => by simpa [sput] using (h5 (by simpa [did] using h)).below hb, fun h => by simpa [sput] using (h6 (by simpa [did] using h)).below hb, fun h => by simpa [sput] using (h7 (by simpa [did] using h)).below hb, fun h => by simpa [sput] using (h8 (by simpa [did] using h)).below hb, below_nx hT hb⟩
    · unfold OpSteps
      obtain ⟨p0, p1, p2, p3⟩ := cells4w (Hy8.out.below hT Hy8.out.lt)
      simp [go_sem, evS, f6, p0, p1, p2, p3]
      exact ⟨fun h => by simpa [sput] using h0 (by simpa [did] using h), fun h => by simpa [sput] using h1 (by simpa [did] using h), fun h => by simpa [sput] using h2 (by simpa [did] using h), fun h => by simpa [sput] using h3 (by simpa [did] using h), fun _ => by simp [sput], fun h => by simpa [sput] using h5 (by simpa [did] using h), fun h => by simpa [sput] using h6 (by simpa [did] using h), fun h => by simpa [sput] using h7 (by simpa [did] using h), fun h => by simpa [sput] using h8 (by simpa [did] using h), hT⟩
    · have g4 := h4 (by simp [hdep])
      unfold OpSteps
      simp [go_sem, evS, g4]
      refine (HLy.out W (below_nx HB8.out hT)).mono ?_
      rintro e W' ⟨LA, dA, rfl, hr, hb⟩
      refine ⟨_, rfl, ?_⟩
      exact ⟨fun h => by simpa [sput] using h0 (by simpa [did] using h), fun h => by simpa [sput] using h1 (by simpa [did] using h), fun h => by simpa [sput] using h2 (by simpa [did] using h), fun h => by simpa [sput] using (h3 (by simpa [did] using h)).below hb, fun h => by simpa [sput] using h4 (by simpa [did] using h), fun _ => by simpa [sput] using (show SlR W' (.slice LA K dA) K Y from ⟨LA, dA, rfl, hr⟩), fun h => by simpa [sput] using (h6 (by simpa [did] using h)).below hb, fun h => by simpa [sput] using (h7 (by simpa [did] using h)).below hb, fun h => by simpa [sput] using (h8 (by simpa [did] using h)).below hb, below_nx hT hb⟩
    · have g1 := h1 (by simp [hdep])
      have g3 := h3 (by simp [hdep])
      have g5 := h5 (by simp [hdep])
      unfold OpSteps
      obtain ⟨B1, d1, z1, r1⟩ := g3
      obtain ⟨B2, d2, z2, r2⟩ := g5
      simp [go_sem, evS, g1, z1, z2]
      refine (HRa.out W B1 B2 d1 d2 r1 r2).mono ?_
      rintro e W' ⟨LA, dA, m', rfl, hm, hR, hr, hb⟩
      refine ⟨_, rfl, ?_⟩
      exact ⟨fun h => by simpa [sput] using h0 (by simpa [did] using h), fun h => by simpa [sput] using h1 (by simpa [did] using h), fun h => by simpa [sput] using h2 (by simpa [did] using h), fun h => by simpa [sput] using (h3 (by simpa [did] using h)).below hb, fun h => by simpa [sput] using h4 (by simpa [did] using h), fun h => by simpa [sput] using (h5 (by simpa [did] using h)).below hb, fun _ => by simpa [sput] using (show SlM W' (.slice LA K dA) K (AxQ a X Y) from ⟨m', hm, hR, LA, dA, rfl, hr⟩), fun h => by simpa [sput] using (h7 (by simpa [did] using h)).below hb, fun h => by simpa [sput] using (h8 (by simpa [did] using h)).below hb, below_nx hT hb⟩
    · have g0 := h0 (by simp [hdep])
      have g6 := h6 (by simp [hdep])
      unfold OpSteps
      obtain ⟨m', hm, hR, B1, d1, z1, r1⟩ := g6
      simp [go_sem, evS, g0, z1]
      refine (HWr.out W (below_nx HB8.out hT) B1 d1 m' hm r1).mono ?_
      rintro e W' ⟨g3, c3, rfl, ho3, _, hb⟩
      refine ⟨_, rfl, ?_⟩
      exact ⟨fun h => by simpa [sput] using h0 (by simpa [did] using h), fun h => by simpa [sput] using h1 (by simpa [did] using h), fun h => by simpa [sput] using h2 (by simpa [did] using h), fun h => by simpa [sput] using (h3 (by simpa [did] using h)).below hb, fun h => by simpa [sput] using h4 (by simpa [did] using h), fun h => by simpa [sput] using (h5 (by simpa [did] using h)).below hb, fun h => by simpa [sput] using (h6 (by simpa [did] using h)).below hb, fun _ => by simpa [sput] using (show SlO W' (.slice (some ⟨g3, 0, none⟩) n c3) n (fun M => ∃ m' : List Nat, m'.length = K ∧ (∀ q, q < K → AxQ a X Y q (m'.getD q 0)) ∧ M = wrt l o' i' m' K) from ⟨g3, c3, _, rfl, ⟨m', hm, hR, rfl⟩, ho3⟩), fun h => by simpa [sput] using (h8 (by simpa [did] using h)).below hb, below_nx hT hb⟩
    · have g7 := h7 (by simp [hdep])
      unfold OpSteps
      obtain ⟨g3, c3, M, z1, hS, ho3⟩ := g7
      simp [go_sem, evS, z1]
      exact ⟨fun h => by simpa [sput] using h0 (by simpa [did] using h), fun h => by simpa [sput] using h1 (by simpa [did] using h), fun h => by simpa [sput] using h2 (by simpa [did] using h), fun h => by simpa [sput] using h3 (by simpa [did] using h), fun h => by simpa [sput] using h4 (by simpa [did] using h), fun h => by simpa [sput] using h5 (by simpa [did] using h), fun h => by simpa [sput] using h6 (by simpa [did] using h), fun h => by simpa [sput] using h7 (by simpa [did] using h), fun _ => by simpa [sput] using (show SlO W (.slice (some ⟨g3, 0, none⟩) n c3) n (fun M => ∃ m' : List Nat, m'.length = K ∧ (∀ q, q < K → AxQ a X Y q (m'.getD q 0)) ∧ M = wrt l o' i' m' K) from ⟨g3, c3, M, rfl, hS, ho3⟩), hT⟩
  intro d s W hJ hd
  obtain ⟨h0, h1, h2, h3, h4, h5, h6, h7, h8, hT⟩ := hJ
  obtain ⟨g3, c3, M, hs13, ⟨m', hm', hR', rfl⟩, ho3⟩ := h8 (hd 8 (by decide))
  have hb : Below w7.heap.size w7 W := hT
  clear h0 h1 h2 h3 h4 h5 h6 h7 h8 hT hd
  simp [setAll, hs13]
  clear hs13
  generalize s 76 = s76
  generalize s 77 = s77
  generalize s 78 = s78
  generalize s 79 = s79
  generalize s 80 = s80
  generalize s 81 = s81
  generalize s 82 = s82
  generalize s 83 = s83
  have HM' := Lib.hid (And.intro hm' hR')
  clear hm' hR'
  generalize W = w8 at *
  have Hx9 := Lib.hid (Hx8.out.nxt hb)
  have Hy9 := Lib.hid (Hy8.out.nxt hb)
  have Hp9 := Lib.hid (Hp8.out.nxt hb)
  have Hq9 := Lib.hid (Hq8.out.nxt hb)
  have Hu9 := Lib.hid (Hu8.out.nxt hb)
  have HB9 := Lib.hid (below_nx HB8.out hb)
  clear hb
  clear x0 x1 x2 x3 y0 y1 y2 y3 p0 p1 p2 p3 q0 q1 q2 q3
  obtain ⟨x0, x1, x2, x3⟩ := cells4w Hx9.out
  obtain ⟨y0, y1, y2, y3⟩ := cells4w Hy9.out
  obtain ⟨p0, p1, p2, p3⟩ := cells4w Hp9.out
  obtain ⟨q0, q1, q2, q3⟩ := cells4w Hq9.out
  have Ht9 := Lib.hid ho3
  clear ho3
  go_wp2_with fail
  refine (HFin.out _ _ _ _ _ _ _ HM.out.1 HM.out.2 HM'.out.1 HM'.out.2 Hu9.out.row Ht9.out.row).mono ?_
  rintro e w9 ⟨rfl, hb⟩
  have Hx10 := Lib.hid (Hx9.out.nxt hb)
  have Hy10 := Lib.hid (Hy9.out.nxt hb)
  have Hp10 := Lib.hid (Hp9.out.nxt hb)
  have Hq10 := Lib.hid (Hq9.out.nxt hb)
  have Hu10 := Lib.hid (Hu9.out.nxt hb)
  have Ht10 := Lib.hid (Ht9.out.nxt hb)
  have HB10 := Lib.hid (below_nx HB9.out hb)
  clear hb
  clear x0 x1 x2 x3 y0 y1 y2 y3 p0 p1 p2 p3 q0 q1 q2 q3
  obtain ⟨x0, x1, x2, x3⟩ := cells4w Hx10.out
  obtain ⟨y0, y1, y2, y3⟩ := cells4w Hy10.out
  obtain ⟨p0, p1, p2, p3⟩ := cells4w Hp10.out
  obtain ⟨q0, q1, q2, q3⟩ := cells4w Hq10.out
  go_wp2_with fail
  refine (awake6_any _).mono ?_
  rintro e w11 ⟨rfl, hb⟩
  have Hx11 := Lib.hid (Hx10.out.nxt hb)
  have Hy11 := Lib.hid (Hy10.out.nxt hb)
  have Hp11 := Lib.hid (Hp10.out.nxt hb)
  have Hq11 := Lib.hid (Hq10.out.nxt hb)
  have Hu11 := Lib.hid (Hu10.out.nxt hb)
  have Ht11 := Lib.hid (Ht10.out.nxt hb)
  have HB11 := Lib.hid (below_nx HB10.out hb)
  clear hb
  clear x0 x1 x2 x3 y0 y1 y2 y3 p0 p1 p2 p3 q0 q1 q2 q3
  obtain ⟨x0, x1, x2, x3⟩ := cells4w Hx11.out
  obtain ⟨y0, y1, y2, y3⟩ := cells4w Hy11.out
  obtain ⟨p0, p1, p2, p3⟩ := cells4w Hp11.out
  obtain ⟨q0, q1, q2, q3⟩ := cells4w Hq11.out
  go_wp2_with fail
  go_ret
  exact ⟨rfl, HB11.out⟩
end Go.Proofs.Ytjjneiidggcfdaa
set_option linter.unusedVariables false
set_option linter.unusedSimpArgs false
set_option linter.unnecessarySimpa false
namespace Go.Proofs.Ytjjneiidggcfdaa
open Go.RowKit
attribute [local go_sem ↓] Go.wp_at_zero Go.wp_at_succ


theorem axesAdd_long (a : Nat) (A : Option Addr) (n c : Nat) (off k inc : Int) (A' : Option Addr) (n' c' : Nat) (off' k' inc' : Int) (one : Bool) (w : World) (h : longB n k = true ∨ longB n k = false ∧ longB n' k' = true) :
    Calls Try.prog 4 #[.float .f64 a, vec A n c off k inc, vec A' n' c' off' k' inc', .bool one] w fun e w' => e = .returned (.bool true) ∧ Below w.heap.size w w' := by
  have HLg := Lib.hid (fun W => long_any A n c off k inc W)
  have HLg' := Lib.hid (fun W => long_any A' n' c' off' k' inc' W)
  generalize longB n k = x at *
  generalize longB n' k' = x' at *
  rcases h with rfl | ⟨rfl, rfl⟩
  · unfold vec at *
    go_enter Try.func4, Try.ntmps4
    have Hx0 := Lib.hid ((Blk.new w 30 #[.slice A n c, .int .i64 off, .int .i64 k, .int .i64 inc]).alloc (.cells #[.slice A' n' c', .int .i64 off', .int .i64 k', .int .i64 inc'] 30))
    have Hy0 := Lib.hid (Blk.new_ (w.alloc (.cells #[.slice A n c, .int .i64 off, .int .i64 k, .int .i64 inc] 30)) 30 #[.slice A' n' c', .int .i64 off', .int .i64 k', .int .i64 inc'] (w.heap.size + 1) (by simp))
    have HB0 := Lib.hid (((Below.refl w.heap.size w).alloc (Nat.le_refl _) (.cells #[.slice A n c, .int .i64 off, .int .i64 k, .int .i64 inc] 30)).alloc (by simp) (.cells #[.slice A' n' c', .int .i64 off', .int .i64 k', .int .i64 inc'] 30))
    obtain ⟨x0, x1, x2, x3⟩ := cells4w Hx0.out
    obtain ⟨y0, y1, y2, y3⟩ := cells4w Hy0.out
    go_wp2_with fail
    refine (awake6_any _).mono ?_
    rintro e w1 ⟨rfl, hb⟩
    have Hx1 := Lib.hid (Hx0.out.nxt hb)
    have Hy1 := Lib.hid (Hy0.out.nxt hb)
    have HB1 := Lib.hid (below_nx HB0.out hb)
    clear hb
    clear x0 x1 x2 x3 y0 y1 y2 y3
    obtain ⟨x0, x1, x2, x3⟩ := cells4w Hx1.out
    obtain ⟨y0, y1, y2, y3⟩ := cells4w Hy1.out
    go_wp2_with fail
    refine (HLg.out _).mono ?_
    rintro e w2 ⟨rfl, hb⟩
    have Hx2 := Lib.hid (Hx1.out.nxt hb)
    have Hy2 := Lib.hid (Hy1.out.nxt hb)
    have HB2 := Lib.hid (below_nx HB1.out hb)
    clear hb
    clear x0 x1 x2 x3 y0 y1 y2 y3
    obtain ⟨x0, x1, x2, x3⟩ := cells4w Hx2.out
    obtain ⟨y0, y1, y2, y3⟩ := cells4w Hy2.out
    go_wp2_with fail
    refine (awake6_any _).mono ?_
    rintro e w9 ⟨rfl, hb⟩
    have Hx3 := Lib.hid (Hx2.out.nxt hb)
    have Hy3 := Lib.hid (Hy2.out.nxt hb)
    have HB3 := Lib.hid (below_nx HB2.out hb)
    clear hb
    clear x0 x1 x2 x3 y0 y1 y2 y3
    obtain ⟨x0, x1, x2, x3⟩ := cells4w Hx3.out
    obtain ⟨y0, y1, y2, y3⟩ := cells4w Hy3.out
    go_wp2_with fail
    go_ret
    exact ⟨rfl, HB3.out⟩
  · unfold vec at *
    go_enter Try.func4, Try.ntmps4
    have Hx0 := Lib.hid ((Blk.new w 30 #[.slice A n c, .int .i64 off, .int .i64 k, .int .i64 inc]).alloc (.cells #[.slice A' n' c', .int .i64 off', .int .i64 k', .int .i64 inc'] 30))
    have Hy0 := Lib.hid (Blk.new_ (w.alloc (.cells #[.slice A n c, .int .i64 off, .int .i64 k, .int .i64 inc] 30)) 30 #[.slice A' n' c', .int .i64 off', .int .i64 k', .int .i64 inc'] (w.heap.size + 1) (by simp))
    have HB0 := Lib.hid (((Below.refl w.heap.size w).alloc (Nat.le_refl _) (.cells #[.slice A n c, .int .i64 off, .int .i64 k, .int .i64 inc] 30)).alloc (by simp) (.cells #[.slice A' n' c', .int .i64 off', .int .i64 k', .int .i64 inc'] 30))
    obtain ⟨x0, x1, x2, x3⟩ := cells4w Hx0.out
    obtain ⟨y0, y1, y2, y3⟩ := cells4w Hy0.out
    go_wp2_with fail
    refine (awake6_any _).mono ?_
    rintro e w1 ⟨rfl, hb⟩
    have Hx1 := Lib.hid (Hx0.out.nxt hb)
    have Hy1 := Lib.hid (Hy0.out.nxt hb)
    have HB1 := Lib.hid (below_nx HB0.out hb)
    clear hb
    clear x0 x1 x2 x3 y0 y1 y2 y3
    obtain ⟨x0, x1, x2, x3⟩ := cells4w Hx1.out
    obtain ⟨y0, y1, y2, y3⟩ := cells4w Hy1.out
    go_wp2_with fail
    refine (HLg.out _).mono ?_
    rintro e w2 ⟨rfl, hb⟩
    have Hx2 := Lib.hid (Hx1.out.nxt hb)
    have Hy2 := Lib.hid (Hy1.out.nxt hb)
    have HB2 := Lib.hid (below_nx HB1.out hb)
    clear hb
    clear x0 x1 x2 x3 y0 y1 y2 y3
    obtain ⟨x0, x1, x2, x3⟩ := cells4w Hx2.out
    obtain ⟨y0, y1, y2, y3⟩ := cells4w Hy2.out
    go_wp2_with fail
    refine (HLg'.out _).mono ?_
    rintro e w3 ⟨rfl, hb⟩
    have Hx3 := Lib.hid (Hx2.out.nxt hb)
    have Hy3 := Lib.hid (Hy2.out.nxt hb)
    have HB3 := Lib.hid (below_nx HB2.out hb)
    clear hb
    clear x0 x1 x2 x3 y0 y1 y2 y3
    obtain ⟨x0, x1, x2, x3⟩ := cells4w Hx3.out
    obtain ⟨y0, y1, y2, y3⟩ := cells4w Hy3.out
    go_wp2_with fail
    refine (awake6_any _).mono ?_
    rintro e w9 ⟨rfl, hb⟩
    have Hx4 := Lib.hid (Hx3.out.nxt hb)
    have Hy4 := Lib.hid (Hy3.out.nxt hb)
    have HB4 := Lib.hid (below_nx HB3.out hb)
    clear hb
    clear x0 x1 x2 x3 y0 y1 y2 y3
    obtain ⟨x0, x1, x2, x3⟩ := cells4w Hx4.out
    obtain ⟨y0, y1, y2, y3⟩ := cells4w Hy4.out
    go_wp2_with fail
    go_ret
    exact ⟨rfl, HB4.out⟩

theorem axesAdd_walk (a : Nat) (A : Option Addr) (c : Nat) (l : List Nat) (off k inc : Int) (A' : Option Addr) (c' : Nat) (l' : List Nat) (off' k' inc' : Int) (one : Bool) (w : World) (ha : a < 18446744073709551616) (hA : Row w A (f64s l)) (hA' : Row w A' (f64s l')) (hW : Wds l) (hW' : Wds l') (ho : I64 off) (hk : I64 k) (hi : I64 inc) (ho' : I64 off') (hk' : I64 k') (hi' : I64 inc') :
    Calls Try.prog 4 #[.float .f64 a, vec A l.length c off k inc, vec A' l'.length c' off' k' inc', .bool one] w fun e w' => e = .returned (.bool true) ∧ Below w.heap.size w w' := by
  cases h1 : longB l.length k
  · cases h2 : longB l'.length k'
    · have q1 : l.length ≤ 1000 ∧ k ≤ 60 := by unfold longB at h1; simp at h1; omega
      have q2 : l'.length ≤ 1000 ∧ k' ≤ 60 := by unfold longB at h2; simp at h2; omega
      cases one
      · by_cases hP : pairI false l'.length off' k' inc' l.length off k inc = 0
        · obtain ⟨o', K, i', o, i, e4, e5, e6, e1, e2, e3, a2, a1, a4, a3, _⟩ := pair_zero (g := 0) (g' := 1) (n := l'.length) (n' := l.length) (off := off') (k := k') (inc := inc') (off' := off) (k' := k) (inc' := inc) hP
          exact axesAdd_ok2 a A _ c l off k inc A' _ c' l' off' k' inc' w hA hA' hW hW' rfl rfl q1.1 q2.1 q1.2 q2.2 ho hk hi ho' hk' hi' ha hP o K i o' i' e1 e2 e3 e4 e5 e6 a1 a2 a3 a4
        · exact axesAdd_err2 a A _ c l off k inc A' _ c' l' off' k' inc' w hA hA' hW hW' rfl rfl q1.1 q2.1 q1.2 q2.2 ho hk hi ho' hk' hi' _ rfl hP
      · by_cases hP : pairI true l.length off' k' inc' l.length off k inc = 0
        · obtain ⟨o', K, i', o, i, e4, e5, e6, e1, e2, e3, a2, a1, a4, a3, a5⟩ := pair_zero (g := 0) (g' := 0) (n := l.length) (n' := l.length) (off := off') (k := k') (inc := inc') (off' := off) (k' := k) (inc' := inc) hP
          exact axesAdd_ok1 a A _ c l off k inc A' _ c' l' off' k' inc' w hA hA' hW hW' rfl rfl q1.1 q2.1 q1.2 q2.2 ho hk hi ho' hk' hi' ha hP o K i o' i' e1 e2 e3 e4 e5 e6 a1 a2 a3 a4 (a5 rfl)
        · exact axesAdd_err1 a A _ c l off k inc A' _ c' l' off' k' inc' w hA hA' hW hW' rfl rfl q1.1 q2.1 q1.2 q2.2 ho hk hi ho' hk' hi' _ rfl hP
    · exact axesAdd_long a A _ c off k inc A' _ c' off' k' inc' one w (.inr ⟨h1, h2⟩)
  · exact axesAdd_long a A _ c off k inc A' _ c' off' k' inc' one w (.inl h1)

end Go.Proofs.Ytjjneiidggcfdaa
