/-
Equil: the greatest of sizes, the exponents of lines. Conditions: as each says.
-/
import Derived.Test.YtelpdbkkefpjhaaZKEqA
import Derived.Test.YtelpdbkkefpjhaaWKh
import Derived.Test.YtelpdbkkefpjhaaZKCl
import Derived.Test.YtelpdbkkefpjhaaZKMvF
import Derived.Shelf.Abstract
set_option linter.unusedVariables false
set_option linter.unusedSimpArgs false
set_option linter.unnecessarySimpa false
namespace Go.Proofs.Ytelpdbkkefpjhaa
open Go.RowKit
attribute [local go_sem ↓] Go.wp_at_zero Go.wp_at_succ

theorem owns_below {w w' : World} {lo m : Nat} {t : TypeId} {v : Value} {n : Nat} {xs : List Value} (h : w.ownsRow lo t m v n xs) (hb : Below w.heap.size w w') : w'.ownsRow lo t m v n xs := by
  refine ⟨h.1, h.2.imp id ?_⟩
  rintro ⟨g, cap, cur, h1, h2, h3, h4⟩
  have hlt : g < w.heap.size := by
    rcases Nat.lt_or_ge g w.heap.size with hl | hl
    · exact hl
    · rw [Array.getElem?_eq_none hl] at h3; cases h3
  exact ⟨g, cap, cur, h1, h2, (hb.block g hlt).trans h3, h4⟩
theorem cell_one {W : World} {b : Nat} {t : TypeId} {x : Value} (h : Blk W b t #[x]) : ∀ (j : Nat) (u : Value), [x][j]? = some u → W.cell? ((⟨b, 0, none⟩ : Addr).add j) = some u := fun j u hj => by
  match j, hj with
  | 0, hj =>
    have : u = x := by simpa using hj.symm
    subst this
    exact h.cell 0
  | j + 1, hj => simp at hj

set_option maxHeartbeats 2000000 in
theorem eqgreatest_any (F : FuncId) (caps : Array Value) (B : Option Addr) (N d : Nat) (V : List Nat) (s : Nat → Int) (w : World)
    (hF : ∀ args W, (callFunc F args).run Try.prog W = .ok (.enter F args) W) (hB : Row w B (f64s V)) (hl : V.length = N) (hN : N < 1048576)
    (hC : ∀ W k, k < N → Below w.heap.size w W → Calls Try.prog F (#[.int .i64 (k : Int), .float .f64 (V.getD k 0)] ++ caps) W fun e w' => e = .returned (.int .i64 (s k)) ∧ Below W.heap.size W w') :
    Calls Try.prog 55 #[.slice B N d, .func (.func F) #[] caps] w fun e w' => e = .returned (.tuple #[.int .i64 (gst (fun k => zB (V.getD k 0)) s N).1, .bool (gst (fun k => zB (V.getD k 0)) s N).2]) ∧ Below w.heap.size w w' := by
  have HCa := Lib.hid hC
  have HB := Lib.hid hB
  have Hl := Lib.hid hl
  obtain ⟨G, hG⟩ : ∃ G, gst (fun k => zB (V.getD k 0)) s = G := ⟨_, rfl⟩
  have HSk := Lib.hid (fun k (h : zB (V.getD k 0) = true) => show G (k + 1) = G k by rw [← hG]; exact gst_skip h)
  have HFi := Lib.hid (fun k M (h : zB (V.getD k 0) = false) (hg : G k = (M, false)) => show G (k + 1) = (s k, true) by rw [← hG] at hg ⊢; exact gst_first h hg)
  have HTa := Lib.hid (fun k M (h : zB (V.getD k 0) = false) (hg : G k = (M, true)) (hl : M < s k) => show G (k + 1) = (s k, true) by rw [← hG] at hg ⊢; exact gst_take h hg hl)
  have HKe := Lib.hid (fun k M (h : zB (V.getD k 0) = false) (hg : G k = (M, true)) (hl : s k ≤ M) => show G (k + 1) = (M, true) by rw [← hG] at hg ⊢; exact gst_keep h hg (by omega))
  have H0 := Lib.hid (show G 0 = (0, false) by rw [← hG]; rfl)
  rw [hG]
  clear hC hB hl hG
  go_enter Try.func55, Try.ntmps55
  have HB0 := Lib.hid (Below.refl w.heap.size w)
  go_wp2_with fail
  go_loopw [4, 5, 12] (fun m o a wr => ∃ (q : Nat) (M : Int) (b : Bool), q ≤ N ∧ m = .int .i64 M ∧ o = .bool b ∧ a = .int .i64 q ∧ Hid (G q = (M, b)) ∧ Below w.heap.size w wr) (fun _ _ a _ => N - (intOf a).toNat)
  case atStart => exact ⟨0, 0, false, Nat.zero_le _, rfl, rfl, rfl, Lib.hid H0.out, HB0.out⟩
  case round =>
    obtain ⟨q, M, b, hq, rfl, rfl, rfl, HG, hbl⟩ := hrel
    have HBl := Lib.hid hbl
    clear hbl
    by_cases hlt : q < N
    · have hqc : (q : Int) < (N : Int) := by omega
      have hq1 : q + 1 ≤ 1048576 := by omega
      obtain ⟨b0, o0, rfl, hc0⟩ := HB.out.get0 (k := q) (by rw [Hl.out]; exact hlt)
      have hc := cell_below hc0 HBl.out
      have HCq := Lib.hid (HCa.out wr q hlt HBl.out)
      have HSq := Lib.hid (HSk.out q)
      have HFq := Lib.hid (HFi.out q M)
      have HTq := Lib.hid (HTa.out q M)
      have HKq := Lib.hid (HKe.out q M)
      obtain ⟨x, hx⟩ : ∃ x, V.getD q 0 = x := ⟨_, rfl⟩
      obtain ⟨S, hS⟩ : ∃ S, s q = S := ⟨_, rfl⟩
      rw [hx] at hc HCq HSq HFq HTq HKq
      rw [hS] at HCq HFq HTq HKq
      have ht := eql_zero x
      clear hc0 hx hS
      by_cases hz : Fl.rung x = 0
      · rw [decide_eq_true hz] at ht
        have HN := Lib.hid (HSq.out (decide_eq_true hz))
        clear hz
        go_wp2_with fail
        go_roundw
        case rel => exact ⟨q + 1, M, b, by omega, rfl, rfl, by go_num, Lib.hid (HN.out.trans HG.out), HBl.out⟩
        case measure => simp [intOf]; omega
      · rw [decide_eq_false hz] at ht
        have HZ := Lib.hid (show zB x = false from decide_eq_false hz)
        clear hz
        cases b with
        | false =>
          have HN := Lib.hid (HFq.out HZ.out HG.out)
          go_wp2_with fail
          refine HCq.out.mono ?_
          rintro e w2 ⟨rfl, hb⟩
          have HB2 := Lib.hid (below_nx HBl.out hb)
          clear hb
          go_wp2_with fail
          go_roundw
          case rel => exact ⟨q + 1, S, true, by omega, rfl, rfl, by go_num, Lib.hid HN.out, HB2.out⟩
          case measure => simp [intOf]; omega
        | true =>
          by_cases hMS : M < S
          · have HN := Lib.hid (HTq.out HZ.out HG.out hMS)
            go_wp2_with fail
            refine HCq.out.mono ?_
            rintro e w2 ⟨rfl, hb⟩
            have HB2 := Lib.hid (below_nx HBl.out hb)
            clear hb
            go_wp2_with fail
            go_roundw
            case rel => exact ⟨q + 1, S, true, by omega, rfl, rfl, by go_num, Lib.hid HN.out, HB2.out⟩
            case measure => simp [intOf]; omega
          · have HN := Lib.hid (HKq.out HZ.out HG.out (by omega))
            go_wp2_with fail
            refine HCq.out.mono ?_
            rintro e w2 ⟨rfl, hb⟩
            have HB2 := Lib.hid (below_nx HBl.out hb)
            clear hb
            go_wp2_with fail
            go_roundw
            case rel => exact ⟨q + 1, M, true, by omega, rfl, rfl, by go_num, Lib.hid HN.out, HB2.out⟩
            case measure => simp [intOf]; omega
    · obtain rfl : q = N := by omega
      have hqc : ¬ (q : Int) < (q : Int) := by omega
      go_wp2_with fail
      go_ret2
      exact ⟨by rw [HG.out] <;> rfl, HBl.out⟩

/-- What exponents answers. -/
def ExpR (g : Nat → Int × Bool) (n : Nat) (w : World) (e : Ending) (w' : World) : Prop := (∃ A c, fb g n = 0 ∧ e = .returned (.tuple #[.slice A n c, .int .i64 0]) ∧ Row w' A (i64s (cnt (ngs g) n)) ∧ (∀ b y, A = some ⟨b, y, none⟩ → b < w'.heap.size) ∧ Below w.heap.size w w') ∨ (fb g n ≠ 0 ∧ e = .returned (.tuple #[.slice none 0 0, .int .i64 (fb g n : Nat)]) ∧ Below w.heap.size w w')
theorem eq_wrap1 {q : Nat} (h : q + 1 ≤ 1048576) : wrap64 ((q : Int) + 1) = (((q + 1 : Nat)) : Int) := by
  have := wrap_id (z := (q : Int) + 1) (by unfold I64; omega)
  rw [this]; rfl
theorem eq_wrap {m : Int} (h : -4000 ≤ m ∧ m ≤ 4000) : wrap64 (-m) = -m ∧ IntKind.i64.wrap (-m) = -m := ⟨wrap_id (by unfold I64; omega), wrapi (by omega) (by omega)⟩

set_option maxHeartbeats 2000000 in
theorem eqexponents_any (F1 F2 : FuncId) (c1 c2 : Array Value) (n N : Nat) (M : Nat → Value) (V : Nat → List Nat) (g : Nat → Int × Bool) (w : World)
    (hF1 : ∀ args W, (callFunc F1 args).run Try.prog W = .ok (.enter F1 args) W) (hn : n < 1048576) (hg : ∀ k, k < n → -4000 ≤ (g k).1 ∧ (g k).1 ≤ 4000)
    (hL : ∀ W k, k < n → Below w.heap.size w W → Calls Try.prog F1 (#[.int .i64 (k : Int)] ++ c1) W fun e w' => e = .returned (M k) ∧ Below W.heap.size W w')
    (hN : ∀ W k, k < n → Below w.heap.size w W → Calls Try.prog 54 #[M k] W fun e w' => ∃ B d, e = .returned (.slice B N d) ∧ Row w' B (f64s (V k)) ∧ Below W.heap.size W w')
    (hG : ∀ W k B d, k < n → Below w.heap.size w W → Row W B (f64s (V k)) → Calls Try.prog 55 #[.slice B N d, .func (.func F2) #[] c2] W fun e w' => e = .returned (.tuple #[.int .i64 (g k).1, .bool (g k).2]) ∧ Below W.heap.size W w') :
    Calls Try.prog 25 #[.int .i64 (n : Int), .func (.func F1) #[] c1, .func (.func F2) #[] c2] w (ExpR g n w) := by
  have HL := Lib.hid hL
  have HN := Lib.hid hN
  have HG := Lib.hid hG
  have Hg := Lib.hid hg
  obtain ⟨i0, hi, hz0, hz1, hz2⟩ := ii0
  clear hL hN hG hg
  go_enter Try.func25, Try.ntmps25
  have HB0 := Lib.hid (Below.refl w.heap.size w)
  go_wp2_with fail
  go_loopw [6, 12] (fun v a wr => ∃ q : Nat, q ≤ n ∧ a = .int .i64 q ∧ wr.ownsRow w.heap.size 3 1 v q (i64s (cnt (ngs g) q)) ∧ Hid (fb g q = 0) ∧ Below w.heap.size w wr) (fun _ a _ => n - (intOf a).toNat)
  case atStart => exact ⟨0, Nat.zero_le _, rfl, ⟨by simp [i64s, cnt], .inl ⟨rfl, rfl⟩⟩, Lib.hid rfl, HB0.out⟩
  case round =>
    obtain ⟨q, hq, rfl, hown, HFb, hbl⟩ := hrel
    have HOw := Lib.hid hown
    have HBl := Lib.hid hbl
    clear hown hbl
    by_cases hlt : q < n
    · have hqc : (q : Int) < (n : Int) := by omega
      have hq1 : q + 1 ≤ 1048576 := by omega
      have HLq := Lib.hid (HL.out wr q hlt HBl.out)
      have HNq := Lib.hid (fun W (hb : Below w.heap.size w W) => HN.out W q hlt hb)
      have HGq := Lib.hid (fun W B d (hb : Below w.heap.size w W) (h : Row W B (f64s (V q))) => HG.out W q B d hlt hb h)
      obtain ⟨hw1, hw2⟩ := eq_wrap (Hg.out q hlt)
      have HNx := Lib.hid (fun h => fb_next (g := g) (k := q) HFb.out h)
      have HSt := Lib.hid (fun h => fb_stop (g := g) (k := q) HFb.out h hlt)
      have HCn := Lib.hid (cnt_succ (ngs g) q)
      have hng : ngs g q = -(g q).1 := rfl
      rw [hng] at HCn
      obtain ⟨m, hm⟩ : ∃ m, (g q).1 = m := ⟨_, rfl⟩
      obtain ⟨b, hb0⟩ : ∃ b, (g q).2 = b := ⟨_, rfl⟩
      rw [hm] at HGq HCn hw1 hw2
      rw [hb0] at HGq HNx HSt
      clear hm hb0 hng
      go_wp2_with fail
      refine HLq.out.mono ?_
      rintro e w1 ⟨rfl, hb⟩
      have HB1 := Lib.hid (below_nx HBl.out hb)
      have HO1 := Lib.hid (owns_below HOw.out hb)
      clear hb
      go_wp2_with fail
      refine (HNq.out _ HB1.out).mono ?_
      rintro e w2 ⟨B, d, rfl, hR, hb⟩
      have HR := Lib.hid hR
      have HB2 := Lib.hid (below_nx HB1.out hb)
      have HO2 := Lib.hid (owns_below HO1.out hb)
      clear hb hR
      go_wp2_with fail
      refine (HGq.out _ B d HB2.out HR.out).mono ?_
      rintro e w3 ⟨rfl, hb⟩
      have HB3 := Lib.hid (below_nx HB2.out hb)
      have HO3 := Lib.hid (owns_below HO2.out hb)
      clear hb
      cases b with
      | false =>
        have HF := Lib.hid (HSt.out rfl)
        have hwq := eq_wrap1 hq1
        go_wp2_with fail
        go_ret2
        exact .inr ⟨by rw [HF.out]; omega, by rw [HF.out]; first | rfl | simp [hwq], HB3.out⟩
      | true =>
        have HF := Lib.hid (HNx.out rfl)
        have HNw := Lib.hid (Blk.new w3 3 #[.int .i64 (-m)])
        have HOw2 := Lib.hid (HO3.out.alloc (.cells #[.int .i64 (-m)] 3))
        have HBs := Lib.hid HB3.out.size
        go_wp2_with (at_builtin; refine wpList_append_own _ rfl _ _ 27 rfl w.heap.size 3 i0 (.int .i64 0) 1 8 Try.underlying27 hi hz0 hz1 hz2 rfl (by decide) _ q (i64s (cnt (ngs g) q)) rfl HOw2.out ⟨w3.heap.size, 0, none⟩ 1 1 [.int .i64 (-m)] rfl rfl ?c1 (by intro u hu; simp at hu; subst hu; rfl) ?c3 ?c4 ?c5 ?_)
        case c1 => exact cell_one HNw.out
        case c3 => unfold maxLen; omega
        case c4 => omega
        case c5 => simp; have := HBs.out; omega
        intro v' w' hown' hgrow _
        have HOw3 := Lib.hid (show w'.ownsRow w.heap.size 3 1 v' (q + 1) (i64s (cnt (ngs g) (q + 1))) from by
          rw [HCn.out, i64s_snoc]
          exact hown')
        have HBl3 := Lib.hid ((HB3.out.alloc HB3.out.size (.cells #[.int .i64 (-m)] 3)).grown hgrow (by simp; have := HBs.out; omega) (fun k hk => by have := (HOw2.out.lt k hk).1; omega))
        clear hown' hgrow
        go_wp2_with fail
        go_roundw
        case rel => exact ⟨q + 1, by omega, by go_num, HOw3.out, Lib.hid HF.out, HBl3.out⟩
        case measure => simp [intOf]; omega
    · obtain rfl : q = n := by omega
      have hqc : ¬ (q : Int) < (q : Int) := by omega
      obtain ⟨A, c, rfl, hrow, hlo⟩ := own_rowi HOw.out (by rw [cnt_length])
      have HRow := Lib.hid (And.intro hrow hlo)
      clear hrow hlo
      go_wp2_with fail
      go_ret2
      exact .inl ⟨A, c, HFb.out, rfl, HRow.out.1, HRow.out.2, HBl.out⟩
end Go.Proofs.Ytelpdbkkefpjhaa
