/-
Trsm: where places are cut, and their order. Conditions: at most 4096 places.
-/
import Derived.Test.YtcdhpoikppfjkaaZYPlD
import Derived.Test.YtcdhpoikppfjkaaWaao
import Derived.Test.YtcdhpoikppfjkaaZYTsD
import Derived.Test.YtcdhpoikppfjkaaZYTsE
import Derived.Test.YtcdhpoikppfjkaaWaah
import Derived.Test.YtcdhpoikppfjkaaWaai
import Derived.Test.YtcdhpoikppfjkaaWaaj
import Derived.Deep.MidRow
set_option linter.unusedVariables false
set_option linter.unusedSimpArgs false
set_option linter.unnecessarySimpa false
namespace Go.Proofs.Ytcdhpoikppfjkaa
open Go.RowKit Go.Sort
attribute [local go_sem ↓] Go.wp_at_zero Go.wp_at_succ

/-- The call returned N places, cut. -/
def TsCut (N : Nat) (w : World) (e : Ending) (w' : World) : Prop := ∃ C m v, e = .returned v ∧ CutF C m N ∧ m ≤ N ∧ w'.ownsRow w.heap.size 49 2 v m (prs C m) ∧ Below w.heap.size w w'
/-- Where the outer loop stands: ahead of it, or behind. -/
def CutS (N m : Nat) (C : List Int) (lo : Nat) (F : Int) (out : Value) (W : World) : Prop := (F = 0 ∧ out = .slice none 0 0) ∨ (F = 4096 ∧ 1 ≤ N ∧ W.ownsRow lo 49 2 out m (prs C m))
theorem ownsRow_lo {w : World} {lo lo' n sz : Nat} {t : TypeId} {v : Value} {xs : List Value} (h : w.ownsRow lo t sz v n xs) (hl : lo' ≤ lo) : w.ownsRow lo' t sz v n xs := by
  obtain ⟨h0, h1 | ⟨g, cap, cur, h1, h2, h3⟩⟩ := h
  · exact ⟨h0, .inl h1⟩
  · exact ⟨h0, .inr ⟨g, cap, cur, h1, by omega, h3⟩⟩
theorem ownsRow_row2 {w : World} {lo n sz : Nat} {t : TypeId} {v : Value} {xs : List Value} (h : w.ownsRow lo t sz v n xs) : ∃ A c, v = .slice A n c ∧ Row w A xs ∧ ∀ b x, A = some ⟨b, x, none⟩ → lo ≤ b := by
  obtain ⟨A, c, h1, h2⟩ := ownsRow_row h
  refine ⟨A, c, h1, h2, fun b x e => ?_⟩
  have := h.lt b (by rw [h1, e]; rfl)
  exact this.1
theorem row_prs {W : World} {A : Option Addr} {C : List Int} {m q : Nat} (h : Row W A (prs C m)) (hq : q < m) : ∃ b x, A = some ⟨b, x, none⟩ ∧ W.cell? ⟨b, x + q * 2, none⟩ = some (.int .i64 (C.getD q 0)) ∧ W.cell? ⟨b, x + q * 2 + 1, none⟩ = some (.int .i64 (C.getD (q + 1) 0 - C.getD q 0)) := by
  have hp := prs_get C hq
  rcases h with h | ⟨b, x, e, hc⟩
  · rw [h] at hp
    simp at hp
  · exact ⟨b, x, e, hc _ _ hp.1, by rw [Nat.add_assoc]; exact hc _ _ hp.2⟩

set_option maxRecDepth 100000 in
set_option maxHeartbeats 2000000 in
theorem tscut_any (N S : Nat) (w : World) (hN2 : N ≤ 4096) (hS : 1 ≤ S) (hS2 : S < 9223372036854775808) :
    Calls Try.prog 32 #[.int .i64 (N : Int), .int .i64 (S : Int)] w (TsCut N w) := by
  obtain ⟨i0, hi, hz0, hz1, hz2⟩ := ip0
  obtain ⟨C, m, hC, hm, hBl⟩ : ∃ C m, CutF C m N ∧ m ≤ N ∧ (1 ≤ N → ∀ W, Calls Try.prog 46 #[.int .i64 (N : Int), .int .i64 (S : Int), .slice none 0 0] W (BlkR C m W)) := by
    rcases Nat.eq_zero_or_pos N with h | h
    · subst h
      exact ⟨[], 0, CutF.none, by omega, fun h => by omega⟩
    · have hl := cutsTo_len (N := N) (S := S) (l := []) N
      exact ⟨_, _, CutF.ok (S := S) [] h, by unfold cuts; omega, fun _ W => blocks_ok N S none 0 0 [] W h hN2 hS hS2 (.inl rfl) rfl (by simp)⟩
  have HC := Lib.hid hC
  have HBl := Lib.hid hBl
  have HCb := Lib.hid (show ∀ i, 0 ≤ C.getD i 0 ∧ C.getD i 0 ≤ 4096 from fun i => by have h1 := hC.cell i; have h2 := hC.le i; omega)
  have HN := Lib.hid hN2
  have Hm := Lib.hid hm
  clear hC hBl hS hS2 hm hN2
  go_enter Try.func32, Try.ntmps32
  go_wp2_with fail
  go_loopw [5, 6] (fun out a wr => ∃ F : Int, a = .int .i64 F ∧ Hid (CutS N m C w.heap.size F out wr ∧ Below w.heap.size w wr)) (fun _ a _ => (4096 - intOf a).toNat)
  case atStart => exact ⟨0, rfl, Lib.hid ⟨.inl ⟨rfl, rfl⟩, Below.refl _ _⟩⟩
  case round =>
    obtain ⟨F, rfl, HS⟩ := hrel
    rcases HS.out.1 with ⟨e1, e2⟩ | ⟨e1, e2, e3⟩
    · subst e1
      subst e2
      rcases Nat.eq_zero_or_pos N with h0 | h0
      · subst h0
        have HR := Lib.hid (show TsCut 0 w (.returned (.slice none 0 0)) wr from ⟨[], 0, _, rfl, CutF.none, Nat.le_refl _, ⟨rfl, .inl ⟨rfl, rfl⟩⟩, HS.out.2⟩)
        go_wp2_with fail
        go_ret
        exact HR.out
      · have hpc : (0 : Int) < (N : Int) := by omega
        have hw0 : wrap64 ((N : Int) - 0) = (N : Int) := by have := HN.out; unfold wrap64; omega
        have hw1 : IntKind.i64.wrap ((N : Int) - 0) = (N : Int) := by have := HN.out; exact (wrapi (by omega) (by omega)).trans (by omega)
        have hmn : min (N : Int) 4096 = (N : Int) := by have := HN.out; omega
        have HB0 := Lib.hid HS.out.2
        have HBk := Lib.hid (HBl.out h0)
        clear HS HBl
        go_wp2_with fail
        refine (HBk.out _).mono ?_
        rintro e w1 ⟨A, c, rfl, hrow, hb⟩
        have HRow := Lib.hid hrow
        have HB1 := Lib.hid (below_nx HB0.out hb)
        have Hw1 := Lib.hid (HB1.out.size)
        clear hrow hb hw0 hw1 hmn HBk
        go_wp2_with fail
        go_loopw [5, 21] (fun out a w2 => ∃ q : Nat, q ≤ m ∧ a = .int .i64 (q : Int) ∧ Hid (w2.ownsRow w1.heap.size 49 2 out q (prs C q) ∧ Below w1.heap.size w1 w2)) (fun _ a _ => m - (intOf a).toNat)
        case atStart => exact ⟨0, Nat.zero_le _, rfl, Lib.hid ⟨⟨rfl, .inl ⟨rfl, rfl⟩⟩, Below.refl _ _⟩⟩
        case round =>
          obtain ⟨q, hq, rfl, HQ⟩ := hrel
          have HOw := Lib.hid HQ.out.1
          have HBq := Lib.hid HQ.out.2
          clear HQ
          by_cases hlt : q < m
          · have hqc : (q : Int) < (m : Int) := by omega
            have hqb : q + 1 ≤ 1048576 ∧ q ≤ 4096 := by have := Hm.out; have := HN.out; omega
            obtain ⟨b, x, rfl, hc1, hc2⟩ := row_prs (HRow.out.below HBq.out) hlt
            have HPs := Lib.hid (prs_succ C q)
            have hCb1 := HCb.out q
            have hCb2 := HCb.out (q + 1)
            obtain ⟨s, hs⟩ : ∃ s, C.getD q 0 = s := ⟨_, rfl⟩
            obtain ⟨d, hd⟩ : ∃ d, C.getD (q + 1) 0 - C.getD q 0 = d := ⟨_, rfl⟩
            rw [hd] at hc2 HPs
            rw [hs] at hc1 HPs hCb1
            have hw1 : IntKind.i64.wrap s = s := wrapi (by omega) (by omega)
            have hw2 : wrap64 s = s := by unfold wrap64; omega
            clear hs hd hCb1 hCb2
            go_upto_region 8 with fail
            have HZb := Lib.hid (Blk.new wr 49 #[.int .i64 s, .int .i64 d])
            have HOb := Lib.hid (HOw.out.alloc (.cells #[.int .i64 s, .int .i64 d] 49))
            have HBb := Lib.hid (HBq.out.alloc HBq.out.size (.cells #[.int .i64 s, .int .i64 d] 49))
            clear hc1 hc2
            generalize hz : wr.heap.size = zb at *
            generalize wr.alloc (.cells #[.int .i64 s, .int .i64 d] 49) = wb at *
            clear hz
            obtain ⟨j0, j1⟩ := cells2j HZb.out
            have HN2 := Lib.hid (Blk.new wb 49 #[.int .i64 s, .int .i64 d])
            have HOw2 := Lib.hid (HOb.out.alloc (.cells #[.int .i64 s, .int .i64 d] 49))
            have HBs := Lib.hid HBb.out.size
            go_wp2_with (at_builtin; refine wpList_append_own _ rfl _ _ 47 rfl w1.heap.size 49 i0 (.agg #[.int .i64 0, .int .i64 0]) 2 16 Try.underlying47 hi hz0 hz1 hz2 rfl (by decide) _ q (prs C q) rfl HOw2.out ⟨wb.heap.size, 0, none⟩ 1 1 [.int .i64 s, .int .i64 d] rfl rfl ?c1 (by intro u hu; simp at hu; rcases hu with rfl | rfl <;> rfl) ?c3 ?c4 ?c5 ?_)
            case c1 => exact one_pair HN2.out
            case c3 => unfold maxLen; omega
            case c4 => omega
            case c5 => simp; have := HBs.out; omega
            intro v' w' hown' hgrow _
            have HOw3 := Lib.hid (show w'.ownsRow w1.heap.size 49 2 v' (q + 1) (prs C (q + 1)) by rw [HPs.out]; exact hown')
            have HBl3 := Lib.hid ((HBb.out.alloc HBb.out.size (.cells #[.int .i64 s, .int .i64 d] 49)).grown hgrow (by simp; have := HBs.out; omega) (fun k hk => by have := (HOw2.out.lt k hk).1; omega))
            clear hown' hgrow j0 j1
            go_wp2_with fail
            go_roundw
            case rel => exact ⟨q + 1, by omega, by go_num, Lib.hid ⟨HOw3.out, HBl3.out⟩⟩
            case measure => simp [intOf]; omega
          · obtain rfl : q = m := by omega
            have hqc : ¬ (q : Int) < (q : Int) := by omega
            have HE := Lib.hid (show Hid (CutS N q C w.heap.size 4096 _ wr ∧ Below w.heap.size w wr) from Lib.hid ⟨.inr ⟨rfl, h0, ownsRow_lo HOw.out Hw1.out⟩, HB1.out.trans (HBq.out.mono HB1.out.size)⟩)
            clear HOw HBq
            go_wp2_with fail
            go_roundw
            case rel => exact ⟨4096, rfl, HE.out⟩
            case measure => simp [intOf]
    · subst e1
      have hpc : ¬ (4096 : Int) < (N : Int) := by have := HN.out; omega
      have HR := Lib.hid (show TsCut N w (.returned _) wr from ⟨C, m, _, rfl, HC.out, Hm.out, e3, HS.out.2⟩)
      clear e3
      go_wp2_with fail
      go_ret
      exact HR.out

set_option maxHeartbeats 1000000 in
theorem reverse_none (w : World) : Calls Try.prog 33 #[.slice none 0 0] w fun e w' => e = .returned (.tuple #[]) ∧ Below w.heap.size w w' := by
  go_enter Try.func33, Try.ntmps33
  go_wp2_with fail
  go_loopw [2, 3] (fun x y wr => x = .int .i64 0 ∧ y = .int .i64 (-1) ∧ Below w.heap.size w wr) (fun _ _ _ => 0)
  case atStart => exact ⟨rfl, rfl, Below.refl _ _⟩
  case round =>
    obtain ⟨rfl, rfl, hb⟩ := hrel
    have HB := Lib.hid hb
    clear hb
    go_wp2_with fail
    go_end0
    exact ⟨rfl, HB.out⟩
/-- The blocks in the order in which they are solved. -/
def tsP (kd : Nat) (C : List Int) (m : Nat) : Nat → Int × Int := if kd = 1 then (fun i => (C.getD i 0, C.getD (i + 1) 0 - C.getD i 0)) else (fun i => (C.getD (m - 1 - i) 0, C.getD (m - 1 - i + 1) 0 - C.getD (m - 1 - i) 0))
def TsBl (kd N : Nat) (w : World) (e : Ending) (w' : World) : Prop := ∃ C m A c, e = .returned (.slice A m c) ∧ CutF C m N ∧ m ≤ N ∧ Row w' A (prf (tsP kd C m) m) ∧ (∀ b x, A = some ⟨b, x, none⟩ → w.heap.size ≤ b) ∧ Below w.heap.size w w'
theorem ownsRow_rv {w : World} {lo m : Nat} {v : Value} {P : Nat → Int × Int} (h : w.ownsRow lo 49 2 v m (prf P m)) : (v = .slice none 0 0 ∧ m = 0) ∨ ∃ g cap, v = .slice (some ⟨g, 0, none⟩) m cap ∧ lo ≤ g ∧ RvS g m P w := by
  obtain ⟨h0, ⟨rfl, rfl⟩ | ⟨g, cap, cur, h1, h2, h3, h4, h5, h6, h7⟩⟩ := h
  · exact .inl ⟨rfl, rfl⟩
  · refine .inr ⟨g, cap, h1, h2, cur, h3, fun k hk => ?_⟩
    have hp := prf_get P hk
    rw [← h7, List.getElem?_take, List.getElem?_take, if_pos (by omega), if_pos (by omega), Array.getElem?_toList, Array.getElem?_toList] at hp
    exact hp

set_option maxHeartbeats 1000000 in
theorem tsblocks_any (kd : Nat) (hk : kd = 1 ∨ kd = 2) (A : Option Addr) (n c : Nat) (o k ld : Int) (N S : Nat) (A2 : Option Addr) (n2 c2 : Nat) (o2 r2 k2 ld2 : Int) (w : World) (hN2 : N ≤ 4096) (hS : 1 ≤ S) (hS2 : S < 9223372036854775808) :
    Calls Try.prog 18 #[.agg #[.int .i64 (kd : Int), .slice A n c, .int .i64 o, .int .i64 (N : Int), .int .i64 k, .int .i64 ld, .slice A2 n2 c2, .int .i64 o2, .int .i64 r2, .int .i64 k2, .int .i64 ld2], .int .i64 (S : Int)] w (TsBl kd N w) := by
  have HC := Lib.hid (fun W => tscut_any N S W hN2 hS hS2)
  have HN := Lib.hid hN2
  clear hN2 hS hS2
  have HB0 := Lib.hid ((Below.refl w.heap.size w).alloc (Nat.le_refl _) (.cells #[.int .i64 (kd : Int), .slice A n c, .int .i64 o, .int .i64 (N : Int), .int .i64 k, .int .i64 ld, .slice A2 n2 c2, .int .i64 o2, .int .i64 r2, .int .i64 k2, .int .i64 ld2] 45))
  have HZ := Lib.hid (Blk.new w 45 #[.int .i64 (kd : Int), .slice A n c, .int .i64 o, .int .i64 (N : Int), .int .i64 k, .int .i64 ld, .slice A2 n2 c2, .int .i64 o2, .int .i64 r2, .int .i64 k2, .int .i64 ld2])
  rcases hk with rfl | rfl
  · obtain ⟨z0, z1, z2, z3, z4, z5, z6, z7, z8, z9, z10⟩ := cells11 HZ.out
    go_enter Try.func18, Try.ntmps18
    go_wp2_with fail
    refine (HC.out _).mono ?_
    rintro e w1 ⟨C, m, v, rfl, hC, hm, hO, hb⟩
    have HZ1 := Lib.hid (HZ.out.nxt hb)
    obtain ⟨A9, c9, rfl, hrow, hlo⟩ := ownsRow_row2 hO
    have HE := Lib.hid (show TsBl 1 N w (.returned (.slice A9 m c9)) w1 from ⟨C, m, A9, c9, rfl, hC, hm, hrow, fun b x e => Nat.le_trans HB0.out.size (hlo b x e), below_nx HB0.out hb⟩)
    clear hC hm hO hb hrow hlo z0 z1 z2 z3 z4 z5 z6 z7 z8 z9 z10
    obtain ⟨z0, z1, z2, z3, z4, z5, z6, z7, z8, z9, z10⟩ := cells11 HZ1.out
    go_wp2_with fail
    go_ret
    exact HE.out
  · obtain ⟨z0, z1, z2, z3, z4, z5, z6, z7, z8, z9, z10⟩ := cells11 HZ.out
    go_enter Try.func18, Try.ntmps18
    go_wp2_with fail
    refine (HC.out _).mono ?_
    rintro e w1 ⟨C, m, v, rfl, hC, hm, hO, hb⟩
    have HZ1 := Lib.hid (HZ.out.nxt hb)
    have HB1 := Lib.hid (below_nx HB0.out hb)
    have HC := Lib.hid (And.intro hC hm)
    rw [prs_prf] at hO
    have Hlo := Lib.hid (Nat.le_trans HB0.out.size (Nat.le_refl _))
    rcases ownsRow_rv hO with ⟨rfl, rfl⟩ | ⟨g, cap, rfl, hlo, hR⟩
    · clear hC hm hO hb z0 z1 z2 z3 z4 z5 z6 z7 z8 z9 z10
      obtain ⟨z0, z1, z2, z3, z4, z5, z6, z7, z8, z9, z10⟩ := cells11 HZ1.out
      go_wp2_with fail
      refine (reverse_none _).mono ?_
      rintro e w2 ⟨rfl, hb⟩
      have HE := Lib.hid (show TsBl 2 N w (.returned (.slice none 0 0)) w2 from ⟨C, 0, none, 0, rfl, HC.out.1, HC.out.2, .inl rfl, fun b x e => (by cases e), below_nx HB1.out hb⟩)
      clear hb z0 z1 z2 z3 z4 z5 z6 z7 z8 z9 z10
      go_wp2_with fail
      go_ret
      exact HE.out
    · have HR := Lib.hid (reverse_pairs w.heap.size g m cap _ w1 hR (by have := HN.out; omega) (Nat.le_trans HB0.out.size hlo))
      have HG := Lib.hid (show w.heap.size ≤ g from Nat.le_trans HB0.out.size hlo)
      clear hC hm hO hb z0 z1 z2 z3 z4 z5 z6 z7 z8 z9 z10 hlo hR
      obtain ⟨z0, z1, z2, z3, z4, z5, z6, z7, z8, z9, z10⟩ := cells11 HZ1.out
      go_wp2_with fail
      refine HR.out.mono ?_
      rintro e w2 ⟨rfl, hrow, hb⟩
      have HE := Lib.hid (show TsBl 2 N w (.returned (.slice (some ⟨g, 0, none⟩) m cap)) w2 from ⟨C, m, _, cap, rfl, HC.out.1, HC.out.2, hrow, fun b x e => (by
        injection e with e
        injection e with e1 e2
        rw [← e1]; exact HG.out), HB1.out.trans hb⟩)
      clear hrow hb z0 z1 z2 z3 z4 z5 z6 z7 z8 z9 z10
      go_wp2_with fail
      go_ret
      exact HE.out
end Go.Proofs.Ytcdhpoikppfjkaa
/-
Block: what is right, what fits, parts. Conditions: as each says.
-/
set_option linter.unusedVariables false
set_option linter.unusedSimpArgs false
set_option linter.unnecessarySimpa false
namespace Go.Proofs.Ytcdhpoikppfjkaa
open Go.RowKit
attribute [local go_sem ↓] Go.wp_at_zero Go.wp_at_succ

theorem blk_there {w : World} {g : Nat} {t : TypeId} {cs : Array Value} (h : Blk w g t cs) : w.there g 0 cs.size := fun j hj => by
  have h1 := h.cell j
  rw [Array.getElem?_eq_getElem hj] at h1
  rw [Nat.zero_add]
  exact ⟨by rw [h1]; rfl, h.frozen j⟩
theorem blk_setRow {g : Nat} {t : TypeId} : ∀ (zs cur pre : List Value) (w : World), cur.length = zs.length → Blk w g t (pre ++ cur).toArray → Blk (w.setCells g pre.length zs) g t (pre ++ zs).toArray
  | [], cur, pre, w, hl, h => by
    obtain rfl : cur = [] := List.length_eq_zero_iff.1 (by simpa using hl)
    exact h
  | z :: zs, [], pre, w, hl, h => by simp at hl
  | z :: zs, c :: cur, pre, w, hl, h => by
    have h1 := h.set_ pre.length z
    have h2 : Blk (w.setCell ⟨g, pre.length, none⟩ z) g t ((pre ++ [z]) ++ cur).toArray := by simpa using h1
    have h3 := blk_setRow zs cur (pre ++ [z]) _ (by simpa using hl) h2
    rw [World.setCells]
    simpa using h3
theorem blk_setElse {g b : Nat} {t : TypeId} {cs : Array Value} (hne : b ≠ g) : ∀ (zs : List Value) (o : Nat) (w : World), Blk w b t cs → Blk (w.setCells g o zs) b t cs
  | [], _, _, h => h
  | z :: zs, o, w, h => blk_setElse hne zs (o + 1) _ (h.other (p := ⟨g, o, none⟩) (by simpa using hne) z)
theorem below_setRow {g B : Nat} {w0 : World} (hB : B ≤ g) : ∀ (zs : List Value) (o : Nat) (w : World), Below B w0 w → Below B w0 (w.setCells g o zs)
  | [], _, _, h => h
  | z :: zs, o, w, h => below_setRow hB zs (o + 1) _ (h.setCell (p := ⟨g, o, none⟩) hB z)
/-- A struct is stored where one of as many cells lies. -/
theorem wpList_store_new {P : Program} {ops : Array Oper} {rest : List Oper} {op : Oper} {a : Act} {w : World} {Q : Exit → Act → World → Prop} (hgd : op.guard = none) (ty : TypeId) (x y : Operand) (ho : op.op = .store ty x y) (b : Nat) (cells : Array Value) (hx : a.eval x = .pointer (some ⟨b, 0, none⟩)) (hy : a.eval y = .agg cells)
    {t : TypeId} {cur : Array Value} (hB : Blk w b t cur) (hs : cur.size = cells.size) (hi : (P.info? ty).map (·.size) = some cells.size) (h1 : cells.all (·.oneCell') = true)
    (h : ∀ w', Blk w' b t cells → (∀ g t' cs, g ≠ b → Blk w g t' cs → Blk w' g t' cs) → (∀ B w0, B ≤ b → Below B w0 w → Below B w0 w') → wpList P ops Q rest (a.put op.dst undef) w') : wpList P ops Q (op :: rest) a w :=
  wpList_store_mid hgd ty x y ho b 0 cells hx hy (hs ▸ blk_there hB) hi h1 (h _ (by
    have h2 := blk_setRow cells.toList cur.toList [] w (by simpa using hs) (by simpa using hB)
    simpa using h2) (fun g t' cs hne hb => blk_setElse hne _ _ _ hb) (fun B w0 hle hb => below_setRow hle _ _ _ hb))
end Go.Proofs.Ytcdhpoikppfjkaa
