/-
MoveRows, walked. Conditions: as each says.
-/
import Derived.Test.YtamndbeffbcppaaMwE
import Derived.Test.YtamndbeffbcppaaMwF
import Derived.Test.YtamndbeffbcppaaMwG
import Derived.Test.YtamndbeffbcppaaMwH
import Derived.Test.YtamndbeffbcppaaMwI
import Derived.Test.YtamndbeffbcppaaMwJ
set_option linter.unusedVariables false
set_option linter.unusedSimpArgs false
set_option linter.unnecessarySimpa false
namespace Go.Proofs.Ytamndbeffbcppaa
open Go.RowKit
attribute [local go_sem ↓] Go.wp_at_zero Go.wp_at_succ


theorem take_data (n : Nat) (l : List Nat) (o R C L N : Nat) (B : Option Addr) (m dz : Nat) (zs : List Int) (w : World) (hW : Wds l) (hl : l.length = n) (hn : n ≤ 1000) (hb : o < 9223372036854775808 ∧ R ≤ 20 ∧ C ≤ 20 ∧ L < 9223372036854775808) (hN : R * C = N) (hL : 1 ≤ L) (hR : R ≤ L) (hr : R = 0 ∨ C = 0 ∨ o + (C - 1) * L + (R - 1) < n) (hB : Row w B (i64s zs)) (hm : zs.length = m) (hmb : m ≤ 100) (hz : ∀ z ∈ zs, I64 z) :
    ∃ (E2 : Int) (F2 : List Nat → Prop) (G2 : List Nat → List Nat → Prop), (∀ W g c, Own W g l → Row W B (i64s zs) → w.heap.size ≤ g → Calls Try.prog 11 #[mat (some ⟨g, 0, none⟩) n c o R C L, .slice B m dz] W fun e w' => e = .returned (.int .i64 E2) ∧ ∃ l', Own w' g l' ∧ F2 l' ∧ Chg [g] W w') ∧ (∀ W g T, Tab l o R C L N T → Blk W g 48 (f64s T).toArray → Row W B (i64s zs) → w.heap.size ≤ g → Calls Try.prog 16 #[tbl R C g N N, .slice B m dz] W fun e w' => e = .returned (.int .i64 E2) ∧ ∃ T', Blk w' g 48 (f64s T').toArray ∧ G2 T T' ∧ Chg [g] W w') ∧
      (∀ x, F2 x → Wds x ∧ x.length = n) ∧ (∀ T T', Tab l o R C L N T → G2 T T' → T'.length = N) ∧ (∀ T T' x y, Tab l o R C L N T → G2 T T' → F2 x → Img l o R C L (fun a b => T'.getD (a * C + b) 0) y → x = y) := by
  have hNb : N ≤ 400 := by
    have h1 : R * C ≤ 20 * 20 := Nat.mul_le_mul hb.2.1 hb.2.2.1
    omega
  have hlen : ∀ T, Tab l o R C L N T → T.length = N := fun T h => h.1.trans hN
  have herr : ∀ x : Int, x ≠ 0 → (∀ e, TakesI n o R C L zs e → e = x) → ((R < m ∧ x = 3) ∨ (m ≤ R ∧ ¬ OrdOk R zs m ∧ x = 1)) → ∃ (E2 : Int) (F2 : List Nat → Prop) (G2 : List Nat → List Nat → Prop), (∀ W g c, Own W g l → Row W B (i64s zs) → w.heap.size ≤ g → Calls Try.prog 11 #[mat (some ⟨g, 0, none⟩) n c o R C L, .slice B m dz] W fun e w' => e = .returned (.int .i64 E2) ∧ ∃ l', Own w' g l' ∧ F2 l' ∧ Chg [g] W w') ∧ (∀ W g T, Tab l o R C L N T → Blk W g 48 (f64s T).toArray → Row W B (i64s zs) → w.heap.size ≤ g → Calls Try.prog 16 #[tbl R C g N N, .slice B m dz] W fun e w' => e = .returned (.int .i64 E2) ∧ ∃ T', Blk w' g 48 (f64s T').toArray ∧ G2 T T' ∧ Chg [g] W w') ∧
      (∀ x, F2 x → Wds x ∧ x.length = n) ∧ (∀ T T', Tab l o R C L N T → G2 T T' → T'.length = N) ∧ (∀ T T' x y, Tab l o R C L N T → G2 T T' → F2 x → Img l o R C L (fun a b => T'.getD (a * C + b) 0) y → x = y) := by
    intro x hx0 hx1 hx2
    refine ⟨x, fun y => y = l, fun T T' => T' = T, ?_, ?_, ?_, ?_, ?_⟩
    · intro W g c hO hRow _
      refine (take_err (some ⟨g, 0, none⟩) n c o R C L B m dz zs W (by omega) (by unfold I64; omega) (by unfold I64; omega) (by unfold I64; omega) (by unfold I64; omega) hRow hm (by omega) hz x hx1 hx0).mono ?_
      rintro e w' ⟨h1, h2⟩
      exact ⟨h1, l, hO.nxt h2, rfl, .of_below h2⟩
    · intro W g T hT hBk hRow _
      refine (rtake_err R C N g N B m dz zs W hRow hm (by omega) (by omega) hz x hx2).mono ?_
      rintro e w' ⟨h1, h2⟩
      exact ⟨h1, T, hBk.nxt h2, rfl, .of_below h2⟩
    · rintro y rfl; exact ⟨hW, hl⟩
    · rintro T T' hT rfl; exact hlen _ hT
    · rintro T T' y z hT rfl rfl hi; exact fit_same hT hN hi
  by_cases hmR : R < m
  · refine herr 3 (by omega) (fun e he => ?_) (.inl ⟨hmR, rfl⟩)
    rcases he with ⟨h1, _⟩ | ⟨_, _, h⟩ | ⟨_, h, _⟩
    · rw [mat_right hL hR hr] at h1; cases h1
    · exact h
    · omega
  by_cases hok : OrdOk R zs m
  · refine ⟨0, fun y => Img l o R C L (fun a b => l.getD (o + prm zs m a + b * L) 0) y, fun T T' => Prm T zs R C m T', ?_, ?_, ?_, ?_, ?_⟩
    · intro W g c hO hRow hg
      exact take_ok g c l n o R C L B m dz zs W hO hl (by omega) ⟨hb.1, by omega, by omega, hb.2.2.2⟩ hL hR hr hRow (fun b x e hne => by have := row_lt hB (i64s_ne hne) b x e; omega) hm (by omega) hok
    · intro W g T hT hBk hRow hg
      exact rtake_ok R C N g N T B m dz zs W hBk (hlen T hT) hN (by omega) (by omega) (by omega) hRow (fun b x e hne => by have := row_lt hB (i64s_ne hne) b x e; omega) hm (by omega) hok
    · intro y hy; exact ⟨wds_img hW hy, by rw [hy.1]; exact hl⟩
    · intro T T' hT hP; rw [hP.1]; exact hlen T hT
    · intro T T' y z hT hP hy hi; exact fit_prm hT hN hok (by omega) hP hy hi
  · refine herr 1 (by omega) (fun e he => ?_) (.inr ⟨by omega, hok, rfl⟩)
    rcases he with ⟨h1, _⟩ | ⟨_, h, _⟩ | ⟨_, _, ⟨_, h⟩ | ⟨h, _⟩⟩
    · rw [mat_right hL hR hr] at h1; cases h1
    · omega
    · rw [hm] at h; exact absurd h hok
    · exact h

theorem moveRows_long (A : Option Addr) (n c : Nat) (off rr kk ld j1 j2 : Int) (B : Option Addr) (m dz : Nat) (w : World) (h : greatB n rr kk = true ∨ greatB n rr kk = false ∧ (100 : Int) < (m : Int)) :
    Calls Try.prog 3 #[mat A n c off rr kk ld, .int .i64 j1, .int .i64 j2, .slice B m dz] w fun e w' => e = .returned (.bool true) ∧ Below w.heap.size w w' := by
  have HGr := Lib.hid (fun W => great_any A n c off rr kk ld W)
  generalize greatB n rr kk = x at *
  rcases h with rfl | ⟨rfl, h100⟩
  · unfold mat at *
    go_enter Try.func3, Try.ntmps3
    have Ha0 := Lib.hid (Blk.new w 24 #[.slice A n c, .int .i64 off, .int .i64 rr, .int .i64 kk, .int .i64 ld])
    have HB0 := Lib.hid ((Below.refl w.heap.size w).alloc (Nat.le_refl _) (.cells #[.slice A n c, .int .i64 off, .int .i64 rr, .int .i64 kk, .int .i64 ld] 24))
    go_wp2_with fail
    refine (awake4_any _).mono ?_
    rintro e w1 ⟨rfl, hb⟩
    have Ha1 := Lib.hid (Ha0.out.nxt hb)
    have HB1 := Lib.hid (below_nx HB0.out hb)
    clear hb
    obtain ⟨a0, a1, a2, a3, a4⟩ := cells5 Ha1.out
    go_wp2_with fail
    refine (HGr.out _).mono ?_
    rintro e w2 ⟨rfl, hb⟩
    have Ha2 := Lib.hid (Ha1.out.nxt hb)
    have HB2 := Lib.hid (below_nx HB1.out hb)
    clear hb
    clear a0 a1 a2 a3 a4
    obtain ⟨a0, a1, a2, a3, a4⟩ := cells5 Ha2.out
    go_wp2_with fail
    refine (awake4_any _).mono ?_
    rintro e w3 ⟨rfl, hb⟩
    have Ha3 := Lib.hid (Ha2.out.nxt hb)
    have HB3 := Lib.hid (below_nx HB2.out hb)
    clear hb
    clear a0 a1 a2 a3 a4
    obtain ⟨a0, a1, a2, a3, a4⟩ := cells5 Ha3.out
    go_wp2_with fail
    go_ret
    exact ⟨rfl, HB3.out⟩
  · unfold mat at *
    go_enter Try.func3, Try.ntmps3
    have Ha0 := Lib.hid (Blk.new w 24 #[.slice A n c, .int .i64 off, .int .i64 rr, .int .i64 kk, .int .i64 ld])
    have HB0 := Lib.hid ((Below.refl w.heap.size w).alloc (Nat.le_refl _) (.cells #[.slice A n c, .int .i64 off, .int .i64 rr, .int .i64 kk, .int .i64 ld] 24))
    go_wp2_with fail
    refine (awake4_any _).mono ?_
    rintro e w1 ⟨rfl, hb⟩
    have Ha1 := Lib.hid (Ha0.out.nxt hb)
    have HB1 := Lib.hid (below_nx HB0.out hb)
    clear hb
    obtain ⟨a0, a1, a2, a3, a4⟩ := cells5 Ha1.out
    go_wp2_with fail
    refine (HGr.out _).mono ?_
    rintro e w2 ⟨rfl, hb⟩
    have Ha2 := Lib.hid (Ha1.out.nxt hb)
    have HB2 := Lib.hid (below_nx HB1.out hb)
    clear hb
    clear a0 a1 a2 a3 a4
    obtain ⟨a0, a1, a2, a3, a4⟩ := cells5 Ha2.out
    go_wp2_with fail
    refine (awake4_any _).mono ?_
    rintro e w3 ⟨rfl, hb⟩
    have Ha3 := Lib.hid (Ha2.out.nxt hb)
    have HB3 := Lib.hid (below_nx HB2.out hb)
    clear hb
    clear a0 a1 a2 a3 a4
    obtain ⟨a0, a1, a2, a3, a4⟩ := cells5 Ha3.out
    go_wp2_with fail
    go_ret
    exact ⟨rfl, HB3.out⟩

theorem moveRows_walk (A : Option Addr) (c : Nat) (l : List Nat) (off rr kk ld j1 j2 : Int) (B : Option Addr) (dz : Nat) (zs : List Int) (w : World) (hA : Row w A (f64s l)) (hW : Wds l) (ho : I64 off) (hr : I64 rr) (hk : I64 kk) (hi : I64 ld) (hj1 : I64 j1) (hj2 : I64 j2) (hB : Row w B (i64s zs)) (hmb : zs.length < 9223372036854775808) (hz : ∀ z ∈ zs, I64 z) :
    Calls Try.prog 3 #[mat A l.length c off rr kk ld, .int .i64 j1, .int .i64 j2, .slice B zs.length dz] w fun e w' => e = .returned (.bool true) ∧ Below w.heap.size w w' := by
  cases hgr : greatB l.length rr kk
  case true => exact moveRows_long A _ c off rr kk ld j1 j2 B _ dz w (.inl hgr)
  by_cases h100 : (100 : Int) < (zs.length : Int)
  · exact moveRows_long A _ c off rr kk ld j1 j2 B _ dz w (.inr ⟨hgr, h100⟩)
  have hq : l.length ≤ 1000 ∧ rr ≤ 20 ∧ kk ≤ 20 := by
    have h := hgr
    unfold greatB at h
    simp at h; omega
  cases hgd : matB l.length off rr kk ld
  · refine moveRows_bad A _ c l off rr kk ld j1 j2 B _ dz zs w 1 1 (fun x => x = l) (fun x => x = l) hgr hgd hA hW rfl hq.1 ho hr hk hi hB h100 (Lib.hid ?_) (Lib.hid ?_) rfl rfl (fun _ h => h) (fun _ h => h)
    · intro W g c hO
      refine (rows_not (some ⟨g, 0, none⟩) _ c off rr kk ld j1 j2 W (by omega) ho hr hk hi hj1 hj2 (by rw [hgd]; rfl)).mono ?_
      rintro e w' ⟨h1, h2⟩
      exact ⟨h1, l, hO.nxt h2, rfl, .of_below h2⟩
    · intro W g c hO hRow _
      refine (take_err (some ⟨g, 0, none⟩) _ c off rr kk ld B _ dz zs W (by omega) ho hr hk hi hRow rfl hmb hz 1 (fun e he => ?_) (by omega)).mono ?_
      · rcases he with ⟨_, h⟩ | ⟨h, _⟩ | ⟨h, _⟩
        · exact h
        · rw [hgd] at h; cases h
        · rw [hgd] at h; cases h
      · rintro e w' ⟨h1, h2⟩
        exact ⟨h1, l, hO.nxt h2, rfl, .of_below h2⟩
  · obtain ⟨o, R, C, L, rfl, rfl, rfl, rfl, hL, hR, hrr⟩ := mat_nat hgd
    have hb : o < 9223372036854775808 ∧ R ≤ 20 ∧ C ≤ 20 ∧ L < 9223372036854775808 := by unfold I64 at *; omega
    obtain ⟨N, hN⟩ : ∃ N, R * C = N := ⟨_, rfl⟩
    obtain ⟨E2, F2, G2, t1, t2, t3, t4, t5⟩ := take_data _ l o R C L N B _ dz zs w hW rfl hq.1 hb hN hL hR hrr hB rfl (by omega) hz
    have hlen : ∀ T, Tab l o R C L N T → T.length = N := fun T h => h.1.trans hN
    have hout : (matB l.length (o : Int) (R : Int) (C : Int) (L : Int) && (decide (0 ≤ j1) && decide (j1 < (R : Int))) && (decide (0 ≤ j2) && decide (j2 < (R : Int)))) = false → ∀ W g c, Own W g l → Calls Try.prog 10 #[mat (some ⟨g, 0, none⟩) l.length c o R C L, .int .i64 j1, .int .i64 j2] W fun e w' => e = .returned (.int .i64 1) ∧ ∃ l', Own w' g l' ∧ l' = l ∧ Chg [g] W w' := by
      intro h W g c hO
      refine (rows_not (some ⟨g, 0, none⟩) _ c o R C L j1 j2 W (by omega) ho hr hk hi hj1 hj2 h).mono ?_
      rintro e w' ⟨h1, h2⟩
      exact ⟨h1, l, hO.nxt h2, rfl, .of_below h2⟩
    by_cases i1 : (0 : Int) ≤ j1
    · by_cases i2 : (0 : Int) ≤ j2
      · by_cases i3 : j1 < (R : Int)
        · by_cases i4 : j2 < (R : Int)
          · have hj1R : j1.toNat < R := by omega
            have hj2R : j2.toNat < R := by omega
            refine moveRows_in A _ c l o R C L N j1 j2 B _ dz zs w 0 E2 (fun x => Img l o R C L (fun a b => l.getD (o + sw j1.toNat j2.toNat a + b * L) 0) x) F2 (fun T T' => Half T j1.toNat j2.toNat R C C T') G2 hgr hgd hA hW rfl hq.1 hb hN hL hR hrr hB h100 (Lib.hid ?_) (Lib.hid t1) rfl i1 i2 i3 i4 (Lib.hid ?_) (Lib.hid t2) (Lib.hid ?_) (Lib.hid t3) (Lib.hid ?_) (Lib.hid t4) (Lib.hid ?_) (Lib.hid t5)
            · intro W g c hO
              have := rows_there g c l _ o R C L j1.toNat j2.toNat W hO rfl (by omega) ⟨hb.1, by omega, by omega, hb.2.2.2⟩ hL hR hrr hj1R hj2R
              rw [Int.toNat_of_nonneg i1, Int.toNat_of_nonneg i2] at this
              exact this
            · intro W g T hT hBk
              have := rrows_any R C N g N j1.toNat j2.toNat T W hBk (hlen T hT) hN (by have h1 : R * C ≤ 20 * 20 := Nat.mul_le_mul hb.2.1 hb.2.2.1; omega) (by omega) (by omega) hj1R hj2R
              rw [Int.toNat_of_nonneg i1, Int.toNat_of_nonneg i2] at this
              exact this
            · intro x hx; exact ⟨wds_img hW hx, hx.1⟩
            · intro T T' hT hP; rw [hP.1]; exact hlen T hT
            · intro T T' y z hT hP hy hi; exact fit_half hT hN hj1R hj2R hP hy hi
          · exact moveRows_n4 A _ c l o R C L N j1 j2 B _ dz zs w 1 E2 (fun x => x = l) F2 (fun T T' => T' = T) G2 hgr hgd hA hW rfl hq.1 hb hN hL hR hrr hB h100 (Lib.hid (hout (by simp; omega))) (Lib.hid t1) rfl i1 i2 i3 i4 (fun _ _ => Iff.rfl) (Lib.hid t2) (Lib.hid (by rintro x rfl; exact ⟨hW, rfl⟩)) (Lib.hid t3) (Lib.hid (by rintro T T' hT rfl; exact hlen _ hT)) (Lib.hid t4) (Lib.hid (by rintro T T' y z hT rfl rfl hi; exact fit_same hT hN hi)) (Lib.hid t5)
        · exact moveRows_n3 A _ c l o R C L N j1 j2 B _ dz zs w 1 E2 (fun x => x = l) F2 (fun T T' => T' = T) G2 hgr hgd hA hW rfl hq.1 hb hN hL hR hrr hB h100 (Lib.hid (hout (by simp; omega))) (Lib.hid t1) rfl i1 i2 i3 (fun _ _ => Iff.rfl) (Lib.hid t2) (Lib.hid (by rintro x rfl; exact ⟨hW, rfl⟩)) (Lib.hid t3) (Lib.hid (by rintro T T' hT rfl; exact hlen _ hT)) (Lib.hid t4) (Lib.hid (by rintro T T' y z hT rfl rfl hi; exact fit_same hT hN hi)) (Lib.hid t5)
      · exact moveRows_n2 A _ c l o R C L N j1 j2 B _ dz zs w 1 E2 (fun x => x = l) F2 (fun T T' => T' = T) G2 hgr hgd hA hW rfl hq.1 hb hN hL hR hrr hB h100 (Lib.hid (hout (by simp; omega))) (Lib.hid t1) rfl i1 i2 (fun _ _ => Iff.rfl) (Lib.hid t2) (Lib.hid (by rintro x rfl; exact ⟨hW, rfl⟩)) (Lib.hid t3) (Lib.hid (by rintro T T' hT rfl; exact hlen _ hT)) (Lib.hid t4) (Lib.hid (by rintro T T' y z hT rfl rfl hi; exact fit_same hT hN hi)) (Lib.hid t5)
    · exact moveRows_n1 A _ c l o R C L N j1 j2 B _ dz zs w 1 E2 (fun x => x = l) F2 (fun T T' => T' = T) G2 hgr hgd hA hW rfl hq.1 hb hN hL hR hrr hB h100 (Lib.hid (hout (by simp; omega))) (Lib.hid t1) rfl i1 (fun _ _ => Iff.rfl) (Lib.hid t2) (Lib.hid (by rintro x rfl; exact ⟨hW, rfl⟩)) (Lib.hid t3) (Lib.hid (by rintro T T' hT rfl; exact hlen _ hT)) (Lib.hid t4) (Lib.hid (by rintro T T' y z hT rfl rfl hi; exact fit_same hT hN hi)) (Lib.hid t5)

end Go.Proofs.Ytamndbeffbcppaa
