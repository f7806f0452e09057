/-
The document's Take of a table. Conditions: the table has at most 2^20 numbers.
-/
import Derived.Test.YtamndbeffbcppaaMwA
set_option linter.unusedVariables false
namespace Go.Proofs.Ytamndbeffbcppaa
open Go.RowKit
attribute [local go_sem ↓] Go.wp_at_zero Go.wp_at_succ

/-- The table's rows stand as the first q changes of the order have it. -/
def Prm (T : List Nat) (zs : List Int) (R C q : Nat) (T' : List Nat) : Prop := T'.length = T.length ∧ ∀ a, a < R → ∀ b, b < C → T'.getD (a * C + b) 0 = T.getD (prm zs q a * C + b) 0
theorem Prm.step {T T' T2 : List Nat} {zs : List Int} {R C q j : Nat} (h : Prm T zs R C q T') (h2 : Half T' q j R C C T2) (hq : q < R) (hj : j < R) (e : ∀ a, prm zs (q + 1) a = prm zs q (sw q j a)) : Prm T zs R C (q + 1) T2 :=
  ⟨h2.1.trans h.1, fun a ha b hb => by
    rw [h2.2 a ha b hb, if_pos hb, h.2 _ (sw_lt hq hj ha) b hb, e]⟩

theorem heldG4 {W w' : World} {G : List Nat} {b0 o0 b1 o1 b2 o2 b3 o3 : Nat} {v0 v1 v2 v3 : Value} {R : World → Prop} (h : W.cell? ⟨b0, o0, none⟩ = some v0 ∧ W.cell? ⟨b1, o1, none⟩ = some v1 ∧ W.cell? ⟨b2, o2, none⟩ = some v2 ∧ W.cell? ⟨b3, o3, none⟩ = some v3 ∧ R W) (hc : Chg G W w') (n0 : b0 ∉ G) (n1 : b1 ∉ G) (n2 : b2 ∉ G) (n3 : b3 ∉ G) (hR : R W → R w') :
    w'.cell? ⟨b0, o0, none⟩ = some v0 ∧ w'.cell? ⟨b1, o1, none⟩ = some v1 ∧ w'.cell? ⟨b2, o2, none⟩ = some v2 ∧ w'.cell? ⟨b3, o3, none⟩ = some v3 ∧ R w' :=
  ⟨hc.cell n0 h.1, hc.cell n1 h.2.1, hc.cell n2 h.2.2.1, hc.cell n3 h.2.2.2.1, hR h.2.2.2.2⟩
set_option maxHeartbeats 1000000 in
theorem rtake_ok (R C N g c : Nat) (T : List Nat) (B : Option Addr) (m d : Nat) (zs : List Int) (w : World) (hB : Blk w g 48 (f64s T).toArray) (hT : T.length = N) (hN : R * C = N) (hNb : N ≤ 1048576) (hR : R < 1048576) (hC : C < 1048576)
    (hZ : Row w B (i64s zs)) (hBg : ∀ b x, B = some ⟨b, x, none⟩ → zs ≠ [] → b ≠ g) (hm : zs.length = m) (hmR : m ≤ R) (hz : OrdOk R zs m) :
    Calls Try.prog 16 #[tbl R C g N c, .slice B m d] w fun e w' => e = .returned (.int .i64 0) ∧ ∃ T', Blk w' g 48 (f64s T').toArray ∧ Prm T zs R C m T' ∧ Chg [g] w w' := by
  have hgz := hB.lt
  have HRs := Lib.hid (fun W (T' : List Nat) (hl : T'.length = N) (hB : Blk W g 48 (f64s T').toArray) (i k : Nat) (hi : i < R) (hk : k < R) => rrows_any R C N g c i k T' W hB hl hN hNb hR hC hi hk)
  have HB0 := Lib.hid hB
  have Ht := Lib.hid hT
  have HZ := Lib.hid hZ
  have HBg := Lib.hid hBg
  have HM := Lib.hid hm
  have HOk := Lib.hid hz
  have hmr : ¬ (R : Int) < (m : Int) := by omega
  clear hB hT hN hNb hZ hBg hm hz
  unfold tbl at *
  go_enter Try.func16, Try.ntmps16
  have HX := Lib.hid (Blk.new w 34 #[.int .i64 R, .int .i64 C, .slice (some ⟨g, 0, none⟩) N c])
  have HBl := Lib.hid (below_one (W := w) (o := (.cells #[.int .i64 R, .int .i64 C, .slice (some ⟨g, 0, none⟩) N c] 34)))
  go_wp2_with fail
  generalize hzz : w.heap.size = z at *
  have Hz := Lib.hid hzz
  clear hzz
  go_loopw [5] (fun a wr => ∃ q : Nat, q ≤ m ∧ a = .int .i64 q ∧ Below z w wr ∧ Blk wr z 34 #[.int .i64 R, .int .i64 C, .slice (some ⟨g, 0, none⟩) N c] ∧ Blk wr g 48 (f64s T).toArray) (fun a _ => m - (intOf a).toNat)
  case atStart => exact ⟨0, Nat.zero_le _, rfl, HBl.out, HX.out, HB0.out.alloc _⟩
  case round =>
    obtain ⟨q, hq, rfl, hb1, hx1, hg1⟩ := hrel
    have HB1 := Lib.hid hb1
    have HX1 := Lib.hid hx1
    have HG1 := Lib.hid hg1
    clear hb1 hx1 hg1
    obtain ⟨c0, c1, c2⟩ := cells3v HX1.out
    by_cases hlt : q < m
    · have hql : q < zs.length := by rw [HM.out]; exact hlt
      obtain ⟨b, o, rfl, _, hcell0⟩ := HZ.out.at_ (i64s_get zs q hql)
      have hcell := cell_below hcell0 (show Below w.heap.size w wr by rw [Hz.out]; exact HB1.out)
      have hzq := HOk.out q hql hlt
      obtain ⟨j, hj⟩ : ∃ j, zs[q] = j := ⟨_, rfl⟩
      rw [hj] at hcell hzq
      have d1 : decide (j < (q : Int)) = false := by simp; omega
      have d2 : decide ((R : Int) ≤ j) = false := by simp; omega
      have hlt2 : (q : Int) < (m : Int) := by omega
      have HBd := Lib.hid HB1.out
      clear hcell0 hj
      go_wp2_with fail
      go_quiet (fail)
      go_wp2_with fail
      go_roundw
      case rel => exact ⟨q + 1, by omega, by go_num, below_drewN HB1.out _, HX1.out, HG1.out⟩
      case measure => simp [intOf]; omega
    · obtain rfl : q = m := by omega
      go_wp2_with fail
      go_loopw [6] (fun a w2 => ∃ (t : Nat) (T' : List Nat), t ≤ q ∧ a = .int .i64 t ∧ Blk w2 g 48 (f64s T').toArray ∧ Prm T zs R C t T' ∧ Chg [g] w w2 ∧ Blk w2 z 34 #[.int .i64 R, .int .i64 C, .slice (some ⟨g, 0, none⟩) N c]) (fun a _ => q - (intOf a).toNat)
      case atStart => exact ⟨0, T, Nat.zero_le _, rfl, HG1.out, ⟨rfl, fun a _ b _ => rfl⟩, .of_below (by rw [Hz.out]; exact HB1.out), HX1.out⟩
      case round =>
        clear c0 c1 c2
        obtain ⟨t, T', ht, rfl, hb2, hp2, hc2, hx2⟩ := hrel
        have HB2 := Lib.hid hb2
        have HP2 := Lib.hid hp2
        have HC2 := Lib.hid hc2
        have HX2 := Lib.hid hx2
        clear hb2 hp2 hc2 hx2
        obtain ⟨c0, c1, c2⟩ := cells3v HX2.out
        by_cases hlt2 : t < q
        · have hql : t < zs.length := by rw [HM.out]; exact hlt2
          obtain ⟨b, o, rfl, _, hcell0⟩ := HZ.out.at_ (i64s_get zs t hql)
          have hbg : b ∉ [g] := by rw [List.mem_singleton]; exact HBg.out b o rfl (by rintro rfl; cases hql)
          have hcell := HC2.out.cell hbg hcell0
          have hzq := HOk.out t hql hlt2
          obtain ⟨j, hj⟩ : ∃ j : Nat, zs[t] = j := ⟨zs[t].toNat, by omega⟩
          rw [hj] at hcell hzq
          have hstep : ∀ a, prm zs (t + 1) a = prm zs t (sw t j a) := fun a => by
            rw [prm]
            have e : zs.getD t 0 = zs[t] := by simp [List.getD, hql]
            rw [e, hj]; rfl
          have HSt := Lib.hid hstep
          have hjR : j < R := by omega
          have htR : t < R := by omega
          have HRs1 := Lib.hid (fun W (hB : Blk W g 48 (f64s T').toArray) => HRs.out W T' (by rw [HP2.out.1, Ht.out]) hB t j htR hjR)
          have hlt3 : (t : Int) < (q : Int) := by omega
          have HBd := Lib.hid HB2.out.drew
          have HCd := Lib.hid HC2.out.drew
          have HBg2 := Lib.hid hbg
          have hzg : z ∉ [g] := by rw [List.mem_singleton]; omega
          have HZg := Lib.hid hzg
          clear hcell0 hj hstep hzq hbg hzg
          go_wp2_with fail
          go_region_held3 (fun w' => w'.cell? ⟨z, 0, none⟩ = some (.int .i64 R) ∧ w'.cell? ⟨z, 1, none⟩ = some (.int .i64 C) ∧ w'.cell? ⟨z, 2, none⟩ = some (.slice (some ⟨g, 0, none⟩) N c) ∧ w'.cell? ⟨b, o + t, none⟩ = some (.int .i64 j) ∧ True)
            (first | exact ⟨c0, c1, c2, hcell, trivial⟩ | exact heldG4 (R := fun _ => True) ‹_ ∧ _ ∧ _ ∧ _ ∧ True› hcA HZg.out HZg.out HZg.out HBg2.out (fun _ => trivial))
            ((go_at_call 15; refine (HRs1.out _ HBd.out).mono ?_; rintro e1 wA ⟨rfl, T2, hb3, hh3, hcA⟩; skip))
          have HB3 := Lib.hid hb3
          have HP3 := Lib.hid (HP2.out.step hh3 htR hjR HSt.out)
          have HC3 := Lib.hid (HCd.out.trans hcA)
          have HX3 := Lib.hid (hcA.blk HZg.out HX2.out)
          clear hb3 hh3 hcA c0 c1 c2 hcell
          go_wp2_with fail
          go_roundw
          case rel => exact ⟨t + 1, T2, by omega, by go_num, HB3.out, HP3.out, HC3.out, HX3.out⟩
          case measure => simp [intOf]; omega
        · obtain rfl : t = q := by omega
          go_wp2_with fail
          go_ret
          exact ⟨rfl, T', HB2.out, HP2.out, HC2.out⟩
end Go.Proofs.Ytamndbeffbcppaa
