/-
Trsv: the program's Apply. Conditions: as each says.
-/
import Derived.Test.YtlhdcajamempoaaZTrC
import Derived.Test.YtlhdcajamempoaaZVwC
set_option linter.unusedVariables false
set_option linter.unusedSimpArgs false
set_option linter.unnecessarySimpa false
namespace Go.Proofs.Ytlhdcajamempoaa
open Go.RowKit
attribute [local go_sem ↓] Go.wp_at_zero Go.wp_at_succ


set_option maxHeartbeats 2000000 in
theorem trsum_any (kd : Nat) (hkd : kd = 1 ∨ kd = 2 ∨ kd = 3 ∨ kd = 4) (A : Option Addr) (n c o R L : Nat) (f : Nat → Nat → Nat) (i : Nat) (B : Option Addr) (m c2 : Nat) (l : List Nat) (w : World) (hM : MxC w A o R L f) (hn : n < 1048576) (hLI : I64 L) (hRb : R < 1048576) (hL1 : 1 ≤ L) (hRL : R ≤ L) (hmr : R = 0 ∨ R = 0 ∨ o + (R - 1) * L + (R - 1) < n) (hi : i < R) (hA : Row w B (f64s l)) (hl : l.length = m) (hm : m = R) (hW : Wds l) (hf : ∀ i k, f i k < 18446744073709551616) :
    Calls Try.prog 65 #[tri (kd : Int) A n c o R R L, .int .i64 i, .slice B m c2] w fun e w' => ∃ r, e = .returned (.float .f64 r) ∧ Is r (trSum kd f (fun k => l.getD k 0) i R) ∧ Below w.heap.size w w' := by
  have HN := Lib.hid (fun k (hk : k < R) W (hb : Below w.heap.size w W) => trnum_any kd hkd A n c o R L f i k W (hM.below hb) hn hLI hRb hL1 hRL hmr hi hk)
  have HA := Lib.hid hA
  have Hl := Lib.hid hl
  have HW := Lib.hid hW
  have Hf := Lib.hid (fun k => trV_lt (kd := kd) (i := i) (k := k) hf)
  obtain ⟨X, hX⟩ : ∃ X : Nat → Nat, X = fun k => l.getD k 0 := ⟨_, rfl⟩
  have HX := Lib.hid (fun k => congrFun hX k)
  rw [← hX]
  have Hm := Lib.hid hm
  clear hkd hM hn hLI hL1 hRL hmr hi hA hl hm hW hf hX
  unfold tri at *
  go_enter Try.func65, Try.ntmps65
  have HZ := Lib.hid (Blk.new w 85 #[.int .i64 (kd : Int), .slice A n c, .int .i64 o, .int .i64 R, .int .i64 R, .int .i64 L])
  have HB0 := Lib.hid ((Below.refl w.heap.size w).alloc (Nat.le_refl _) (.cells #[.int .i64 (kd : Int), .slice A n c, .int .i64 o, .int .i64 R, .int .i64 R, .int .i64 L] 85))
  go_wp2_with fail
  go_loopw [7, 14] (fun sv x wr => ∃ k1 s0 : Nat, k1 ≤ m ∧ sv = .float .f64 s0 ∧ x = .int .i64 (k1 : Int) ∧ Hid (Is s0 (trSum kd f X i k1) ∧ Blk wr w.heap.size 85 #[.int .i64 (kd : Int), .slice A n c, .int .i64 o, .int .i64 R, .int .i64 R, .int .i64 L] ∧ Below w.heap.size w wr)) (fun _ x _ => m - (intOf x).toNat)
  case atStart => exact ⟨0, 0, Nat.zero_le _, rfl, rfl, Lib.hid ⟨is_zero0, HZ.out, HB0.out⟩⟩
  case round =>
    obtain ⟨k1, s0, hk1, rfl, rfl, HS⟩ := hrel
    have HBw := Lib.hid HS.out.2.2
    by_cases hlt : k1 < m
    · have har : (k1 : Int) < (m : Int) := by omega
      have ha1 : k1 + 1 ≤ 1048576 := by have := Hm.out; omega
      have hkl : k1 < l.length := by rw [Hl.out]; exact hlt
      obtain ⟨b2, y2, rfl, _, hcy0⟩ := HA.out.at_ (f64s_get l k1 hkl)
      have hcy := cell_below hcy0 HBw.out
      rw [← getD_of_lt hkl, ← HX.out k1] at hcy
      have hxw := tr_wds HW.out k1
      rw [← HX.out k1] at hxw
      have HNi := Lib.hid (HN.out k1 (by rw [← Hm.out]; exact hlt))
      have HT := Lib.hid (fun (h : trT kd i k1 = true) (p r : Nat) (h1 : Comes .mul (trV kd f i k1) (X k1) p) (h2 : Comes .add s0 p r) => show Is r (trSum kd f X i (k1 + 1)) from by
        show Is r (if trT kd i k1 = true then _ else _)
        rw [if_pos h]
        exact h2.is_ HS.out.1 (h1.is_ (Is.refl (Hf.out k1)) (Is.refl hxw)))
      have HF := Lib.hid (fun (h : trT kd i k1 = false) => show Is s0 (trSum kd f X i (k1 + 1)) from by
        show Is s0 (if trT kd i k1 = true then _ else _)
        rw [if_neg (by rw [h]; simp)]
        exact HS.out.1)
      obtain ⟨v, hv⟩ : ∃ v, trV kd f i k1 = v := ⟨_, rfl⟩
      obtain ⟨x, hx⟩ : ∃ x, X k1 = x := ⟨_, rfl⟩
      obtain ⟨q, hq⟩ : ∃ q, trT kd i k1 = q := ⟨_, rfl⟩
      rw [hv, hq] at HNi
      rw [hq] at HF
      rw [hv, hq, hx] at HT
      rw [hx] at hcy
      clear hv hx hq hxw hcy0 hkl
      obtain ⟨z0, z1, z2, z3, z4, z5⟩ := cells6 HS.out.2.1
      go_wp2_with fail
      refine (HNi.out _ HBw.out).mono ?_
      rintro e wa ⟨rfl, hb⟩
      have HZ2 := Lib.hid (HS.out.2.1.nxt hb)
      have HB2 := Lib.hid (below_nx HBw.out hb)
      clear hb z0 z1 z2 z3 z4 z5 hcy
      cases q
      · replace HF := Lib.hid (HF.out rfl)
        go_wp2_with fail
        go_roundw
        case rel => exact ⟨k1 + 1, s0, by omega, rfl, by go_num, Lib.hid ⟨HF.out, HZ2.out, HB2.out⟩⟩
        case measure => simp [intOf]; omega
      · replace HT := Lib.hid (HT.out rfl)
        go_wp2_with fail
        go_roundw
        case rel => exact ⟨k1 + 1, _, by omega, rfl, by go_num, Lib.hid ⟨HT.out _ _ (fres_comes _ _ _ _) (fres_comes _ _ _ _), HZ2.out, below_drewN HB2.out _⟩⟩
        case measure => simp [intOf]; omega
    · obtain rfl : m = k1 := by omega
      have hbb : ¬ (m : Int) < (m : Int) := by omega
      go_wp2_with fail
      go_ret
      exact ⟨s0, rfl, by rw [← Hm.out]; exact HS.out.1, HS.out.2.2⟩
theorem Blk.store6 {w : World} {g : Nat} {t : TypeId} {x0 x1 x2 x3 x4 x5 : Value} (h : Blk w g t #[x0, x1, x2, x3, x4, x5]) (u0 u1 u2 u3 u4 u5 : Value) :
    Blk ((((((w.setCell ⟨g, 0, none⟩ u0).setCell ⟨g, 1, none⟩ u1).setCell ⟨g, 2, none⟩ u2).setCell ⟨g, 3, none⟩ u3).setCell ⟨g, 4, none⟩ u4).setCell ⟨g, 5, none⟩ u5) g t #[u0, u1, u2, u3, u4, u5] := by
  have := (((((h.set_ 0 u0).set_ 1 u1).set_ 2 u2).set_ 3 u3).set_ 4 u4).set_ 5 u5
  simpa using this

theorem trapply_bad (kd : Int) (A : Option Addr) (n c : Nat) (o r k ld : Int) (B : Option Addr) (m d : Nat) (w : World) (hn : n < 9223372036854775808) (ho : I64 o) (hr : I64 r) (hk : I64 k) (hi : I64 ld) (h : (trK kd && matB n o r k ld) = false) :
    Calls Try.prog 28 #[.int .i64 kd, mat A n c o r k ld, .slice B m d] w fun e w' => e = .returned (.tuple #[.slice none 0 0, .int .i64 1]) ∧ Below w.heap.size w w' := by
  have HR := Lib.hid (fun W => trright_any kd A n c o r k ld W hn ho hr hk hi)
  rw [h] at HR
  clear hn ho hr hk hi h
  unfold mat tri at *
  go_enter Try.func28, Try.ntmps28
  have HM0 := Lib.hid (Blk.new w 26 #[.slice A n c, .int .i64 o, .int .i64 r, .int .i64 k, .int .i64 ld])
  have HZ0 := Lib.hid (Blk.new_ (w.alloc (.cells #[.slice A n c, .int .i64 o, .int .i64 r, .int .i64 k, .int .i64 ld] 26)) 85 #[.int .i64 kd, .slice A n c, .int .i64 o, .int .i64 r, .int .i64 k, .int .i64 ld] (w.heap.size + 1) (by simp))
  have HB0 := Lib.hid (((Below.refl w.heap.size w).alloc (Nat.le_refl _) (.cells #[.slice A n c, .int .i64 o, .int .i64 r, .int .i64 k, .int .i64 ld] 26)).alloc (by simp) (.cells #[.int .i64 kd, .slice A n c, .int .i64 o, .int .i64 r, .int .i64 k, .int .i64 ld] 85))
  obtain ⟨m0, m1, m2, m3, m4⟩ := cells5 HM0.out
  obtain ⟨z0, z1, z2, z3, z4, z5⟩ := cells6 HZ0.out
  go_wp2_with fail
  refine (HR.out _).mono ?_
  rintro e w1 ⟨rfl, hb⟩
  have HZ1 := Lib.hid (HZ0.out.nxt hb)
  have HB1 := Lib.hid (below_nx HB0.out hb)
  clear hb m0 m1 m2 m3 m4 z0 z1 z2 z3 z4 z5
  go_wp2_with fail
  go_ret2
  exact ⟨rfl, HB1.out⟩
theorem trapply_size (kd : Int) (A : Option Addr) (n c : Nat) (o r k ld : Int) (B : Option Addr) (m d : Nat) (w : World) (hn : n < 9223372036854775808) (ho : I64 o) (hr : I64 r) (hk : I64 k) (hi : I64 ld) (h : (trK kd && matB n o r k ld) = true) (hs : ((r == (m : Int)) && (k == (m : Int))) = false) :
    Calls Try.prog 28 #[.int .i64 kd, mat A n c o r k ld, .slice B m d] w fun e w' => e = .returned (.tuple #[.slice none 0 0, .int .i64 3]) ∧ Below w.heap.size w w' := by
  have HR := Lib.hid (fun W => trright_any kd A n c o r k ld W hn ho hr hk hi)
  have HF := Lib.hid (fun W => trfits_any kd A n c o r k ld (m : Int) W)
  rw [h] at HR
  rw [hs] at HF
  clear hn ho hr hk hi h hs
  unfold mat tri at *
  go_enter Try.func28, Try.ntmps28
  have HM0 := Lib.hid (Blk.new w 26 #[.slice A n c, .int .i64 o, .int .i64 r, .int .i64 k, .int .i64 ld])
  have HZ0 := Lib.hid (Blk.new_ (w.alloc (.cells #[.slice A n c, .int .i64 o, .int .i64 r, .int .i64 k, .int .i64 ld] 26)) 85 #[.int .i64 kd, .slice A n c, .int .i64 o, .int .i64 r, .int .i64 k, .int .i64 ld] (w.heap.size + 1) (by simp))
  have HB0 := Lib.hid (((Below.refl w.heap.size w).alloc (Nat.le_refl _) (.cells #[.slice A n c, .int .i64 o, .int .i64 r, .int .i64 k, .int .i64 ld] 26)).alloc (by simp) (.cells #[.int .i64 kd, .slice A n c, .int .i64 o, .int .i64 r, .int .i64 k, .int .i64 ld] 85))
  obtain ⟨m0, m1, m2, m3, m4⟩ := cells5 HM0.out
  obtain ⟨z0, z1, z2, z3, z4, z5⟩ := cells6 HZ0.out
  go_wp2_with fail
  refine (HR.out _).mono ?_
  rintro e w1 ⟨rfl, hb⟩
  have HZ1 := Lib.hid (HZ0.out.nxt hb)
  have HB1 := Lib.hid (below_nx HB0.out hb)
  clear hb m0 m1 m2 m3 m4 z0 z1 z2 z3 z4 z5
  obtain ⟨z0, z1, z2, z3, z4, z5⟩ := cells6 HZ1.out
  go_wp2_with fail
  refine (HF.out _).mono ?_
  rintro e w2 ⟨rfl, hb⟩
  have HZ2 := Lib.hid (HZ1.out.nxt hb)
  have HB2 := Lib.hid (below_nx HB1.out hb)
  clear hb z0 z1 z2 z3 z4 z5
  go_wp2_with fail
  go_ret2
  exact ⟨rfl, HB2.out⟩

/-- What Apply answers. -/
def TrApd (kd : Nat) (f : Nat → Nat → Nat) (X : Nat → Nat) (R : Nat) (w : World) (e : Ending) (w' : World) : Prop :=
  ∃ g l', e = .returned (.tuple #[.slice (some ⟨g, 0, none⟩) R R, .int .i64 0]) ∧ l'.length = R ∧ (∀ i, i < R → Is (l'.getD i 0) (trSum kd f X i R)) ∧ Own w' g l' ∧ Below w.heap.size w w'
set_option maxHeartbeats 2000000 in
/-- Apply, of a matrix with numbers. -/
theorem trapply_some (kd : Nat) (hkd : kd = 1 ∨ kd = 2 ∨ kd = 3 ∨ kd = 4) (A : Option Addr) (n c o R L : Nat) (f : Nat → Nat → Nat) (B : Option Addr) (d : Nat) (l : List Nat) (w : World) (hM : MxC w A o R L f) (hn : n < 1048576) (hLI : I64 L) (hRb : R < 1048576) (hL1 : 1 ≤ L) (hRL : R ≤ L) (hmr : R = 0 ∨ R = 0 ∨ o + (R - 1) * L + (R - 1) < n) (hoI : I64 o) (hA : Row w B (f64s l)) (hl : l.length = R) (hW : Wds l) (hf : ∀ i k, f i k < 18446744073709551616) :
    Calls Try.prog 28 #[.int .i64 (kd : Int), mat A n c o R R L, .slice B R d] w (TrApd kd f (fun k => l.getD k 0) R w) := by
  have HR := Lib.hid (fun W => trright_any (kd : Int) A n c o R R L W (by omega) hoI (by unfold I64; omega) (by unfold I64; omega) hLI)
  have HF := Lib.hid (fun W => trfits_any (kd : Int) A n c o R R L (R : Int) W)
  have hk1 : trK (kd : Int) = true := by rcases hkd with rfl | rfl | rfl | rfl <;> rfl
  rw [hk1, mat_right hL1 hRL hmr] at HR
  rw [show (((R : Int) == (R : Int)) && ((R : Int) == (R : Int))) = true from by simp] at HF
  have HS := Lib.hid (fun W (i : Nat) (hi : i < R) (hb : Below w.heap.size w W) => trsum_any kd hkd A n c o R L f i B R d l W (hM.below hb) hn hLI hRb hL1 hRL hmr hi (hA.below hb) hl rfl hW hf)
  obtain ⟨X, hX⟩ : ∃ X : Nat → Nat, (fun k => l.getD k 0) = X := ⟨_, rfl⟩
  rw [hX] at HS ⊢
  have hmk := fun V => frun_make R (by omega) V
  clear hkd hM hn hLI hL1 hRL hmr hoI hA hl hW hf hX hk1
  unfold mat tri at *
  go_enter Try.func28, Try.ntmps28
  have HM0 := Lib.hid (Blk.new w 26 #[.slice A n c, .int .i64 (o : Int), .int .i64 (R : Int), .int .i64 (R : Int), .int .i64 (L : Int)])
  have HZ0 := Lib.hid (Blk.new_ (w.alloc (.cells #[.slice A n c, .int .i64 (o : Int), .int .i64 (R : Int), .int .i64 (R : Int), .int .i64 (L : Int)] 26)) 85 #[.int .i64 (kd : Int), .slice A n c, .int .i64 (o : Int), .int .i64 (R : Int), .int .i64 (R : Int), .int .i64 (L : Int)] (w.heap.size + 1) (by simp))
  have HB0 := Lib.hid (((Below.refl w.heap.size w).alloc (Nat.le_refl _) (.cells #[.slice A n c, .int .i64 (o : Int), .int .i64 (R : Int), .int .i64 (R : Int), .int .i64 (L : Int)] 26)).alloc (by simp) (.cells #[.int .i64 (kd : Int), .slice A n c, .int .i64 (o : Int), .int .i64 (R : Int), .int .i64 (R : Int), .int .i64 (L : Int)] 85))
  obtain ⟨m0, m1, m2, m3, m4⟩ := cells5 HM0.out
  obtain ⟨z0, z1, z2, z3, z4, z5⟩ := cells6 HZ0.out
  go_wp2_with fail
  refine (HR.out _).mono ?_
  rintro e w1 ⟨rfl, hb⟩
  have HZ1 := Lib.hid (HZ0.out.nxt hb)
  have HB1 := Lib.hid (below_nx HB0.out hb)
  clear hb m0 m1 m2 m3 m4 z0 z1 z2 z3 z4 z5
  obtain ⟨z0, z1, z2, z3, z4, z5⟩ := cells6 HZ1.out
  go_wp2_with fail
  refine (HF.out _).mono ?_
  rintro e w2 ⟨rfl, hb⟩
  have HZ2 := Lib.hid (HZ1.out.nxt hb)
  have HB2 := Lib.hid (below_nx HB1.out hb)
  clear hb z0 z1 z2 z3 z4 z5
  go_wp2_with fail
  clear hmk
  have HO3 := Lib.hid (own_blk (Blk.new w2 28 (f64s (List.replicate R 0)).toArray))
  have HZ3 := Lib.hid (HZ2.out.nxt (below_one (o := .cells (f64s (List.replicate R 0)).toArray 28)))
  have HB3 := Lib.hid (below_al HB2.out (o := .cells (f64s (List.replicate R 0)).toArray 28))
  have hgz : w.heap.size + 1 < w2.heap.size := HZ2.out.lt
  have hgs : w.heap.size ≤ w2.heap.size := HB2.out.size
  generalize w2.alloc (.cells (f64s (List.replicate R 0)).toArray 28) = w3 at *
  generalize w2.heap.size = gp at *
  go_loopw [29] (fun x wr => ∃ (i1 : Nat) (l' : List Nat), i1 ≤ R ∧ x = .int .i64 (i1 : Int) ∧ Hid (l'.length = R ∧ (∀ j, j < i1 → Is (l'.getD j 0) (trSum kd f X j R)) ∧ Own wr gp l' ∧ Blk wr (w.heap.size + 1) 85 #[.int .i64 (kd : Int), .slice A n c, .int .i64 o, .int .i64 R, .int .i64 R, .int .i64 L] ∧ Below w.heap.size w wr)) (fun x _ => R - (intOf x).toNat)
  case atStart => exact ⟨0, List.replicate R 0, Nat.zero_le _, rfl, Lib.hid ⟨by simp, fun j h => by omega, HO3.out, HZ3.out, HB3.out⟩⟩
  case round =>
    obtain ⟨i1, l', hi1, rfl, HH⟩ := hrel
    by_cases hlt : i1 < R
    · have har : (i1 : Int) < (R : Int) := by omega
      have ha1 : i1 + 1 ≤ 1048576 := by omega
      have HSi := Lib.hid (HS.out wr i1 hlt HH.out.2.2.2.2)
      obtain ⟨z0, z1, z2, z3, z4, z5⟩ := cells6 HH.out.2.2.2.1
      go_wp2_with fail
      refine (HSi.out).mono ?_
      rintro e wa ⟨r, rfl, hr, hb⟩
      have hil : i1 < l'.length := by rw [HH.out.1]; exact hlt
      have HDone := Lib.hid (show (l'.set i1 r).length = R ∧ (∀ j, j < i1 + 1 → Is ((l'.set i1 r).getD j 0) (trSum kd f X j R)) ∧ Own (wa.setCell ⟨gp, i1, none⟩ (.float .f64 r)) gp (l'.set i1 r) ∧ Blk (wa.setCell ⟨gp, i1, none⟩ (.float .f64 r)) (w.heap.size + 1) 85 #[.int .i64 (kd : Int), .slice A n c, .int .i64 o, .int .i64 R, .int .i64 R, .int .i64 L] ∧ Below w.heap.size w (wa.setCell ⟨gp, i1, none⟩ (.float .f64 r)) from by
        obtain ⟨e1, e2, e3, e4, e5⟩ := HH.out
        refine ⟨by rw [List.length_set]; exact e1, fun j hj => ?_, (e3.nxt hb).set_ _ _ hil, (e4.nxt hb).other (by show w.heap.size + 1 ≠ gp; omega) _, (below_nx e5 hb).setCell (p := ⟨gp, i1, none⟩) hgs _⟩
        by_cases e : j = i1
        · rw [e, getD_set_self hil]; exact hr
        · rw [getD_set_ne _ (fun h => e h.symm)]; exact e2 j (by omega))
      have hfz := (HH.out.2.2.1.nxt hb).frozen i1
      have hcl := (HH.out.2.2.1.nxt hb).get i1 hil
      clear hb hr z0 z1 z2 z3 z4 z5
      go_wp2_with fail
      go_roundw
      case rel => exact ⟨i1 + 1, l'.set i1 r, by omega, by go_num, HDone⟩
      case measure => simp [intOf]; omega
    · obtain rfl : R = i1 := by omega
      have hbb : ¬ (R : Int) < (R : Int) := by omega
      go_wp2_with fail
      go_ret2
      exact ⟨gp, l', rfl, HH.out.1, HH.out.2.1, HH.out.2.2.1, HH.out.2.2.2.2⟩

end Go.Proofs.Ytlhdcajamempoaa
