/-
MoveBack. Conditions: as each says.
-/
import Derived.Test.YtiapminfldbgbaaMvJ
set_option linter.unusedVariables false
namespace Go.Proofs.Ytiapminfldbgbaa
open Go.RowKit
attribute [local go_sem ↓] Go.wp_at_zero Go.wp_at_succ

theorem heldG6 {W w' : World} {G : List Nat} {b0 o0 b1 o1 b2 o2 b3 o3 b4 o4 b5 o5 : Nat} {v0 v1 v2 v3 v4 v5 : Value} {R : World → Prop} (h : W.cell? ⟨b0, o0, none⟩ = some v0 ∧ W.cell? ⟨b1, o1, none⟩ = some v1 ∧ W.cell? ⟨b2, o2, none⟩ = some v2 ∧ W.cell? ⟨b3, o3, none⟩ = some v3 ∧ W.cell? ⟨b4, o4, none⟩ = some v4 ∧ W.cell? ⟨b5, o5, none⟩ = some v5 ∧ R W) (hc : Chg G W w') (n0 : b0 ∉ G) (n1 : b1 ∉ G) (n2 : b2 ∉ G) (n3 : b3 ∉ G) (n4 : b4 ∉ G) (n5 : b5 ∉ G) (hR : R W → R w') :
    w'.cell? ⟨b0, o0, none⟩ = some v0 ∧ w'.cell? ⟨b1, o1, none⟩ = some v1 ∧ w'.cell? ⟨b2, o2, none⟩ = some v2 ∧ w'.cell? ⟨b3, o3, none⟩ = some v3 ∧ w'.cell? ⟨b4, o4, none⟩ = some v4 ∧ w'.cell? ⟨b5, o5, none⟩ = some v5 ∧ R w' :=
  ⟨hc.cell n0 h.1, hc.cell n1 h.2.1, hc.cell n2 h.2.2.1, hc.cell n3 h.2.2.2.1, hc.cell n4 h.2.2.2.2.1, hc.cell n5 h.2.2.2.2.2.1, hR h.2.2.2.2.2.2⟩
theorem below_one {W : World} {o : Obj} : Below W.heap.size W (W.alloc o) := (Below.refl _ _).alloc (Nat.le_refl _) o
theorem row_lt {w : World} {B : Option Addr} {xs : List Value} (h : Row w B xs) (hne : xs ≠ []) : ∀ b x, B = some ⟨b, x, none⟩ → b < w.heap.size := by
  intro b x e
  rcases h with h | ⟨b', o', e', hc⟩
  · exact (hne h).elim
  · rw [e] at e'
    injection e' with e'
    injection e' with e1 e2 e3
    subst e1
    cases xs with
    | nil => exact (hne rfl).elim
    | cons v xs => exact block_lt (hc 0 v rfl)
theorem i64s_ne {zs : List Int} (h : zs ≠ []) : i64s zs ≠ [] := by
  cases zs with
  | nil => exact (h rfl).elim
  | cons a b => simp [i64s]

theorem moveBack_great (A : Option Addr) (n c : Nat) (off r k ld : Int) (B : Option Addr) (m d : Nat) (w : World) (h : greatB n r k = true) :
    Calls Try.prog 6 #[mat A n c off r k ld, .slice B m d] w fun e w' => e = .returned (.bool true) ∧ Below w.heap.size w w' := by
  have HG := Lib.hid (fun W => great_any A n c off r k ld W)
  rw [h] at HG
  clear h
  unfold mat at *
  go_enter Try.func6, Try.ntmps6
  have HZ0 := Lib.hid (Blk.new w 36 #[.slice A n c, .int .i64 off, .int .i64 r, .int .i64 k, .int .i64 ld])
  have HB0 := Lib.hid ((Below.refl w.heap.size w).alloc (Nat.le_refl _) (.cells #[.slice A n c, .int .i64 off, .int .i64 r, .int .i64 k, .int .i64 ld] 36))
  go_wp2_with fail
  refine (awake4_any _).mono ?_
  rintro e w1 ⟨rfl, hb⟩
  have HZ1 := Lib.hid (HZ0.out.nxt hb)
  have HB1 := Lib.hid (below_nx HB0.out hb)
  clear hb
  obtain ⟨c0, c1, c2, c3, c4⟩ := cells5 HZ1.out
  go_wp2_with fail
  refine (HG.out _).mono ?_
  rintro e w2 ⟨rfl, hb⟩
  have HB2 := Lib.hid (below_nx HB1.out hb)
  clear hb c0 c1 c2 c3 c4
  go_wp2_with fail
  refine (awake4_any _).mono ?_
  rintro e w3 ⟨rfl, hb⟩
  have HB3 := Lib.hid (below_nx HB2.out hb)
  clear hb
  go_wp2_with fail
  go_ret
  exact ⟨rfl, HB3.out⟩

set_option maxHeartbeats 1000000 in
theorem moveBack_err (A : Option Addr) (n c : Nat) (l : List Nat) (off r k ld : Int) (B : Option Addr) (m d : Nat) (zs : List Int) (w : World) (h : greatB n r k = false) (hA : Row w A (f64s l)) (hW : Wds l) (hl : l.length = n)
    (ho : I64 off) (hr : I64 r) (hk : I64 k) (hi : I64 ld) (hB : Row w B (i64s zs)) (hm : zs.length = m) (hmb : m < 9223372036854775808) (hz : ∀ z ∈ zs, I64 z) (x : Int) (hx : ∀ e, TakesI n off r k ld zs e → e = x) (hx0 : x ≠ 0) :
    Calls Try.prog 6 #[mat A n c off r k ld, .slice B m d] w fun e w' => e = .returned (.bool true) ∧ Below w.heap.size w w' := by
  have hn : n ≤ 1000 := by
    have h := h
    unfold greatB at h
    simp at h; omega
  have HG := Lib.hid (fun W => great_any A n c off r k ld W)
  rw [h] at HG
  have HAp := Lib.hid (fun W (hb : Below w.heap.size w W) => show Calls Try.prog 18 #[mat A n c off r k ld] W fun e w' => ∃ g c', e = .returned (mat (some ⟨g, 0, none⟩) n c' off r k ld) ∧ Own w' g l ∧ W.heap.size ≤ g ∧ n ≤ c' ∧ c' < 9223372036854775808 ∧ Below W.heap.size W w' by
    have := rapart_any A c l off r k ld W (hA.below hb) (by omega)
    rw [hl] at this; exact this)
  have HTk := Lib.hid (fun W (hb : Below w.heap.size w W) (A : Option Addr) (c : Nat) => take_err A n c off r k ld B m d zs W (by omega) ho hr hk hi (hB.below hb) hm hmb hz x hx hx0)
  have HAll := Lib.hid (fun W (A B : Option Addr) (c d : Nat) (h1 : Row W A (f64s l)) (h2 : Row W B (f64s l)) => show Calls Try.prog 14 #[.slice A n c, .slice B n d] W fun e w' => e = .returned (.bool true) ∧ Below W.heap.size W w' by
    have := rall_any A B c d l l W hW hW h1 h2 (by omega) (Alike.refl l)
    rw [hl] at this; exact this)
  have HA := Lib.hid hA
  have hx1 : (x == 0) = false := by simp [hx0]
  clear h hA hW hl ho hr hk hi hB hm hz hx hn hmb
  unfold mat at *
  go_enter Try.func6, Try.ntmps6
  have HZ0 := Lib.hid (Blk.new w 36 #[.slice A n c, .int .i64 off, .int .i64 r, .int .i64 k, .int .i64 ld])
  have HB0 := Lib.hid ((Below.refl w.heap.size w).alloc (Nat.le_refl _) (.cells #[.slice A n c, .int .i64 off, .int .i64 r, .int .i64 k, .int .i64 ld] 36))
  go_wp2_with fail
  refine (awake4_any _).mono ?_
  rintro e w1 ⟨rfl, hb⟩
  have HZ1 := Lib.hid (HZ0.out.nxt hb)
  have HB1 := Lib.hid (below_nx HB0.out hb)
  clear hb
  obtain ⟨c0, c1, c2, c3, c4⟩ := cells5 HZ1.out
  go_wp2_with fail
  refine (HG.out _).mono ?_
  rintro e w2 ⟨rfl, hb⟩
  have HZ2 := Lib.hid (HZ1.out.nxt hb)
  have HB2 := Lib.hid (below_nx HB1.out hb)
  clear hb c0 c1 c2 c3 c4
  obtain ⟨c0, c1, c2, c3, c4⟩ := cells5 HZ2.out
  go_wp2_with fail
  refine (HAp.out _ HB2.out).mono ?_
  rintro e w3 ⟨g, c', rfl, hown, hg, _, _, hb⟩
  have HZ3 := Lib.hid ((HZ2.out.nxt hb).alloc (.cells #[.slice (some ⟨g, 0, none⟩) n c', .int .i64 off, .int .i64 r, .int .i64 k, .int .i64 ld] 36))
  have HX3 := Lib.hid (Blk.new w3 36 #[.slice (some ⟨g, 0, none⟩) n c', .int .i64 off, .int .i64 r, .int .i64 k, .int .i64 ld])
  have HB3 := Lib.hid (below_al (below_nx HB2.out hb) (o := (.cells #[.slice (some ⟨g, 0, none⟩) n c', .int .i64 off, .int .i64 r, .int .i64 k, .int .i64 ld] 36)))
  have HO3 := Lib.hid (hown.nxt (below_one (W := w3) (o := (.cells #[.slice (some ⟨g, 0, none⟩) n c', .int .i64 off, .int .i64 r, .int .i64 k, .int .i64 ld] 36))))
  clear hb c0 c1 c2 c3 c4 hown hg
  obtain ⟨c0, c1, c2, c3, c4⟩ := cells5 HZ3.out
  obtain ⟨d0, d1, d2, d3, d4⟩ := cells5 HX3.out
  go_wp2_with fail
  refine (HTk.out _ HB3.out _ _).mono ?_
  rintro e w4 ⟨rfl, hb⟩
  have HZ4 := Lib.hid (HZ3.out.nxt hb)
  have HX4 := Lib.hid (HX3.out.nxt hb)
  have HB4 := Lib.hid (below_nx HB3.out hb)
  have HO4 := Lib.hid (HO3.out.nxt hb)
  clear hb c0 c1 c2 c3 c4 d0 d1 d2 d3 d4
  obtain ⟨c0, c1, c2, c3, c4⟩ := cells5 HZ4.out
  obtain ⟨d0, d1, d2, d3, d4⟩ := cells5 HX4.out
  go_wp2_with fail
  refine (HAll.out _ _ _ _ _ HO4.out.row (HA.out.below HB4.out)).mono ?_
  rintro e w5 ⟨rfl, hb⟩
  have HB5 := Lib.hid (below_nx HB4.out hb)
  clear hb c0 c1 c2 c3 c4 d0 d1 d2 d3 d4
  go_wp2_with fail
  refine (awake4_any _).mono ?_
  rintro e w6 ⟨rfl, hb⟩
  have HB6 := Lib.hid (below_nx HB5.out hb)
  clear hb
  go_wp2_with fail
  go_ret
  exact ⟨rfl, HB6.out⟩

set_option maxHeartbeats 2000000 in
theorem moveBack_ok (A : Option Addr) (n c : Nat) (l : List Nat) (o R C L : Nat) (B : Option Addr) (m d : Nat) (zs : List Int) (w : World) (h : greatB n R C = false) (hA : Row w A (f64s l)) (hW : Wds l) (hl : l.length = n)
    (hb : o < 9223372036854775808 ∧ R < 9223372036854775808 ∧ C < 9223372036854775808 ∧ L < 9223372036854775808) (hL : 1 ≤ L) (hR : R ≤ L) (hr : R = 0 ∨ C = 0 ∨ o + (C - 1) * L + (R - 1) < n) (hB : Row w B (i64s zs)) (hm : zs.length = m) (hmR : m ≤ R) (hz : OrdOk R zs m) :
    Calls Try.prog 6 #[mat A n c o R C L, .slice B m d] w fun e w' => e = .returned (.bool true) ∧ Below w.heap.size w w' := by
  have hn : n ≤ 1000 := by
    have h := h
    unfold greatB at h
    simp at h; omega
  have hRs : R ≤ 20 := by
    have h := h
    unfold greatB at h
    simp at h; omega
  have HG := Lib.hid (fun W => great_any A n c o R C L W)
  rw [h] at HG
  have HAp := Lib.hid (fun W (hb : Below w.heap.size w W) => show Calls Try.prog 18 #[mat A n c o R C L] W fun e w' => ∃ g c', e = .returned (mat (some ⟨g, 0, none⟩) n c' o R C L) ∧ Own w' g l ∧ W.heap.size ≤ g ∧ n ≤ c' ∧ c' < 9223372036854775808 ∧ Below W.heap.size W w' by
    have := rapart_any A c l o R C L W (hA.below hb) (by omega)
    rw [hl] at this; exact this)
  have HTk := Lib.hid (fun W (hb' : Below w.heap.size w W) (g c : Nat) (hO : Own W g l) (hg : w.heap.size ≤ g) => take_ok g c l n o R C L B m d zs W hO hl (by omega) hb hL hR hr (hB.below hb') (fun b x e hne => by have := row_lt hB (i64s_ne hne) b x e; omega) hm hmR hz)
  have HRw := Lib.hid (fun W (g c : Nat) (l1 : List Nat) (h : Own W g l1) (hl1 : l1.length = n) (i j : Nat) (hi : i < R) (hj : j < R) => rows_there g c l1 n o R C L i j W h hl1 (by omega) hb hL hR hr hi hj)
  have HAll := Lib.hid (fun W (A B : Option Addr) (c d : Nat) (h1 : Row W A (f64s l)) (h2 : Row W B (f64s l)) => show Calls Try.prog 14 #[.slice A n c, .slice B n d] W fun e w' => e = .returned (.bool true) ∧ Below W.heap.size W w' by
    have := rall_any A B c d l l W hW hW h1 h2 (by omega) (Alike.refl l)
    rw [hl] at this; exact this)
  have HA := Lib.hid hA
  have HBr := Lib.hid hB
  have HM := Lib.hid hm
  have HZs := Lib.hid hz
  have Hl := Lib.hid hl
  clear h hA hW hl hb hL hR hr hB hm hz hn
  unfold mat at *
  go_enter Try.func6, Try.ntmps6
  have HZ0 := Lib.hid (Blk.new w 36 #[.slice A n c, .int .i64 o, .int .i64 R, .int .i64 C, .int .i64 L])
  have HB0 := Lib.hid ((Below.refl w.heap.size w).alloc (Nat.le_refl _) (.cells #[.slice A n c, .int .i64 o, .int .i64 R, .int .i64 C, .int .i64 L] 36))
  go_wp2_with fail
  refine (awake4_any _).mono ?_
  rintro e w1 ⟨rfl, hb⟩
  have HZ1 := Lib.hid (HZ0.out.nxt hb)
  have HB1 := Lib.hid (below_nx HB0.out hb)
  clear hb
  obtain ⟨c0, c1, c2, c3, c4⟩ := cells5 HZ1.out
  go_wp2_with fail
  refine (HG.out _).mono ?_
  rintro e w2 ⟨rfl, hb⟩
  have HZ2 := Lib.hid (HZ1.out.nxt hb)
  have HB2 := Lib.hid (below_nx HB1.out hb)
  clear hb c0 c1 c2 c3 c4
  obtain ⟨c0, c1, c2, c3, c4⟩ := cells5 HZ2.out
  go_wp2_with fail
  refine (HAp.out _ HB2.out).mono ?_
  rintro e w3 ⟨g, c', rfl, hown, hg, _, _, hb⟩
  have hgz : w.heap.size < g := by have := HZ2.out.lt; omega
  have hgl := hown.lt
  have HZ3 := Lib.hid ((HZ2.out.nxt hb).alloc (.cells #[.slice (some ⟨g, 0, none⟩) n c', .int .i64 o, .int .i64 R, .int .i64 C, .int .i64 L] 36))
  have HX3 := Lib.hid (Blk.new w3 36 #[.slice (some ⟨g, 0, none⟩) n c', .int .i64 o, .int .i64 R, .int .i64 C, .int .i64 L])
  have HB3 := Lib.hid (below_al (below_nx HB2.out hb) (o := (.cells #[.slice (some ⟨g, 0, none⟩) n c', .int .i64 o, .int .i64 R, .int .i64 C, .int .i64 L] 36)))
  have HO3 := Lib.hid (hown.nxt (below_one (W := w3) (o := (.cells #[.slice (some ⟨g, 0, none⟩) n c', .int .i64 o, .int .i64 R, .int .i64 C, .int .i64 L] 36))))
  have HTk2 := Lib.hid (HTk.out _ HB3.out g c' HO3.out (by omega))
  clear hb c0 c1 c2 c3 c4 hown hg
  obtain ⟨c0, c1, c2, c3, c4⟩ := cells5 HZ3.out
  obtain ⟨d0, d1, d2, d3, d4⟩ := cells5 HX3.out
  go_wp2_with fail
  refine HTk2.out.mono ?_
  rintro e w4 ⟨rfl, l1, ho1, hi1, hc1⟩
  have hzg : w.heap.size ∉ [g] := by rw [List.mem_singleton]; omega
  have hqg : w3.heap.size ∉ [g] := by rw [List.mem_singleton]; omega
  have HZ4 := Lib.hid (hc1.blk hzg HZ3.out)
  have HX4 := Lib.hid (hc1.blk hqg HX3.out)
  have HB4 := Lib.hid (hc1.below HB3.out HB3.out.size (fun x hx => by rw [List.mem_singleton] at hx; omega))
  have HO4 := Lib.hid ho1
  have HI4 := Lib.hid hi1
  have HZg := Lib.hid hzg
  have HQg := Lib.hid hqg
  have HGz := Lib.hid hgz
  clear ho1 hi1 hc1 c0 c1 c2 c3 c4 d0 d1 d2 d3 d4 HTk HTk2 hzg hqg hgl hgz
  generalize w3.heap.size = q3 at *
  generalize hz0 : w.heap.size = z at *
  have Hz0 := Lib.hid hz0
  clear hz0
  go_wp2_with fail
  go_loopw [6] (fun a wr => ∃ (q : Nat) (l2 : List Nat), q ≤ m ∧ a = .int .i64 ((q : Int) - 1) ∧ Own wr g l2 ∧ Img l o R C L (fun a b => l.getD (o + prm zs q a + b * L) 0) l2 ∧ Below z w wr ∧ Blk wr z 36 #[.slice A n c, .int .i64 o, .int .i64 R, .int .i64 C, .int .i64 L] ∧ Blk wr q3 36 #[.slice (some ⟨g, 0, none⟩) n c', .int .i64 o, .int .i64 R, .int .i64 C, .int .i64 L]) (fun a _ => (intOf a + 1).toNat)
  case atStart => exact ⟨m, l1, Nat.le_refl _, rfl, HO4.out, HI4.out, HB4.out, HZ4.out, HX4.out⟩
  case round =>
    obtain ⟨q, l2, hq, rfl, ho2, hi2, hb2, hz2, hx2⟩ := hrel
    have HO5 := Lib.hid ho2
    have HI5 := Lib.hid hi2
    have HB5 := Lib.hid hb2
    have HZ5 := Lib.hid hz2
    have HX5 := Lib.hid hx2
    clear ho2 hi2 hb2 hz2 hx2
    obtain ⟨d0, d1, d2, d3, d4⟩ := cells5 HX5.out
    rcases Nat.eq_zero_or_pos q with h0 | h0
    · subst h0
      have hl2 : l2 = l := HI5.out.uniq (Img.refl l o R C L) (fun a _ b _ => rfl)
      subst hl2
      have hneg : ¬ (0 : Int) ≤ ((0 : Nat) : Int) - 1 := by omega
      obtain ⟨c0, c1, c2, c3, c4⟩ := cells5 HZ5.out
      go_wp2_with fail
      refine (HAll.out _ _ _ _ _ HO5.out.row (HA.out.below (by rw [Hz0.out]; exact HB5.out))).mono ?_
      rintro e w5 ⟨rfl, hb⟩
      have HB6 := Lib.hid (HB5.out.trans (hb.mono (Nat.le_trans (by rw [← Hz0.out]; exact Nat.le_refl _) HB5.out.size)))
      clear hb c0 c1 c2 c3 c4 d0 d1 d2 d3 d4
      go_wp2_with fail
      refine (awake4_any _).mono ?_
      rintro e w6 ⟨rfl, hb⟩
      have HB7 := Lib.hid (HB6.out.trans (hb.mono (Nat.le_trans (by rw [← Hz0.out]; exact Nat.le_refl _) HB6.out.size)))
      clear hb
      go_wp2_with fail
      go_ret
      exact ⟨rfl, by rw [Hz0.out]; exact HB7.out⟩
    · obtain ⟨p, rfl⟩ : ∃ p, q = p + 1 := ⟨q - 1, by omega⟩
      have hpl : p < zs.length := by rw [HM.out]; omega
      obtain ⟨b, x, rfl, _, hcell0⟩ := HBr.out.at_ (i64s_get zs p hpl)
      have hbz := block_lt hcell0
      have hcell := cell_below hcell0 (show Below w.heap.size w wr by rw [Hz0.out]; exact HB5.out)
      have hzq := HZs.out p hpl (by omega)
      obtain ⟨j, hj⟩ : ∃ j : Nat, zs[p] = j := ⟨zs[p].toNat, by omega⟩
      rw [hj] at hcell hzq
      have hstep : ∀ a, prm zs (p + 1) (sw p j a) = prm zs p a := fun a => by
        rw [prm]
        have e : zs.getD p 0 = zs[p] := by simp [List.getD, hpl]
        rw [e, hj, Int.toNat_natCast, sw_sw]
      have HSt := Lib.hid hstep
      have hjR : j < R := by omega
      have hbg : b ∉ [g] := by rw [List.mem_singleton]; have := HGz.out; have := Hz0.out; omega
      have HBg := Lib.hid hbg
      have e1 : (((p + 1 : Nat) : Int) - 1) = (p : Int) := by omega
      rw [e1]
      have hpm : (p : Int) < (m : Int) := by omega
      have hp0 : (0 : Int) ≤ (p : Int) := by omega
      have HRw1 := Lib.hid (fun W (hO : Own W g l2) => HRw.out W g c' l2 hO (by rw [HI5.out.1, Hl.out]) p j (by omega) hjR)
      have HOd := Lib.hid HO5.out.drew
      have HBd := Lib.hid HB5.out.drew
      clear hcell0 hj hstep hzq hbg hbz e1
      go_wp2_with fail
      go_region_held3 (fun w' => w'.cell? ⟨q3, 0, none⟩ = some (.slice (some ⟨g, 0, none⟩) n c') ∧ w'.cell? ⟨q3, 1, none⟩ = some (.int .i64 o) ∧ w'.cell? ⟨q3, 2, none⟩ = some (.int .i64 R) ∧ w'.cell? ⟨q3, 3, none⟩ = some (.int .i64 C) ∧ w'.cell? ⟨q3, 4, none⟩ = some (.int .i64 L) ∧ w'.cell? ⟨b, x + p, none⟩ = some (.int .i64 j) ∧ True)
        (first | exact ⟨d0, d1, d2, d3, d4, hcell, trivial⟩ | exact heldG6 (R := fun _ => True) ‹_ ∧ _ ∧ _ ∧ _ ∧ _ ∧ _ ∧ True› hcA HQg.out HQg.out HQg.out HQg.out HQg.out HBg.out (fun _ => trivial))
        ((go_at_call 19; refine (HRw1.out _ HOd.out).mono ?_; rintro e1 wA ⟨rfl, l3, ho3, hi3, hcA⟩; skip))
      have HO6 := Lib.hid ho3
      have HI6 := Lib.hid ((show Img l o R C L (fun a b => l.getD (o + prm zs p a + b * L) 0) l3 from (HI5.out.step hi3 (by omega) hjR).congr (fun a ha b hb => congrArg (fun t => l.getD (o + t + b * L) 0) (HSt.out a))))
      have HB6 := Lib.hid (hcA.below HBd.out (by have h1 := HBd.out.size; have h2 := Hz0.out; omega) (fun x hx => by rw [List.mem_singleton] at hx; have := HGz.out; omega))
      have HZ6 := Lib.hid (hcA.blk HZg.out HZ5.out)
      have HX6 := Lib.hid (hcA.blk HQg.out HX5.out)
      clear ho3 hi3 hcA hcell d0 d1 d2 d3 d4
      go_wp2_with fail
      go_roundw
      case rel => exact ⟨p, l3, by omega, rfl, HO6.out, HI6.out, HB6.out, HZ6.out, HX6.out⟩
      case measure => simp [intOf] <;> omega

theorem moveBack_walk (A : Option Addr) (c : Nat) (l : List Nat) (off r k ld : Int) (B : Option Addr) (d : Nat) (zs : List Int) (w : World) (hA : Row w A (f64s l)) (hW : Wds l)
    (ho : I64 off) (hr : I64 r) (hk : I64 k) (hi : I64 ld) (hB : Row w B (i64s zs)) (hmb : zs.length < 9223372036854775808) (hz : ∀ z ∈ zs, I64 z) :
    Calls Try.prog 6 #[mat A l.length c off r k ld, .slice B zs.length d] w fun e w' => e = .returned (.bool true) ∧ Below w.heap.size w w' := by
  cases hg : greatB l.length r k
  · cases hm : matB l.length off r k ld
    · refine moveBack_err A _ c l off r k ld B _ d zs w hg hA hW rfl ho hr hk hi hB rfl hmb hz 1 (fun e h => ?_) (by omega)
      rcases h with ⟨_, h1⟩ | ⟨h1, _⟩ | ⟨h1, _⟩
      · exact h1
      · rw [hm] at h1; cases h1
      · rw [hm] at h1; cases h1
    · by_cases h1 : r < zs.length
      · refine moveBack_err A _ c l off r k ld B _ d zs w hg hA hW rfl ho hr hk hi hB rfl hmb hz 3 (fun e h => ?_) (by omega)
        rcases h with ⟨h2, _⟩ | ⟨_, _, h2⟩ | ⟨_, h2, _⟩
        · rw [hm] at h2; cases h2
        · exact h2
        · omega
      · by_cases h2 : OrdOk r zs zs.length
        · obtain ⟨o, R, C, L, rfl, rfl, rfl, rfl, q1, q2, q3⟩ := mat_nat hm
          unfold I64 at ho hr hk hi
          exact moveBack_ok A _ c l o R C L B _ d zs w hg hA hW rfl (by omega) q1 q2 q3 hB rfl (by omega) h2
        · refine moveBack_err A _ c l off r k ld B _ d zs w hg hA hW rfl ho hr hk hi hB rfl hmb hz 1 (fun e h => ?_) (by omega)
          rcases h with ⟨_, h3⟩ | ⟨_, h3, _⟩ | ⟨_, _, ⟨_, h3⟩ | ⟨h3, _⟩⟩
          · exact h3
          · omega
          · exact (h2 h3).elim
          · exact h3
  · exact moveBack_great A _ c off r k ld B _ d w hg
end Go.Proofs.Ytiapminfldbgbaa
