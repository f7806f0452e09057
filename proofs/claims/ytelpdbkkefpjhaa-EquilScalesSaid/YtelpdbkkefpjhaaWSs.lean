/-
The document's answer for dyadic numbers: Whole, Int.
-/
import Derived.Test.YtelpdbkkefpjhaaZSRdB
import Derived.Laws.AppendOwn
import Derived.Test.YtelpdbkkefpjhaaWSb
set_option linter.unusedVariables false
namespace Go.Proofs.Ytelpdbkkefpjhaa
open Go.RowKit
attribute [local go_sem ↓] Go.wp_at_zero Go.wp_at_succ

theorem info_i64 : (Try.prog.info? 3).map (fun i => (i.zero, i.size, i.bytes)) = some (some (.int .i64 0), 1, 8) := by kernel_rfl
theorem own_rd {w : World} {B : Nat} {v : Value} {n : Nat} {L : List Nat} (h : w.ownsRow B 3 1 v n (ints L)) (hD : Digs 65536 L) : ∃ A c, v = .slice A n c ∧ Rd w A n c L ∧ c ≤ 9223372036854775807 := by
  have hl : n = L.length := by have := h.1; simp [ints] at this; omega
  rcases h.2 with ⟨rfl, hn⟩ | ⟨g, cap, cur, rfl, hB, hg, hc, hm, hs, hx⟩
  · subst hn
    have : L = [] := List.eq_nil_of_length_eq_zero hl.symm
    subst this
    exact ⟨none, 0, rfl, ⟨rfl, Nat.le_refl _, .inl rfl, hD, fun _ _ _ hne => absurd rfl hne⟩, by omega⟩
  · refine ⟨_, cap, rfl, ⟨hl, hc, .inr ⟨g, 0, rfl, fun i v hi => ?_⟩, hD, fun b' y' e' _ => by
      injection e' with e'; injection e' with e1 e2
      subst e1
      exact ⟨_, _, hg⟩⟩, by unfold maxLen at hm; omega⟩
    have := World.ownsRow.cells h (g := g) rfl i v hi
    by_cases h0 : i = 0
    · subst h0; simpa [Addr.add] using this
    · simpa [Addr.add, h0] using this

theorem IntB.set_ {w : World} {b : Nat} (h : IntB w b) (p : Addr) (u : Value) : IntB (w.setCell p u) b := by
  obtain ⟨cs, fr, h1⟩ := h
  by_cases e : b = p.block
  · subst e
    unfold IntB World.setCell
    simp only [Array.getElem?_modify, h1]
    exact ⟨_, _, rfl⟩
  · exact ⟨cs, fr, (Below.heap_setCell w p u b e).trans h1⟩
/-- The digits don't lie where the answer does. -/
theorem Rd.store3 {w : World} {A : Option Addr} {n c : Nat} {L : List Nat} (h : Rd w A n c L) {neg : Bool} {E : Int} (hN : Neat neg L E) {g : Nat} {t : TypeId} {a : Bool} {A' : Option Addr} {n' c' : Nat} (hB : Blk w g t #[.bool a, .slice A' n' c', .int .i64 0]) (u0 u1 u2 : Value) :
    Rd (((w.setCell ⟨g, 0, none⟩ u0).setCell ⟨g, 1, none⟩ u1).setCell ⟨g, 2, none⟩ u2) A n c L := by
  refine ⟨h.1, h.2.1, ?_, h.2.2.2.1, fun b y e hl => ?_⟩
  rotate_left
  · exact IntB.set_ (IntB.set_ (IntB.set_ (h.2.2.2.2 b y e hl) _ _) _ _) _ _
  rcases h.2.2.1 with h0 | ⟨b, o, rfl, hc⟩
  · exact .inl h0
  · rcases hN with ⟨rfl, _⟩ | ⟨hne, hh, _⟩
    · exact .inl rfl
    · have hb : b ≠ g := by
        rintro rfl
        cases L with
        | nil => exact hne rfl
        | cons d l =>
          have h1 := hc 0 (.int .i64 (d : Int)) (by simp [ints])
          rw [Nat.add_zero, hB.cell o] at h1
          match o, h1 with
          | 0, h1 => simp at h1
          | 1, h1 => simp at h1
          | 2, h1 =>
            simp at h1
            exact hh (by simp; omega)
          | k + 3, h1 => simp at h1
      refine .inr ⟨b, o, rfl, fun i v hi => ?_⟩
      rw [cell_set hb, cell_set hb, cell_set hb]
      exact hc i v hi
/-- What is left of a number, and its digits so far. -/
def Part (m M : Nat) (L : List Nat) : Prop := M < 18446744073709551616 ∧ M * 65536 ^ L.length + ofd 65536 L = m ∧ Digs 65536 L ∧ L.length ≤ 4
set_option maxHeartbeats 2000000 in
set_option maxRecDepth 100000 in
theorem whole_any (neg : Bool) (m : Nat) (w : World) (hm : m < 18446744073709551616) :
    Calls Try.prog 65 #[.bool neg, .int .u64 (m : Int)] w (RetR (dy (if neg then -(m : Int) else (m : Int)) 0) w) := by
  obtain ⟨i0, hi, hz0, hz1, hz2⟩ := info_parts info_i64
  obtain ⟨D, hD⟩ : ∃ D, dy (if neg then -(m : Int) else (m : Int)) 0 = D := ⟨_, rfl⟩
  rw [hD]
  have HD := Lib.hid hD
  clear hD
  go_enter Try.func65, Try.ntmps65
  go_wp2_with fail
  have HM := Lib.hid hm
  clear hm
  go_loopw [1, 5] (fun x v wr => ∃ (M : Nat) (L : List Nat), x = .int .u64 (M : Int) ∧ Part m M L ∧ wr.ownsRow (w.heap.size + 1) 3 1 v L.length (ints L) ∧ Below (w.heap.size + 1) (w.alloc (.cells #[.bool false, .slice none 0 0, .int .i64 0] 69)) wr) (fun x _ _ => (intOf x).toNat)
  case atStart => exact ⟨m, [], rfl, ⟨HM.out, by simp [ofd_nil], Digs.nil _, by simp⟩, World.ownsRow_nil _ _ _ _, Below.refl _ _⟩
  case round =>
    obtain ⟨M, L, rfl, ⟨hM, hE, hDg, hL⟩, hown, hbl⟩ := hrel
    have HE := Lib.hid hE
    have HDg := Lib.hid hDg
    clear hE hDg
    have hB := (Blk.new w 69 #[.bool false, .slice none 0 0, .int .i64 0]).below hbl (by omega)
    have hws : w.heap.size + 1 ≤ wr.heap.size := by have := hbl.size; simpa using this
    by_cases h0 : M = 0
    · subst h0
      obtain ⟨A, c, rfl, hR, hc⟩ := own_rd hown HDg.out
      go_wp2_with fail
      refine (made_any neg A L.length c L 0 wr hR (by omega) (by omega) hc).mono ?_
      rintro e w2 ⟨ng', A', n', c', E, L', rfl, hR', hN, hd, hb⟩
      have hB2 := hB.next hb
      have HB2 := Lib.hid hB2
      have f0 := hB2.frozen 0
      have f1 := hB2.frozen 1
      have f2 := hB2.frozen 2
      obtain ⟨r0, r1, r2⟩ := cells3 hB2
      have HR := Lib.hid hR'
      have HN := Lib.hid hN
      have HDd := Lib.hid hd
      have HBl := Lib.hid ((((Below.refl w.heap.size w).alloc (Nat.le_refl _) (.cells #[.bool false, .slice none 0 0, .int .i64 0] 69)).trans (hbl.mono (by omega))).trans (hb.mono (by omega)))
      clear hb hB2 hB hR' hN hd hR hown hbl
      go_wp2_with fail
      obtain ⟨q0, q1, q2⟩ := cells3 (Blk.store3 HB2.out (.bool ng') (.slice A' n' c') (.int .i64 E))
      exact bodyPost_ret (v := .agg #[.bool ng', .slice A' n' c', .int .i64 E]) (by simp [results, Try.results65, go_sem, q0, q1, q2]) rfl
        ⟨ng', A', n', c', E, L', rfl, Rd.store3 HR.out HN.out HB2.out _ _ _, HN.out, HDd.out.trans (by
          rw [← HD.out, ← HE.out]; unfold rdy; simp), ((HBl.out.setCell (p := ⟨w.heap.size, 0, none⟩) (Nat.le_refl _) _).setCell (p := ⟨w.heap.size, 1, none⟩) (Nat.le_refl _) _).setCell (p := ⟨w.heap.size, 2, none⟩) (Nat.le_refl _) _⟩
    · have hL3 : L.length ≤ 3 := by
        rcases Nat.lt_or_ge L.length 4 with h | h
        · omega
        · have h4 : L.length = 4 := by omega
          have := HE.out
          rw [h4] at this
          rw [show 65536 ^ 4 = 18446744073709551616 by decide] at this
          have := HM.out
          omega
      go_wp2_with (at_builtin; refine wpList_append_own _ rfl _ _ 27 rfl (w.heap.size + 1) 3 i0 (.int .i64 0) 1 8 Try.underlying27 hi hz0 hz1 hz2 rfl (by decide) _ _ _ rfl (hown.alloc _) ⟨wr.heap.size, 0, none⟩ 1 1 [.int .i64 ((M : Int) % 65536)] rfl rfl ?c1 ?c2 ?c3 ?c4 ?c5 ?_)
      case c1 =>
        intro j u hj
        match j, hj with
        | 0, hj => simp at hj; subst hj; simp [Addr.add]
      case c2 => intro u hu; simp at hu; subst hu; rfl
      case c3 => unfold maxLen; omega
      case c4 => omega
      case c5 => simp; omega
      intro v' w2 hown' hgrow _
      go_wp2_with fail
      go_roundw
      case rel =>
        refine ⟨M / 65536, L ++ [M % 65536], by go_num, ⟨by omega, ?_, ?_, by simp; omega⟩, ?_, ?_⟩
        · rw [ofd_snoc, List.length_append, List.length_singleton, Nat.pow_succ, ← HE.out]
          generalize 65536 ^ L.length = P
          have := Nat.div_add_mod M 65536
          have h2 : M * P = (65536 * (M / 65536) + M % 65536) * P := by rw [this]
          rw [h2, Nat.add_mul]
          ac_rfl
        · exact Digs.append HDg.out (Digs.cons (Nat.mod_lt _ (by omega)) (Digs.nil _))
        · rw [List.length_append, List.length_singleton]
          have : ints (L ++ [M % 65536]) = ints L ++ [.int .i64 ((M : Int) % 65536)] := by simp [ints]
          rw [this]
          exact hown'
        · exact (hbl.alloc (by omega) _).grown hgrow (by simp; omega) (fun k hk => (hown.lt k hk).1)
      case measure => simp [intOf]; omega
end Go.Proofs.Ytelpdbkkefpjhaa
/-
The document's Shift of digits to base 65536: what each round leaves. Conditions: the shift is below 16.
-/
set_option linter.unusedVariables false
namespace Go.Proofs.Ytelpdbkkefpjhaa

/-- The list when i digits have been shifted by r. -/
def Sh (l : List Nat) (r i : Nat) (M : List Nat) : Prop := M.length = l.length + 1 ∧ Digs 65536 M ∧ M.getD i 0 < 2 ^ r ∧ (∀ j, i < j → M.getD j 0 = 0) ∧ ofd 65536 (M.take (i + 1)) = ofd 65536 (l.take i) * 2 ^ r
theorem Sh.zero (l : List Nat) (r : Nat) : Sh l r 0 (List.replicate (l.length + 1) 0) := by
  have hg : ∀ j, (List.replicate (l.length + 1) 0).getD j 0 = 0 := by
    intro j
    simp only [List.getD, List.getElem?_replicate]
    split <;> rfl
  refine ⟨by simp, Digs.replicate (by omega) _, by rw [hg]; exact Nat.pos_of_ne_zero (by simp), fun j _ => hg j, ?_⟩
  rw [List.take_replicate, ofd_replicate]; simp [ofd_nil]

/-- What a digit comes to, split at 65536. -/
theorem shift_room {d r c : Nat} (hd : d < 65536) (hr : r ≤ 15) (hc : c < 2 ^ r) : c + d * 2 ^ r % 65536 < 65536 ∧ d * 2 ^ r / 65536 < 2 ^ r := by
  have hp : 2 ^ r * 2 ^ (16 - r) = 65536 := by rw [← Nat.pow_add, show r + (16 - r) = 16 by omega]
  constructor
  · have h1 : d * 2 ^ r % 65536 = 2 ^ r * (d % 2 ^ (16 - r)) := by
      rw [← hp, Nat.mul_comm d, Nat.mul_mod_mul_left]
    rw [h1]
    have h2 : d % 2 ^ (16 - r) < 2 ^ (16 - r) := Nat.mod_lt _ (Nat.pos_of_ne_zero (by simp))
    have h3 : 2 ^ r * (d % 2 ^ (16 - r) + 1) ≤ 2 ^ r * 2 ^ (16 - r) := Nat.mul_le_mul_left _ h2
    rw [hp, Nat.mul_add, Nat.mul_one] at h3
    omega
  · rw [Nat.div_lt_iff_lt_mul (by omega), Nat.mul_comm (2 ^ r)]
    exact Nat.mul_lt_mul_of_pos_right hd (Nat.pos_of_ne_zero (by simp))

theorem Sh.step {l M : List Nat} {r i : Nat} (h : Sh l r i M) (hD : Digs 65536 l) (hi : i < l.length) (hr : r ≤ 15) :
    Sh l r (i + 1) ((M.set i (M.getD i 0 + l[i] * 2 ^ r % 65536)).set (i + 1) (l[i] * 2 ^ r / 65536)) := by
  obtain ⟨hl, hd, hc, hz, ho⟩ := h
  obtain ⟨r1, r2⟩ := shift_room (hD.get i hi) hr hc
  have hi1 : i + 1 < (M.set i (M.getD i 0 + l[i] * 2 ^ r % 65536)).length := by rw [List.length_set, hl]; omega
  have h3 : (2 : Nat) ^ r ≤ 2 ^ 15 := Nat.pow_le_pow_right (by omega) hr
  have h4 : l[i] * 2 ^ r / 65536 < 65536 := by omega
  refine ⟨by simp [hl], (hd.set i r1).set (i + 1) h4, ?_, ?_, ?_⟩
  · rw [List.getD, List.getElem?_set_self hi1]; exact r2
  · intro j hj
    rw [List.getD, List.getElem?_set_ne (by omega), List.getElem?_set_ne (by omega)]
    have := hz j (by omega)
    rwa [List.getD] at this
  · rw [ofd_take_set 65536 _ (i + 1) _ hi1, ofd_take_set 65536 M i _ (by omega), ofd_take_succ 65536 l i hi, Nat.add_mul, ← ho,
      ofd_take_succ 65536 M i (by omega)]
    have hg : M.getD i 0 = M[i]'(by omega) := by simp [List.getD, show i < M.length by omega]
    rw [hg]
    have hm := Nat.div_add_mod (l[i] * 2 ^ r) 65536
    generalize l[i] * 2 ^ r / 65536 = q at *
    generalize hx : l[i] * 2 ^ r % 65536 = m at *
    have hv : 65536 ^ i * l[i] * 2 ^ r = 65536 ^ i * m + 65536 ^ (i + 1) * q := by
      rw [Nat.mul_assoc, ← hm, Nat.mul_add, Nat.pow_succ, Nat.mul_assoc, Nat.add_comm]
    rw [hv, Nat.mul_add]
    omega
theorem Sh.done {l M : List Nat} {r : Nat} (h : Sh l r l.length M) : Digs 65536 M ∧ ofd 65536 M = ofd 65536 l * 2 ^ r := by
  obtain ⟨hl, hd, _, _, ho⟩ := h
  rw [List.take_of_length_le (by omega), List.take_of_length_le (Nat.le_refl _)] at ho
  exact ⟨hd, ho⟩
end Go.Proofs.Ytelpdbkkefpjhaa
