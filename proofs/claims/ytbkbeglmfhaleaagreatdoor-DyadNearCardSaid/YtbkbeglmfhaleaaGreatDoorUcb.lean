/-
The document's answer for dyadic numbers: Made. Conditions: fewer than 2^40 digits, the exponent within 10^18.
-/
import Derived.Test.YtbkbeglmfhaleaaGreatDoorRdA
import Derived.Deep.CutBlock
import Derived.Laws.AppendOwn
set_option linter.unusedVariables false
namespace Go.Proofs.YtbkbeglmfhaleaaGreatDoor
open Go.RowKit
attribute [local go_sem ↓] Go.wp_at_zero Go.wp_at_succ

theorem Rd.tail {w : World} {b o c d : Nat} {l : List Nat} (h : Rd w (some ⟨b, o, none⟩) (l.length + 1) c (d :: l)) : Rd w (some ⟨b, o + 1, none⟩) l.length (c - 1) l := by
  refine ⟨rfl, by have := h.2.1; omega, ?_, h.2.2.2.1.tail, fun b' y' e' _ => by
    injection e' with e'; injection e' with e1 e2
    subst e1
    exact h.2.2.2.2 b o rfl (by simp)⟩
  rcases h.2.2.1 with h | ⟨b', o', e, hc⟩
  · simp [ints] at h
  · injection e with e
    injection e with e1 e2
    subst e1 e2
    refine .inr ⟨b, o + 1, rfl, fun i v hi => ?_⟩
    have := hc (i + 1) v (by simpa [ints] using hi)
    rw [show o + 1 + i = o + (i + 1) by omega]
    exact this
theorem Rd.tail_ {w : World} {b o c d k : Nat} {l : List Nat} (h : Rd w (some ⟨b, o, none⟩) (k + 1) c (d :: l)) : Rd w (if c = 1 then some ⟨b, o, none⟩ else some ⟨b, o + 1, none⟩) k (c - 1) l := by
  have hk : k = l.length := by have := h.1; simpa using this
  subst hk
  by_cases hc : c = 1
  · have : l = [] := List.eq_nil_of_length_eq_zero (by have := h.2.1; omega)
    subst this
    exact ⟨rfl, Nat.zero_le _, .inl rfl, (fun x hx => by cases hx), fun _ _ _ hne => absurd rfl hne⟩
  · rw [if_neg hc]
    exact h.tail
theorem Rd.init {w : World} {A : Option Addr} {n c : Nat} {d : Nat} {l : List Nat} (h : Rd w A n c (l ++ [d])) : Rd w A l.length c l := by
  refine ⟨rfl, by have := h.2.1; have := h.1; simp at this; omega, ?_, fun x hx => h.2.2.2.1 x (List.mem_append_left _ hx), fun b y e _ => h.2.2.2.2 b y e (by simp)⟩
  rcases h.2.2.1 with h | ⟨b', o', e, hc⟩
  · simp [ints] at h
  · refine .inr ⟨b', o', e, fun i v hi => hc i v ?_⟩
    have hl : i < l.length := by
      rcases Nat.lt_or_ge i l.length with h | h
      · exact h
      · simp [ints, h] at hi
    rw [show ints (l ++ [d]) = ints l ++ [.int .i64 d] by simp [ints], List.getElem?_append_left (by simpa [ints] using hl)]
    exact hi
theorem Rd.at0 {w : World} {A : Option Addr} {n c : Nat} {d : Nat} {l : List Nat} (h : Rd w A n c (d :: l)) : ∃ b o, A = some ⟨b, o, none⟩ ∧ w.cell? ⟨b, o, none⟩ = some (.int .i64 (d : Int)) := by
  obtain ⟨b, o, e, _, hc⟩ := h.2.2.1.at_ (ints_get (d :: l) 0 (by simp))
  exact ⟨b, o, e, by simpa using hc⟩
theorem Rd.last {w : World} {A : Option Addr} {n c : Nat} {d : Nat} {l : List Nat} (h : Rd w A n c (l ++ [d])) : ∃ b o, A = some ⟨b, o, none⟩ ∧ w.cell? ⟨b, o + l.length, none⟩ = some (.int .i64 (d : Int)) := by
  obtain ⟨b, o, e, _, hc⟩ := h.2.2.1.at_ (ints_get (l ++ [d]) l.length (by simp))
  exact ⟨b, o, e, by simpa using hc⟩

theorem cells3 {w : World} {g : Nat} {t : TypeId} {x0 x1 x2 : Value} (h : Blk w g t #[x0, x1, x2]) : w.cell? ⟨g, 0, none⟩ = some x0 ∧ w.cell? ⟨g, 1, none⟩ = some x1 ∧ w.cell? ⟨g, 2, none⟩ = some x2 :=
  ⟨h.cell 0, h.cell 1, h.cell 2⟩
theorem Blk.store3 {w : World} {g : Nat} {t : TypeId} {x0 x1 x2 : Value} (h : Blk w g t #[x0, x1, x2]) (u0 u1 u2 : Value) : Blk (((w.setCell ⟨g, 0, none⟩ u0).setCell ⟨g, 1, none⟩ u1).setCell ⟨g, 2, none⟩ u2) g t #[u0, u1, u2] := by
  have := ((h.set_ 0 u0).set_ 1 u1).set_ 2 u2
  simpa using this
set_option maxHeartbeats 2000000 in
theorem made_any (neg : Bool) (A : Option Addr) (n c : Nat) (l : List Nat) (e : Int) (w : World) (h : Rd w A n c l) (hn : n ≤ 1099511627776) (he : e.natAbs ≤ 1000000000000000000) (hc : c ≤ 9223372036854775807) :
    Calls Tryz.prog 36 #[.bool neg, .slice A n c, .int .i64 e] w (RetR (rdy neg l e) w) := by
  obtain ⟨D, hD⟩ : ∃ D, rdy neg l e = D := ⟨_, rfl⟩
  rw [hD]
  have HD := Lib.hid hD
  have H := Lib.hid h
  clear hD h
  go_enter Tryz.func36, Tryz.ntmps36
  go_upto_block 0 with fail
  go_cut [1, 2] (fun a b wx => ∃ (A' : Option Addr) (n' c' : Nat) (l' : List Nat) (E : Int), a = .slice A' n' c' ∧ b = .int .i64 E ∧ n' ≤ n ∧ c' ≤ 9223372036854775807 ∧ E.natAbs ≤ 2000000000000000000 ∧ Rd w A' n' c' l' ∧ rdy neg l' E = D ∧ l'.head? ≠ some 0 ∧ wx = w.alloc (.cells #[.bool false, .slice none 0 0, .int .i64 0] 30))
  case first =>
    go_wp2_with fail
    go_loop [1, 2] (fun a b => ∃ (A' : Option Addr) (n' c' : Nat) (l' : List Nat) (E : Int), a = .slice A' n' c' ∧ b = .int .i64 E ∧ n' ≤ n ∧ c' ≤ 9223372036854775807 ∧ E.natAbs + n' ≤ 1000000000000000000 + n ∧ Hid (Rd w A' n' c' l' ∧ rdy neg l' E = D)) (fun a _ => match a with | .slice _ n _ => n | _ => 0)
    case atStart => exact ⟨A, n, c, l, e, rfl, rfl, Nat.le_refl _, hc, by omega, Lib.hid ⟨H.out, HD.out⟩⟩
    case round =>
      obtain ⟨A', n', c', l', E, rfl, rfl, hn', hc', hE, HR⟩ := hrel
      cases l' with
      | nil =>
        have h0 : n' = 0 := HR.out.1.1
        subst h0
        go_wp2_with fail
        go_meet
        exact ⟨A', 0, c', [], E, rfl, rfl, Nat.zero_le _, hc', by omega, HR.out.1, HR.out.2, by simp, rfl⟩
      | cons d t =>
        obtain ⟨b, o, rfl, hcell⟩ := HR.out.1.at0
        obtain ⟨k, rfl⟩ : ∃ k, n' = k + 1 := ⟨t.length, HR.out.1.1⟩
        have hcell' := (Below.refl w.heap.size w).alloc (Nat.le_refl _) (.cells #[.bool false, .slice none 0 0, .int .i64 0] 30)
        have hcell2 := cell_below hcell hcell'
        by_cases hd : d = 0
        · have ht : ((d : Int) == 0) = true := by simp [hd]
          have HD0 := Lib.hid hd
          clear hd hcell hcell'
          go_wp2_with fail
          go_round
          case rel => exact ⟨_, k, c' - 1, t, E + 1, rfl, rfl, by omega, by omega, by omega, Lib.hid ⟨HR.out.1.tail_, by have := HR.out.2; rw [HD0.out, rdy_drop] at this; exact this⟩⟩
          case measure => simp
        · have ht : ((d : Int) == 0) = false := by simp; omega
          have HD0 := Lib.hid hd
          clear hcell hcell' hd
          go_wp2_with fail
          go_meet
          exact ⟨_, k + 1, c', d :: t, E, rfl, rfl, hn', hc', by omega, HR.out.1, HR.out.2, by simpa using HD0.out, rfl⟩
  case rest =>
    obtain ⟨A', n', c', l', E, rfl, rfl, hn', hc', hE, hR, hDe, hh, rfl⟩ := hcut
    have HR := Lib.hid hR
    have HDe := Lib.hid hDe
    have HH := Lib.hid hh
    clear hR hDe hh
    go_wp2_with fail
    go_loop [1] (fun a => ∃ (A'' : Option Addr) (n'' c'' : Nat) (l'' : List Nat), a = .slice A'' n'' c'' ∧ n'' ≤ n ∧ c'' ≤ 9223372036854775807 ∧ Hid (Rd w A'' n'' c'' l'' ∧ rdy neg l'' E = D ∧ l''.head? ≠ some 0)) (fun a => match a with | .slice _ n _ => n | _ => 0)
    case atStart => exact ⟨A', n', c', l', rfl, hn', hc', Lib.hid ⟨HR.out, HDe.out, HH.out⟩⟩
    case round =>
      obtain ⟨A'', n'', c'', l'', rfl, hn'', hc'', HS⟩ := hrel
      have hB := Blk.new w 30 #[.bool false, .slice none 0 0, .int .i64 0]
      have HB := Lib.hid hB
      have f0 := hB.frozen 0
      have f1 := hB.frozen 1
      have f2 := hB.frozen 2
      clear hB
      rcases List.eq_nil_or_concat l'' with rfl | ⟨t, d, rfl⟩
      · have h0 : n'' = 0 := HS.out.1.1
        subst h0
        go_wp2_with fail
        obtain ⟨r0, r1, r2⟩ := cells3 HB.out
        refine bodyPost_ret (v := .agg #[.bool false, .slice none 0 0, .int .i64 0]) (by simp [results, Tryz.results36, go_sem, r0, r1, r2]) rfl
          ⟨false, none, 0, 0, 0, [], rfl, ⟨rfl, Nat.le_refl _, .inl rfl, (fun x hx => by cases hx), fun _ _ _ hne => absurd rfl hne⟩, .inl ⟨rfl, rfl, rfl⟩, ?_, (Below.refl w.heap.size w).alloc (Nat.le_refl _) _⟩
        rw [← HS.out.2.1, rdy_nil, rdy_nil]
      · rw [List.concat_eq_append] at HS
        obtain ⟨b, o, rfl, hcell⟩ := HS.out.1.last
        obtain ⟨k, hk⟩ : ∃ k, t.length = k := ⟨_, rfl⟩
        have hn2 : n'' = k + 1 := by have := HS.out.1.1; simp at this; omega
        subst hn2
        rw [hk] at hcell
        have hcell2 := cell_below hcell ((Below.refl w.heap.size w).alloc (Nat.le_refl _) (.cells #[.bool false, .slice none 0 0, .int .i64 0] 30))
        have hkc : (k : Int) ≤ (c'' : Int) := by have := HS.out.1.2.1; omega
        have hkc2 : k ≤ c'' := by omega
        clear hcell
        have HK := Lib.hid hk
        clear hk
        by_cases hd : d = 0
        · have ht : ((d : Int) == 0) = true := by simp [hd]
          have HD0 := Lib.hid hd
          clear hd
          go_wp2_with fail
          go_round
          case rel =>
            refine ⟨_, k, c'', t, rfl, by omega, hc'', Lib.hid ⟨?_, ?_, ?_⟩⟩
            · have := HS.out.1.init
              rw [HK.out] at this
              exact this
            · have := HS.out.2.1
              rw [HD0.out, rdy_take] at this
              exact this
            · have := HS.out.2.2
              cases t with
              | nil => simp
              | cons x y => simpa using this
          case measure => simp
        · have ht : ((d : Int) == 0) = false := by simp; omega
          have HD0 := Lib.hid hd
          clear hd
          go_wp2_with fail
          obtain ⟨r0, r1, r2⟩ := cells3 (Blk.new w 30 #[.bool neg, .slice (some ⟨b, o, none⟩) (k + 1) c'', .int .i64 E])
          have hbl := (Below.refl w.heap.size w).alloc (Nat.le_refl _) (.cells #[.bool neg, .slice (some ⟨b, o, none⟩) (k + 1) c'', .int .i64 E] 30)
          exact bodyPost_ret (v := .agg #[.bool neg, .slice (some ⟨b, o, none⟩) (k + 1) c'', .int .i64 E]) (by simp [results, Tryz.results36, go_sem, r0, r1, r2]) rfl
            ⟨neg, _, k + 1, c'', E, t ++ [d], rfl, HS.out.1.below hbl, .inr ⟨by simp, HS.out.2.2, by simpa using HD0.out⟩, HS.out.2.1, hbl⟩
end Go.Proofs.YtbkbeglmfhaleaaGreatDoor
/-
The document's answer for dyadic numbers: Whole, Int.
-/
set_option linter.unusedVariables false
namespace Go.Proofs.YtbkbeglmfhaleaaGreatDoor
open Go.RowKit
attribute [local go_sem ↓] Go.wp_at_zero Go.wp_at_succ

theorem info_i64 : (Tryz.prog.info? 3).map (fun i => (i.zero, i.size, i.bytes)) = some (some (.int .i64 0), 1, 8) := by kernel_rfl
theorem own_rd {w : World} {B : Nat} {v : Value} {n : Nat} {L : List Nat} (h : w.ownsRow B 3 1 v n (ints L)) (hD : Digs 65536 L) : ∃ A c, v = .slice A n c ∧ Rd w A n c L ∧ c ≤ 9223372036854775807 := by
  have hl : n = L.length := by have := h.1; simp [ints] at this; omega
  rcases h.2 with ⟨rfl, hn⟩ | ⟨g, cap, cur, rfl, hB, hg, hc, hm, hs, hx⟩
  · subst hn
    have : L = [] := List.eq_nil_of_length_eq_zero hl.symm
    subst this
    exact ⟨none, 0, rfl, ⟨rfl, Nat.le_refl _, .inl rfl, hD, fun _ _ _ hne => absurd rfl hne⟩, by omega⟩
  · refine ⟨_, cap, rfl, ⟨hl, hc, .inr ⟨g, 0, rfl, fun i v hi => ?_⟩, hD, fun b' y' e' _ => by
      injection e' with e'; injection e' with e1 e2
      subst e1
      exact ⟨_, _, hg⟩⟩, by unfold maxLen at hm; omega⟩
    have := World.ownsRow.cells h (g := g) rfl i v hi
    by_cases h0 : i = 0
    · subst h0; simpa [Addr.add] using this
    · simpa [Addr.add, h0] using this

theorem IntB.set_ {w : World} {b : Nat} (h : IntB w b) (p : Addr) (u : Value) : IntB (w.setCell p u) b := by
  obtain ⟨cs, fr, h1⟩ := h
  by_cases e : b = p.block
  · subst e
    unfold IntB World.setCell
    simp only [Array.getElem?_modify, h1]
    exact ⟨_, _, rfl⟩
  · exact ⟨cs, fr, (Below.heap_setCell w p u b e).trans h1⟩
/-- The digits don't lie where the answer does. -/
theorem Rd.store3 {w : World} {A : Option Addr} {n c : Nat} {L : List Nat} (h : Rd w A n c L) {neg : Bool} {E : Int} (hN : Neat neg L E) {g : Nat} {t : TypeId} {a : Bool} {A' : Option Addr} {n' c' : Nat} (hB : Blk w g t #[.bool a, .slice A' n' c', .int .i64 0]) (u0 u1 u2 : Value) :
    Rd (((w.setCell ⟨g, 0, none⟩ u0).setCell ⟨g, 1, none⟩ u1).setCell ⟨g, 2, none⟩ u2) A n c L := by
  refine ⟨h.1, h.2.1, ?_, h.2.2.2.1, fun b y e hl => ?_⟩
  rotate_left
  · exact IntB.set_ (IntB.set_ (IntB.set_ (h.2.2.2.2 b y e hl) _ _) _ _) _ _
  rcases h.2.2.1 with h0 | ⟨b, o, rfl, hc⟩
  · exact .inl h0
  · rcases hN with ⟨rfl, _⟩ | ⟨hne, hh, _⟩
    · exact .inl rfl
    · have hb : b ≠ g := by
        rintro rfl
        cases L with
        | nil => exact hne rfl
        | cons d l =>
          have h1 := hc 0 (.int .i64 (d : Int)) (by simp [ints])
          rw [Nat.add_zero, hB.cell o] at h1
          match o, h1 with
          | 0, h1 => simp at h1
          | 1, h1 => simp at h1
          | 2, h1 =>
            simp at h1
            exact hh (by simp; omega)
          | k + 3, h1 => simp at h1
      refine .inr ⟨b, o, rfl, fun i v hi => ?_⟩
      rw [cell_set hb, cell_set hb, cell_set hb]
      exact hc i v hi
/-- What is left of a number, and its digits so far. -/
def Part (m M : Nat) (L : List Nat) : Prop := M < 18446744073709551616 ∧ M * 65536 ^ L.length + ofd 65536 L = m ∧ Digs 65536 L ∧ L.length ≤ 4
set_option maxHeartbeats 2000000 in
set_option maxRecDepth 100000 in
theorem whole_any (neg : Bool) (m : Nat) (w : World) (hm : m < 18446744073709551616) :
    Calls Tryz.prog 33 #[.bool neg, .int .u64 (m : Int)] w (RetR (dy (if neg then -(m : Int) else (m : Int)) 0) w) := by
  obtain ⟨i0, hi, hz0, hz1, hz2⟩ := info_parts info_i64
  obtain ⟨D, hD⟩ : ∃ D, dy (if neg then -(m : Int) else (m : Int)) 0 = D := ⟨_, rfl⟩
  rw [hD]
  have HD := Lib.hid hD
  clear hD
  go_enter Tryz.func33, Tryz.ntmps33
  go_wp2_with fail
  have HM := Lib.hid hm
  clear hm
  go_loopw [1, 5] (fun x v wr => ∃ (M : Nat) (L : List Nat), x = .int .u64 (M : Int) ∧ Part m M L ∧ wr.ownsRow (w.heap.size + 1) 3 1 v L.length (ints L) ∧ Below (w.heap.size + 1) (w.alloc (.cells #[.bool false, .slice none 0 0, .int .i64 0] 30)) wr) (fun x _ _ => (intOf x).toNat)
  case atStart => exact ⟨m, [], rfl, ⟨HM.out, by simp [ofd_nil], Digs.nil _, by simp⟩, World.ownsRow_nil _ _ _ _, Below.refl _ _⟩
  case round =>
    obtain ⟨M, L, rfl, ⟨hM, hE, hDg, hL⟩, hown, hbl⟩ := hrel
    have HE := Lib.hid hE
    have HDg := Lib.hid hDg
    clear hE hDg
    have hB := (Blk.new w 30 #[.bool false, .slice none 0 0, .int .i64 0]).below hbl (by omega)
    have hws : w.heap.size + 1 ≤ wr.heap.size := by have := hbl.size; simpa using this
    by_cases h0 : M = 0
    · subst h0
      obtain ⟨A, c, rfl, hR, hc⟩ := own_rd hown HDg.out
      go_wp2_with fail
      refine (made_any neg A L.length c L 0 wr hR (by omega) (by omega) hc).mono ?_
      rintro e w2 ⟨ng', A', n', c', E, L', rfl, hR', hN, hd, hb⟩
      have hB2 := hB.next hb
      have HB2 := Lib.hid hB2
      have f0 := hB2.frozen 0
      have f1 := hB2.frozen 1
      have f2 := hB2.frozen 2
      obtain ⟨r0, r1, r2⟩ := cells3 hB2
      have HR := Lib.hid hR'
      have HN := Lib.hid hN
      have HDd := Lib.hid hd
      have HBl := Lib.hid ((((Below.refl w.heap.size w).alloc (Nat.le_refl _) (.cells #[.bool false, .slice none 0 0, .int .i64 0] 30)).trans (hbl.mono (by omega))).trans (hb.mono (by omega)))
      clear hb hB2 hB hR' hN hd hR hown hbl
      go_wp2_with fail
      obtain ⟨q0, q1, q2⟩ := cells3 (Blk.store3 HB2.out (.bool ng') (.slice A' n' c') (.int .i64 E))
      exact bodyPost_ret (v := .agg #[.bool ng', .slice A' n' c', .int .i64 E]) (by simp [results, Tryz.results33, go_sem, q0, q1, q2]) rfl
        ⟨ng', A', n', c', E, L', rfl, Rd.store3 HR.out HN.out HB2.out _ _ _, HN.out, HDd.out.trans (by
          rw [← HD.out, ← HE.out]; unfold rdy; simp), ((HBl.out.setCell (p := ⟨w.heap.size, 0, none⟩) (Nat.le_refl _) _).setCell (p := ⟨w.heap.size, 1, none⟩) (Nat.le_refl _) _).setCell (p := ⟨w.heap.size, 2, none⟩) (Nat.le_refl _) _⟩
    · have hL3 : L.length ≤ 3 := by
        rcases Nat.lt_or_ge L.length 4 with h | h
        · omega
        · have h4 : L.length = 4 := by omega
          have := HE.out
          rw [h4] at this
          rw [show 65536 ^ 4 = 18446744073709551616 by decide] at this
          have := HM.out
          omega
      go_wp2_with (at_builtin; refine wpList_append_own _ rfl _ _ 28 rfl (w.heap.size + 1) 3 i0 (.int .i64 0) 1 8 Tryz.underlying28 hi hz0 hz1 hz2 rfl (by decide) _ _ _ rfl (hown.alloc _) ⟨wr.heap.size, 0, none⟩ 1 1 [.int .i64 ((M : Int) % 65536)] rfl rfl ?c1 ?c2 ?c3 ?c4 ?c5 ?_)
      case c1 =>
        intro j u hj
        match j, hj with
        | 0, hj => simp at hj; subst hj; simp [Addr.add]
      case c2 => intro u hu; simp at hu; subst hu; rfl
      case c3 => unfold maxLen; omega
      case c4 => omega
      case c5 => simp; omega
      intro v' w2 hown' hgrow _
      go_wp2_with fail
      go_roundw
      case rel =>
        refine ⟨M / 65536, L ++ [M % 65536], by go_num, ⟨by omega, ?_, ?_, by simp; omega⟩, ?_, ?_⟩
        · rw [ofd_snoc, List.length_append, List.length_singleton, Nat.pow_succ, ← HE.out]
          generalize 65536 ^ L.length = P
          have := Nat.div_add_mod M 65536
          have h2 : M * P = (65536 * (M / 65536) + M % 65536) * P := by rw [this]
          rw [h2, Nat.add_mul]
          ac_rfl
        · exact Digs.append HDg.out (Digs.cons (Nat.mod_lt _ (by omega)) (Digs.nil _))
        · rw [List.length_append, List.length_singleton]
          have : ints (L ++ [M % 65536]) = ints L ++ [.int .i64 ((M : Int) % 65536)] := by simp [ints]
          rw [this]
          exact hown'
        · exact (hbl.alloc (by omega) _).grown hgrow (by simp; omega) (fun k hk => (hown.lt k hk).1)
      case measure => simp [intOf]; omega
end Go.Proofs.YtbkbeglmfhaleaaGreatDoor
/-
The document's answer for dyadic numbers: Int.
-/
set_option linter.unusedVariables false
namespace Go.Proofs.YtbkbeglmfhaleaaGreatDoor
open Go.RowKit
attribute [local go_sem ↓] Go.wp_at_zero Go.wp_at_succ

set_option maxHeartbeats 1000000 in
theorem rint_any (k : Int) (w : World) (h0 : -9223372036854775808 ≤ k) (h1 : k ≤ 9223372036854775807) :
    Calls Tryz.prog 8 #[.int .i64 k] w (RetR (dy k 0) w) := by
  obtain ⟨D, hD⟩ : ∃ D, dy k 0 = D := ⟨_, rfl⟩
  rw [hD]
  by_cases hk : k < 0
  · obtain ⟨m, hm⟩ : ∃ m : Nat, k = -(m : Int) := ⟨k.natAbs, by omega⟩
    have hDm : dy (if true = true then -(m : Int) else (m : Int)) 0 = D := by rw [← hD, hm]; rfl
    have hm1 : m < 18446744073709551616 := by omega
    have hmp : 1 ≤ m := by omega
    have hmq : m ≤ 9223372036854775808 := by omega
    have HD := Lib.hid (show ∀ W, Calls Tryz.prog 33 #[.bool true, .int .u64 (m : Int)] W (RetR D W) from fun W => by rw [← hDm]; exact whole_any true m W hm1)
    subst hm
    clear hD hDm hk h0 h1
    have e0 : (-(m : Int) < 0) := by omega
    have e1 : IntKind.i64.wrap (-(-(m : Int) + 1)) = ((m - 1 : Nat) : Int) := by rw [IntWalk.i64_in _ (by omega)]; omega
    go_enter Tryz.func8, Tryz.ntmps8
    go_wp2_with fail
    rw [show ((m - 1 : Nat) : Int) + 1 = (m : Int) by omega]
    refine (HD.out _).mono ?_
    rintro e w2 ⟨ng', A', n', c', E, L', rfl, hR', hN, hd, hb⟩
    have hB2 := (Blk.new w 30 #[.bool false, .slice none 0 0, .int .i64 0]).next hb
    have HB2 := Lib.hid hB2
    have f0 := hB2.frozen 0
    have f1 := hB2.frozen 1
    have f2 := hB2.frozen 2
    obtain ⟨r0, r1, r2⟩ := cells3 hB2
    have HR := Lib.hid hR'
    have HN := Lib.hid hN
    have HDd := Lib.hid hd
    have HBl := Lib.hid (((Below.refl w.heap.size w).alloc (Nat.le_refl _) (.cells #[.bool false, .slice none 0 0, .int .i64 0] 30)).trans (hb.mono (by simp)))
    clear hb hB2 hR' hN hd
    go_wp2_with fail
    obtain ⟨q0, q1, q2⟩ := cells3 (Blk.store3 HB2.out (.bool ng') (.slice A' n' c') (.int .i64 E))
    exact bodyPost_ret (v := .agg #[.bool ng', .slice A' n' c', .int .i64 E]) (by simp [results, Tryz.results8, go_sem, q0, q1, q2]) rfl
      ⟨ng', A', n', c', E, L', rfl, Rd.store3 HR.out HN.out HB2.out _ _ _, HN.out, HDd.out, ((HBl.out.setCell (p := ⟨w.heap.size, 0, none⟩) (Nat.le_refl _) _).setCell (p := ⟨w.heap.size, 1, none⟩) (Nat.le_refl _) _).setCell (p := ⟨w.heap.size, 2, none⟩) (Nat.le_refl _) _⟩
  · obtain ⟨m, hm⟩ : ∃ m : Nat, k = (m : Int) := ⟨k.natAbs, by omega⟩
    have hDm : dy (if false = true then -(m : Int) else (m : Int)) 0 = D := by rw [← hD, hm]; rfl
    have hm1 : m < 18446744073709551616 := by omega
    have hmq : m ≤ 9223372036854775807 := by omega
    have HD := Lib.hid (show ∀ W, Calls Tryz.prog 33 #[.bool false, .int .u64 (m : Int)] W (RetR D W) from fun W => by rw [← hDm]; exact whole_any false m W hm1)
    subst hm
    clear hD hDm hk h0 h1
    have e0 : ¬ ((m : Int) < 0) := by omega
    go_enter Tryz.func8, Tryz.ntmps8
    go_wp2_with fail
    refine (HD.out _).mono ?_
    rintro e w2 ⟨ng', A', n', c', E, L', rfl, hR', hN, hd, hb⟩
    have hB2 := (Blk.new w 30 #[.bool false, .slice none 0 0, .int .i64 0]).next hb
    have HB2 := Lib.hid hB2
    have f0 := hB2.frozen 0
    have f1 := hB2.frozen 1
    have f2 := hB2.frozen 2
    obtain ⟨r0, r1, r2⟩ := cells3 hB2
    have HR := Lib.hid hR'
    have HN := Lib.hid hN
    have HDd := Lib.hid hd
    have HBl := Lib.hid (((Below.refl w.heap.size w).alloc (Nat.le_refl _) (.cells #[.bool false, .slice none 0 0, .int .i64 0] 30)).trans (hb.mono (by simp)))
    clear hb hB2 hR' hN hd
    go_wp2_with fail
    obtain ⟨q0, q1, q2⟩ := cells3 (Blk.store3 HB2.out (.bool ng') (.slice A' n' c') (.int .i64 E))
    exact bodyPost_ret (v := .agg #[.bool ng', .slice A' n' c', .int .i64 E]) (by simp [results, Tryz.results8, go_sem, q0, q1, q2]) rfl
      ⟨ng', A', n', c', E, L', rfl, Rd.store3 HR.out HN.out HB2.out _ _ _, HN.out, HDd.out, ((HBl.out.setCell (p := ⟨w.heap.size, 0, none⟩) (Nat.le_refl _) _).setCell (p := ⟨w.heap.size, 1, none⟩) (Nat.le_refl _) _).setCell (p := ⟨w.heap.size, 2, none⟩) (Nat.le_refl _) _⟩
end Go.Proofs.YtbkbeglmfhaleaaGreatDoor
