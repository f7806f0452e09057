/-
The document's answer for dyadic numbers: Made. Conditions: fewer than 2^40 digits, the exponent within 10^18.
-/
import Derived.Test.YtelpdbkkefpjhaaWSr
import Derived.Deep.CutBlock
set_option linter.unusedVariables false
namespace Go.Proofs.Ytelpdbkkefpjhaa
open Go.RowKit
attribute [local go_sem ↓] Go.wp_at_zero Go.wp_at_succ

theorem Rd.tail {w : World} {b o c d : Nat} {l : List Nat} (h : Rd w (some ⟨b, o, none⟩) (l.length + 1) c (d :: l)) : Rd w (some ⟨b, o + 1, none⟩) l.length (c - 1) l := by
  refine ⟨rfl, by have := h.2.1; omega, ?_, h.2.2.2.1.tail, fun b' y' e' _ => by
    injection e' with e'; injection e' with e1 e2
    subst e1
    exact h.2.2.2.2 b o rfl (by simp)⟩
  rcases h.2.2.1 with h | ⟨b', o', e, hc⟩
  · simp [ints] at h
  · injection e with e
    injection e with e1 e2
    subst e1 e2
    refine .inr ⟨b, o + 1, rfl, fun i v hi => ?_⟩
    have := hc (i + 1) v (by simpa [ints] using hi)
    rw [show o + 1 + i = o + (i + 1) by omega]
    exact this
theorem Rd.tail_ {w : World} {b o c d k : Nat} {l : List Nat} (h : Rd w (some ⟨b, o, none⟩) (k + 1) c (d :: l)) : Rd w (if c = 1 then some ⟨b, o, none⟩ else some ⟨b, o + 1, none⟩) k (c - 1) l := by
  have hk : k = l.length := by have := h.1; simpa using this
  subst hk
  by_cases hc : c = 1
  · have : l = [] := List.eq_nil_of_length_eq_zero (by have := h.2.1; omega)
    subst this
    exact ⟨rfl, Nat.zero_le _, .inl rfl, (fun x hx => by cases hx), fun _ _ _ hne => absurd rfl hne⟩
  · rw [if_neg hc]
    exact h.tail
theorem Rd.init {w : World} {A : Option Addr} {n c : Nat} {d : Nat} {l : List Nat} (h : Rd w A n c (l ++ [d])) : Rd w A l.length c l := by
  refine ⟨rfl, by have := h.2.1; have := h.1; simp at this; omega, ?_, fun x hx => h.2.2.2.1 x (List.mem_append_left _ hx), fun b y e _ => h.2.2.2.2 b y e (by simp)⟩
  rcases h.2.2.1 with h | ⟨b', o', e, hc⟩
  · simp [ints] at h
  · refine .inr ⟨b', o', e, fun i v hi => hc i v ?_⟩
    have hl : i < l.length := by
      rcases Nat.lt_or_ge i l.length with h | h
      · exact h
      · simp [ints, h] at hi
    rw [show ints (l ++ [d]) = ints l ++ [.int .i64 d] by simp [ints], List.getElem?_append_left (by simpa [ints] using hl)]
    exact hi
theorem Rd.at0 {w : World} {A : Option Addr} {n c : Nat} {d : Nat} {l : List Nat} (h : Rd w A n c (d :: l)) : ∃ b o, A = some ⟨b, o, none⟩ ∧ w.cell? ⟨b, o, none⟩ = some (.int .i64 (d : Int)) := by
  obtain ⟨b, o, e, _, hc⟩ := h.2.2.1.at_ (ints_get (d :: l) 0 (by simp))
  exact ⟨b, o, e, by simpa using hc⟩
theorem Rd.last {w : World} {A : Option Addr} {n c : Nat} {d : Nat} {l : List Nat} (h : Rd w A n c (l ++ [d])) : ∃ b o, A = some ⟨b, o, none⟩ ∧ w.cell? ⟨b, o + l.length, none⟩ = some (.int .i64 (d : Int)) := by
  obtain ⟨b, o, e, _, hc⟩ := h.2.2.1.at_ (ints_get (l ++ [d]) l.length (by simp))
  exact ⟨b, o, e, by simpa using hc⟩

theorem cells3 {w : World} {g : Nat} {t : TypeId} {x0 x1 x2 : Value} (h : Blk w g t #[x0, x1, x2]) : w.cell? ⟨g, 0, none⟩ = some x0 ∧ w.cell? ⟨g, 1, none⟩ = some x1 ∧ w.cell? ⟨g, 2, none⟩ = some x2 :=
  ⟨h.cell 0, h.cell 1, h.cell 2⟩
theorem Blk.store3 {w : World} {g : Nat} {t : TypeId} {x0 x1 x2 : Value} (h : Blk w g t #[x0, x1, x2]) (u0 u1 u2 : Value) : Blk (((w.setCell ⟨g, 0, none⟩ u0).setCell ⟨g, 1, none⟩ u1).setCell ⟨g, 2, none⟩ u2) g t #[u0, u1, u2] := by
  have := ((h.set_ 0 u0).set_ 1 u1).set_ 2 u2
  simpa using this
set_option maxHeartbeats 2000000 in
theorem made_any (neg : Bool) (A : Option Addr) (n c : Nat) (l : List Nat) (e : Int) (w : World) (h : Rd w A n c l) (hn : n ≤ 1099511627776) (he : e.natAbs ≤ 1000000000000000000) (hc : c ≤ 9223372036854775807) :
    Calls Try.prog 68 #[.bool neg, .slice A n c, .int .i64 e] w (RetR (rdy neg l e) w) := by
  obtain ⟨D, hD⟩ : ∃ D, rdy neg l e = D := ⟨_, rfl⟩
  rw [hD]
  have HD := Lib.hid hD
  have H := Lib.hid h
  clear hD h
  go_enter Try.func68, Try.ntmps68
  go_upto_block 0 with fail
  go_cut [1, 2] (fun a b wx => ∃ (A' : Option Addr) (n' c' : Nat) (l' : List Nat) (E : Int), a = .slice A' n' c' ∧ b = .int .i64 E ∧ n' ≤ n ∧ c' ≤ 9223372036854775807 ∧ E.natAbs ≤ 2000000000000000000 ∧ Rd w A' n' c' l' ∧ rdy neg l' E = D ∧ l'.head? ≠ some 0 ∧ wx = w.alloc (.cells #[.bool false, .slice none 0 0, .int .i64 0] 69))
  case first =>
    go_wp2_with fail
    go_loop [1, 2] (fun a b => ∃ (A' : Option Addr) (n' c' : Nat) (l' : List Nat) (E : Int), a = .slice A' n' c' ∧ b = .int .i64 E ∧ n' ≤ n ∧ c' ≤ 9223372036854775807 ∧ E.natAbs + n' ≤ 1000000000000000000 + n ∧ Hid (Rd w A' n' c' l' ∧ rdy neg l' E = D)) (fun a _ => match a with | .slice _ n _ => n | _ => 0)
    case atStart => exact ⟨A, n, c, l, e, rfl, rfl, Nat.le_refl _, hc, by omega, Lib.hid ⟨H.out, HD.out⟩⟩
    case round =>
      obtain ⟨A', n', c', l', E, rfl, rfl, hn', hc', hE, HR⟩ := hrel
      cases l' with
      | nil =>
        have h0 : n' = 0 := HR.out.1.1
        subst h0
        go_wp2_with fail
        go_meet
        exact ⟨A', 0, c', [], E, rfl, rfl, Nat.zero_le _, hc', by omega, HR.out.1, HR.out.2, by simp, rfl⟩
      | cons d t =>
        obtain ⟨b, o, rfl, hcell⟩ := HR.out.1.at0
        obtain ⟨k, rfl⟩ : ∃ k, n' = k + 1 := ⟨t.length, HR.out.1.1⟩
        have hcell' := (Below.refl w.heap.size w).alloc (Nat.le_refl _) (.cells #[.bool false, .slice none 0 0, .int .i64 0] 69)
        have hcell2 := cell_below hcell hcell'
        by_cases hd : d = 0
        · have ht : ((d : Int) == 0) = true := by simp [hd]
          have HD0 := Lib.hid hd
          clear hd hcell hcell'
          go_wp2_with fail
          go_round
          case rel => exact ⟨_, k, c' - 1, t, E + 1, rfl, rfl, by omega, by omega, by omega, Lib.hid ⟨HR.out.1.tail_, by have := HR.out.2; rw [HD0.out, rdy_drop] at this; exact this⟩⟩
          case measure => simp
        · have ht : ((d : Int) == 0) = false := by simp; omega
          have HD0 := Lib.hid hd
          clear hcell hcell' hd
          go_wp2_with fail
          go_meet
          exact ⟨_, k + 1, c', d :: t, E, rfl, rfl, hn', hc', by omega, HR.out.1, HR.out.2, by simpa using HD0.out, rfl⟩
  case rest =>
    obtain ⟨A', n', c', l', E, rfl, rfl, hn', hc', hE, hR, hDe, hh, rfl⟩ := hcut
    have HR := Lib.hid hR
    have HDe := Lib.hid hDe
    have HH := Lib.hid hh
    clear hR hDe hh
    go_wp2_with fail
    go_loop [1] (fun a => ∃ (A'' : Option Addr) (n'' c'' : Nat) (l'' : List Nat), a = .slice A'' n'' c'' ∧ n'' ≤ n ∧ c'' ≤ 9223372036854775807 ∧ Hid (Rd w A'' n'' c'' l'' ∧ rdy neg l'' E = D ∧ l''.head? ≠ some 0)) (fun a => match a with | .slice _ n _ => n | _ => 0)
    case atStart => exact ⟨A', n', c', l', rfl, hn', hc', Lib.hid ⟨HR.out, HDe.out, HH.out⟩⟩
    case round =>
      obtain ⟨A'', n'', c'', l'', rfl, hn'', hc'', HS⟩ := hrel
      have hB := Blk.new w 69 #[.bool false, .slice none 0 0, .int .i64 0]
      have HB := Lib.hid hB
      have f0 := hB.frozen 0
      have f1 := hB.frozen 1
      have f2 := hB.frozen 2
      clear hB
      rcases List.eq_nil_or_concat l'' with rfl | ⟨t, d, rfl⟩
      · have h0 : n'' = 0 := HS.out.1.1
        subst h0
        go_wp2_with fail
        obtain ⟨r0, r1, r2⟩ := cells3 HB.out
        refine bodyPost_ret (v := .agg #[.bool false, .slice none 0 0, .int .i64 0]) (by simp [results, Try.results68, go_sem, r0, r1, r2]) rfl
          ⟨false, none, 0, 0, 0, [], rfl, ⟨rfl, Nat.le_refl _, .inl rfl, (fun x hx => by cases hx), fun _ _ _ hne => absurd rfl hne⟩, .inl ⟨rfl, rfl, rfl⟩, ?_, (Below.refl w.heap.size w).alloc (Nat.le_refl _) _⟩
        rw [← HS.out.2.1, rdy_nil, rdy_nil]
      · rw [List.concat_eq_append] at HS
        obtain ⟨b, o, rfl, hcell⟩ := HS.out.1.last
        obtain ⟨k, hk⟩ : ∃ k, t.length = k := ⟨_, rfl⟩
        have hn2 : n'' = k + 1 := by have := HS.out.1.1; simp at this; omega
        subst hn2
        rw [hk] at hcell
        have hcell2 := cell_below hcell ((Below.refl w.heap.size w).alloc (Nat.le_refl _) (.cells #[.bool false, .slice none 0 0, .int .i64 0] 69))
        have hkc : (k : Int) ≤ (c'' : Int) := by have := HS.out.1.2.1; omega
        have hkc2 : k ≤ c'' := by omega
        clear hcell
        have HK := Lib.hid hk
        clear hk
        by_cases hd : d = 0
        · have ht : ((d : Int) == 0) = true := by simp [hd]
          have HD0 := Lib.hid hd
          clear hd
          go_wp2_with fail
          go_round
          case rel =>
            refine ⟨_, k, c'', t, rfl, by omega, hc'', Lib.hid ⟨?_, ?_, ?_⟩⟩
            · have := HS.out.1.init
              rw [HK.out] at this
              exact this
            · have := HS.out.2.1
              rw [HD0.out, rdy_take] at this
              exact this
            · have := HS.out.2.2
              cases t with
              | nil => simp
              | cons x y => simpa using this
          case measure => simp
        · have ht : ((d : Int) == 0) = false := by simp; omega
          have HD0 := Lib.hid hd
          clear hd
          go_wp2_with fail
          obtain ⟨r0, r1, r2⟩ := cells3 (Blk.new w 69 #[.bool neg, .slice (some ⟨b, o, none⟩) (k + 1) c'', .int .i64 E])
          have hbl := (Below.refl w.heap.size w).alloc (Nat.le_refl _) (.cells #[.bool neg, .slice (some ⟨b, o, none⟩) (k + 1) c'', .int .i64 E] 69)
          exact bodyPost_ret (v := .agg #[.bool neg, .slice (some ⟨b, o, none⟩) (k + 1) c'', .int .i64 E]) (by simp [results, Try.results68, go_sem, r0, r1, r2]) rfl
            ⟨neg, _, k + 1, c'', E, t ++ [d], rfl, HS.out.1.below hbl, .inr ⟨by simp, HS.out.2.2, by simpa using HD0.out⟩, HS.out.2.1, hbl⟩
end Go.Proofs.Ytelpdbkkefpjhaa
