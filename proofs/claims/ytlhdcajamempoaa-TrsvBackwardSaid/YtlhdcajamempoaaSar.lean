/-
canonical: m times 2^e. Conditions: as each says.
-/
import Derived.Test.YtlhdcajamempoaaSaq
import Derived.Deep.CutBlock
set_option linter.unusedVariables false
namespace Go.Proofs.Ytlhdcajamempoaa
open Go.RowKit
attribute [local go_sem ↓] Go.wp_at_zero Go.wp_at_succ

theorem held4c {w W w' : World} {b0 o0 b1 o1 b2 o2 b3 o3 : Nat} {v0 v1 v2 v3 : Value} (h : W.cell? ⟨b0, o0, none⟩ = some v0 ∧ W.cell? ⟨b1, o1, none⟩ = some v1 ∧ W.cell? ⟨b2, o2, none⟩ = some v2 ∧ W.cell? ⟨b3, o3, none⟩ = some v3 ∧ Below w.heap.size w W) (hb : Below W.heap.size W w') :
    w'.cell? ⟨b0, o0, none⟩ = some v0 ∧ w'.cell? ⟨b1, o1, none⟩ = some v1 ∧ w'.cell? ⟨b2, o2, none⟩ = some v2 ∧ w'.cell? ⟨b3, o3, none⟩ = some v3 ∧ Below w.heap.size w w' :=
  ⟨cell_below h.1 hb, cell_below h.2.1 hb, cell_below h.2.2.1 hb, cell_below h.2.2.2.1 hb, h.2.2.2.2.trans (hb.mono h.2.2.2.2.size)⟩
theorem held4s {w W : World} {b0 o0 b1 o1 b2 o2 b3 o3 : Nat} {v0 v1 v2 v3 : Value} (h : W.cell? ⟨b0, o0, none⟩ = some v0 ∧ W.cell? ⟨b1, o1, none⟩ = some v1 ∧ W.cell? ⟨b2, o2, none⟩ = some v2 ∧ W.cell? ⟨b3, o3, none⟩ = some v3 ∧ Below w.heap.size w W)
    (g : Nat) (h0 : b0 ≠ g) (h1 : b1 ≠ g) (h2 : b2 ≠ g) (h3 : b3 ≠ g) (hg : w.heap.size ≤ g) (x0 x1 x2 x3 : Value) :
    ((((W.setCell ⟨g, 0, none⟩ x0).setCell ⟨g, 1, none⟩ x1).setCell ⟨g, 2, none⟩ x2).setCell ⟨g, 3, none⟩ x3).cell? ⟨b0, o0, none⟩ = some v0 ∧
    ((((W.setCell ⟨g, 0, none⟩ x0).setCell ⟨g, 1, none⟩ x1).setCell ⟨g, 2, none⟩ x2).setCell ⟨g, 3, none⟩ x3).cell? ⟨b1, o1, none⟩ = some v1 ∧
    ((((W.setCell ⟨g, 0, none⟩ x0).setCell ⟨g, 1, none⟩ x1).setCell ⟨g, 2, none⟩ x2).setCell ⟨g, 3, none⟩ x3).cell? ⟨b2, o2, none⟩ = some v2 ∧
    ((((W.setCell ⟨g, 0, none⟩ x0).setCell ⟨g, 1, none⟩ x1).setCell ⟨g, 2, none⟩ x2).setCell ⟨g, 3, none⟩ x3).cell? ⟨b3, o3, none⟩ = some v3 ∧
    Below w.heap.size w ((((W.setCell ⟨g, 0, none⟩ x0).setCell ⟨g, 1, none⟩ x1).setCell ⟨g, 2, none⟩ x2).setCell ⟨g, 3, none⟩ x3) := by
  refine ⟨?_, ?_, ?_, ?_, ((((h.2.2.2.2.setCell hg _).setCell hg _).setCell hg _).setCell hg _)⟩
  · rw [cell_set h0, cell_set h0, cell_set h0, cell_set h0]; exact h.1
  · rw [cell_set h1, cell_set h1, cell_set h1, cell_set h1]; exact h.2.1
  · rw [cell_set h2, cell_set h2, cell_set h2, cell_set h2]; exact h.2.2.1
  · rw [cell_set h3, cell_set h3, cell_set h3, cell_set h3]; exact h.2.2.2.1
theorem Blk.next {w w' : World} {g : Nat} {t : TypeId} {cs : Array Value} (h : Blk w g t cs) (hb : Below w.heap.size w w') : Blk w' g t cs := h.below hb h.lt

theorem odd_part (z : Int) (h : z ≠ 0) : ∃ (y : Int) (v : Nat), z = y * 2 ^ v ∧ y % 2 = 1 ∧ z.natAbs = y.natAbs * 2 ^ v ∧ y.natAbs % 2 = 1 ∧ y ≠ 0 := by
  have key : ∀ n : Nat, n ≠ 0 → ∃ k v, n = k * 2 ^ v ∧ k % 2 = 1 := by
    intro n
    induction n using Nat.strongRecOn with
    | ind n ih =>
      intro h0
      by_cases ho : n % 2 = 1
      · exact ⟨n, 0, by simp, ho⟩
      · obtain ⟨k, v, e, hk⟩ := ih (n / 2) (by omega) (by omega)
        exact ⟨k, v + 1, by rw [Nat.pow_succ, ← Nat.mul_assoc, ← e]; omega, hk⟩
  obtain ⟨k, v, e, hk⟩ := key z.natAbs (by omega)
  have hc : ((2 ^ v : Nat) : Int) = 2 ^ v := by simp
  rcases Int.lt_or_le z 0 with hz | hz
  · refine ⟨-(k : Int), v, ?_, by omega, by rw [Int.natAbs_neg, Int.natAbs_natCast]; exact e, by omega, by omega⟩
    rw [Int.neg_mul, ← hc, ← Int.natCast_mul, ← e]; omega
  · refine ⟨(k : Int), v, ?_, by omega, by rw [Int.natAbs_natCast]; exact e, by omega, by omega⟩
    rw [← hc, ← Int.natCast_mul, ← e]; omega
theorem dy_parts {z y e : Int} {v : Nat} (hz : z = y * 2 ^ v) (hy : y % 2 = 1) : mant (dy z e) = y ∧ expo (dy z e) = e + v := by
  rw [hz, dy_pow]
  exact ⟨mant_dy _ _ hy, expo_dy _ _ hy⟩
theorem RetD_def (d : Dyadic) (w : World) (a a' : Bool) (A A' : Option Addr) (n c n' c' : Nat) (m e : Int) (w' : World) (hm : mant d = m) (he : expo d = e) (ha : a = ng m) (ha' : a' = ng e) (h : Wh w' A n c m) (h' : Wh w' A' n' c' e) (hb : Below w.heap.size w w') :
    RetD d w (.returned (.agg #[.bool a, .slice A n c, .bool a', .slice A' n' c'])) w' := by
  subst ha ha' hm he; exact ⟨A, n, c, A', n', c', rfl, ⟨h, h'⟩, hb⟩

end Go.Proofs.Ytlhdcajamempoaa
/-
The document's answer for dyadic numbers: how they lie, floor, power.
-/
set_option linter.unusedVariables false
namespace Go.Proofs.Ytlhdcajamempoaa
open Go.RowKit
attribute [local go_sem ↓] Go.wp_at_zero Go.wp_at_succ

def ints (l : List Nat) : List Value := l.map fun (d : Nat) => Value.int .i64 (d : Int)
theorem ints_get (l : List Nat) (i : Nat) (h : i < l.length) : (ints l)[i]? = some (.int .i64 (l[i] : Int)) := by simp [ints, h]
/-- The number that the digits to base 65536 make. -/
def rdy (neg : Bool) (l : List Nat) (e : Int) : Dyadic := dy (if neg then -(ofd 65536 l : Int) else (ofd 65536 l : Int)) (16 * e)
/-- Neither end is a nought. -/
def Neat (neg : Bool) (l : List Nat) (e : Int) : Prop := (l = [] ∧ neg = false ∧ e = 0) ∨ (l ≠ [] ∧ l.head? ≠ some 0 ∧ l.getLast? ≠ some 0)
/-- The block is one of ints. -/
def IntB (w : World) (b : Nat) : Prop := ∃ cs fr, w.heap[b]? = some (.cells cs 3 fr)
theorem IntB.lt {w : World} {b : Nat} (h : IntB w b) : b < w.heap.size := by
  obtain ⟨cs, fr, h⟩ := h
  exact (Array.getElem?_eq_some_iff.1 h).1
theorem IntB.below {w w' : World} {b : Nat} (h : IntB w b) (hb : Below w.heap.size w w') : IntB w' b := by
  obtain ⟨cs, fr, h1⟩ := h
  exact ⟨cs, fr, (hb.block b (IntB.lt ⟨cs, fr, h1⟩)).trans h1⟩
theorem IntB.of_blk {w : World} {b : Nat} {cs : Array Value} (h : Blk w b 3 cs) : IntB w b := ⟨cs, _, h⟩
theorem IntB.ne {w : World} {b g : Nat} {t : TypeId} {cs : Array Value} (h : IntB w b) (hB : Blk w g t cs) (ht : t ≠ 3) : b ≠ g := by
  rintro rfl
  obtain ⟨cs', fr, h1⟩ := h
  unfold Blk at hB
  rw [h1] at hB
  injection hB with hB
  injection hB with _ e _
  exact ht e.symm
/-- The slice holds the digits. -/
def Rd (w : World) (A : Option Addr) (n c : Nat) (l : List Nat) : Prop := n = l.length ∧ n ≤ c ∧ Row w A (ints l) ∧ Digs 65536 l ∧ ∀ b y, A = some ⟨b, y, none⟩ → l ≠ [] → IntB w b
theorem Rd.below {w w' : World} {A : Option Addr} {n c : Nat} {l : List Nat} (h : Rd w A n c l) (hb : Below w.heap.size w w') : Rd w' A n c l := ⟨h.1, h.2.1, h.2.2.1.below hb, h.2.2.2.1, fun b y e hl => (h.2.2.2.2 b y e hl).below hb⟩
/-- The call returned the number. -/
def RetR (d : Dyadic) (w : World) (e : Ending) (w' : World) : Prop :=
  ∃ (neg : Bool) (A : Option Addr) (n c : Nat) (E : Int) (l : List Nat), e = .returned (.agg #[.bool neg, .slice A n c, .int .i64 E]) ∧ Rd w' A n c l ∧ Neat neg l E ∧ rdy neg l E = d ∧ Below w.heap.size w w'
theorem rdy_drop (neg : Bool) (l : List Nat) (e : Int) : rdy neg (0 :: l) e = rdy neg l (e + 1) := by
  unfold rdy
  have h := dy_pow (if neg then -(ofd 65536 l : Int) else (ofd 65536 l : Int)) (16 * e) 16
  rw [show 16 * (e + 1) = 16 * e + ((16 : Nat) : Int) by omega, ← h, ofd_cons]
  congr 1
  cases neg <;> simp <;> omega
theorem rdy_take (neg : Bool) (l : List Nat) (e : Int) : rdy neg (l ++ [0]) e = rdy neg l e := by
  unfold rdy
  rw [ofd_snoc, Nat.mul_zero, Nat.add_zero]
theorem rdy_nil (neg : Bool) (e : Int) : rdy neg [] e = 0 := by
  unfold rdy
  rw [ofd_nil]
  cases neg <;> rfl

theorem floor_any (k : Int) (w : World) (h0 : -1000000000000000000 ≤ k) (h1 : k ≤ 1000000000000000000) :
    Calls Try.prog 74 #[.int .i64 k] w fun e w' => e = .returned (.tuple #[.int .i64 (k / 16), .int .i64 (k % 16)]) ∧ w = w' := by
  go_enter Try.func74, Try.ntmps74
  go_wp2_with fail
  go_ret2
  refine ⟨?_, rfl⟩
  have e0 : ∃ t, k.tmod 16 = t ∧ -15 ≤ t ∧ t ≤ 15 ∧ (t + 16) % 16 = k % 16 := by
    rcases Int.le_total 0 k with h | h
    · exact ⟨k % 16, Int.tmod_eq_emod_of_nonneg h, by omega, by omega, by omega⟩
    · refine ⟨-((-k) % 16), ?_, by omega, by omega, by omega⟩
      rw [← Int.tmod_eq_emod_of_nonneg (show 0 ≤ -k by omega), Int.neg_tmod, Int.neg_neg]
  obtain ⟨t, ht, t1, t2, t3⟩ := e0
  have e1 : wrap64 (k.tmod 16 + 16) = t + 16 := by rw [ht]; unfold wrap64; omega
  have e2 : (t + 16).tmod 16 = k % 16 := by rw [Int.tmod_eq_emod_of_nonneg (by omega)]; exact t3
  have e3 : wrap64 (k - k % 16) = 16 * (k / 16) := by unfold wrap64; omega
  have e4 : (16 * (k / 16)).tdiv 16 = k / 16 := Int.mul_tdiv_cancel_left _ (by decide)
  have e5 : wrap64 (k / 16) = k / 16 := by unfold wrap64; omega
  show Ending.returned (.tuple #[.int .i64 (wrap64 ((wrap64 (k - (wrap64 (k.tmod 16 + 16)).tmod 16)).tdiv 16)), .int .i64 ((wrap64 (k.tmod 16 + 16)).tmod 16)]) = _
  rw [e1, e2, e3, e4, e5]
theorem power_any (k : Nat) (w : World) (hk : k ≤ 16) :
    Calls Try.prog 75 #[.int .i64 (k : Int)] w fun e w' => e = .returned (.int .i64 ((2 ^ k : Nat) : Int)) ∧ w = w' := by
  go_enter Try.func75, Try.ntmps75
  go_wp2_with fail
  go_loop [3, 4] (fun n i => ∃ j N : Nat, j ≤ k ∧ N ≤ 65536 ∧ n = .int .i64 (N : Int) ∧ i = .int .i64 (j : Int) ∧ Hid (N = 2 ^ j)) (fun _ i => k - (intOf i).toNat)
  case atStart => exact ⟨0, 1, Nat.zero_le _, by omega, rfl, rfl, Lib.hid rfl⟩
  case round =>
    obtain ⟨j, N, hj, hN, rfl, rfl, HN⟩ := hrel
    by_cases hlt : j < k
    · have hb : N * 2 ≤ 65536 := by
        have : 2 ^ (j + 1) ≤ 2 ^ 16 := Nat.pow_le_pow_right (by omega) (by omega)
        rw [HN.out, ← Nat.pow_succ]; exact this
      go_wp2_with fail
      go_round
      case rel => exact ⟨j + 1, N * 2, by omega, hb, by go_num, by go_num, Lib.hid (by rw [HN.out, Nat.pow_succ])⟩
      case measure => simp [intOf]; omega
    · have HJ := Lib.hid (show j = k by omega)
      go_wp2_with fail
      go_ret
      refine ⟨?_, rfl⟩
      show Ending.returned (.int .i64 (N : Int)) = _
      rw [HN.out, HJ.out, Int.natCast_pow]
      rfl
end Go.Proofs.Ytlhdcajamempoaa
/-
The document's answer for dyadic numbers: Made. Conditions: fewer than 2^40 digits, the exponent within 10^18.
-/
set_option linter.unusedVariables false
namespace Go.Proofs.Ytlhdcajamempoaa
open Go.RowKit
attribute [local go_sem ↓] Go.wp_at_zero Go.wp_at_succ

theorem Rd.tail {w : World} {b o c d : Nat} {l : List Nat} (h : Rd w (some ⟨b, o, none⟩) (l.length + 1) c (d :: l)) : Rd w (some ⟨b, o + 1, none⟩) l.length (c - 1) l := by
  refine ⟨rfl, by have := h.2.1; omega, ?_, h.2.2.2.1.tail, fun b' y' e' _ => by
    injection e' with e'; injection e' with e1 e2
    subst e1
    exact h.2.2.2.2 b o rfl (by simp)⟩
  rcases h.2.2.1 with h | ⟨b', o', e, hc⟩
  · simp [ints] at h
  · injection e with e
    injection e with e1 e2
    subst e1 e2
    refine .inr ⟨b, o + 1, rfl, fun i v hi => ?_⟩
    have := hc (i + 1) v (by simpa [ints] using hi)
    rw [show o + 1 + i = o + (i + 1) by omega]
    exact this
theorem Rd.tail_ {w : World} {b o c d k : Nat} {l : List Nat} (h : Rd w (some ⟨b, o, none⟩) (k + 1) c (d :: l)) : Rd w (if c = 1 then some ⟨b, o, none⟩ else some ⟨b, o + 1, none⟩) k (c - 1) l := by
  have hk : k = l.length := by have := h.1; simpa using this
  subst hk
  by_cases hc : c = 1
  · have : l = [] := List.eq_nil_of_length_eq_zero (by have := h.2.1; omega)
    subst this
    exact ⟨rfl, Nat.zero_le _, .inl rfl, (fun x hx => by cases hx), fun _ _ _ hne => absurd rfl hne⟩
  · rw [if_neg hc]
    exact h.tail
theorem Rd.init {w : World} {A : Option Addr} {n c : Nat} {d : Nat} {l : List Nat} (h : Rd w A n c (l ++ [d])) : Rd w A l.length c l := by
  refine ⟨rfl, by have := h.2.1; have := h.1; simp at this; omega, ?_, fun x hx => h.2.2.2.1 x (List.mem_append_left _ hx), fun b y e _ => h.2.2.2.2 b y e (by simp)⟩
  rcases h.2.2.1 with h | ⟨b', o', e, hc⟩
  · simp [ints] at h
  · refine .inr ⟨b', o', e, fun i v hi => hc i v ?_⟩
    have hl : i < l.length := by
      rcases Nat.lt_or_ge i l.length with h | h
      · exact h
      · simp [ints, h] at hi
    rw [show ints (l ++ [d]) = ints l ++ [.int .i64 d] by simp [ints], List.getElem?_append_left (by simpa [ints] using hl)]
    exact hi
theorem Rd.at0 {w : World} {A : Option Addr} {n c : Nat} {d : Nat} {l : List Nat} (h : Rd w A n c (d :: l)) : ∃ b o, A = some ⟨b, o, none⟩ ∧ w.cell? ⟨b, o, none⟩ = some (.int .i64 (d : Int)) := by
  obtain ⟨b, o, e, _, hc⟩ := h.2.2.1.at_ (ints_get (d :: l) 0 (by simp))
  exact ⟨b, o, e, by simpa using hc⟩
theorem Rd.last {w : World} {A : Option Addr} {n c : Nat} {d : Nat} {l : List Nat} (h : Rd w A n c (l ++ [d])) : ∃ b o, A = some ⟨b, o, none⟩ ∧ w.cell? ⟨b, o + l.length, none⟩ = some (.int .i64 (d : Int)) := by
  obtain ⟨b, o, e, _, hc⟩ := h.2.2.1.at_ (ints_get (l ++ [d]) l.length (by simp))
  exact ⟨b, o, e, by simpa using hc⟩

theorem cells3 {w : World} {g : Nat} {t : TypeId} {x0 x1 x2 : Value} (h : Blk w g t #[x0, x1, x2]) : w.cell? ⟨g, 0, none⟩ = some x0 ∧ w.cell? ⟨g, 1, none⟩ = some x1 ∧ w.cell? ⟨g, 2, none⟩ = some x2 :=
  ⟨h.cell 0, h.cell 1, h.cell 2⟩
theorem Blk.store3 {w : World} {g : Nat} {t : TypeId} {x0 x1 x2 : Value} (h : Blk w g t #[x0, x1, x2]) (u0 u1 u2 : Value) : Blk (((w.setCell ⟨g, 0, none⟩ u0).setCell ⟨g, 1, none⟩ u1).setCell ⟨g, 2, none⟩ u2) g t #[u0, u1, u2] := by
  have := ((h.set_ 0 u0).set_ 1 u1).set_ 2 u2
  simpa using this
set_option maxHeartbeats 2000000 in
theorem made_any (neg : Bool) (A : Option Addr) (n c : Nat) (l : List Nat) (e : Int) (w : World) (h : Rd w A n c l) (hn : n ≤ 1099511627776) (he : e.natAbs ≤ 1000000000000000000) (hc : c ≤ 9223372036854775807) :
    Calls Try.prog 70 #[.bool neg, .slice A n c, .int .i64 e] w (RetR (rdy neg l e) w) := by
  obtain ⟨D, hD⟩ : ∃ D, rdy neg l e = D := ⟨_, rfl⟩
  rw [hD]
  have HD := Lib.hid hD
  have H := Lib.hid h
  clear hD h
  go_enter Try.func70, Try.ntmps70
  go_upto_block 0 with fail
  go_cut [1, 2] (fun a b wx => ∃ (A' : Option Addr) (n' c' : Nat) (l' : List Nat) (E : Int), a = .slice A' n' c' ∧ b = .int .i64 E ∧ n' ≤ n ∧ c' ≤ 9223372036854775807 ∧ E.natAbs ≤ 2000000000000000000 ∧ Rd w A' n' c' l' ∧ rdy neg l' E = D ∧ l'.head? ≠ some 0 ∧ wx = w.alloc (.cells #[.bool false, .slice none 0 0, .int .i64 0] 63))
  case first =>
    go_wp2_with fail
    go_loop [1, 2] (fun a b => ∃ (A' : Option Addr) (n' c' : Nat) (l' : List Nat) (E : Int), a = .slice A' n' c' ∧ b = .int .i64 E ∧ n' ≤ n ∧ c' ≤ 9223372036854775807 ∧ E.natAbs + n' ≤ 1000000000000000000 + n ∧ Hid (Rd w A' n' c' l' ∧ rdy neg l' E = D)) (fun a _ => match a with | .slice _ n _ => n | _ => 0)
    case atStart => exact ⟨A, n, c, l, e, rfl, rfl, Nat.le_refl _, hc, by omega, Lib.hid ⟨H.out, HD.out⟩⟩
    case round =>
      obtain ⟨A', n', c', l', E, rfl, rfl, hn', hc', hE, HR⟩ := hrel
      cases l' with
      | nil =>
        have h0 : n' = 0 := HR.out.1.1
        subst h0
        go_wp2_with fail
        go_meet
        exact ⟨A', 0, c', [], E, rfl, rfl, Nat.zero_le _, hc', by omega, HR.out.1, HR.out.2, by simp, rfl⟩
      | cons d t =>
        obtain ⟨b, o, rfl, hcell⟩ := HR.out.1.at0
        obtain ⟨k, rfl⟩ : ∃ k, n' = k + 1 := ⟨t.length, HR.out.1.1⟩
        have hcell' := (Below.refl w.heap.size w).alloc (Nat.le_refl _) (.cells #[.bool false, .slice none 0 0, .int .i64 0] 63)
        have hcell2 := cell_below hcell hcell'
        by_cases hd : d = 0
        · have ht : ((d : Int) == 0) = true := by simp [hd]
          have HD0 := Lib.hid hd
          clear hd hcell hcell'
          go_wp2_with fail
          go_round
          case rel => exact ⟨_, k, c' - 1, t, E + 1, rfl, rfl, by omega, by omega, by omega, Lib.hid ⟨HR.out.1.tail_, by have := HR.out.2; rw [HD0.out, rdy_drop] at this; exact this⟩⟩
          case measure => simp
        · have ht : ((d : Int) == 0) = false := by simp; omega
          have HD0 := Lib.hid hd
          clear hcell hcell' hd
          go_wp2_with fail
          go_meet
          exact ⟨_, k + 1, c', d :: t, E, rfl, rfl, hn', hc', by omega, HR.out.1, HR.out.2, by simpa using HD0.out, rfl⟩
  case rest =>
    obtain ⟨A', n', c', l', E, rfl, rfl, hn', hc', hE, hR, hDe, hh, rfl⟩ := hcut
    have HR := Lib.hid hR
    have HDe := Lib.hid hDe
    have HH := Lib.hid hh
    clear hR hDe hh
    go_wp2_with fail
    go_loop [1] (fun a => ∃ (A'' : Option Addr) (n'' c'' : Nat) (l'' : List Nat), a = .slice A'' n'' c'' ∧ n'' ≤ n ∧ c'' ≤ 9223372036854775807 ∧ Hid (Rd w A'' n'' c'' l'' ∧ rdy neg l'' E = D ∧ l''.head? ≠ some 0)) (fun a => match a with | .slice _ n _ => n | _ => 0)
    case atStart => exact ⟨A', n', c', l', rfl, hn', hc', Lib.hid ⟨HR.out, HDe.out, HH.out⟩⟩
    case round =>
      obtain ⟨A'', n'', c'', l'', rfl, hn'', hc'', HS⟩ := hrel
      have hB := Blk.new w 63 #[.bool false, .slice none 0 0, .int .i64 0]
      have HB := Lib.hid hB
      have f0 := hB.frozen 0
      have f1 := hB.frozen 1
      have f2 := hB.frozen 2
      clear hB
      rcases List.eq_nil_or_concat l'' with rfl | ⟨t, d, rfl⟩
      · have h0 : n'' = 0 := HS.out.1.1
        subst h0
        go_wp2_with fail
        obtain ⟨r0, r1, r2⟩ := cells3 HB.out
        refine bodyPost_ret (v := .agg #[.bool false, .slice none 0 0, .int .i64 0]) (by simp [results, Try.results70, go_sem, r0, r1, r2]) rfl
          ⟨false, none, 0, 0, 0, [], rfl, ⟨rfl, Nat.le_refl _, .inl rfl, (fun x hx => by cases hx), fun _ _ _ hne => absurd rfl hne⟩, .inl ⟨rfl, rfl, rfl⟩, ?_, (Below.refl w.heap.size w).alloc (Nat.le_refl _) _⟩
        rw [← HS.out.2.1, rdy_nil, rdy_nil]
      · rw [List.concat_eq_append] at HS
        obtain ⟨b, o, rfl, hcell⟩ := HS.out.1.last
        obtain ⟨k, hk⟩ : ∃ k, t.length = k := ⟨_, rfl⟩
        have hn2 : n'' = k + 1 := by have := HS.out.1.1; simp at this; omega
        subst hn2
        rw [hk] at hcell
        have hcell2 := cell_below hcell ((Below.refl w.heap.size w).alloc (Nat.le_refl _) (.cells #[.bool false, .slice none 0 0, .int .i64 0] 63))
        have hkc : (k : Int) ≤ (c'' : Int) := by have := HS.out.1.2.1; omega
        have hkc2 : k ≤ c'' := by omega
        clear hcell
        have HK := Lib.hid hk
        clear hk
        by_cases hd : d = 0
        · have ht : ((d : Int) == 0) = true := by simp [hd]
          have HD0 := Lib.hid hd
          clear hd
          go_wp2_with fail
          go_round
          case rel =>
            refine ⟨_, k, c'', t, rfl, by omega, hc'', Lib.hid ⟨?_, ?_, ?_⟩⟩
            · have := HS.out.1.init
              rw [HK.out] at this
              exact this
            · have := HS.out.2.1
              rw [HD0.out, rdy_take] at this
              exact this
            · have := HS.out.2.2
              cases t with
              | nil => simp
              | cons x y => simpa using this
          case measure => simp
        · have ht : ((d : Int) == 0) = false := by simp; omega
          have HD0 := Lib.hid hd
          clear hd
          go_wp2_with fail
          obtain ⟨r0, r1, r2⟩ := cells3 (Blk.new w 63 #[.bool neg, .slice (some ⟨b, o, none⟩) (k + 1) c'', .int .i64 E])
          have hbl := (Below.refl w.heap.size w).alloc (Nat.le_refl _) (.cells #[.bool neg, .slice (some ⟨b, o, none⟩) (k + 1) c'', .int .i64 E] 63)
          exact bodyPost_ret (v := .agg #[.bool neg, .slice (some ⟨b, o, none⟩) (k + 1) c'', .int .i64 E]) (by simp [results, Try.results70, go_sem, r0, r1, r2]) rfl
            ⟨neg, _, k + 1, c'', E, t ++ [d], rfl, HS.out.1.below hbl, .inr ⟨by simp, HS.out.2.2, by simpa using HD0.out⟩, HS.out.2.1, hbl⟩
end Go.Proofs.Ytlhdcajamempoaa
