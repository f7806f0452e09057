/-
Trsm: solve, times, by what each number is. Conditions: as each says.
-/
import Derived.Test.YtcdhpoikppfjkaaZYTsA
import Derived.Test.YtcdhpoikppfjkaaZYTsE
import Derived.Test.YtcdhpoikppfjkaaZYTrF
set_option linter.unusedVariables false
set_option linter.unusedSimpArgs false
set_option linter.unnecessarySimpa false
namespace Go.Proofs.Ytcdhpoikppfjkaa
open Go.RowKit
attribute [local go_sem ↓] Go.wp_at_zero Go.wp_at_succ

theorem place_injs {i j i' j' L : Nat} (hi : i < L) (hi' : i' < L) (h : i + j * L = i' + j' * L) : i = i' ∧ j = j' := by
  have h1 : (i + j * L) % L = i := by rw [Nat.add_mul_mod_self_right, Nat.mod_eq_of_lt hi]
  have h2 : (i' + j' * L) % L = i' := by rw [Nat.add_mul_mod_self_right, Nat.mod_eq_of_lt hi']
  have h3 : i = i' := by rw [← h1, ← h2, h]
  subst h3
  exact ⟨rfl, Nat.eq_of_mul_eq_mul_right (by omega) (show j * L = j' * L by omega)⟩
theorem MxR.set_ {W : World} {A : Option Addr} {o K C L g p : Nat} {f : Nat → Nat → Nat} (h : MxR W A o K C L f) (hd : ∀ b x, A = some ⟨b, x, none⟩ → b = g → ∀ i, i < K → ∀ k, k < C → x + (o + i + k * L) ≠ p) (v : Value) : MxR (W.setCell ⟨g, p, none⟩ v) A o K C L f := fun i hi k hk => by
  obtain ⟨b, x, e, hc⟩ := h i hi k hk
  refine ⟨b, x, e, (World.cell?_setCell_other W _ _ _ ?_).trans hc⟩
  intro e2
  injection e2 with e3 e4
  exact hd b x e (by first | exact e3 | exact e3.symm) i hi k hk (by first | exact e4 | exact e4.symm)
theorem mxr_part {W : World} {A : Option Addr} {o R L i j rn cn : Nat} {f : Nat → Nat → Nat} (h : MxC W A o R L f) (h3 : i + rn ≤ R) (h4 : j + cn ≤ R) : MxR W A (pOf o L i j rn cn) rn cn L (fun a b => f (i + a) (j + b)) := fun a ha b hb => by
  obtain ⟨bb, x, e, hc⟩ := h (i + a) (by omega) (j + b) (by omega)
  refine ⟨bb, x, e, ?_⟩
  rw [pOf_pos (by omega) (by omega), show o + i + j * L + a + b * L = o + (i + a) + (j + b) * L by rw [Nat.add_mul]; omega]
  exact hc
/-- What is asked of a system and its right sides. -/
structure TsH (w0 : World) (A : Option Addr) (nm cm o R L : Nat) (f : Nat → Nat → Nat) (g n c : Nat) (l : List Nat) (o2 C L2 : Nat) : Prop where
  hnm : nm < 1048576
  hL : I64 L
  hRb : R < 1048576
  hL1 : 1 ≤ L
  hRL : R ≤ L
  hmr : R = 0 ∨ R = 0 ∨ o + (R - 1) * L + (R - 1) < nm
  ho : I64 o
  hln : l.length = n
  hn : n < 1048576
  hCb : C < 1048576
  hL2 : I64 L2
  hL21 : 1 ≤ L2
  hRL2 : R ≤ L2
  hxr : R = 0 ∨ C = 0 ∨ o2 + (C - 1) * L2 + (R - 1) < n
  ho2 : I64 o2
  hWl : Wds l
  hf : ∀ i k, f i k < 18446744073709551616
  hap : ∀ b x, A = some ⟨b, x, none⟩ → b = g → ∀ i, i < R → ∀ k, k < R → x + (o + i + k * L) < n ∧ ∀ a, a < R → ∀ j, j < C → x + (o + i + k * L) ≠ o2 + a + j * L2
  hmt : ∀ W y, Chg [g] w0 W → Own W g y → y.length = n → ∀ off r k ld off' r' k' ld' : Nat, I64 off → I64 r → I64 k → I64 ld → I64 off' → I64 r' → I64 k' → I64 ld' →
    (r = 0 ∨ k = 0 ∨ ((R ≠ 0 ∧ C ≠ 0) ∧ o2 ≤ off ∧ off + (k - 1) * ld + (r - 1) ≤ o2 + (C - 1) * L2 + (R - 1))) → (r' = 0 ∨ k' = 0 ∨ (o ≤ off' ∧ off' + (k' - 1) * ld' + (r' - 1) ≤ o + (R - 1) * L + (R - 1))) →
    Calls Try.prog 30 #[mat (some ⟨g, 0, none⟩) n c off r k ld, mat A nm cm off' r' k' ld'] W fun e w' => e = .returned (.bool false) ∧ Below W.heap.size W w'
/-- What the numbers are, and that the matrix is as it was. -/
def TsW (A : Option Addr) (o R L : Nat) (f : Nat → Nat → Nat) (g : Nat) (l : List Nat) (o2 C L2 : Nat) (Z : Nat → Nat → Nat) (W : World) : Prop := ∃ y, Imr l o2 R C L2 (fun i j r => Is r (Z j i)) y ∧ Own W g y ∧ MxC W A o R L f
theorem TsW.nxt {A : Option Addr} {o R L : Nat} {f : Nat → Nat → Nat} {g : Nat} {l : List Nat} {o2 C L2 : Nat} {Z : Nat → Nat → Nat} {W W' : World} (h : TsW A o R L f g l o2 C L2 Z W) (hb : Below W.heap.size W W') : TsW A o R L f g l o2 C L2 Z W' := by
  obtain ⟨y, h1, h2, h3⟩ := h
  exact ⟨y, h1, h2.nxt hb, h3.below hb⟩
theorem TsW.congr {A : Option Addr} {o R L : Nat} {f : Nat → Nat → Nat} {g : Nat} {l : List Nat} {o2 C L2 : Nat} {Z Z' : Nat → Nat → Nat} {W : World} (h : TsW A o R L f g l o2 C L2 Z W) (e : ∀ j, j < C → ∀ i, i < R → Z j i = Z' j i) : TsW A o R L f g l o2 C L2 Z' W := by
  obtain ⟨y, h1, h2, h3⟩ := h
  exact ⟨y, h1.congr fun i hi j hj r hr => by rw [← e j hj i hi]; exact hr, h2, h3⟩
theorem tsW_wds {l y : List Nat} {o R C L : Nat} {Z : Nat → Nat → Nat} (hl : Wds l) (h : Imr l o R C L (fun i j r => Is r (Z j i)) y) : Wds y := by
  intro b hb
  obtain ⟨k, hk, rfl⟩ := List.mem_iff_getElem.1 hb
  rw [← getD_of_lt hk]
  by_cases e : ∃ i, i < R ∧ ∃ j, j < C ∧ k = o + i + j * L
  · obtain ⟨i, hi, j, hj, rfl⟩ := e
    exact (h.2.1 i hi j hj).lt
  · rw [h.2.2 k (fun i hi j hj e3 => e ⟨i, hi, j, hj, e3⟩)]
    rw [h.1] at hk
    rw [getD_of_lt hk]
    exact hl.at_ k hk
/-- The matrix stays as it was. -/
theorem mxc_chg {w0 : World} {A : Option Addr} {nm cm o R L : Nat} {f : Nat → Nat → Nat} {g n c : Nat} {l : List Nat} {o2 C L2 : Nat} (H : TsH w0 A nm cm o R L f g n c l o2 C L2) {W W' : World} {y y' : List Nat} (hM : MxC W A o R L f) (hO : Own W g y) (hO' : Own W' g y') (hc : Chg [g] W W') (hy : y.length = n) (hy' : y'.length = n) (hk : ∀ p, (∀ a, a < R → ∀ j, j < C → p ≠ o2 + a + j * L2) → y'.getD p 0 = y.getD p 0) : MxC W' A o R L f := fun i hi k hk2 => by
  obtain ⟨b, x, e, hcell⟩ := hM i hi k hk2
  refine ⟨b, x, e, ?_⟩
  by_cases hb : b = g
  · obtain ⟨hlt, hne⟩ := H.hap b x e hb i hi k hk2
    subst hb
    have h1 := hO.get (x + (o + i + k * L)) (by rw [hy]; exact hlt)
    have h2 := hO'.get (x + (o + i + k * L)) (by rw [hy']; exact hlt)
    have h3 := hk _ hne
    rw [getD_of_lt (by rw [hy']; exact hlt), getD_of_lt (by rw [hy]; exact hlt)] at h3
    rw [h2, h3, ← h1, hcell]
  · exact hc.cell (by simpa using hb) hcell
theorem part_in {o L R C i j rn cn : Nat} (h3 : i + rn ≤ R) (h4 : j + cn ≤ C) : rn = 0 ∨ cn = 0 ∨ (o ≤ pOf o L i j rn cn ∧ pOf o L i j rn cn + (cn - 1) * L + (rn - 1) ≤ o + (C - 1) * L + (R - 1)) := by
  by_cases h : rn = 0 ∨ cn = 0
  · omega
  · have h1 : (j + (cn - 1)) * L ≤ (C - 1) * L := Nat.mul_le_mul_right L (by omega)
    rw [Nat.add_mul] at h1
    rw [pOf_pos (by omega) (by omega)]
    omega
theorem col_in {o L R C i j rn : Nat} (h3 : i + rn ≤ R) (h4 : j < C) : 1 = 0 ∨ rn = 0 ∨ ((R ≠ 0 ∧ C ≠ 0) ∧ o ≤ pOf o L i j rn 1 ∧ pOf o L i j rn 1 + (rn - 1) * 1 + (1 - 1) ≤ o + (C - 1) * L + (R - 1)) := by
  rcases part_in (o := o) (L := L) h3 (show j + 1 ≤ C by omega) with h | h | h
  · omega
  · omega
  · omega
theorem tsHZ1 (f : Nat → Nat → Nat) (R : Nat) : trHZ 1 f R = false := by
  unfold trHZ
  rw [List.any_eq_false]
  intro i _
  have : trV 1 f i i = 4607182418800017408 := by unfold trV; rw [if_pos rfl, if_pos rfl]
  rw [this, trZ0_one]
  decide
/-- A block of a column is solved. -/
def tsZs (Z : Nat → Nat → Nat) (F : Nat → Nat) (J b s : Nat) (j i : Nat) : Nat := if j = J ∧ b ≤ i ∧ i < b + s then F i else Z j i
theorem tssolve_nat {w0 : World} {A : Option Addr} {nm cm o R L : Nat} {f : Nat → Nat → Nat} {g n c : Nat} {l : List Nat} {o2 C L2 : Nat} (H : TsH w0 A nm cm o R L f g n c l o2 C L2) (kd : Nat) (hk : kd = 1 ∨ kd = 2) (J b s : Nat) (hJ : J < C) (hb : b + s ≤ R) {x : Nat → Nat} {E : Nat → Nat → Nat} {F : Nat → Nat} (hS : TrS kd R (trV kd f) x E F) (hz : kd = 2 → tsHZ f R = false) {Z : Nat → Nat → Nat} {W : World} (hW : TsW A o R L f g l o2 C L2 Z W) (hc : Chg [g] w0 W) (hE : ∀ p, p < s → Z J (b + p) = E (b + p) (tsT kd R b s)) :
    Calls Try.prog 19 #[.agg #[.int .i64 (kd : Int), .slice A nm cm, .int .i64 (o : Int), .int .i64 (R : Int), .int .i64 (R : Int), .int .i64 (L : Int), .slice (some ⟨g, 0, none⟩) n c, .int .i64 (o2 : Int), .int .i64 (R : Int), .int .i64 (C : Int), .int .i64 (L2 : Int)], .agg #[.int .i64 (b : Int), .int .i64 (s : Int)], .int .i64 J] W fun e w' => e = .returned (.tuple #[]) ∧ TsW A o R L f g l o2 C L2 (tsZs Z F J b s) w' ∧ Chg [g] W w' := by
  have hk4 : kd = 1 ∨ kd = 2 ∨ kd = 3 ∨ kd = 4 := by rcases hk with h | h <;> simp [h]
  have hRb := H.hRb
  have hCb := H.hCb
  refine tssolve_any kd A nm cm o R R L _ n c o2 R C L2 b s J (pOf o L b b s s : Nat) s s (pOf o2 L2 b J s 1 : Nat) s _ W
    (fun W' => tswithin_nat kd A nm cm o R R L _ n c o2 R C L2 b b s s H.hnm H.ho H.hL H.hRb H.hRb H.hL1 H.hRL H.hmr hb hb W')
    (fun W' => tscolumn_nat kd A nm cm o R R L _ n c o2 R C L2 b s J H.hn H.ho2 H.hL2 H.hRb H.hCb H.hL21 H.hRL2 H.hxr hb hJ W') fun W' hb' => ?_
  obtain ⟨y, hI, hO, hM⟩ := hW
  have hyl : y.length = n := hI.1.trans H.hln
  have hWy := tsW_wds H.hWl hI
  obtain ⟨E', F', hS'⟩ := trS_exists kd s (trV kd (fun i k => f (b + i) (b + k))) (fun p => y.getD (pOf o2 L2 b J s 1 + p * 1) 0) hk4
  have hpl : ∀ q, q < s → pOf o2 L2 b J s 1 + q * 1 = o2 + (b + q) + J * L2 := fun q hq => by rw [pOf_pos (by omega) (by omega)]; omega
  have hxr := pOf_right H.hRL2 H.hxr hb (show J + 1 ≤ C by omega)
  have hxr2 : s = 0 ∨ pOf o2 L2 b J s 1 + (s - 1) * 1 < n := by rcases hxr with h | h | h <;> omega
  have hmr2 := pOf_right H.hRL H.hmr hb hb
  have hpI := pOf_I64 H.hn H.ho2 H.hRL2 H.hxr hb (show J + 1 ≤ C by omega)
  have hmI := pOf_I64 H.hnm H.ho H.hRL H.hmr hb hb
  have i1 : I64 ((1 : Nat) : Int) := by unfold I64; omega
  have is : I64 (s : Int) := by unfold I64; omega
  have hMp : MxC W' A (pOf o L b b s s) s L (fun i k => f (b + i) (b + k)) := mxr_part (hM.below hb') hb hb
  have hcW' : Chg [g] w0 W' := hc.nxt hb'
  have hOW' := hO.nxt hb'
  refine (trsv_ok kd hk4 A nm cm (pOf o L b b s s) s L (fun i k => f (b + i) (b + k)) g n c (pOf o2 L2 b J s 1) 1 y E' F' W' H.hnm H.hL (by omega) H.hL1 (by have := H.hRL; omega) hmr2 hmI H.hn hpI i1 (Nat.le_refl 1) hxr2
    (fun W2 hb2 => trmeets_any _ n c _ s 1 A nm cm _ s s L false W2 fun W3 hb3 => H.hmt W3 y ((hcW'.nxt hb2).nxt hb3) ((hOW'.nxt hb2).nxt hb3) hyl (pOf o2 L2 b J s 1) 1 s 1 (pOf o L b b s s) s s L hpI i1 is i1 hmI is is H.hL (col_in hb hJ) (part_in hb hb))
    hMp ?_ ?_ hS' hOW' hWy).mono ?_
  · rcases hk with rfl | rfl
    · exact tsHZ1 _ _
    · rw [tsHZ_two]
      have h2 := hz rfl
      cases h3 : tsHZ (fun i k => f (b + i) (b + k)) s
      · rfl
      · unfold tsHZ at h3
        rw [List.any_eq_true] at h3
        obtain ⟨i, hi, h4⟩ := h3
        have := tsHZ_not h2 (show b + i < R by have := List.mem_range.1 hi; omega)
        rw [this] at h4
        cases h4
  · refine TrH.mk hk4 H.hnm H.hL (by omega) H.hL1 (by have := H.hRL; omega) hmr2 hyl H.hn (Nat.le_refl 1) (fun i k => H.hf _ _) (fun q hq => ?_) (fun W9 q v hq h9 => MxR.set_ (C := s) h9 (fun b9 x9 e9 eg i hi k hk9 e => ?_) _) hOW'.lt
    · rcases hxr2 with h | h <;> omega
    · rw [pOf_pos (by omega) (by omega), hpl q hq] at e
      have := (H.hap b9 x9 e9 eg (b + i) (by omega) (b + k) (by omega)).2 (b + q) (by omega) J hJ
      rw [Nat.add_mul] at this
      omega
  · rintro e w' ⟨rfl, y', hT, hO', hC'⟩
    refine ⟨⟨0, rfl⟩, ?_, (Chg.of_below hb').trans hC'⟩
    have hFF := ts_sub hk hS hS' hb H.hf (fun p hp => by
      rw [hpl p hp, ← hE p hp]
      exact hI.2.1 (b + p) (by omega) J hJ)
    refine ⟨y', ⟨hT.1.trans hI.1, fun i hi j hj => ?_, fun p hp => ?_⟩, hO', ?_⟩
    · show Is _ (tsZs Z F J b s j i)
      unfold tsZs
      by_cases h : j = J ∧ b ≤ i ∧ i < b + s
      · rw [if_pos h]
        obtain ⟨rfl, h1, h2⟩ := h
        have h3 := hT.2.1 (i - b) (by omega)
        rw [hpl (i - b) (by omega), show b + (i - b) = i by omega] at h3
        have h4 := hFF (i - b) (by omega)
        rw [show b + (i - b) = i by omega] at h4
        exact h3.trans h4
      · rw [if_neg h, hT.2.2 _ (fun p hp e => h (by
          rw [hpl p hp] at e
          have := place_injs (i := i) (i' := b + p) (L := L2) (j := j) (j' := J) (by have := H.hRL2; omega) (by have := H.hRL2; omega) (by omega)
          omega))]
        exact hI.2.1 i hi j hj
    · rw [hT.2.2 p (fun q hq e => hp (b + q) (by omega) J hJ (by rw [e, hpl q hq])), hI.2.2 p hp]
    · exact mxc_chg H (hM.below hb') hOW' hO' hC' hyl (hT.1.trans hyl) (fun p hp => hT.2.2 p (fun q hq e => hp (b + q) (by omega) J hJ (by rw [e, hpl q hq])))
theorem vec_meet {g n o2 L2 J r rn k cn : Nat} (hr : ∀ q, q < rn → pOf o2 L2 r J rn 1 + q * 1 = o2 + (r + q) + J * L2) (hk : ∀ q, q < cn → pOf o2 L2 k J cn 1 + q * 1 = o2 + (k + q) + J * L2) (hd : r + rn ≤ k ∨ k + cn ≤ r) :
    (bothB n ((pOf o2 L2 r J rn 1 : Nat) : Int) 1 (rn : Int) 1 n ((pOf o2 L2 k J cn 1 : Nat) : Int) 1 (cn : Int) 1 && decide (g = g) && (decide (((pOf o2 L2 r J rn 1 : Nat) : Int) ≤ lastI ((pOf o2 L2 k J cn 1 : Nat) : Int) 1 (cn : Int) 1) && decide (((pOf o2 L2 k J cn 1 : Nat) : Int) ≤ lastI ((pOf o2 L2 r J rn 1 : Nat) : Int) 1 (rn : Int) 1))) = false := by
  by_cases h1 : rn = 0
  · subst h1
    unfold bothB; simp
  · by_cases h2 : cn = 0
    · subst h2
      unfold bothB; simp
    · have a1 := hr 0 (by omega)
      have a2 := hr (rn - 1) (by omega)
      have b1 := hk 0 (by omega)
      have b2 := hk (cn - 1) (by omega)
      unfold lastI
      rcases hd with hd | hd
      · have : decide (((pOf o2 L2 k J cn 1 : Nat) : Int) ≤ ((pOf o2 L2 r J rn 1 : Nat) : Int) + (1 - 1) + ((rn : Int) - 1) * 1) = false := decide_eq_false (by omega)
        rw [this, Bool.and_false, Bool.and_false]
      · have : decide (((pOf o2 L2 r J rn 1 : Nat) : Int) ≤ ((pOf o2 L2 k J cn 1 : Nat) : Int) + (1 - 1) + ((cn : Int) - 1) * 1) = false := decide_eq_false (by omega)
        rw [this, Bool.false_and, Bool.and_false]
/-- What columns came to is taken off the rows. -/
def tsZt (f : Nat → Nat → Nat) (Z : Nat → Nat → Nat) (J r rn k cn : Nat) (j i : Nat) : Nat := if j = J ∧ r ≤ i ∧ i < r + rn then trE (fun q => f i (k + q)) (Z J i) id (fun q => Z J (k + q)) cn else Z j i
theorem tstimes_nat {w0 : World} {A : Option Addr} {nm cm o R L : Nat} {f : Nat → Nat → Nat} {g n c : Nat} {l : List Nat} {o2 C L2 : Nat} (H : TsH w0 A nm cm o R L f g n c l o2 C L2) (kd : Int) (J r rn k cn : Nat) (hJ : J < C) (hr : r + rn ≤ R) (hk : k + cn ≤ R) (hd : r + rn ≤ k ∨ k + cn ≤ r) {Z : Nat → Nat → Nat} {W : World} (hW : TsW A o R L f g l o2 C L2 Z W) (hc : Chg [g] w0 W) :
    Calls Try.prog 37 #[.agg #[.int .i64 kd, .slice A nm cm, .int .i64 (o : Int), .int .i64 (R : Int), .int .i64 (R : Int), .int .i64 (L : Int), .slice (some ⟨g, 0, none⟩) n c, .int .i64 (o2 : Int), .int .i64 (R : Int), .int .i64 (C : Int), .int .i64 (L2 : Int)], .agg #[.int .i64 (r : Int), .int .i64 (rn : Int)], .agg #[.int .i64 (k : Int), .int .i64 (cn : Int)], .int .i64 J] W fun e w' => e = .returned (.tuple #[]) ∧ TsW A o R L f g l o2 C L2 (tsZt f Z J r rn k cn) w' ∧ Chg [g] W w' := by
  have hRb := H.hRb
  have hCb := H.hCb
  refine tstimes_any kd A nm cm o R R L _ n c o2 R C L2 r rn k cn J (pOf o L r k rn cn : Nat) rn cn (pOf o2 L2 k J cn 1 : Nat) cn (pOf o2 L2 r J rn 1 : Nat) rn _ W
    (fun W' => tswithin_nat kd A nm cm o R R L _ n c o2 R C L2 r k rn cn H.hnm H.ho H.hL H.hRb H.hRb H.hL1 H.hRL H.hmr hr hk W')
    (fun W' => tscolumn_nat kd A nm cm o R R L _ n c o2 R C L2 k cn J H.hn H.ho2 H.hL2 H.hRb H.hCb H.hL21 H.hRL2 H.hxr hk hJ W')
    (fun W' => tscolumn_nat kd A nm cm o R R L _ n c o2 R C L2 r rn J H.hn H.ho2 H.hL2 H.hRb H.hCb H.hL21 H.hRL2 H.hxr hr hJ W') fun W' hb' => ?_
  obtain ⟨y, hI, hO, hM⟩ := hW
  have hyl : y.length = n := hI.1.trans H.hln
  have hWy := tsW_wds H.hWl hI
  have hplr : ∀ q, q < rn → pOf o2 L2 r J rn 1 + q * 1 = o2 + (r + q) + J * L2 := fun q hq => by rw [pOf_pos (by omega) (by omega)]; omega
  have hplk : ∀ q, q < cn → pOf o2 L2 k J cn 1 + q * 1 = o2 + (k + q) + J * L2 := fun q hq => by rw [pOf_pos (by omega) (by omega)]; omega
  have hyr := pOf_right H.hRL2 H.hxr hr (show J + 1 ≤ C by omega)
  have hyr2 : rn = 0 ∨ pOf o2 L2 r J rn 1 + (rn - 1) * 1 < n := by rcases hyr with h | h | h <;> omega
  have hxr := pOf_right H.hRL2 H.hxr hk (show J + 1 ≤ C by omega)
  have hxr2 : cn = 0 ∨ pOf o2 L2 k J cn 1 + (cn - 1) * 1 < n := by rcases hxr with h | h | h <;> omega
  have hmr2 := pOf_right H.hRL H.hmr hr hk
  have hyI := pOf_I64 H.hn H.ho2 H.hRL2 H.hxr hr (show J + 1 ≤ C by omega)
  have hxI := pOf_I64 H.hn H.ho2 H.hRL2 H.hxr hk (show J + 1 ≤ C by omega)
  have hmI := pOf_I64 H.hnm H.ho H.hRL H.hmr hr hk
  have i1 : I64 ((1 : Nat) : Int) := by unfold I64; omega
  have irn : I64 (rn : Int) := by unfold I64; omega
  have icn : I64 (cn : Int) := by unfold I64; omega
  have hMp : MxR W' A (pOf o L r k rn cn) rn cn L (fun a b => f (r + a) (k + b)) := mxr_part (hM.below hb') hr hk
  have hcW' : Chg [g] w0 W' := hc.nxt hb'
  have hOW' := hO.nxt hb'
  have hX : VCells W' g y (pOf o2 L2 k J cn 1) cn 1 := vcells_own hOW' hyl hxr2
  have m1 := mat_right H.hL1 (show rn ≤ L by have := H.hRL; omega) hmr2
  have v1 : vecB n ((pOf o2 L2 k J cn 1 : Nat) : Int) (cn : Int) 1 = true := vec_right (i := 1) (Nat.le_refl 1) hxr2
  have v2 : vecB n ((pOf o2 L2 r J rn 1 : Nat) : Int) (rn : Int) 1 = true := vec_right (i := 1) (Nat.le_refl 1) hyr2
  have hn := H.hn
  have hnm := H.hnm
  have hFit : ∀ W2, Below W'.heap.size W' W2 → Calls Try.prog 66 #[mat A nm cm ((pOf o L r k rn cn : Nat) : Int) rn cn L, vec (some ⟨g, 0, none⟩) n c ((pOf o2 L2 k J cn 1 : Nat) : Int) cn 1, vec (some ⟨g, 0, none⟩) n c ((pOf o2 L2 r J rn 1 : Nat) : Int) rn 1, .int .i64 (cn : Int), .int .i64 (rn : Int)] W2 fun e w' => e = .returned (.int .i64 0) ∧ Below W2.heap.size W2 w' := fun W2 hb2 =>
    gvfits_ok A nm cm _ rn cn L _ n c _ cn 1 _ n c _ rn 1 W2 (by omega) hmI irn icn H.hL (by omega) hxI icn i1 (by omega) hyI irn i1 (by rw [m1, v1, v2]; rfl)
      (fun W3 hb3 => H.hmt W3 y ((hcW'.nxt hb2).nxt hb3) ((hOW'.nxt hb2).nxt hb3) hyl (pOf o2 L2 r J rn 1) 1 rn 1 (pOf o L r k rn cn) rn cn L hyI i1 irn i1 hmI irn icn H.hL (col_in hr hJ) (part_in hr hk))
      (fun W3 hb3 => by
        have := meet_own g g c c y y ((pOf o2 L2 r J rn 1 : Nat) : Int) 1 rn 1 ((pOf o2 L2 k J cn 1 : Nat) : Int) 1 cn 1 W3 ((hOW'.nxt hb2).nxt hb3) ((hOW'.nxt hb2).nxt hb3) (by omega) hyI i1 irn i1 (by omega) hxI i1 icn i1
        rw [hyl, vec_meet hplr hplk hd] at this
        exact this)
  refine (gvmul4_ok 13830554455654793216 4607182418800017408 g c n y (pOf o2 L2 r J rn 1) rn 1 A cm nm (fun a b => f (r + a) (k + b)) (pOf o L r k rn cn) cn L g c n y (pOf o2 L2 k J cn 1) 1 W' hOW' hyl H.hn (Nat.le_refl 1) hyr2 hMp H.hnm H.hL1 (by have := H.hRL; omega) hmr2 hX H.hn (Nat.le_refl 1) hxr2 hmI H.hL hxI i1 (by omega) (by omega)
    (fun W9 q v hq h9 => h9.set_ (fun b9 x9 e9 eg i hi kk hk9 e => by
      rw [pOf_pos (by omega) (by omega), hplr q hq] at e
      have := (H.hap b9 x9 e9 eg (r + i) (by omega) (k + kk) (by omega)).2 (r + q) (by omega) J hJ
      rw [Nat.add_mul] at this
      omega) _)
    (fun _ b hb q hq e => by rw [hplr q hq, hplk b hb] at e; omega) hFit).mono ?_
  rintro e w' ⟨rfl, m, hm1, hm2, hO', hC'⟩
  refine ⟨⟨0, rfl⟩, ?_, (Chg.of_below hb').trans hC'⟩
  have hat : ∀ q, q < rn → (wrt y (pOf o2 L2 r J rn 1) 1 m rn).getD (o2 + (r + q) + J * L2) 0 = m.getD q 0 := fun q hq => by
    rw [← hplr q hq]
    exact wrt_at y _ 1 m rn (Nat.le_refl 1) (by rw [hyl]; exact hyr2) hq
  have hel : ∀ p, (∀ q, q < rn → p ≠ o2 + (r + q) + J * L2) → (wrt y (pOf o2 L2 r J rn 1) 1 m rn).getD p 0 = y.getD p 0 := fun p hp => wrt_else y _ 1 m rn (fun q hq e => hp q hq (by rw [← hplr q hq]; exact e))
  refine ⟨_, ⟨(wrt_length _ _ _ _ _).trans hI.1, fun i hi j hj => ?_, fun p hp => ?_⟩, hO', ?_⟩
  · show Is _ (tsZt f Z J r rn k cn j i)
    unfold tsZt
    by_cases h : j = J ∧ r ≤ i ∧ i < r + rn
    · rw [if_pos h]
      obtain ⟨rfl, h1, h2⟩ := h
      have h3 := hm2 (i - r) (by omega)
      have h4 := hat (i - r) (by omega)
      rw [show r + (i - r) = i by omega] at h4
      rw [h4]
      have h5 := hI.2.1 i hi j hj
      have h6 := hplr (i - r) (by omega)
      rw [show r + (i - r) = i by omega] at h6
      rw [h6] at h3
      have h7 := MulP.is_ (fm := fun a b => f (r + a) (k + b)) (G := fun q => Z j (k + q)) h5 (fun _ _ => H.hf _ _) (fun q hq => by rw [hplk q hq]; exact hI.2.1 (k + q) (by omega) j hj) h3
      have e9 : (fun b => f (r + (i - r)) (k + b)) = fun q => f i (k + q) := by rw [show r + (i - r) = i by omega]
      rw [e9] at h7
      exact h7
    · rw [if_neg h, hel _ (fun q hq e => h (by
        have := place_injs (i := i) (i' := r + q) (L := L2) (j := j) (j' := J) (by have := H.hRL2; omega) (by have := H.hRL2; omega) (by omega)
        omega))]
      exact hI.2.1 i hi j hj
  · rw [hel p (fun q hq e => hp (r + q) (by omega) J hJ e), hI.2.2 p hp]
  · exact mxc_chg H (hM.below hb') hOW' hO' hC' hyl ((wrt_length _ _ _ _ _).trans hyl) (fun p hp => hel p (fun q hq e => hp (r + q) (by omega) J hJ e))
end Go.Proofs.Ytcdhpoikppfjkaa
