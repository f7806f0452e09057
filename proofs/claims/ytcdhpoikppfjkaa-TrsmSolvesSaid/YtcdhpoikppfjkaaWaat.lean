/-
Trsm: Solve with lists of their own, or in one list; with an error. Conditions: as each says.
-/
import Derived.Test.YtcdhpoikppfjkaaZYTsI
import Derived.Test.YtcdhpoikppfjkaaWaar
import Derived.Test.YtcdhpoikppfjkaaWaag
import Derived.Test.YtcdhpoikppfjkaaWaas
import Derived.Test.YtcdhpoikppfjkaaZYTrC
import Derived.Test.YtcdhpoikppfjkaaWaae
import Derived.Test.YtcdhpoikppfjkaaZYVwH
import Derived.Test.YtcdhpoikppfjkaaWaai
import Derived.Test.YtcdhpoikppfjkaaWaal
set_option linter.unusedVariables false
set_option linter.unusedSimpArgs false
set_option linter.unnecessarySimpa false
namespace Go.Proofs.Ytcdhpoikppfjkaa
open Go.RowKit
attribute [local go_sem ↓] Go.wp_at_zero Go.wp_at_succ

theorem run_sameAddr_nearQ {P : Program} {w : World} {b o g : Nat} {t : TypeId} {cs : Array Value} {v : Value} (hne : b ≠ g) (hc : w.cell? ⟨b, o, none⟩ = some v) (hf : w.frozen? ⟨b, o, none⟩ = false) (hB : Blk w g t cs) (hs : 0 < cs.size) :
    (sameAddr ⟨g, 0, none⟩ ⟨b, o, none⟩).run P w = .ok false w := by
  obtain ⟨ca, ta, fr, ha, m, hm⟩ : ∃ ca ta fr, w.heap[b]? = some (.cells ca ta fr) ∧ ∃ m, ca.size = m + 1 := by
    unfold World.cell? at hc
    simp only at hc
    split at hc
    · rename_i ca ta fr h
      refine ⟨ca, ta, fr, h, ca.size - 1, ?_⟩
      have h1 := (Array.getElem?_eq_some_iff.1 hc).1
      omega
    · cases hc
  have hg := hB
  unfold Blk at hg
  have hs0 : cs.size ≠ 0 := by omega
  obtain ⟨lo, hi⟩ := fr
  have hf' : (decide (lo ≤ o) && decide (o < hi)) = false := by
    simpa [World.frozen?, ha] using hf
  have hg2 : g ≠ b := fun e => hne e.symm
  cases h1 : decide (lo ≤ m + 1) && decide (m + 1 < hi)
  all_goals simp [sameAddr, hg2, World.frozen?, ha, hg, hf', noView, viewAt, World.shape?, mayBeOne, stringish, hs0, h1, hm]
theorem run_eql_nearQ {W : World} {b o g : Nat} {t : TypeId} {cs : Array Value} {v : Value} (hne : b ≠ g) (hc : W.cell? ⟨b, o, none⟩ = some v) (hf : W.frozen? ⟨b, o, none⟩ = false) (hB : Blk W g t cs) (hs : 0 < cs.size) :
    (binOp .eql 75 (.pointer (some ⟨g, 0, none⟩)) (.pointer (some ⟨b, o, none⟩))).run Try.prog W = .ok (.bool false) W := by
  have hz : (Try.prog.info? 43).map (fun i => i.size) = some 1 := by kernel_rfl
  obtain ⟨j, hj, hsz⟩ := Option.map_eq_some_iff.1 hz
  have h0 := run_sameAddr_nearQ (P := Try.prog) hne hc hf hB hs
  have h : ∀ d : Nat, (Op.equalIn (d + 1) 75 (.pointer (some ⟨g, 0, none⟩)) (.pointer (some ⟨b, o, none⟩))).run Try.prog W = .ok false W := fun d => by
    simp [Op.equalIn, run_underlying Try.underlying75, sizeOf, typeInfo, hj, hsz, h0]
  simp only [binOp]
  simp [Op.equal, Op.maxDepth, h 9999]
theorem both_pos2Q {n n' : Nat} {off r k ld off' r' k' ld' : Int} (h : bothB n off r k ld n' off' r' k' ld' = true) : 0 < n ∧ 0 < n' := by
  unfold bothB at h
  simp only [Bool.and_eq_true, Bool.not_eq_true', Bool.or_eq_false_iff, beq_eq_false_iff_ne, ne_eq] at h
  have g1 := of_decide_eq_true h.1.1.1
  have g2 := of_decide_eq_true h.1.1.2
  have h0 : 0 ≤ (k - 1) * ld := Int.mul_nonneg (by omega) (by omega)
  have h1 : 0 ≤ (k' - 1) * ld' := Int.mul_nonneg (by omega) (by omega)
  omega
theorem meet_mineQ (g cN : Nat) (l : List Nat) (n : Nat) (off r k ld : Int) (A : Option Addr) (n' c' : Nat) (l' : List Nat) (off' r' k' ld' : Int) (w : World) (hO : Own w g l) (hl : l.length = n) (hA : Row w A (f64s l')) (hl' : l'.length = n') (hfz : ∀ b o, A = some ⟨b, o, none⟩ → l' ≠ [] → w.frozen? ⟨b, o, none⟩ = false) (hne : ∀ b o, A = some ⟨b, o, none⟩ → l' ≠ [] → b ≠ g)
    (hn : n < 9223372036854775808) (hn' : n' < 9223372036854775808) (ho : I64 off) (hr : I64 r) (hk : I64 k) (hi : I64 ld) (ho' : I64 off') (hr' : I64 r') (hk' : I64 k') (hi' : I64 ld') :
    Calls Try.prog 30 #[mat (some ⟨g, 0, none⟩) n cN off r k ld, mat A n' c' off' r' k' ld'] w fun e w' => e = .returned (.bool false) ∧ Below w.heap.size w w' := by
  cases hb : bothB n off r k ld n' off' r' k' ld'
  · exact meet_none _ _ cN off r k ld _ _ c' off' r' k' ld' w hn ho hr hk hi hn' ho' hr' hk' hi' hb
  · have h0 := both_pos2Q hb
    have hl2 : l' ≠ [] := by rintro rfl; simp at hl'; omega
    obtain ⟨b, o, rfl, hbl, hcell⟩ := hA.at_ (f64s_get l' 0 (by omega))
    have hfr := hfz b o rfl hl2
    have hbg := hne b o rfl hl2
    refine meet_far g 0 _ cN off r k ld b o _ c' off' r' k' ld' w hn ho hr hk hi hn' ho' hr' hk' hi' hb h0.1 h0.2 fun W hW => ?_
    obtain ⟨cs, hB, ht⟩ := hO.nxt hW
    refine run_eql_nearQ hbg (cell_below hcell hW) ((hW.frozen (p := ⟨b, o, none⟩) hbl).trans hfr) hB ?_
    have h1 : (cs.toList.take l.length).length = l.length := by rw [ht]; simp [f64s]
    rw [List.length_take] at h1
    simp at h1; omega

/-- A list that is read lies anywhere but in block g. -/
def FarQ (W : World) (A : Option Addr) (l : List Nat) (g : Nat) : Prop := Row W A (f64s l) ∧ (∀ p q, A = some ⟨p, q, none⟩ → l ≠ [] → W.frozen? ⟨p, q, none⟩ = false) ∧ ∀ p q, A = some ⟨p, q, none⟩ → l ≠ [] → p ≠ g
theorem FarQ.lt {W : World} {A : Option Addr} {l : List Nat} {g p q : Nat} (h : FarQ W A l g) (e : A = some ⟨p, q, none⟩) (hl : l ≠ []) : p < W.heap.size := by
  have h0 : 0 < l.length := List.length_pos_iff.2 hl
  obtain ⟨b', o', e', hlt, _⟩ := h.1.at_ (f64s_get l 0 h0)
  rw [e] at e'
  injection e' with e'
  injection e' with e1 e2
  subst e1
  exact hlt
theorem FarQ.nxt {W W' : World} {A : Option Addr} {l : List Nat} {g : Nat} (h : FarQ W A l g) (hb : Below W.heap.size W W') : FarQ W' A l g :=
  ⟨h.1.below hb, fun p q e hl => (hb.frozen (p := ⟨p, q, none⟩) (h.lt e hl)).trans (h.2.1 p q e hl), h.2.2⟩
theorem FarQ.chg {W W' : World} {A : Option Addr} {l : List Nat} {g : Nat} (h : FarQ W A l g) (hc : Chg [g] W W') : FarQ W' A l g := by
  refine ⟨?_, fun p q e hl => ?_, h.2.2⟩
  · rcases h.1 with h1 | ⟨p, q, e, h1⟩
    · exact .inl h1
    · by_cases hz : l = []
      · rw [hz]; exact .inl rfl
      · exact .inr ⟨p, q, e, fun i v hi => hc.cell (by simpa using h.2.2 p q e hz) (h1 i v hi)⟩
  · have hk := hc.block p (h.lt e hl) (by simpa using h.2.2 p q e hl)
    have := h.2.1 p q e hl
    unfold World.frozen? at this ⊢
    simp only at this ⊢
    rw [hk]
    exact this
theorem farq_meet (g c : Nat) (l : List Nat) (n : Nat) (off r k ld : Int) (A : Option Addr) (n' c' : Nat) (l' : List Nat) (off' r' k' ld' : Int) (W : World) (hO : Own W g l) (hl : l.length = n) (hA : FarQ W A l' g) (hl' : l'.length = n')
    (hn : n < 9223372036854775808) (hn' : n' < 9223372036854775808) (ho : I64 off) (hr : I64 r) (hk : I64 k) (hi : I64 ld) (ho' : I64 off') (hr' : I64 r') (hk' : I64 k') (hi' : I64 ld') :
    Calls Try.prog 30 #[mat (some ⟨g, 0, none⟩) n c off r k ld, mat A n' c' off' r' k' ld'] W fun e w' => e = .returned (.bool false) ∧ Below W.heap.size W w' :=
  meet_mineQ g c l n off r k ld A n' c' l' off' r' k' ld' W hO hl hA.1 hl' hA.2.1 hA.2.2 hn hn' ho hr hk hi ho' hr' hk' hi'

theorem tsH_far (w0 : World) (A : Option Addr) (nm cm o R L : Nat) (lm : List Nat) (g n c : Nat) (l : List Nat) (o2 C L2 : Nat) (hF : FarQ w0 A lm g) (hlm : lm.length = nm) (hnm : nm < 1048576) (hL : I64 L) (hRb : R < 1048576) (hL1 : 1 ≤ L) (hRL : R ≤ L) (hmr : R = 0 ∨ R = 0 ∨ o + (R - 1) * L + (R - 1) < nm) (ho : I64 o) (hWm : Wds lm) (hln : l.length = n) (hn : n < 1048576) (hCb : C < 1048576) (hL2 : I64 L2) (hL21 : 1 ≤ L2) (hRL2 : R ≤ L2) (hxr : R = 0 ∨ C = 0 ∨ o2 + (C - 1) * L2 + (R - 1) < n) (ho2 : I64 o2) (hWl : Wds l) :
    TsH w0 A nm cm o R L (fun i k => lm.getD (o + i + k * L) 0) g n c l o2 C L2 :=
  ⟨hnm, hL, hRb, hL1, hRL, hmr, ho, hln, hn, hCb, hL2, hL21, hRL2, hxr, ho2, hWl, fun i k => tr_wds hWm _, fun b x e hb i hi k hk => by
    have hne : lm ≠ [] := fun h => by
      rw [h] at hlm
      simp at hlm
      rcases hmr with h | h | h <;> omega
    exact (hF.2.2 b x e hne hb).elim, fun W y hc hO hy off r k ld off' r' k' ld' i1 i2 i3 i4 j1 j2 j3 j4 _ _ =>
    farq_meet g c y n off r k ld A nm cm lm off' r' k' ld' W hO hy (hF.chg hc) hlm (by omega) (by omega) i1 i2 i3 i4 j1 j2 j3 j4⟩
theorem one_meet {n o R L o2 C L2 off r k ld off' r' k' ld' : Nat} (ha : Away o R R L o2 R C L2) (h1 : r = 0 ∨ k = 0 ∨ ((R ≠ 0 ∧ C ≠ 0) ∧ o2 ≤ off ∧ off + (k - 1) * ld + (r - 1) ≤ o2 + (C - 1) * L2 + (R - 1))) (h2 : r' = 0 ∨ k' = 0 ∨ (o ≤ off' ∧ off' + (k' - 1) * ld' + (r' - 1) ≤ o + (R - 1) * L + (R - 1))) :
    (bothB n (off : Int) (r : Int) (k : Int) (ld : Int) n (off' : Int) (r' : Int) (k' : Int) (ld' : Int) && (decide ((off : Int) ≤ lastI (off' : Int) (r' : Int) (k' : Int) (ld' : Int)) && decide ((off' : Int) ≤ lastI (off : Int) (r : Int) (k : Int) (ld : Int)))) = false := by
  by_cases hz : r = 0 ∨ k = 0
  · have : (!((r : Int) == 0 || (k : Int) == 0)) = false := by rcases hz with h | h <;> simp [h]
    unfold bothB
    rw [this]; simp
  by_cases hz2 : r' = 0 ∨ k' = 0
  · have : (!((r' : Int) == 0 || (k' : Int) == 0)) = false := by rcases hz2 with h | h <;> simp [h]
    unfold bothB
    rw [this]; simp
  have e1 := last_mat (o := off) (R := r) (C := k) (L := ld) (fun h => hz (.inl h)) (fun h => hz (.inr h))
  have e2 := last_mat (o := off') (R := r') (C := k') (L := ld') (fun h => hz2 (.inl h)) (fun h => hz2 (.inr h))
  rw [e1, e2]
  have b1 := h1.resolve_left (fun h => hz (.inl h)) |>.resolve_left (fun h => hz (.inr h))
  have b2 := h2.resolve_left (fun h => hz2 (.inl h)) |>.resolve_left (fun h => hz2 (.inr h))
  have b3 := b1.1
  unfold Away at ha
  generalize (C - 1) * L2 = p at *
  generalize (R - 1) * L = q at *
  generalize (k - 1) * ld = s at *
  generalize (k' - 1) * ld' = t at *
  rcases ha with h | h | h | h
  · omega
  · omega
  · have : decide ((off : Int) ≤ ((off' + t + (r' - 1) : Nat) : Int)) = false := decide_eq_false (by omega)
    rw [this]; simp
  · have : decide ((off' : Int) ≤ ((off + s + (r - 1) : Nat) : Int)) = false := decide_eq_false (by omega)
    rw [this]; simp
theorem away_ne {o R L o2 C L2 i k a j : Nat} (ha : Away o R R L o2 R C L2) (hi : i < R) (hk : k < R) (haR : a < R) (hj : j < C) : o + i + k * L ≠ o2 + a + j * L2 := fun e => by
  have h1 : k * L ≤ (R - 1) * L := Nat.mul_le_mul_right L (by omega)
  have h2 : j * L2 ≤ (C - 1) * L2 := Nat.mul_le_mul_right L2 (by omega)
  unfold Away at ha
  rcases ha with h | h | h | h <;> omega
theorem tsH_near (w0 : World) (cm o R L : Nat) (g n c : Nat) (l : List Nat) (o2 C L2 : Nat) (ha : Away o R R L o2 R C L2) (hL : I64 L) (hRb : R < 1048576) (hL1 : 1 ≤ L) (hRL : R ≤ L) (hmr : R = 0 ∨ R = 0 ∨ o + (R - 1) * L + (R - 1) < n) (ho : I64 o) (hln : l.length = n) (hn : n < 1048576) (hCb : C < 1048576) (hL2 : I64 L2) (hL21 : 1 ≤ L2) (hRL2 : R ≤ L2) (hxr : R = 0 ∨ C = 0 ∨ o2 + (C - 1) * L2 + (R - 1) < n) (ho2 : I64 o2) (hWl : Wds l) :
    TsH w0 (some ⟨g, 0, none⟩) n cm o R L (fun i k => l.getD (o + i + k * L) 0) g n c l o2 C L2 :=
  ⟨hn, hL, hRb, hL1, hRL, hmr, ho, hln, hn, hCb, hL2, hL21, hRL2, hxr, ho2, hWl, fun i k => tr_wds hWl _, fun b x e hb i hi k hk => by
    injection e with e
    injection e with e1 e2
    subst e2
    rw [Nat.zero_add]
    exact ⟨tr_lt hmr hi hk, fun a haR j hj => away_ne ha hi hk haR hj⟩, fun W y hc hO hy off r k ld off' r' k' ld' i1 i2 i3 i4 j1 j2 j3 j4 h1 h2 => by
    have := meet_own g g c cm y y off r k ld off' r' k' ld' W hO hO (by omega) i1 i2 i3 i4 (by omega) j1 j2 j3 j4
    rw [hy, show decide (g = g) = true from decide_eq_true rfl, Bool.and_true, one_meet ha h1 h2] at this
    exact this⟩
/-- Solve, without an error. -/
theorem ts_ok {w : World} {A : Option Addr} {nm cm o R L : Nat} {f : Nat → Nat → Nat} {g n c : Nat} {l : List Nat} {o2 C L2 : Nat} (H : TsH w A nm cm o R L f g n c l o2 C L2) (kd : Nat) (hk : kd = 1 ∨ kd = 2) (S : Nat) (hS1 : 1 ≤ S) (hS2 : S < 9223372036854775808) (hR4 : R ≤ 4096) {E : Nat → Nat → Nat → Nat} {F : Nat → Nat → Nat} (hS : ∀ j, TrS kd R (trV kd f) (fun p => l.getD (o2 + p + j * L2) 0) (E j) (F j)) (hz : kd = 2 → tsHZ f R = false)
    (hO : Own w g l) (hM : MxC w A o R L f) :
    Calls Try.prog 8 #[.int .i64 (kd : Int), .int .i64 (S : Int), mat A nm cm o R R L, mat (some ⟨g, 0, none⟩) n c o2 R C L2] w fun e w' => e = .returned (.int .i64 0) ∧ ∃ y, Imr l o2 R C L2 (fun i j r => Is r (F j i)) y ∧ Own w' g y ∧ Chg [g] w w' := by
  have hRb := H.hRb
  have hCb := H.hCb
  have hn := H.hn
  have hnm := H.hnm
  have iR : I64 (R : Int) := by unfold I64; omega
  have iC : I64 (C : Int) := by unfold I64; omega
  have hW : TsW A o R L f g l o2 C L2 (fun j i => l.getD (o2 + i + j * L2) 0) w := ⟨l, ⟨rfl, fun i hi j hj => Is.refl (tr_wds H.hWl _), fun _ _ => rfl⟩, hO, hM⟩
  refine (tsSolve_ok H kd hk S hS1 hS2 hR4 hS hz hW fun W hb => tsfits_any kd S A nm cm o R R L _ n c o2 R C L2 0 W true true false false false (tsHZ f R)
    (fun W' => by have := good_any A nm cm o R R L W' (by omega) H.ho iR iR H.hL; rw [mat_right H.hL1 H.hRL H.hmr] at this; exact this)
    (fun W' => by have := good_any (some ⟨g, 0, none⟩) n c o2 R C L2 W' (by omega) H.ho2 iR iC H.hL2; rw [mat_right H.hL21 H.hRL2 H.hxr] at this; exact this)
    (by simp) (by simp) (fun _ _ W' hb' => H.hmt W' l ((Chg.of_below hb).nxt hb') ((hO.nxt hb).nxt hb') H.hln o2 R C L2 o R R L H.ho2 iR iC H.hL2 H.ho iR iR H.hL (by by_cases h1 : R = 0 <;> by_cases h2 : C = 0 <;> simp [h1, h2]) (.inr (.inr ⟨Nat.le_refl _, Nat.le_refl _⟩)))
    (fun _ _ _ _ W' hb' => tshaszero_any kd A nm cm o R L f _ n c o2 R C L2 W' ((hM.below hb).below hb') H.hnm H.hL H.hRb H.hL1 H.hRL H.hmr) ?_).mono ?_
  · have h1 : ¬ (((kd : Int) ≠ 1 ∧ (kd : Int) ≠ 2) ∨ (S : Int) < 1) := by omega
    have h2 : ¬ ((kd : Int) = 2 ∧ tsHZ f R = true) := fun ⟨a, b⟩ => by
      rw [hz (by omega)] at b; cases b
    simp [h2]
    omega
  · rintro e w' ⟨e1, ⟨y, h1, h2, _⟩, h3⟩
    exact ⟨e1, y, h1, h2, h3⟩
/-- Solve, with an error. -/
theorem ts_err (kd size : Int) (A : Option Addr) (n c : Nat) (o r k ld : Int) (A2 : Option Addr) (n2 c2 : Nat) (o2 r2 k2 ld2 : Int) (E : Int) (w : World) (m1 hz : Bool) (hE0 : E ≠ 0) (hn : n < 9223372036854775808) (ho : I64 o) (hr : I64 r) (hk : I64 k) (hi : I64 ld) (hn2 : n2 < 9223372036854775808) (ho2 : I64 o2) (hr2 : I64 r2) (hk2 : I64 k2) (hi2 : I64 ld2)
    (hM : (matB n o r k ld && matB n2 o2 r2 k2 ld2) = true → ((r != k) || (r2 != r)) = false → ∀ W, Below w.heap.size w W → Calls Try.prog 30 #[mat A2 n2 c2 o2 r2 k2 ld2, mat A n c o r k ld] W fun e w' => e = .returned (.bool m1) ∧ Below W.heap.size W w')
    (hZ : kd = 2 → (matB n o r k ld && matB n2 o2 r2 k2 ld2) = true → ((r != k) || (r2 != r)) = false → m1 = false → ∀ W, Below w.heap.size w W → Calls Try.prog 31 #[.agg #[.int .i64 kd, .slice A n c, .int .i64 o, .int .i64 r, .int .i64 k, .int .i64 ld, .slice A2 n2 c2, .int .i64 o2, .int .i64 r2, .int .i64 k2, .int .i64 ld2]] W fun e w' => e = .returned (.bool hz) ∧ Below W.heap.size W w')
    (hE : E = if ((kd ≠ 1 ∧ kd ≠ 2) ∨ size < 1) ∨ (matB n o r k ld && matB n2 o2 r2 k2 ld2) = false then 1 else if ((r != k) || (r2 != r)) = true then 3 else if m1 = true then 2 else if kd = 2 ∧ hz = true then 4 else 0) :
    Calls Try.prog 8 #[.int .i64 kd, .int .i64 size, mat A n c o r k ld, mat A2 n2 c2 o2 r2 k2 ld2] w fun e w' => e = .returned (.int .i64 E) ∧ Below w.heap.size w w' :=
  tsSolve_err kd A n c o r k ld A2 n2 c2 o2 r2 k2 ld2 size E w hE0 fun W hb => tsfits_any kd size A n c o r k ld A2 n2 c2 o2 r2 k2 ld2 E W _ _ _ _ m1 hz (fun W' => good_any A n c o r k ld W' hn ho hr hk hi) (fun W' => good_any A2 n2 c2 o2 r2 k2 ld2 W' hn2 ho2 hr2 hk2 hi2) rfl rfl (fun a b W' hb' => hM a b W' (below_nx hb hb')) (fun a b c d W' hb' => hZ a b c d W' (below_nx hb hb')) hE
end Go.Proofs.Ytcdhpoikppfjkaa
/-
Trsv: the document's Part, its Apply, one step of its Solve. Conditions: as each says.
-/
set_option linter.unusedVariables false
set_option linter.unusedSimpArgs false
set_option linter.unnecessarySimpa false
namespace Go.Proofs.Ytcdhpoikppfjkaa
open Go.RowKit
attribute [local go_sem ↓] Go.wp_at_zero Go.wp_at_succ

theorem trat_any (R C gT N cT : Nat) (T : List Nat) (a b : Nat) (w : World) (hT : Row w (some ⟨gT, 0, none⟩) (f64s T)) (hTl : T.length = N) (hN : N < 1048576) (hab : a * C + b < N) :
    Calls Try.prog 28 #[.agg #[.int .i64 R, .int .i64 C, .slice (some ⟨gT, 0, none⟩) N cT], .int .i64 (a : Int), .int .i64 (b : Int)] w fun e w' => e = .returned (.float .f64 (T.getD (a * C + b) 0)) ∧ Below w.heap.size w w' := by
  have hPl : a * C + b < T.length := by rw [hTl]; exact hab
  obtain ⟨gb, x, hgx, _, hcell0⟩ := hT.at_ (f64s_get T _ hPl)
  injection hgx with hgx
  injection hgx with hg1 hg2
  subst hg1
  subst hg2
  have hv : T.getD (a * C + b) 0 = T[a * C + b] := getD_of_lt hPl
  rw [hv]
  have HB := Lib.hid ((Below.refl w.heap.size w).alloc (Nat.le_refl _) (.cells #[.int .i64 R, .int .i64 C, .slice (some ⟨gT, 0, none⟩) N cT] 31))
  have hcell := cell_below hcell0 HB.out
  generalize T[a * C + b] = v at *
  obtain ⟨p, hp⟩ : ∃ p, a * C = p := ⟨_, rfl⟩
  obtain ⟨P, hPd⟩ : ∃ P, p + b = P := ⟨_, rfl⟩
  have e1 : ((a : Int) * (C : Int)) = (p : Int) := by rw [← hp]; simp
  have e2 : (p : Int) + (b : Int) = (P : Int) := by rw [← hPd]; simp
  have hPN : P < N := by rw [← hPd, ← hp]; exact hab
  have HW := Lib.hid (wrap3 (o := b) (a := p) (P := P) (by omega) (by rw [← hPd, Nat.add_comm]))
  rw [hp, hPd, Nat.zero_add] at hcell
  have b1 : (P : Int) < (N : Int) := by omega
  have b0 : (0 : Int) ≤ (P : Int) := by omega
  have b2 := hPN
  clear hPl hcell0 hv hp hPd hPN hT hTl hab
  obtain ⟨u1, u2, u3, u4⟩ := HW.out
  go_enter Try.func28, Try.ntmps28
  go_wp2_with fail
  go_ret
  exact ⟨rfl, HB.out⟩

theorem rless_any (x y : Nat) (w : World) : Calls Try.prog 56 #[.float .f64 x, .float .f64 y] w fun e w' => ∃ r, e = .returned (.float .f64 r) ∧ Comes .sub x y r ∧ Below w.heap.size w w' := by
  go_enter Try.func56, Try.ntmps56
  go_wp2_with fail
  go_ret
  exact ⟨_, rfl, fres_comes _ _ _ _, below_drewN (Below.refl _ _) _⟩
theorem rover_any (x y : Nat) (w : World) : Calls Try.prog 39 #[.float .f64 x, .float .f64 y] w fun e w' => ∃ r, e = .returned (.float .f64 r) ∧ Comes .quo x y r ∧ Below w.heap.size w w' := by
  go_enter Try.func39, Try.ntmps39
  go_wp2_with fail
  go_ret
  exact ⟨_, rfl, fres_comes _ _ _ _, below_drewN (Below.refl _ _) _⟩
theorem rsub9_any (x a b : Nat) (w : World) : Calls Try.prog 38 #[.float .f64 x, .float .f64 a, .float .f64 b] w fun e w' => ∃ r, e = .returned (.float .f64 r) ∧ (∃ p, Comes .mul a b p ∧ Comes .sub x p r) ∧ Below w.heap.size w w' := by
  go_enter Try.func38, Try.ntmps38
  go_wp2_with fail
  refine (rtimes_any a b _).mono ?_
  rintro e w1 ⟨p, rfl, hp, hb⟩
  have HB1 := Lib.hid hb
  have HP := Lib.hid hp
  clear hb hp
  go_wp2_with fail
  refine (rless_any x p _).mono ?_
  rintro e w2 ⟨r, rfl, hr, hb⟩
  have HB2 := Lib.hid (below_nx HB1.out hb)
  have HR := Lib.hid hr
  clear hb hr
  go_wp2_with fail
  go_ret
  exact ⟨r, rfl, ⟨p, HP.out, HR.out⟩, HB2.out⟩

end Go.Proofs.Ytcdhpoikppfjkaa
/-
Trsv: the document's Solve, what its walk holds. Conditions: as each says.
-/
set_option linter.unusedVariables false
set_option linter.unusedSimpArgs false
set_option linter.unnecessarySimpa false
namespace Go.Proofs.Ytcdhpoikppfjkaa
open Go.RowKit
attribute [local go_sem ↓] Go.wp_at_zero Go.wp_at_succ

/-- What a walk of the document's Solve holds: a list of its own whose numbers are these. -/
def RtW (w : World) (R gT N cT : Nat) (T : List Nat) (g : Nat) (Z : Nat → Nat) (wr : World) : Prop :=
  ∃ y, (y.length = R ∧ ∀ p, p < R → Is (y.getD p 0) (Z p)) ∧ Own wr g y ∧ Row wr (some ⟨gT, 0, none⟩) (f64s T) ∧ Blk wr w.heap.size 31 #[.int .i64 R, .int .i64 R, .slice (some ⟨gT, 0, none⟩) N cT] ∧ Below w.heap.size w wr ∧ w.heap.size + 1 ≤ g
theorem RtW.congr {w wr : World} {R gT N cT : Nat} {T : List Nat} {g : Nat} {Z Z' : Nat → Nat} (h : RtW w R gT N cT T g Z wr) (e : ∀ p, p < R → Z p = Z' p) : RtW w R gT N cT T g Z' wr := by
  obtain ⟨y, ⟨h1, h2⟩, h3⟩ := h
  exact ⟨y, ⟨h1, fun p hp => by rw [← e p hp]; exact h2 p hp⟩, h3⟩
theorem RtW.nxt {w wr W : World} {R gT N cT : Nat} {T : List Nat} {g : Nat} {Z : Nat → Nat} (h : RtW w R gT N cT T g Z wr) (hb : Below wr.heap.size wr W) : RtW w R gT N cT T g Z W := by
  obtain ⟨y, h1, h2, h3, h4, h5, h6⟩ := h
  exact ⟨y, h1, h2.nxt hb, h3.below hb, h4.nxt hb, below_nx h5 hb, h6⟩
theorem RtW.put {w wr W : World} {R gT N cT : Nat} {T : List Nat} {g : Nat} {Z Z' : Nat → Nat} {q r z : Nat} (h : RtW w R gT N cT T g Z wr) (hgT : N ≠ 0 → gT < w.heap.size) (hTl : T.length = N) (hq : q < R) (hb : Below wr.heap.size wr W) (hr : Is r z) (hZ : ∀ p, p < R → (if p = q then z else Z p) = Z' p) :
    RtW w R gT N cT T g Z' (W.setCell ⟨g, q, none⟩ (.float .f64 r)) := by
  obtain ⟨y, ⟨h1, h2⟩, h3, h4, h5, h6, h7⟩ := h
  have hql : q < y.length := by rw [h1]; exact hq
  refine ⟨y.set q r, ⟨by rw [List.length_set]; exact h1, fun p hp => ?_⟩, (h3.nxt hb).set_ _ _ hql, ?_, (h5.nxt hb).other (by show w.heap.size ≠ g; omega) _, (below_nx h6 hb).setCell (p := ⟨g, q, none⟩) (by show w.heap.size ≤ g; omega) _, h7⟩
  · rw [← hZ p hp]
    by_cases e : p = q
    · rw [if_pos e, e, getD_set_self hql]; exact hr
    · rw [if_neg e, getD_set_ne _ (fun e2 => e e2.symm)]; exact h2 p hp
  · rcases Nat.eq_zero_or_pos N with e | e
    · have : T = [] := List.length_eq_zero_iff.1 (by omega)
      subst this
      exact .inl rfl
    · have hg := hgT (by omega)
      rcases h4.below hb with h | ⟨b, o, e1, hc⟩
      · exact .inl h
      · refine .inr ⟨b, o, e1, fun i v hi => ?_⟩
        injection e1 with e1; injection e1 with e2 _
        exact (cell_set (by show b ≠ g; omega) _).trans (hc i v hi)
/-- What the document's Solve answers, if no number on the diagonal is 0. -/
def RtSd (R : Nat) (F : Nat → Nat) (w : World) (e : Ending) (w' : World) : Prop :=
  ∃ g c y, e = .returned (.tuple #[.slice (some ⟨g, 0, none⟩) R c, .bool true]) ∧ (y.length = R ∧ ∀ p, p < R → Is (y.getD p 0) (F p)) ∧ Own w' g y ∧ w.heap.size ≤ g ∧ Below w.heap.size w w'
end Go.Proofs.Ytcdhpoikppfjkaa
