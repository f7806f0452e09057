/-
Trsv: the document's Part, its Apply, one step of its Solve. Conditions: as each says.
-/
import Derived.Test.YtlhdcajamempoaaZTrC
import Derived.Test.YtlhdcajamempoaaSag
import Derived.Test.YtlhdcajamempoaaZVwH
import Derived.Test.YtlhdcajamempoaaSan
import Derived.Test.YtlhdcajamempoaaSay
set_option linter.unusedVariables false
set_option linter.unusedSimpArgs false
set_option linter.unnecessarySimpa false
namespace Go.Proofs.Ytlhdcajamempoaa
open Go.RowKit
attribute [local go_sem ↓] Go.wp_at_zero Go.wp_at_succ

theorem trat_any (R C gT N cT : Nat) (T : List Nat) (a b : Nat) (w : World) (hT : Row w (some ⟨gT, 0, none⟩) (f64s T)) (hTl : T.length = N) (hN : N < 1048576) (hab : a * C + b < N) :
    Calls Try.prog 60 #[.agg #[.int .i64 R, .int .i64 C, .slice (some ⟨gT, 0, none⟩) N cT], .int .i64 (a : Int), .int .i64 (b : Int)] w fun e w' => e = .returned (.float .f64 (T.getD (a * C + b) 0)) ∧ Below w.heap.size w w' := by
  have hPl : a * C + b < T.length := by rw [hTl]; exact hab
  obtain ⟨gb, x, hgx, _, hcell0⟩ := hT.at_ (f64s_get T _ hPl)
  injection hgx with hgx
  injection hgx with hg1 hg2
  subst hg1
  subst hg2
  have hv : T.getD (a * C + b) 0 = T[a * C + b] := getD_of_lt hPl
  rw [hv]
  have HB := Lib.hid ((Below.refl w.heap.size w).alloc (Nat.le_refl _) (.cells #[.int .i64 R, .int .i64 C, .slice (some ⟨gT, 0, none⟩) N cT] 47))
  have hcell := cell_below hcell0 HB.out
  generalize T[a * C + b] = v at *
  obtain ⟨p, hp⟩ : ∃ p, a * C = p := ⟨_, rfl⟩
  obtain ⟨P, hPd⟩ : ∃ P, p + b = P := ⟨_, rfl⟩
  have e1 : ((a : Int) * (C : Int)) = (p : Int) := by rw [← hp]; simp
  have e2 : (p : Int) + (b : Int) = (P : Int) := by rw [← hPd]; simp
  have hPN : P < N := by rw [← hPd, ← hp]; exact hab
  have HW := Lib.hid (wrap3 (o := b) (a := p) (P := P) (by omega) (by rw [← hPd, Nat.add_comm]))
  rw [hp, hPd, Nat.zero_add] at hcell
  have b1 : (P : Int) < (N : Int) := by omega
  have b0 : (0 : Int) ≤ (P : Int) := by omega
  have b2 := hPN
  clear hPl hcell0 hv hp hPd hPN hT hTl hab
  obtain ⟨u1, u2, u3, u4⟩ := HW.out
  go_enter Try.func60, Try.ntmps60
  go_wp2_with fail
  go_ret
  exact ⟨rfl, HB.out⟩

theorem rless_any (x y : Nat) (w : World) : Calls Try.prog 93 #[.float .f64 x, .float .f64 y] w fun e w' => ∃ r, e = .returned (.float .f64 r) ∧ Comes .sub x y r ∧ Below w.heap.size w w' := by
  go_enter Try.func93, Try.ntmps93
  go_wp2_with fail
  go_ret
  exact ⟨_, rfl, fres_comes _ _ _ _, below_drewN (Below.refl _ _) _⟩
theorem rover_any (x y : Nat) (w : World) : Calls Try.prog 62 #[.float .f64 x, .float .f64 y] w fun e w' => ∃ r, e = .returned (.float .f64 r) ∧ Comes .quo x y r ∧ Below w.heap.size w w' := by
  go_enter Try.func62, Try.ntmps62
  go_wp2_with fail
  go_ret
  exact ⟨_, rfl, fres_comes _ _ _ _, below_drewN (Below.refl _ _) _⟩
theorem rsub9_any (x a b : Nat) (w : World) : Calls Try.prog 61 #[.float .f64 x, .float .f64 a, .float .f64 b] w fun e w' => ∃ r, e = .returned (.float .f64 r) ∧ (∃ p, Comes .mul a b p ∧ Comes .sub x p r) ∧ Below w.heap.size w w' := by
  go_enter Try.func61, Try.ntmps61
  go_wp2_with fail
  refine (rtimes_any a b _).mono ?_
  rintro e w1 ⟨p, rfl, hp, hb⟩
  have HB1 := Lib.hid hb
  have HP := Lib.hid hp
  clear hb hp
  go_wp2_with fail
  refine (rless_any x p _).mono ?_
  rintro e w2 ⟨r, rfl, hr, hb⟩
  have HB2 := Lib.hid (below_nx HB1.out hb)
  have HR := Lib.hid hr
  clear hb hr
  go_wp2_with fail
  go_ret
  exact ⟨r, rfl, ⟨p, HP.out, HR.out⟩, HB2.out⟩

set_option maxHeartbeats 1000000 in
theorem trpart1 (R gT N cT : Nat) (T : List Nat) (i k : Nat) (w : World) (hT : Row w (some ⟨gT, 0, none⟩) (f64s T)) (hTl : T.length = N) (hN : R * R = N) (hNb : N < 1048576) (hi : i < R) (hk : k < R) :
    Calls Try.prog 36 #[.int .i64 1, tbl R R gT N cT, .int .i64 (i : Int), .int .i64 (k : Int)] w fun e w' => e = .returned (.tuple #[.float .f64 (trV 1 (fun i k => T.getD (i * R + k) 0) i k), .bool (trT 1 i k)]) ∧ Below w.heap.size w w' := by
  have HA := Lib.hid (fun W (hb : Below w.heap.size w W) => trat_any R R gT N cT T i k W (hT.below hb) hTl hNb (by rw [← hN]; exact tab_lt hi hk))
  clear hT hTl hN hNb hi hk
  unfold tbl at *
  by_cases h : i = k
  · have e1 : trV 1 (fun i k => T.getD (i * R + k) 0) i k = 4607182418800017408 := by unfold trV; simp [h]
    have e2 : trT 1 i k = true := by unfold trT; simp [h]
    have e3 : ((i : Int) == (k : Int)) = true := by simp [h]
    have e4 : (i == k) = true := by simp [h]
    rw [e1, e2]
    subst h
    clear HA
    go_enter Try.func36, Try.ntmps36
    have HB := Lib.hid ((Below.refl w.heap.size w).alloc (Nat.le_refl _) (.cells #[.int .i64 R, .int .i64 R, .slice (some ⟨gT, 0, none⟩) N cT] 47))
    have HZ := Lib.hid (Blk.new w 47 #[.int .i64 R, .int .i64 R, .slice (some ⟨gT, 0, none⟩) N cT])
    obtain ⟨z0, z1, z2⟩ := cells3v HZ.out
    go_wp2_with fail
    go_ret2
    exact ⟨rfl, HB.out⟩
  · have e1 : trV 1 (fun i k => T.getD (i * R + k) 0) i k = T.getD (i * R + k) 0 := by unfold trV; simp [h]
    have e2 : trT 1 i k = decide (k < i) := by
      unfold trT
      simp
      omega
    have e3 : ((i : Int) == (k : Int)) = false := by simp; omega
    have e4 : (i == k) = false := by simp [h]
    have e5 : ¬ (i : Int) = (k : Int) := by omega
    rw [e1, e2]
    go_enter Try.func36, Try.ntmps36
    have HB := Lib.hid ((Below.refl w.heap.size w).alloc (Nat.le_refl _) (.cells #[.int .i64 R, .int .i64 R, .slice (some ⟨gT, 0, none⟩) N cT] 47))
    have HZ := Lib.hid (Blk.new w 47 #[.int .i64 R, .int .i64 R, .slice (some ⟨gT, 0, none⟩) N cT])
    obtain ⟨z0, z1, z2⟩ := cells3v HZ.out
    go_wp2_with fail
    refine (HA.out _ HB.out).mono ?_
    rintro e w1 ⟨rfl, hb⟩
    have HB1 := Lib.hid (below_nx HB.out hb)
    clear hb z0 z1 z2
    go_wp2_with fail
    go_ret2
    exact ⟨rfl, HB1.out⟩

set_option maxHeartbeats 1000000 in
theorem trpart2 (R gT N cT : Nat) (T : List Nat) (i k : Nat) (w : World) (hT : Row w (some ⟨gT, 0, none⟩) (f64s T)) (hTl : T.length = N) (hN : R * R = N) (hNb : N < 1048576) (hi : i < R) (hk : k < R) :
    Calls Try.prog 36 #[.int .i64 2, tbl R R gT N cT, .int .i64 (i : Int), .int .i64 (k : Int)] w fun e w' => e = .returned (.tuple #[.float .f64 (trV 2 (fun i k => T.getD (i * R + k) 0) i k), .bool (trT 2 i k)]) ∧ Below w.heap.size w w' := by
  have HA := Lib.hid (fun W (hb : Below w.heap.size w W) => trat_any R R gT N cT T i k W (hT.below hb) hTl hNb (by rw [← hN]; exact tab_lt hi hk))
  clear hT hTl hN hNb hi hk
  unfold tbl at *
  have e1 : trV 2 (fun i k => T.getD (i * R + k) 0) i k = T.getD (i * R + k) 0 := by unfold trV; simp
  have e2 : trT 2 i k = decide (i ≤ k) := by unfold trT; simp
  rw [e1, e2]
  go_enter Try.func36, Try.ntmps36
  have HB := Lib.hid ((Below.refl w.heap.size w).alloc (Nat.le_refl _) (.cells #[.int .i64 R, .int .i64 R, .slice (some ⟨gT, 0, none⟩) N cT] 47))
  have HZ := Lib.hid (Blk.new w 47 #[.int .i64 R, .int .i64 R, .slice (some ⟨gT, 0, none⟩) N cT])
  obtain ⟨z0, z1, z2⟩ := cells3v HZ.out
  go_wp2_with fail
  refine (HA.out _ HB.out).mono ?_
  rintro e w1 ⟨rfl, hb⟩
  have HB1 := Lib.hid (below_nx HB.out hb)
  clear hb z0 z1 z2
  go_wp2_with fail
  go_ret2
  exact ⟨rfl, HB1.out⟩

set_option maxHeartbeats 1000000 in
theorem trpart3 (R gT N cT : Nat) (T : List Nat) (i k : Nat) (w : World) (hT : Row w (some ⟨gT, 0, none⟩) (f64s T)) (hTl : T.length = N) (hN : R * R = N) (hNb : N < 1048576) (hi : i < R) (hk : k < R) :
    Calls Try.prog 36 #[.int .i64 3, tbl R R gT N cT, .int .i64 (i : Int), .int .i64 (k : Int)] w fun e w' => e = .returned (.tuple #[.float .f64 (trV 3 (fun i k => T.getD (i * R + k) 0) i k), .bool (trT 3 i k)]) ∧ Below w.heap.size w w' := by
  have HA := Lib.hid (fun W (hb : Below w.heap.size w W) => trat_any R R gT N cT T k i W (hT.below hb) hTl hNb (by rw [← hN]; exact tab_lt hk hi))
  clear hT hTl hN hNb hi hk
  unfold tbl at *
  by_cases h : k = i
  · have e1 : trV 3 (fun i k => T.getD (i * R + k) 0) i k = 4607182418800017408 := by unfold trV; simp [h]
    have e2 : trT 3 i k = true := by unfold trT; simp [h]
    have e3 : ((k : Int) == (i : Int)) = true := by simp [h]
    have e4 : (k == i) = true := by simp [h]
    rw [e1, e2]
    subst h
    clear HA
    go_enter Try.func36, Try.ntmps36
    have HB := Lib.hid ((Below.refl w.heap.size w).alloc (Nat.le_refl _) (.cells #[.int .i64 R, .int .i64 R, .slice (some ⟨gT, 0, none⟩) N cT] 47))
    have HZ := Lib.hid (Blk.new w 47 #[.int .i64 R, .int .i64 R, .slice (some ⟨gT, 0, none⟩) N cT])
    obtain ⟨z0, z1, z2⟩ := cells3v HZ.out
    go_wp2_with fail
    go_ret2
    exact ⟨rfl, HB.out⟩
  · have e1 : trV 3 (fun i k => T.getD (i * R + k) 0) i k = T.getD (k * R + i) 0 := by unfold trV; simp [h]
    have e2 : trT 3 i k = decide (i < k) := by
      unfold trT
      simp
      omega
    have e3 : ((k : Int) == (i : Int)) = false := by simp; omega
    have e4 : (k == i) = false := by simp [h]
    have e5 : ¬ (k : Int) = (i : Int) := by omega
    rw [e1, e2]
    go_enter Try.func36, Try.ntmps36
    have HB := Lib.hid ((Below.refl w.heap.size w).alloc (Nat.le_refl _) (.cells #[.int .i64 R, .int .i64 R, .slice (some ⟨gT, 0, none⟩) N cT] 47))
    have HZ := Lib.hid (Blk.new w 47 #[.int .i64 R, .int .i64 R, .slice (some ⟨gT, 0, none⟩) N cT])
    obtain ⟨z0, z1, z2⟩ := cells3v HZ.out
    go_wp2_with fail
    refine (HA.out _ HB.out).mono ?_
    rintro e w1 ⟨rfl, hb⟩
    have HB1 := Lib.hid (below_nx HB.out hb)
    clear hb z0 z1 z2
    go_wp2_with fail
    go_ret2
    exact ⟨rfl, HB1.out⟩

set_option maxHeartbeats 1000000 in
theorem trpart4 (R gT N cT : Nat) (T : List Nat) (i k : Nat) (w : World) (hT : Row w (some ⟨gT, 0, none⟩) (f64s T)) (hTl : T.length = N) (hN : R * R = N) (hNb : N < 1048576) (hi : i < R) (hk : k < R) :
    Calls Try.prog 36 #[.int .i64 4, tbl R R gT N cT, .int .i64 (i : Int), .int .i64 (k : Int)] w fun e w' => e = .returned (.tuple #[.float .f64 (trV 4 (fun i k => T.getD (i * R + k) 0) i k), .bool (trT 4 i k)]) ∧ Below w.heap.size w w' := by
  have HA := Lib.hid (fun W (hb : Below w.heap.size w W) => trat_any R R gT N cT T k i W (hT.below hb) hTl hNb (by rw [← hN]; exact tab_lt hk hi))
  clear hT hTl hN hNb hi hk
  unfold tbl at *
  have e1 : trV 4 (fun i k => T.getD (i * R + k) 0) i k = T.getD (k * R + i) 0 := by unfold trV; simp
  have e2 : trT 4 i k = decide (k ≤ i) := by unfold trT; simp
  rw [e1, e2]
  go_enter Try.func36, Try.ntmps36
  have HB := Lib.hid ((Below.refl w.heap.size w).alloc (Nat.le_refl _) (.cells #[.int .i64 R, .int .i64 R, .slice (some ⟨gT, 0, none⟩) N cT] 47))
  have HZ := Lib.hid (Blk.new w 47 #[.int .i64 R, .int .i64 R, .slice (some ⟨gT, 0, none⟩) N cT])
  obtain ⟨z0, z1, z2⟩ := cells3v HZ.out
  go_wp2_with fail
  refine (HA.out _ HB.out).mono ?_
  rintro e w1 ⟨rfl, hb⟩
  have HB1 := Lib.hid (below_nx HB.out hb)
  clear hb z0 z1 z2
  go_wp2_with fail
  go_ret2
  exact ⟨rfl, HB1.out⟩

theorem trpart_any (kd : Nat) (hkd : kd = 1 ∨ kd = 2 ∨ kd = 3 ∨ kd = 4) (R gT N cT : Nat) (T : List Nat) (i k : Nat) (w : World) (hT : Row w (some ⟨gT, 0, none⟩) (f64s T)) (hTl : T.length = N) (hN : R * R = N) (hNb : N < 1048576) (hi : i < R) (hk : k < R) :
    Calls Try.prog 36 #[.int .i64 (kd : Int), tbl R R gT N cT, .int .i64 (i : Int), .int .i64 (k : Int)] w fun e w' => e = .returned (.tuple #[.float .f64 (trV kd (fun i k => T.getD (i * R + k) 0) i k), .bool (trT kd i k)]) ∧ Below w.heap.size w w' := by
  rcases hkd with rfl | rfl | rfl | rfl
  · exact trpart1 R gT N cT T i k w hT hTl hN hNb hi hk
  · exact trpart2 R gT N cT T i k w hT hTl hN hNb hi hk
  · exact trpart3 R gT N cT T i k w hT hTl hN hNb hi hk
  · exact trpart4 R gT N cT T i k w hT hTl hN hNb hi hk

theorem trAll {q : Nat} {L : List Nat} {P : Nat → Nat → Prop} {s : Nat} (hl : L.length = q) (h : ∀ j, j < q → P j (L.getD j 0)) (hs : P q s) : ∀ j, j < q + 1 → P j ((L ++ [s]).getD j 0) := fun j hj => by
  rcases Nat.lt_or_ge j q with e | e
  · have : (L ++ [s]).getD j 0 = L.getD j 0 := by simp [List.getD, List.getElem?_append_left (show j < L.length by omega)]
    rw [this]; exact h j e
  · obtain rfl : j = q := by omega
    have : (L ++ [s]).getD j 0 = s := by subst hl; simp [List.getD]
    rw [this]; exact hs
/-- What the document's Apply answers. -/
def RApd (kd : Nat) (f : Nat → Nat → Nat) (X : Nat → Nat) (R : Nat) (w : World) (e : Ending) (w' : World) : Prop :=
  ∃ B c l', e = .returned (.slice B R c) ∧ l'.length = R ∧ (∀ i, i < R → Is (l'.getD i 0) (trSum kd f X i R)) ∧ Row w' B (f64s l') ∧ Below w.heap.size w w'

set_option maxRecDepth 100000 in
set_option maxHeartbeats 2000000 in
theorem rtapply_any (kd : Nat) (hkd : kd = 1 ∨ kd = 2 ∨ kd = 3 ∨ kd = 4) (R gT N cT : Nat) (T : List Nat) (A : Option Addr) (c : Nat) (l : List Nat) (w : World) (hT : Row w (some ⟨gT, 0, none⟩) (f64s T)) (hTl : T.length = N) (hN : R * R = N) (hNb : N < 1048576) (hRb : R ≤ 1000) (hWT : Wds T) (hA : Row w A (f64s l)) (hl : l.length = R) (hW : Wds l) :
    Calls Try.prog 29 #[.int .i64 (kd : Int), tbl R R gT N cT, .slice A R c] w (RApd kd (fun i k => T.getD (i * R + k) 0) (fun k => l.getD k 0) R w) := by
  obtain ⟨i0, hi, hz0, hz1, hz2⟩ := fi0
  have HN0 := Lib.hid (fun i k (hi : i < R) (hk : k < R) W (h : Row W (some ⟨gT, 0, none⟩) (f64s T)) => trpart_any kd hkd R gT N cT T i k W h hTl hN hNb hi hk)
  have Hf := Lib.hid (fun i k => trV_lt (kd := kd) (f := fun i k => T.getD (i * R + k) 0) (i := i) (k := k) (fun i k => tr_wds hWT _))
  obtain ⟨f, hf⟩ : ∃ f : Nat → Nat → Nat, (fun i k => T.getD (i * R + k) 0) = f := ⟨_, rfl⟩
  rw [hf] at HN0 Hf ⊢
  obtain ⟨X, hX⟩ : ∃ X : Nat → Nat, X = fun k => l.getD k 0 := ⟨_, rfl⟩
  have HX := Lib.hid (fun k => congrFun hX k)
  rw [← hX]
  have HT := Lib.hid hT
  have HA := Lib.hid hA
  have Hl := Lib.hid hl
  have HW := Lib.hid hW
  clear hkd hT hTl hN hNb hWT hA hl hW hf hX
  unfold tbl at *
  go_enter Try.func29, Try.ntmps29
  have HZ := Lib.hid (Blk.new w 47 #[.int .i64 R, .int .i64 R, .slice (some ⟨gT, 0, none⟩) N cT])
  have HB0 := Lib.hid ((Below.refl w.heap.size w).alloc (Nat.le_refl _) (.cells #[.int .i64 R, .int .i64 R, .slice (some ⟨gT, 0, none⟩) N cT] 47))
  have HT1 := Lib.hid (HT.out.below HB0.out)
  have HA1 := Lib.hid (HA.out.below HB0.out)
  clear HT HA
  go_wp2_with fail
  generalize hw1 : w.alloc (.cells #[.int .i64 R, .int .i64 R, .slice (some ⟨gT, 0, none⟩) N cT] 47) = w1 at *
  have Hz := Lib.hid (show w.heap.size < w1.heap.size from HZ.out.lt)
  generalize hzt : w.heap.size = zt at *
  have Hzt := Lib.hid hzt
  clear hw1 hzt
  go_loopw [7, 8] (fun out i wr => ∃ (q : Nat) (L : List Nat), q ≤ R ∧ i = .int .i64 q ∧ Hid (L.length = q ∧ ∀ j, j < q → Is (L.getD j 0) (trSum kd f X j R)) ∧ wr.ownsRow w1.heap.size 28 1 out q (f64s L) ∧ Below w1.heap.size w1 wr) (fun _ i _ => R - (intOf i).toNat)
  case atStart => exact ⟨0, [], Nat.zero_le _, rfl, Lib.hid ⟨rfl, fun j h => by omega⟩, World.ownsRow_nil _ _ _ _, Below.refl _ _⟩
  case round =>
    obtain ⟨q, L, hq, rfl, HL, hown, hbl⟩ := hrel
    have HBl := Lib.hid hbl
    have HOw0 := Lib.hid hown
    clear hown hbl
    obtain ⟨t0, t1, t2⟩ := cells3v (HZ.out.below HBl.out HZ.out.lt)
    by_cases hlt : q < R
    · have hqc : (q : Int) < (R : Int) := by omega
      have hq0 : (0 : Int) ≤ (q : Int) := by omega
      have hq1 : q + 1 ≤ 1048576 := by omega
      go_wp2_with fail
      clear t0 t1 t2
      generalize wr = wo at *
      go_loopw [9, 10] (fun sv jv wr => ∃ (k s0 : Nat), k ≤ R ∧ sv = .float .f64 s0 ∧ jv = .int .i64 k ∧ Hid (Is s0 (trSum kd f X q k)) ∧ wr.ownsRow w1.heap.size 28 1 u7 q (f64s L) ∧ Below w1.heap.size w1 wr) (fun _ j _ => R - (intOf j).toNat)
      case atStart => exact ⟨0, 0, Nat.zero_le _, rfl, rfl, Lib.hid is_zero0, HOw0.out, HBl.out⟩
      case round =>
        obtain ⟨k, s0, hk, rfl, rfl, HC, hown, hbl⟩ := hrel
        have HBl3 := Lib.hid hbl
        have HOw3 := Lib.hid hown
        clear hown hbl
        have HZ0 := HZ
        replace HZ := Lib.hid (HZ.out.below HBl3.out HZ.out.lt)
        obtain ⟨t0, t1, t2⟩ := cells3v HZ.out
        by_cases hkC : k < R
        · have hkc : (k : Int) < (R : Int) := by omega
          have hk1 : k + 1 ≤ 1048576 := by omega
          have hkl : k < l.length := by rw [Hl.out]; omega
          obtain ⟨bx, ox, rfl, _, hcx0⟩ := HA1.out.at_ (f64s_get l k hkl)
          have HXc0 := cell_below hcx0 HBl3.out
          rw [← getD_of_lt hkl, ← HX.out k] at HXc0
          have hxw := tr_wds HW.out k
          rw [← HX.out k] at hxw
          have HNi := Lib.hid (HN0.out q k hlt hkC wr (HT1.out.below HBl3.out))
          have HTt := Lib.hid (fun (h : trT kd q k = true) (p r : Nat) (h1 : Comes .mul (trV kd f q k) (X k) p) (h2 : Comes .add s0 p r) => show Is r (trSum kd f X q (k + 1)) from by
            show Is r (if trT kd q k = true then _ else _)
            rw [if_pos h]
            exact h2.is_ HC.out (h1.is_ (Is.refl (Hf.out q k)) (Is.refl hxw)))
          have HTf := Lib.hid (fun (h : trT kd q k = false) => show Is s0 (trSum kd f X q (k + 1)) from by
            show Is s0 (if trT kd q k = true then _ else _)
            rw [if_neg (by rw [h]; simp)]
            exact HC.out)
          obtain ⟨v, hv⟩ : ∃ v, trV kd f q k = v := ⟨_, rfl⟩
          obtain ⟨x, hx⟩ : ∃ x, X k = x := ⟨_, rfl⟩
          obtain ⟨b1, hb1⟩ : ∃ b1, trT kd q k = b1 := ⟨_, rfl⟩
          rw [hv, hb1] at HNi
          rw [hb1] at HTf
          rw [hv, hb1, hx] at HTt
          rw [hx] at HXc0
          have HXc := Lib.hid HXc0
          clear hv hx hb1 hxw hcx0 hkl HXc0
          go_wp2_with fail
          refine (HNi.out).mono ?_
          rintro e wa ⟨rfl, hb⟩
          have HOwa := Lib.hid (ownsRow_below HOw3.out hb)
          have HBa := Lib.hid (below_nx HBl3.out hb)
          have HXa := Lib.hid (cell_below HXc.out hb)
          clear hb t0 t1 t2
          cases b1
          · replace HTf := Lib.hid (HTf.out rfl)
            go_wp2_with fail
            go_roundw
            case rel => exact ⟨k + 1, s0, by omega, rfl, by go_num, HTf, HOwa.out, HBa.out⟩
            case measure => simp [intOf] <;> omega
          · replace HTt := Lib.hid (HTt.out rfl)
            have hxc := HXa.out
            go_wp2_with fail
            refine (rtimes_any v x _).mono ?_
            rintro e wb ⟨p, rfl, hp, hb⟩
            have HOwb := Lib.hid (ownsRow_below HOwa.out hb)
            have HBb := Lib.hid (below_nx HBa.out hb)
            have HP := Lib.hid hp
            clear hb hp hxc
            go_wp2_with fail
            refine (rplus_any s0 p _).mono ?_
            rintro e wc ⟨r, rfl, hr, hb⟩
            have HOwc := Lib.hid (ownsRow_below HOwb.out hb)
            have HBc := Lib.hid (below_nx HBb.out hb)
            have HR9 := Lib.hid (HTt.out p r HP.out hr)
            clear hb hr
            go_wp2_with fail
            go_roundw
            case rel => exact ⟨k + 1, r, by omega, rfl, by go_num, HR9, HOwc.out, HBc.out⟩
            case measure => simp [intOf] <;> omega
        · obtain rfl : R = k := by omega
          have hqc2 : ¬ (R : Int) < (R : Int) := by omega
          have HR := Lib.hid (show Is s0 (trSum kd f X q R) from HC.out)
          have HN := Lib.hid (Blk.new wr 28 #[.float .f64 s0])
          have HOw2 := Lib.hid (HOw3.out.alloc (.cells #[.float .f64 s0] 28))
          go_wp2_with (at_builtin; refine wpList_append_own _ rfl _ _ 24 rfl w1.heap.size 28 i0 (.float .f64 0) 1 8 Try.underlying24 hi hz0 hz1 hz2 rfl (by decide) _ q (f64s L) rfl HOw2.out ⟨wr.heap.size, 0, none⟩ 1 1 [.float .f64 s0] rfl rfl ?c1 (by intro u hu; simp at hu; subst hu; rfl) ?c3 ?c4 ?c5 ?_)
          case c3 => unfold maxLen; omega
          case c4 => omega
          case c5 => (try simp); have := HBl3.out.size; omega
          intro v' w' hown' hgrow _
          have HOw9 := Lib.hid (show w'.ownsRow w1.heap.size 28 1 v' (q + 1) (f64s (L ++ [s0])) by rw [f64s_snoc]; exact hown')
          have HBl9 := Lib.hid ((HBl3.out.alloc HBl3.out.size (.cells #[.float .f64 s0] 28)).grown hgrow (by simp; have := HBl3.out.size; omega) (fun k hk => by have := (HOw2.out.lt k hk).1; omega))
          clear hown' hgrow
          go_wp2_with fail
          go_roundw
          case rel => exact ⟨q + 1, L ++ [s0], by omega, by go_num, Lib.hid ⟨by simp [HL.out.1], trAll (P := fun j r => Is r (trSum kd f X j R)) HL.out.1 HL.out.2 HR.out⟩, HOw9.out, HBl9.out⟩
          case measure => simp [intOf] <;> omega
    · obtain rfl : q = R := by omega
      have hqc : ¬ (q : Int) < (q : Int) := by omega
      obtain ⟨B9, d9, rfl, hrow⟩ := own_row HOw0.out HL.out.1.symm
      have HRow := Lib.hid hrow
      clear hrow
      go_wp2_with fail
      go_ret
      exact ⟨B9, d9, L, rfl, HL.out.1, HL.out.2, HRow.out, below_nx (by rw [Hzt.out]; exact HB0.out) HBl.out⟩

end Go.Proofs.Ytlhdcajamempoaa
