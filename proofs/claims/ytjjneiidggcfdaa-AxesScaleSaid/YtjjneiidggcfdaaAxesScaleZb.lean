/-
What the proof rests on: laws of floats, lists, memory and the walks of the functions. Conditions: as each says.
-/
import Derived.Test.YtjjneiidggcfdaaAxesScaleZa
import Derived.Below
import Derived.ChangeSame
import Derived.Laws.Cover2
import Derived.Test.YtjjneiidggcfdaaRows
import Derived.KernelRfl
import Derived.WalkKit
import Derived.Laws.Rows
import Derived.Deep.Draws
import Derived.Laws.OwnMore
import Derived.Lib.Hide
import Derived.Laws.FloatBits
import GoSem.Core.Float
import Derived.WalkLawsBesides
import Derived.Laws.BitsAllLaws
import Derived.WalkSpells
import Derived.LoopTactic
import Derived.Outline
import Derived.Laws.Externs
import Derived.Deep.QuietTactic
import Derived.BigQuiet
import Derived.RegionTactic
import Derived.Deep.Slices
import Derived.Deep.Fields
import Derived.Laws.FloatArith
import Derived.Deep.RegionHeld3
import Derived.Deep.DrawnRows
import Derived.Deep.DeepCutAuto
import Derived.Deep.CutBlock
import Derived.Deep.OwnRows
import Derived.IntWalk
import Derived.Deep.RegionWith
import Derived.Laws.AppendOwn
import Derived.LaidEqlPtr
import Derived.BigRegion
import Derived.Orders
import Derived.RowKit3
import Derived.Lib.BitFns
import Derived.Shelf.Abstract
set_option linter.unusedVariables false
namespace Go.Proofs.Ytjjneiidggcfdaa
open Go.RowKit
attribute [local go_sem ↓] Go.wp_at_zero Go.wp_at_succ

theorem wrap3 {o a P : Nat} (hP : P < 1048576) (h : o + a = P) : wrap64 (a : Int) = (a : Int) ∧ wrap64 (P : Int) = (P : Int) ∧ IntKind.i64.wrap (a : Int) = (a : Int) ∧ IntKind.i64.wrap (P : Int) = (P : Int) :=
  ⟨wrap_id (by unfold I64; omega), wrap_id (by unfold I64; omega), wrapi (by omega) (by omega), wrapi (by omega) (by omega)⟩
theorem f64s_snoc (l : List Nat) (x : Nat) : f64s (l ++ [x]) = f64s l ++ [.float .f64 x] := by simp [f64s]
theorem own_row {w : World} {B : Nat} {v : Value} {n : Nat} {l : List Nat} (h : w.ownsRow B 25 1 v n (f64s l)) (hn : n = l.length) : ∃ A c, v = .slice A n c ∧ Row w A (f64s l) := by
  by_cases hv : v = .slice none 0 0
  · subst hv
    have hl := h.1
    obtain ⟨_, ⟨_, h0⟩ | ⟨g, cap, cur, h1, _⟩⟩ := h
    · subst h0
      have : l = [] := List.length_eq_zero_iff.1 hn.symm
      subst this
      exact ⟨none, 0, rfl, .inl rfl⟩
    · cases h1
  · obtain ⟨g, c, rfl, _, _, _, ho⟩ := own_of h hv hn
    exact ⟨_, c, rfl, ho.row⟩

set_option maxHeartbeats 1000000 in
theorem rlist_any (A : Option Addr) (n c : Nat) (l : List Nat) (o K i : Nat) (w : World) (hA : Row w A (f64s l)) (hl : l.length = n) (hn : n < 1048576) (hr : K = 0 ∨ o + (K - 1) * i < n) (hK : K < 1048576) :
    Calls Try.prog 29 #[vec A n c o K i] w fun e w' => ∃ A' c', e = .returned (.slice A' K c') ∧ Row w' A' (f64s (lst l o i K)) ∧ Below w.heap.size w w' := by
  obtain ⟨i0, hi, hz0, hz1, hz2⟩ := fi0
  have HR := Lib.hid (fun a (h : a < K) => show o + a * i < n from by
    rcases hr with h0 | h0
    · omega
    · exact place_lt h0 h)
  have HA := Lib.hid hA
  have Hl := Lib.hid hl
  have Hn := Lib.hid hn
  clear hA hl hr hn
  unfold vec
  go_enter Try.func29, Try.ntmps29
  have HZ := Lib.hid (Blk.new w 30 #[.slice A n c, .int .i64 o, .int .i64 K, .int .i64 i])
  have HB := Lib.hid ((Below.refl w.heap.size w).alloc (Nat.le_refl _) (.cells #[.slice A n c, .int .i64 o, .int .i64 K, .int .i64 i] 30))
  go_wp2_with fail
  generalize hz : w.heap.size = z at *
  have Hz := Lib.hid hz
  clear hz
  go_loopw [3, 4] (fun out a wr => ∃ q : Nat, q ≤ K ∧ a = .int .i64 q ∧ wr.ownsRow (z + 1) 25 1 out q (f64s (lst l o i q)) ∧ Below z w wr ∧ Blk wr z 30 #[.slice A n c, .int .i64 o, .int .i64 K, .int .i64 i] ∧ z + 1 ≤ wr.heap.size) (fun _ a _ => K - (intOf a).toNat)
  case atStart => exact ⟨0, Nat.zero_le _, rfl, World.ownsRow_nil _ _ _ _, HB.out, HZ.out, by simp; have := Hz.out; omega⟩
  case round =>
    obtain ⟨q, hq, rfl, hown, hbl, hbz, hsz⟩ := hrel
    have HOw := Lib.hid hown
    have HBl := Lib.hid hbl
    have HBz := Lib.hid hbz
    have HSz := Lib.hid hsz
    clear hown hbl hbz hsz
    obtain ⟨c0, c1, c2, c3⟩ := cells4w HBz.out
    by_cases hlt : q < K
    · have hP := HR.out q hlt
      have hPl : o + q * i < l.length := by rw [Hl.out]; exact hP
      obtain ⟨b, x, rfl, _, hcell0⟩ := HA.out.at_ (f64s_get l _ hPl)
      have hcell := cell_below hcell0 (show Below w.heap.size w wr by rw [Hz.out]; exact HBl.out)
      have hv : l.getD (o + q * i) 0 = l[o + q * i] := getD_of_lt hPl
      have HSn := Lib.hid (lst_snoc l o i q)
      rw [hv] at HSn
      obtain ⟨v, hv2⟩ : ∃ v, l[o + q * i] = v := ⟨_, rfl⟩
      rw [hv2] at hcell HSn
      obtain ⟨a, ha⟩ : ∃ a, q * i = a := ⟨_, rfl⟩
      obtain ⟨P, hPd⟩ : ∃ P, o + q * i = P := ⟨_, rfl⟩
      have e1 : ((q : Int) * (i : Int)) = (a : Int) := by rw [← ha]; simp
      have e2 : (o : Int) + (a : Int) = (P : Int) := by rw [← hPd, ha]; simp
      have HW := Lib.hid (wrap3 (o := o) (a := a) (P := P) (by rw [← hPd]; have := Hn.out; omega) (by rw [← ha, hPd]))
      rw [hPd] at hcell hP
      have b1 : (P : Int) < (n : Int) := by omega
      have b0 : (0 : Int) ≤ (P : Int) := by omega
      clear hPl hcell0 hv hv2 ha hPd hP
      obtain ⟨u1, u2, u3, u4⟩ := HW.out
      have HN := Lib.hid (Blk.new wr 25 #[.float .f64 v])
      have HOw2 := Lib.hid (HOw.out.alloc (.cells #[.float .f64 v] 25))
      have hq1 : q + 1 ≤ 1048576 := by omega
      go_wp2_with (at_builtin; refine wpList_append_own _ rfl _ _ 22 rfl (z + 1) 25 i0 (.float .f64 0) 1 8 Try.underlying22 hi hz0 hz1 hz2 rfl (by decide) _ q (f64s (lst l o i q)) rfl HOw2.out ⟨wr.heap.size, 0, none⟩ 1 1 [.float .f64 v] rfl rfl ?c1 (by intro u hu; simp at hu; subst hu; rfl) ?c3 ?c4 ?c5 ?_)
      case c1 =>
        intro j u hj
        match j, hj with
        | 0, hj =>
          have : u = .float .f64 v := by simpa using hj.symm
          subst this
          exact HN.out.cell 0
        | j + 1, hj => simp at hj
      case c3 => unfold maxLen; omega
      case c4 => omega
      case c5 => simp; have := HSz.out; omega
      intro v' w' hown' hgrow _
      have hlst : f64s (lst l o i (q + 1)) = f64s (lst l o i q) ++ [.float .f64 v] := by rw [HSn.out, f64s_snoc]
      rw [← hlst] at hown'
      have HOw3 := Lib.hid hown'
      have hlt2 := fun k hk => (HOw2.out.lt k hk)
      have hz2' := HBz.out.lt
      have HBl2 := Lib.hid ((HBl.out.alloc (by omega) (.cells #[.float .f64 v] 25)).grown hgrow (by simp; omega) (fun k hk => by have := (hlt2 k hk).1; omega))
      have HBz2 := Lib.hid (show Blk w' z 30 #[.slice (some ⟨b, x, none⟩) n c, .int .i64 o, .int .i64 K, .int .i64 i] from (hgrow.block z (by simp; omega) (fun e => by have := (hlt2 z e.symm).1; omega)).trans (HBz.out.alloc (.cells #[.float .f64 v] 25)))
      have HSz2 := Lib.hid (show z + 1 ≤ w'.heap.size by have h1 := hgrow.size; simp at h1; omega)
      clear hown' hgrow hlst hlt2 hz2' c0 c1 c2 c3 hcell
      go_wp2_with fail
      go_roundw
      case rel => exact ⟨q + 1, by omega, by go_num, HOw3.out, HBl2.out, HBz2.out, HSz2.out⟩
      case measure => simp [intOf]; omega
    · obtain rfl : q = K := by omega
      obtain ⟨A', c', rfl, hrow⟩ := own_row HOw.out (by rw [lst_length])
      have HRow := Lib.hid hrow
      clear hrow
      go_wp2_with fail
      go_ret
      exact ⟨A', c', rfl, HRow.out, by rw [Hz.out]; exact HBl.out⟩

set_option maxHeartbeats 1000000 in
theorem rwrite_some (a : Addr) (n c : Nat) (l : List Nat) (o K i : Nat) (B : Option Addr) (d : Nat) (m : List Nat) (w : World) (hA : Row w (some a) (f64s l)) (hl : l.length = n) (hn : n < 1048576) (hi1 : 1 ≤ i) (hr : K = 0 ∨ o + (K - 1) * i < n) (hB : Row w B (f64s m)) (hm : m.length = K) :
    Calls Try.prog 27 #[vec (some a) n c o K i, .slice B K d] w fun e w' => ∃ g c', e = .returned (.slice (some ⟨g, 0, none⟩) n c') ∧ Own w' g (wrt l o i m K) ∧ w.heap.size ≤ g ∧ Below w.heap.size w w' := by
  obtain ⟨i0, hi, hz0, hz1, hz2⟩ := fi0
  have HR := Lib.hid (fun a (h : a < K) => show o + a * i < n from by
    rcases hr with h0 | h0
    · omega
    · exact place_lt h0 h)
  have hK : K ≤ n := by
    rcases hr with h0 | h0
    · omega
    · have : K - 1 ≤ (K - 1) * i := Nat.le_mul_of_pos_right _ hi1
      omega
  have HA := Lib.hid hA
  have HB := Lib.hid hB
  have Hm := Lib.hid hm
  have Hl := Lib.hid hl
  have Hn := Lib.hid hn
  clear hA hr hB hm hi1
  unfold vec
  go_enter Try.func27, Try.ntmps27
  go_wp2_with (at_builtin; refine wpList_append_own _ rfl _ _ 22 rfl (w.heap.size + 1) 25 i0 (.float .f64 0) 1 8 Try.underlying22 hi hz0 hz1 hz2 rfl (by decide) _ _ _ rfl (own_empty_ _ _ (by simp)) a n c (f64s l) rfl (by simp [f64s, hl]) ?c1 (one_cells l) ?c3 ?c4 ?c5 ?_)
  case c1 => exact row_add (HA.out.below (((Below.refl _ _).alloc (Nat.le_refl _) _).alloc (by simp) _))
  case c3 => unfold maxLen; omega
  case c4 => omega
  case c5 => simp
  intro v' w' hown hgrow hne
  obtain ⟨g, c', rfl, hg, hc, hm, ho⟩ := own_of hown hne hl.symm
  have hO : Only (w.heap.size + 1) ((w.alloc (.cells #[.slice (some a) n c, .int .i64 o, .int .i64 K, .int .i64 i] 30)).alloc (.cells #[] 25)) w' := hgrow
  have HBl := Lib.hid ((((Below.refl w.heap.size w).alloc (Nat.le_refl _) (.cells #[.slice (some a) n c, .int .i64 o, .int .i64 K, .int .i64 i] 30)).alloc (by simp) (.cells #[] 25)).grown hgrow (by simp; omega) (fun k hk => by simp [Value.ownBlock] at hk; omega))
  have HZ := Lib.hid (hO.blk (by omega) ((Blk.new w 30 #[.slice (some a) n c, .int .i64 o, .int .i64 K, .int .i64 i]).alloc (.cells #[] 25)))
  have HO := Lib.hid ho
  clear ho hgrow hown hO hl hn
  generalize hz : w.heap.size = z at *
  have Hz := Lib.hid hz
  have Hgz := Lib.hid hg
  clear hz hg
  go_wp2_with fail
  go_loopw [6] (fun a' wr => ∃ q : Nat, q ≤ K ∧ a' = .int .i64 q ∧ Own wr g (wrt l o i m q) ∧ Below z w wr ∧ Blk wr z 30 #[.slice (some a) n c, .int .i64 o, .int .i64 K, .int .i64 i]) (fun a' _ => K - (intOf a').toNat)
  case atStart => exact ⟨0, Nat.zero_le _, rfl, HO.out, HBl.out, HZ.out⟩
  case round =>
    obtain ⟨q, hq, rfl, ho2, hbl2, hz2'⟩ := hrel
    have HO2 := Lib.hid ho2
    have HBl2 := Lib.hid hbl2
    have HZ2 := Lib.hid hz2'
    clear ho2 hbl2 hz2'
    obtain ⟨c0, c1, c2, c3⟩ := cells4w HZ2.out
    by_cases hlt : q < K
    · have hP := HR.out q hlt
      have hql : q < m.length := by rw [Hm.out]; exact hlt
      obtain ⟨b, x, rfl, _, hcell0⟩ := HB.out.at_ (f64s_get m q hql)
      have hcell := cell_below hcell0 (show Below w.heap.size w wr by rw [Hz.out]; exact HBl2.out)
      have hv : m.getD q 0 = m[q] := getD_of_lt hql
      have hst : wrt l o i m (q + 1) = (wrt l o i m q).set (o + q * i) (m.getD q 0) := rfl
      rw [hv] at hst
      obtain ⟨v, hv2⟩ : ∃ v, m[q] = v := ⟨_, rfl⟩
      rw [hv2] at hcell hst
      have hPl : o + q * i < (wrt l o i m q).length := by rw [wrt_length, Hl.out]; exact hP
      have r0 := HO2.out.get _ hPl
      have r1 := HO2.out.frozen (o + q * i)
      have hset := HO2.out.set_ (o + q * i) v hPl
      rw [← hst] at hset
      obtain ⟨u, hu⟩ : ∃ u, (wrt l o i m q)[o + q * i] = u := ⟨_, rfl⟩
      rw [hu] at r0
      obtain ⟨a1, ha⟩ : ∃ a1, q * i = a1 := ⟨_, rfl⟩
      obtain ⟨P, hPd⟩ : ∃ P, o + q * i = P := ⟨_, rfl⟩
      have e1 : ((q : Int) * (i : Int)) = (a1 : Int) := by rw [← ha]; simp
      have e2 : (o : Int) + (a1 : Int) = (P : Int) := by rw [← hPd, ha]; simp
      have HW := Lib.hid (wrap3 (o := o) (a := a1) (P := P) (by rw [← hPd]; have := Hn.out; omega) (by rw [← ha, hPd]))
      rw [hPd] at hP r0 r1 hset
      have b1 : (P : Int) < (n : Int) := by omega
      have b0 : (0 : Int) ≤ (P : Int) := by omega
      have b2 : (q : Int) < (K : Int) := by omega
      have HSet := Lib.hid hset.drew
      have HBl3 := Lib.hid (HBl2.out.setCell (p := ⟨g, P, none⟩) (by show z ≤ g; have := Hgz.out; omega) (.float .f64 v)).drew
      have HZ3 := Lib.hid ((HZ2.out.other (p := ⟨g, P, none⟩) (by show z ≠ g; have := Hgz.out; omega) (.float .f64 v)).drew)
      clear hql hcell0 hv hv2 hst hPl hset hu ha hPd hP
      obtain ⟨u1, u2, u3, u4⟩ := HW.out
      go_wp2_with fail
      go_region
      go_wp2_with fail
      go_roundw
      case rel => exact ⟨q + 1, by omega, by go_num, HSet.out, HBl3.out, HZ3.out⟩
      case measure => simp [intOf]; omega
    · obtain rfl : q = K := by omega
      go_wp2_with fail
      go_ret
      exact ⟨g, c', rfl, HO2.out, by have := Hgz.out; have := Hz.out; omega, by rw [Hz.out]; exact HBl2.out⟩
end Go.Proofs.Ytjjneiidggcfdaa
set_option linter.unusedVariables false
namespace Go.Proofs.Ytjjneiidggcfdaa
open Go.RowKit
attribute [local go_sem ↓] Go.wp_at_zero Go.wp_at_succ

theorem rtimes_any (x y : Nat) (w : World) : Calls Try.prog 59 #[.float .f64 x, .float .f64 y] w fun e w' => ∃ r, e = .returned (.float .f64 r) ∧ Comes .mul x y r ∧ Below w.heap.size w w' := by
  go_enter Try.func59, Try.ntmps59
  go_wp2_with fail
  go_ret
  exact ⟨_, rfl, fres_comes _ _ _ _, below_drewN (Below.refl _ _) _⟩
end Go.Proofs.Ytjjneiidggcfdaa
set_option linter.unusedVariables false
namespace Go.Proofs.Ytjjneiidggcfdaa
open Go.RowKit

/-- Each waits for earlier ones alone, and writes one of these temporaries. -/
def plainG (L : List Nat) (n : Nat) : Nat → List Oper → Bool
  | _, [] => true
  | i, o :: r => o.after.all (fun e => decide (e.on < i)) && (match o.dst with | some k => L.contains k && decide (k < n) | none => true) && plainG L n (i + 1) r
theorem plainG_at {L : List Nat} {n : Nat} : ∀ {i : Nat} {ops : List Oper}, plainG L n i ops = true → ∀ {j : Nat} {o : Oper}, ops[j]? = some o → (∀ e ∈ o.after, e.on < i + j) ∧ ∀ k, o.dst = some k → k ∈ L ∧ k < n
  | i, [], _, j, o, h => by simp at h
  | i, x :: r, h, j, o, ho => by
    simp only [plainG, Bool.and_eq_true] at h
    obtain ⟨⟨h1, h3⟩, h4⟩ := h
    cases j with
    | zero =>
      simp at ho
      subst ho
      refine ⟨fun e he => ?_, fun k hk => ?_⟩
      · have := Array.all_eq_true_iff_forall_mem.1 h1 e he
        simpa using this
      · rw [hk] at h3
        simpa using h3
    | succ j =>
      have := plainG_at h4 (j := j) (o := o) (by simpa using ho)
      refine ⟨fun e he => ?_, this.2⟩
      have := this.1 e he
      omega
/-- An append. -/
theorem opSteps_append {P : Program} {o : Oper} {ev : Operand → Value} {w : World} {K : Value → World → Prop} (s x : Operand) (t : TypeId) (ho : o.op = .call { callee := .builtin .append, args := #[s, x], argTypes := #[t, t] })
    {a b v' : Value} {w' : World} (hs : ev s = a) (hx : ev x = b) (hr : (Builtin.append_ #[t, t] o.type #[a, b]).run P w = .ok v' w') (h : K v' w') : OpSteps P o ev w K := by
  unfold OpSteps execOp
  simp only [ho, resolve, invoke, builtin, Sem.run_bind, Sem.run_pure, Result.andThen_ok, List.map_toArray, List.map_cons, List.map_nil, hs, hx, hr]
  exact h
/-- The Bool of a guard. -/
def yieldS (ops : Array Oper) (s : Nat → Value) (j : Nat) : Option Bool :=
  match (ops[j]?).bind (·.dst) with
  | some k => (match s k with | .bool b => some b | _ => none)
  | none => none
/-- One operation: it is carried out, or passed by. -/
def StepG (P : Program) (ops : Array Oper) (o : Oper) (s : Nat → Value) (w : World) (K : Value → World → Prop) : Prop :=
  if Region.wanted o (yieldS ops s) = true then OpSteps P o (evS s) w K else K undef w
theorem stepG_on {P : Program} {ops : Array Oper} {o : Oper} {s : Nat → Value} {w : World} {K : Value → World → Prop} (j k : Nat) (b : Bool) (hg : o.guard = some (j, b)) (hk : (ops[j]?).bind (·.dst) = some k) (hs : s k = .bool b) (h : OpSteps P o (evS s) w K) : StepG P ops o s w K := by
  have : yieldS ops s j = some b := by unfold yieldS; rw [hk]; simp only [hs]
  unfold StepG Region.wanted
  rw [hg]
  simp only [this, beq_self_eq_true, if_true]
  exact h
theorem stepG_plain {P : Program} {ops : Array Oper} {o : Oper} {s : Nat → Value} {w : World} {K : Value → World → Prop} (hg : o.guard = none) (h : OpSteps P o (evS s) w K) : StepG P ops o s w K := by
  unfold StepG Region.wanted
  rw [hg]
  simp only [if_true]
  exact h
/-- What is to be shown of each operation. -/
def AllStepsG (P : Program) (ops : Array Oper) (t0 : Array Value) (L : List Nat) (J : (Nat → Bool) → (Nat → Value) → World → Prop) : Nat → List Oper → Prop
  | _, [] => True
  | i, o :: r => (∀ d s w, J d s w → (∀ k, k ∉ L → s k = t0.getD k undef) → d i = false → (∀ e ∈ o.after.toList, Region.binds .any e = true → d e.on = true) → StepG P ops o s w (fun v w' => J (did d i) (sput s o.dst v) w')) ∧ AllStepsG P ops t0 L J (i + 1) r
theorem AllStepsG.at_ {P : Program} {ops : Array Oper} {t0 : Array Value} {L : List Nat} {J : (Nat → Bool) → (Nat → Value) → World → Prop} : ∀ {i : Nat} {os : List Oper}, AllStepsG P ops t0 L J i os → ∀ {j : Nat} {o : Oper}, os[j]? = some o →
    ∀ d s w, J d s w → (∀ k, k ∉ L → s k = t0.getD k undef) → d (i + j) = false → (∀ e ∈ o.after.toList, Region.binds .any e = true → d e.on = true) → StepG P ops o s w (fun v w' => J (did d (i + j)) (sput s o.dst v) w')
  | i, [], _, j, o, h => by simp at h
  | i, x :: r, h, j, o, ho => by
    cases j with
    | zero => simp at ho; subst ho; exact h.1
    | succ j =>
      have := AllStepsG.at_ h.2 (j := j) (o := o) (by simpa using ho)
      rw [show i + (j + 1) = i + 1 + j by omega]
      exact this
section
variable {P : Program} {ops : Array Oper} {Q : Exit → Act → World → Prop} {a0 : Act} {L : List Nat} {J : (Nat → Bool) → (Nat → Value) → World → Prop}
theorem yielded_eq (hp : plainG L a0.tmps.size 0 ops.toList = true) {a : Act} (hF : Fr a0 L a) (j : Nat) : yielded ops a.tmps j = yieldS ops (fun k => a.tmps.getD k undef) j := by
  unfold yielded yieldS
  cases h : ops[j]? with
  | none => rfl
  | some o =>
    cases hd : o.dst with
    | none => simp [hd]
    | some k =>
      have hk := (plainG_at hp (j := j) (o := o) (by simpa using h)).2 k hd
      have hk2 : k < a.tmps.size := by rw [hF.size]; exact hk.2
      have e : a.tmps.getD k undef = a.tmps[k] := arr_getD _ hk2
      simp only [Option.bind_some, hd, Array.getElem?_eq_getElem hk2, e]
      cases a.tmps[k] <;> rfl
theorem wpOp_invG (hp : plainG L a0.tmps.size 0 ops.toList = true) (hs : AllStepsG P ops a0.tmps L J 0 ops.toList) {d : Nat → Bool} {a : Act} {w : World} (hF : Fr a0 L a) (hJ : J d (fun k => a.tmps.getD k undef) w) {i : Nat} {o : Oper} (ho : ops[i]? = some o) (hd : d i = false)
    (hdep : ∀ e ∈ o.after, Region.binds .any e = true → d e.on = true) : wpOp P ops Q i (fun a' w' => Fr a0 L a' ∧ J (did d i) (fun k => a'.tmps.getD k undef) w') a w := by
  have ho' : ops.toList[i]? = some o := by simpa using ho
  obtain ⟨_, hdst⟩ := plainG_at hp ho'
  have h := hs.at_ ho' d _ w hJ (fun k hk => hF.keep k hk) (by simpa using hd) (fun e he => hdep e (by simpa using he))
  rw [Nat.zero_add] at h
  have hput : ∀ v w', J (did d i) (sput (fun k => a.tmps.getD k undef) o.dst v) w' → Fr a0 L (a.put o.dst v) ∧ J (did d i) (fun k => (a.put o.dst v).tmps.getD k undef) w' := fun v w' hj =>
    ⟨hF.put_ (fun k hk => (hdst k hk).1) v, by rw [put_slots hF.size (fun k hk => (hdst k hk).2)]; exact hj⟩
  unfold wpOp
  simp only [ho]
  have hw : Region.wanted o (yielded ops a.tmps) = Region.wanted o (yieldS ops (fun k => a.tmps.getD k undef)) := by
    unfold Region.wanted
    cases o.guard with
    | none => rfl
    | some p => simp only [yielded_eq hp hF]
  rw [hw]
  unfold StepG at h
  by_cases hg : Region.wanted o (yieldS ops (fun k => a.tmps.getD k undef)) = true
  · rw [if_pos hg] at h
    rw [if_pos hg]
    refine .inl ?_
    unfold Oper.wp
    rw [evS_of a]
    unfold OpSteps at h
    generalize (execOp (evS fun k => a.tmps.getD k undef) o).run P w = r at *
    cases r with
    | halt x w' => exact h.elim
    | ok n w' =>
      cases n <;> simp only [Oper.upon] at h ⊢
      case value v => exact hput v w' h
      case skip => exact hput undef w' h
      case enter f args =>
        refine Calls.mono h fun e w'' he => ?_
        obtain ⟨v, rfl, hj⟩ := he
        exact hput v w'' hj
  · rw [if_neg hg] at h
    rw [if_neg hg]
    exact hput undef w h

theorem wpAny_invG (hp : plainG L a0.tmps.size 0 ops.toList = true) (hs : AllStepsG P ops a0.tmps L J 0 ops.toList)
    (done : ∀ d a w, Fr a0 L a → J d (fun k => a.tmps.getD k undef) w → (∀ i, i < ops.size → d i = true) → Q .normal a w) :
    ∀ (fuel : Nat) (listed : Array Bool) (l : List Nat) (a : Act) (w : World), listed.size = ops.size → l.Nodup → (∀ i, i ∈ l ↔ listed.getD i true = false) → l.length ≤ fuel →
      Fr a0 L a → J (fun j => listed.getD j false) (fun k => a.tmps.getD k undef) w → wpAny P .any ops Q fuel listed a w := by
  have hnone : ∀ (listed : Array Bool), listed.size = ops.size → Region.ready .any ops listed = [] → ∀ i, i < ops.size → listed.getD i false = true := by
    intro listed hsz hr i
    induction i using Nat.strongRecOn with
    | ind i ih =>
      intro hi
      cases hb : listed.getD i false
      · exfalso
        have : i ∈ Region.ready .any ops listed := mem_ready.2 ⟨by simpa [Array.getD, hsz, hi] using hb, ops[i], Array.getElem?_eq_getElem hi, fun e he _ => by
          have h1 := (plainG_at hp (j := i) (o := ops[i]) (by simp [hi])).1 e he
          exact ih e.on (by omega) (by omega)⟩
        rw [hr] at this; cases this
      · rfl
  intro fuel
  induction fuel with
  | zero =>
    intro listed l a w hsz hnd hl hlen hF hJ
    have hl0 : l = [] := List.length_eq_zero_iff.1 (by omega)
    subst hl0
    have hr : Region.ready .any ops listed = [] := by
      refine List.eq_nil_iff_forall_not_mem.2 fun i hi => ?_
      have := (hl i).2 (mem_ready.1 hi).1
      cases this
    exact ⟨hr, done _ a w hF hJ (hnone listed hsz hr)⟩
  | succ fuel ih =>
    intro listed l a w hsz hnd hl hlen hF hJ
    refine ⟨fun hr => done _ a w hF hJ (hnone listed hsz hr), fun i hi => ?_⟩
    obtain ⟨h0, o, ho, hdep⟩ := mem_ready.1 hi
    have hi2 : i < listed.size := by
      rcases Nat.lt_or_ge i listed.size with h | h
      · exact h
      · simp [Array.getD, Nat.not_lt.2 h] at h0
    have h0' : listed.getD i false = false := by simpa [Array.getD, hi2] using h0
    refine wpOp_mono (fun a' w' h => ?_) (wpOp_invG hp hs hF hJ ho h0' hdep)
    refine ih (listed.setIfInBounds i true) (l.erase i) a' w' (by simp [hsz]) (hnd.erase i) (fun j => ?_) ?_ h.1 ?_
    · rw [hnd.mem_erase_iff, hl j]
      by_cases e : j = i
      · subst e
        simp [Array.getD, hi2]
      · simp only [Array.getD_eq_getD_getElem?]
        rw [Array.getElem?_setIfInBounds_ne (fun h => e h.symm)]
        simp [e]
    · rw [List.length_erase_of_mem ((hl i).2 h0)]; omega
    · have e : (fun j => (listed.setIfInBounds i true).getD j false) = did (fun j => listed.getD j false) i := by
        funext j
        unfold did
        by_cases e : j = i
        · subst e; simp [Array.getD, hi2]
        · rw [if_neg e]
          simp only [Array.getD_eq_getD_getElem?]
          rw [Array.getElem?_setIfInBounds_ne (fun h => e h.symm)]
      rw [e]; exact h.2

/-- THE RULE. -/
theorem wp_region_invG {id : Nat} {t0 : Array Value} {df : List Deferred} {w : World} (L : List Nat) (J : (Nat → Bool) → (Nat → Value) → World → Prop) (hm : P.follows .mixedOrders = true) (hp : plainG L t0.size 0 ops.toList = true)
    (start : J (fun _ => false) (fun k => t0.getD k undef) w.drew) (hs : AllStepsG P ops t0 L J 0 ops.toList)
    (done : ∀ d s w', J d s w' → (∀ i, i < ops.size → d i = true) → Q .normal ⟨setAll t0 s L, df⟩ w') : (Code.region id ops true).wp P Q ⟨t0, df⟩ w := by
  refine wp_region_any hm ?_
  refine wpAny_invG (a0 := ⟨t0, df⟩) (L := L) (J := J) hp hs (fun d a w' hF hJ hd => ?_) ops.size (Array.replicate ops.size false) (List.range ops.size) _ _ (by simp) List.nodup_range (fun i => ?_) (by simp) ⟨rfl, rfl, fun _ _ => rfl⟩ ?_
  · rw [hF.eq_]
    exact done d _ w' hJ hd
  · rw [List.mem_range]
    by_cases h : i < ops.size
    · simp [Array.getD, h]
    · simp [Array.getD, h]
  · have e : (fun j => (Array.replicate ops.size false).getD j false) = fun _ => false := by
      funext j
      simp only [Array.getD_eq_getD_getElem?]
      by_cases h : j < ops.size
      · simp [h]
      · simp [h]
    rw [e]; exact start
end
end Go.Proofs.Ytjjneiidggcfdaa
namespace Go.Proofs.Ytjjneiidggcfdaa
open Go.RowKit

theorem len8_get (i : Nat) (h : i < Lib.len8tab.size) : ((Lib.len8tab[i].toNat : Nat) : Int) = (Lib.bitLen i : Int) := by
  have hs := Lib.len8tab_size
  have e := Lib.len8_eq ⟨i, by omega⟩
  unfold Lib.len8 at e
  simp only [Int.toNat_natCast] at e
  rw [← e]
  simp [h]
theorem len8_le (i : Nat) (h : i < 256) : Lib.bitLen i ≤ 8 := Lib.bitLen_le8 ⟨i, h⟩
theorem wrap_len (i : Nat) (h : i < Lib.len8tab.size) : wrap64 ((Lib.len8tab[i].toNat : Nat) : Int) = (Lib.bitLen i : Int) := by
  have hs := Lib.len8tab_size
  rw [len8_get i h]
  have := len8_le i (by omega)
  exact IntWalk.wrap64_in _ ⟨by omega, by omega⟩
theorem len_c (c : Int) (i : Nat) (h : i < Lib.len8tab.size) (X : Nat) (hc : 0 ≤ c ∧ c ≤ 56) (hX : (Lib.bitLen X : Int) = c + (Lib.bitLen i : Int)) :
    wrap64 (c + wrap64 ((Lib.len8tab[i].toNat : Nat) : Int)) = (Lib.bitLen X : Int) := by
  have hs := Lib.len8tab_size
  have := len8_le i (by omega)
  rw [wrap_len i h, hX]
  exact IntWalk.wrap64_in _ ⟨by omega, by omega⟩
theorem len_0 (i : Nat) (h : i < Lib.len8tab.size) : wrap64 (wrap64 ((Lib.len8tab[i].toNat : Nat) : Int)) = (Lib.bitLen i : Int) := by
  have hs := Lib.len8tab_size
  have := len8_le i (by omega)
  rw [wrap_len i h]
  exact IntWalk.wrap64_in _ ⟨by omega, by omega⟩

set_option maxHeartbeats 4000000 in
set_option maxRecDepth 100000 in
theorem len64_any (x : Int) (w : World) (h0 : 0 ≤ x) (h1 : x ≤ 18446744073709551615) :
    Calls Try.prog 77 #[.int .u64 x] w fun e w' => e = .returned (.int .i64 (Lib.bitLen x.toNat)) ∧ w = w' := by
  have hs : ((Lib.len8tab.size : Nat) : Int) = 256 := by rw [Lib.len8tab_size]; rfl
  go_enter Try.func77, Try.ntmps77
  go_wp2
  all_goals
    go_ret
    refine ⟨congrArg (fun z => Ending.returned (.int .i64 z)) ?_, rfl⟩
    have hz := Lib.len8tab_size
    first
      | (refine len_c 56 (x / 4294967296 / 65536 / 256).toNat (by omega) x.toNat (by omega) ?_
         have s := Lib.bitLen_shift56 x.toNat (by omega) (by omega)
         rw [show (x / 4294967296 / 65536 / 256).toNat = x.toNat / 72057594037927936 by omega]
         omega)
      | (refine len_c 48 (x / 4294967296 / 65536).toNat (by omega) x.toNat (by omega) ?_
         have s := Lib.bitLen_shift48 x.toNat (by omega) (by omega)
         rw [show (x / 4294967296 / 65536).toNat = x.toNat / 281474976710656 by omega]
         omega)
      | (refine len_c 40 (x / 4294967296 / 256).toNat (by omega) x.toNat (by omega) ?_
         have s := Lib.bitLen_shift40 x.toNat (by omega) (by omega)
         rw [show (x / 4294967296 / 256).toNat = x.toNat / 1099511627776 by omega]
         omega)
      | (refine len_c 32 (x / 4294967296).toNat (by omega) x.toNat (by omega) ?_
         have s := Lib.bitLen_shift32 x.toNat (by omega) (by omega)
         rw [show (x / 4294967296).toNat = x.toNat / 4294967296 by omega]
         omega)
      | (refine len_c 24 (x / 65536 / 256).toNat (by omega) x.toNat (by omega) ?_
         have s := Lib.bitLen_shift24 x.toNat (by omega) (by omega)
         rw [show (x / 65536 / 256).toNat = x.toNat / 16777216 by omega]
         omega)
      | (refine len_c 16 (x / 65536).toNat (by omega) x.toNat (by omega) ?_
         have s := Lib.bitLen_shift16 x.toNat (by omega) (by omega)
         rw [show (x / 65536).toNat = x.toNat / 65536 by omega]
         omega)
      | (refine len_c 8 (x / 256).toNat (by omega) x.toNat (by omega) ?_
         have s := Lib.bitLen_shift8 x.toNat (by omega) (by omega)
         rw [show (x / 256).toNat = x.toNat / 256 by omega]
         omega)
      | exact len_0 x.toNat (by omega)
end Go.Proofs.Ytjjneiidggcfdaa
set_option linter.unusedVariables false
namespace Go.Proofs.Ytjjneiidggcfdaa
open Go.RowKit
attribute [local go_sem ↓] ib_andNot_sign ib_and_frac ib_and_15 ib_and_1 ib_and_sign ib_and_inf ib_or

theorem bitLen_log (x : Nat) (h0 : x ≠ 0) (h : x < 18446744073709551616) : Lib.bitLen x = x.log2 + 1 := by
  induction x using Nat.strongRecOn with
  | ind x ih =>
    rw [Lib.bitLen_half x h0 h, Nat.log2_def]
    by_cases h2 : 2 ≤ x
    · rw [if_pos h2, ih (x / 2) (by omega) (by omega) (by omega)]; omega
    · rw [if_neg h2]
      have : x = 1 := by omega
      subst this; rfl
theorem ret2_ui {a a' b b' : Int} (h1 : a = a') (h2 : b = b') : Ending.returned (.tuple #[.int .u64 a, .int .i64 b]) = .returned (.tuple #[.int .u64 a', .int .i64 b']) := by rw [h1, h2]

theorem digits_any (b : Nat) (w : World) (hb : b < 18446744073709551616) (h0 : Fl.rung b ≠ 0) (hf : Fl.rung b < Fl.INF) :
    Calls Try.prog 70 #[.float .f64 b] w fun e w' => e = .returned (.tuple #[.int .u64 (Fl.dm b), .int .i64 (Fl.de b)]) ∧ w = w' := by
  have hr := rung_def b
  have hI := Fl.INF_val
  by_cases h : 4503599627370496 ≤ (b : Int) % 9223372036854775808
  · have hd : Fl.dm b = 4503599627370496 + b % 4503599627370496 := by
      unfold Fl.dm; rw [if_neg (by omega), pm_def, if_neg (by omega)]; omega
    have he : Fl.de b = (b : Int) % 9223372036854775808 / 4503599627370496 - 1023 - 52 := by
      unfold Fl.de; rw [if_neg (by omega), pe_def, if_neg (by omega)]; omega
    have ho : orU ((b : Int) % 4503599627370496) 4503599627370496 = ((4503599627370496 + b % 4503599627370496 : Nat) : Int) := by
      have := orU_nat (a := 4503599627370496) (b := b % 4503599627370496) 52 (by omega) (by omega) (Nat.mod_lt _ (by omega)) (by decide)
      rw [← this]
      unfold orU
      have e := u64_or_nat (b % 4503599627370496) 4503599627370496 (by omega) (by omega)
      have e2 := u64_or_nat 4503599627370496 (b % 4503599627370496) (by omega) (by omega)
      rw [show ((b : Int) % 4503599627370496) = ((b % 4503599627370496 : Nat) : Int) by omega, show (4503599627370496 : Int) = ((4503599627370496 : Nat) : Int) from rfl, e, e2, Nat.or_comm]
    rw [hd, he]
    clear hd he hr hI h0 hf
    have HO := Lib.hid ho
    clear ho
    go_enter Try.func70, Try.ntmps70
    go_wp2_with fail
    go_ret2
    exact ⟨ret2_ui HO.out rfl, rfl⟩
  · have hd : decide (4503599627370496 ≤ (b : Int) % 9223372036854775808) = false := by simp [h]
    have hl := bitLen_log (b % 9223372036854775808) (by omega) (by omega)
    have hll := Fl.log_lt (r := b % 9223372036854775808) (by omega) (by omega)
    have hn : ((b : Int) % 9223372036854775808).toNat = b % 9223372036854775808 := by omega
    have hlb : 1 ≤ Lib.bitLen (b % 9223372036854775808) ∧ Lib.bitLen (b % 9223372036854775808) ≤ 52 := by rw [hl]; omega
    have HL := Lib.hid hl
    have HN := Lib.hid hn
    have HF := Lib.hid hf
    have H0 := Lib.hid h0
    clear h hl hll hn hf h0 hr hI
    obtain ⟨l1, l2⟩ := hlb
    go_enter Try.func70, Try.ntmps70
    go_wp2_with fail
    refine (len64_any _ _ (by omega) (by omega)).mono ?_
    rintro e w' ⟨rfl, rfl⟩
    rw [HN.out]
    generalize hL : Lib.bitLen (b % 9223372036854775808) = L at *
    have HB := Lib.hid hL
    clear hL
    go_wp2_with fail
    go_ret2
    have h0 := H0.out
    have hf := HF.out
    have hL := HL.out
    have hr := rung_def b
    have hlt : Fl.rung b < 4503599627370496 := by simp at hd; omega
    refine ⟨ret2_ui ?_ ?_, rfl⟩
    · have hb2 := Fl.dm_bounds h0
      have e : Fl.dm b = b % 9223372036854775808 * 2 ^ (53 - L) := by
        unfold Fl.dm
        rw [if_pos hlt, hr, show 53 - L = 52 - (b % 9223372036854775808).log2 by omega]
      rw [show ((b : Int) % 9223372036854775808 * 2 ^ (53 - L)) = ((b % 9223372036854775808 * 2 ^ (53 - L) : Nat) : Int) by simp, ← e, IntKind.wrap_u64]
      omega
    · unfold Fl.de
      rw [if_pos hlt, hr]; omega

attribute [local go_sem ↓ low] ib_and

theorem two_pow_half (n : Nat) (hn : 1 ≤ n) : 2 ^ n = 2 * 2 ^ (n - 1) := by
  rw [show n = n - 1 + 1 by omega, Nat.pow_succ, show n - 1 + 1 - 1 = n - 1 by omega]; omega
theorem rne_half (m n : Nat) (hn : 1 ≤ n) : Fl.rne m n = m / 2 ^ n + if 2 ^ (n - 1) < m % 2 ^ n ∨ (2 ^ (n - 1) = m % 2 ^ n ∧ m / 2 ^ n % 2 = 1) then 1 else 0 := by
  unfold Fl.rne
  have h := two_pow_half n hn
  have a : 2 ^ n < 2 * (m % 2 ^ n) ↔ 2 ^ (n - 1) < m % 2 ^ n := by omega
  have b : 2 ^ n = 2 * (m % 2 ^ n) ↔ 2 ^ (n - 1) = m % 2 ^ n := by omega
  simp only [a, b]
theorem cut_eqs (m n : Nat) (hm : m < 9007199254740992) (hn : 1 ≤ n) (h : n ≤ 53) :
    andU (m : Int) (IntKind.u64.wrap (IntKind.u64.wrap (2 ^ n) - 1)) = ((m % 2 ^ n : Nat) : Int) ∧ IntKind.u64.wrap (2 ^ (n - 1)) = ((2 ^ (n - 1) : Nat) : Int) ∧ ((m : Int) / 2 ^ n) = ((m / 2 ^ n : Nat) : Int) := by
  have p1 : 2 ^ n ≤ 2 ^ 53 := Nat.pow_le_pow_right (by omega) h
  have p2 : 2 ^ (n - 1) ≤ 2 ^ 53 := Nat.pow_le_pow_right (by omega) (by omega)
  have p3 : 0 < 2 ^ n := Nat.two_pow_pos n
  have p4 : 0 < 2 ^ (n - 1) := Nat.two_pow_pos _
  have c1 : ((2 : Int) ^ n) = ((2 ^ n : Nat) : Int) := by simp
  have c2 : ((2 : Int) ^ (n - 1)) = ((2 ^ (n - 1) : Nat) : Int) := by simp
  refine ⟨?_, ?_, by rw [c1]; rfl⟩
  · rw [c1, IntKind.wrap_u64, IntKind.wrap_u64]
    rw [show (((2 ^ n : Nat) : Int) % 18446744073709551616 - 1) % 18446744073709551616 = ((2 ^ n - 1 : Nat) : Int) by omega]
    unfold andU
    rw [u64_and_nat _ _ (by omega) (by omega), and_mask]
  · rw [c2, IntKind.wrap_u64]; omega

theorem cut_any (m n : Nat) (w : World) (hm : m < 9007199254740992) (hn : 1 ≤ n) (hn2 : n < 4000) :
    Calls Try.prog 78 #[.int .u64 m, .int .i64 n] w fun e w' => e = .returned (.int .u64 (Fl.rne m n)) ∧ Below w.heap.size w w' := by
  by_cases h : 53 < n
  · have hr : Fl.rne m n = 0 := by
      refine Fl.rne_small _ _ ?_
      have : 2 ^ 54 ≤ 2 ^ n := Nat.pow_le_pow_right (by omega) (by omega)
      omega
    rw [hr]
    clear hr
    go_enter Try.func78, Try.ntmps78
    go_wp2_with fail
    go_ret
    exact ⟨rfl, Below.refl _ _⟩
  · have h' : n ≤ 53 := by omega
    clear h
    have hr : Fl.rne m n = m / 2 ^ n + if 2 ^ (n - 1) < m % 2 ^ n ∨ (2 ^ (n - 1) = m % 2 ^ n ∧ m / 2 ^ n % 2 = 1) then 1 else 0 := rne_half m n hn
    have HE := Lib.hid (cut_eqs m n hm hn h')
    have HR := Lib.hid hr
    clear hr
    go_enter Try.func78, Try.ntmps78
    go_wp2_with fail
    go_quiet (fail)
    rw [HE.out.1, HE.out.2.1, HE.out.2.2]
    clear HE
    have q1 : m / 2 ^ n < 9007199254740992 := Nat.lt_of_le_of_lt (Nat.div_le_self _ _) hm
    generalize m % 2 ^ n = R at *
    generalize m / 2 ^ n = Q at *
    generalize 2 ^ (n - 1) = G at *
    by_cases t1 : G < R
    · have b1 : decide (G < R) = true := by simp [t1]
      have hv := HR.out
      rw [if_pos (Or.inl t1)] at hv
      have HV := Lib.hid hv
      clear HR t1 hv
      go_wp2_with fail
      go_ret
      exact ⟨ret_int (by rw [HV.out]; rfl), below_drewN (Below.refl _ _) _⟩
    · have b1 : decide (G < R) = false := by simp [t1]
      by_cases t2 : R = G
      · have b2 : ((R : Int) == (G : Int)) = true := by simp [t2]
        by_cases t3 : Q % 2 = 1
        · have b3 : ((Q : Int) % 2 == 1) = true := by simp; omega
          have hv := HR.out
          rw [if_pos (Or.inr ⟨t2.symm, t3⟩)] at hv
          have HV := Lib.hid hv
          clear HR t1 t2 t3 hv
          go_wp2_with fail
          go_ret
          exact ⟨ret_int (by rw [HV.out]; rfl), below_drewN (Below.refl _ _) _⟩
        · have b3 : ((Q : Int) % 2 == 1) = false := by simp; omega
          have hv := HR.out
          rw [if_neg (by omega)] at hv
          have HV := Lib.hid hv
          clear HR t1 t2 t3 hv
          go_wp2_with fail
          go_ret
          exact ⟨ret_int (by rw [HV.out]; rfl), below_drewN (Below.refl _ _) _⟩
      · have b2 : ((R : Int) == (G : Int)) = false := by simp; omega
        have hv := HR.out
        rw [if_neg (by omega)] at hv
        have HV := Lib.hid hv
        clear HR t1 t2 hv
        go_wp2_with fail
        go_ret
        exact ⟨ret_int (by rw [HV.out]; rfl), below_drewN (Below.refl _ _) _⟩

theorem orU_shift {q r : Nat} (hq : q < 2048) (hr : r < 4503599627370496) : orU ((q : Int) * 4503599627370496) (r : Int) = ((q * 4503599627370496 + r : Nat) : Int) := by
  rw [show ((q : Int) * 4503599627370496) = ((q * 4503599627370496 : Nat) : Int) by omega]
  exact orU_nat 52 (by omega) (by omega) hr (by omega)

theorem join_any (m : Nat) (e : Int) (w : World) (h1 : 4503599627370496 ≤ m) (h2 : m < 9007199254740992) (h3 : -5000 ≤ e) (h4 : e ≤ 5000) :
    Calls Try.prog 71 #[.int .u64 m, .int .i64 e] w fun z w' => z = .returned (.int .u64 (Fl.scl m (e + 1074))) ∧ Below w.heap.size w w' := by
  have hI := Fl.INF_val
  by_cases c1 : 1023 < e + 52
  · have hs : Fl.scl m (e + 1074) = Fl.INF := by
      have := Fl.scl_exact m (e + 1074).toNat h2 (.inl h1)
      rw [Int.toNat_of_nonneg (by omega)] at this
      rw [this]; unfold Fl.cap; omega
    rw [hs, hI]
    clear hs hI
    go_enter Try.func71, Try.ntmps71
    go_wp2_with fail
    go_ret
    exact ⟨rfl, Below.refl _ _⟩
  · have c1' : decide (1023 < e + 52) = false := by simp [c1]
    by_cases c2 : -1022 ≤ e + 52
    · have hs : Fl.scl m (e + 1074) = (e + 52 + 1023).toNat * 4503599627370496 + m % 4503599627370496 := by
        have := Fl.scl_exact m (e + 1074).toNat h2 (.inl h1)
        rw [Int.toNat_of_nonneg (by omega)] at this
        rw [this]; unfold Fl.cap; omega
      have ho := orU_shift (q := (e + 52 + 1023).toNat) (r := m % 4503599627370496) (by omega) (by omega)
      have HO := Lib.hid ho
      have HS := Lib.hid hs
      clear ho hs hI c1
      go_enter Try.func71, Try.ntmps71
      go_wp2_with fail
      go_ret
      refine ⟨ret_int ?_, Below.refl _ _⟩
      have hs := HS.out
      have ho := HO.out
      have b1 : e + 52 ≤ 1023 := by simpa using c1'
      rw [hs, ← ho, IntKind.wrap_u64, show (e + 52 + 1023) * 4503599627370496 % 18446744073709551616 = ((e + 52 + 1023).toNat : Int) * 4503599627370496 by omega,
        show ((m : Int) % 4503599627370496) = ((m % 4503599627370496 : Nat) : Int) by omega]
    · have hs : Fl.scl m (e + 1074) = Fl.rne m (-1074 - e).toNat := by
        have hp : 0 < 2 ^ (-1074 - e).toNat := Nat.two_pow_pos _
        have := Fl.scl_place m (-1074 - e).toNat 0 (Nat.lt_of_le_of_lt (Nat.div_le_self _ _) h2) (.inr rfl)
        rw [show ((0 : Nat) : Int) - ((-1074 - e).toNat : Int) = e + 1074 by omega] at this
        rw [this]
        have : Fl.rne m (-1074 - e).toNat ≤ m / 2 ^ (-1074 - e).toNat + 1 := by unfold Fl.rne; split <;> omega
        have := Nat.div_le_self m (2 ^ (-1074 - e).toNat)
        unfold Fl.cap; omega
      have c2' : decide (-1022 ≤ e + 52) = false := by simp [c2]
      obtain ⟨n, hn⟩ : ∃ n : Nat, -1074 - e = n := ⟨(-1074 - e).toNat, by omega⟩
      obtain rfl : e = -1074 - n := by omega
      rw [show (-1074 - (-1074 - (n : Int))).toNat = n by omega] at hs
      rw [hs]
      clear hs hn c1 c2 hI
      go_enter Try.func71, Try.ntmps71
      go_wp2_with fail
      rw [show (-1074 - (-1074 - (n : Int))) = n by omega]
      refine (cut_any m n _ h2 (by simp at c2'; omega) (by omega)).mono ?_
      rintro e w' ⟨rfl, hw⟩
      go_wp2_with fail
      go_ret
      exact ⟨rfl, hw⟩
end Go.Proofs.Ytjjneiidggcfdaa
set_option linter.unusedVariables false
namespace Go.Proofs.Ytjjneiidggcfdaa
open Go.RowKit
attribute [local go_sem ↓] ib_andNot_sign ib_and_frac ib_and_15 ib_and_1 ib_and_sign ib_and_inf ib_or

theorem fin_bits {z : Nat} (hz : z < 18446744073709551616) : ((z : Int) / 4503599627370496 % 2048 * 4503599627370496 == 9218868437227405312) = !Fl.fin z := by
  have hr := rung_def z
  have hI := Fl.INF_val
  unfold Fl.fin
  rw [Bool.eq_iff_iff, beq_iff_eq]
  simp only [Bool.not_eq_true', decide_eq_false_iff_not]
  omega

/-- The list's floats are words. -/
def Words (zs : List Nat) : Prop := ∀ z ∈ zs, z < 18446744073709551616
/-- The cells from off on in block b are the list's floats. -/
def Holds (w : World) (b off : Nat) (zs : List Nat) : Prop := ∀ (i : Nat) (z : Nat), zs[i]? = some z → w.cell? ⟨b, off + i, none⟩ = some (.float .f64 z)

theorem all_take (zs : List Nat) (k : Nat) (h : k < zs.length) : (zs.take (k + 1)).all Fl.fin = ((zs.take k).all Fl.fin && Fl.fin zs[k]) := by
  rw [List.take_succ_eq_append_getElem h, List.all_append]; simp

theorem all_of_take {zs : List Nat} {j : Nat} (h : (zs.take j).all Fl.fin = false) : zs.all Fl.fin = false := by
  rw [← List.take_append_drop j zs, List.all_append, h]; rfl

set_option maxHeartbeats 400000 in
theorem finite_any (b off c : Nat) (zs : List Nat) (w : World) (hl : zs.length ≤ 9223372036854775807) (hw : Words zs) (hc : Holds w b off zs) :
    Calls Try.prog 69 #[.slice (some ⟨b, off, none⟩) zs.length c] w fun e w' => e = .returned (.bool (zs.all Fl.fin)) ∧ w = w' := by
  generalize hn : zs.length = n at *
  have HN := Lib.hid hn
  have HW := Lib.hid hw
  have HC := Lib.hid hc
  clear hn hw hc
  go_enter Try.func69, Try.ntmps69
  go_wp2
  go_loop [7] (fun i => ∃ k : Nat, k ≤ n ∧ i = .int .i64 k ∧ (zs.take k).all Fl.fin = true) (fun i => n - (intOf i).toNat)
  case atStart => exact ⟨0, Nat.zero_le _, rfl, by simp⟩
  case round =>
    obtain ⟨k, hk, rfl, ha⟩ := hrel
    have HA := Lib.hid ha
    clear ha
    by_cases hlt : k < n
    · have hlz : k < zs.length := by rw [HN.out]; exact hlt
      have hcell := HC.out k zs[k] (by simp [hlz])
      have hword := HW.out zs[k] (List.getElem_mem hlz)
      have hbit := fin_bits hword
      have hstep := all_take zs k hlz
      rw [HA.out] at hstep
      generalize zs[k] = z at *
      clear hword
      have HS := Lib.hid hstep
      clear hstep hlz
      by_cases hf : Fl.fin z = true
      · rw [hf] at hbit
        have HF := Lib.hid hf
        clear hf
        go_wp2
        go_round
        case rel => exact ⟨k + 1, by omega, by go_num, by rw [HS.out, HF.out]; rfl⟩
        case measure => simp [intOf]; omega
      · have hf' : Fl.fin z = false := by simpa using hf
        rw [hf'] at hbit
        have HF := Lib.hid hf'
        clear hf hf'
        go_wp2
        go_ret
        refine ⟨ret_bool ?_, rfl⟩
        have h1 := HS.out
        rw [HF.out] at h1
        exact (all_of_take h1).symm
    · go_wp2
      go_ret
      exact ⟨ret_bool (by rw [← HA.out, List.take_of_length_le (by have := HN.out; omega)]), rfl⟩

theorem finite_one (g c : Nat) (b : Nat) (w : World) (hb : b < 18446744073709551616) (hc : w.cell? ⟨g, 0, none⟩ = some (.float .f64 b)) :
    Calls Try.prog 69 #[.slice (some ⟨g, 0, none⟩) 1 c] w fun e w' => e = .returned (.bool (Fl.fin b)) ∧ w = w' := by
  have h := finite_any g 0 c [b] w (by simp) (by intro z hz; simp at hz; omega) (by
    intro i z hz
    match i, hz with
    | 0, hz => simp at hz; subst hz; simpa using hc)
  simpa using h
end Go.Proofs.Ytjjneiidggcfdaa
set_option linter.unusedVariables false
namespace Go.Proofs.Ytjjneiidggcfdaa
open Go.RowKit
attribute [local go_sem ↓] ib_andNot_sign ib_and_frac ib_and_15 ib_and_1 ib_and_sign ib_and_inf ib_or

theorem orU_sign {b r : Nat} (hr : r < 9223372036854775808) : orU (signOf (b : Int)) (r : Int) = ((Fl.wd (Fl.sg b) r : Nat) : Int) := by
  have h0 : signOf (b : Int) = ((Fl.wd (Fl.sg b) 0 : Nat) : Int) := by
    unfold signOf Fl.wd Fl.sg
    by_cases h1 : b / 9223372036854775808 % 2 = 1
    · simp [h1]; omega
    · simp [h1]; omega
  have hz : Fl.wd (Fl.sg b) 0 = 0 ∨ Fl.wd (Fl.sg b) 0 = 9223372036854775808 := by unfold Fl.wd; cases Fl.sg b <;> simp
  rw [h0, orU_nat 63 (by omega) (by omega) hr (by omega)]
  unfold Fl.wd; cases Fl.sg b <;> simp

/-- The power of 2 within the bounds beyond which nothing changes. -/
def clamp (k : Int) : Int := if k < -2099 then -2099 else if 2099 < k then 2099 else k
theorem clamp_scl {b : Nat} (h0 : Fl.rung b ≠ 0) (hf : Fl.rung b < Fl.INF) (k : Int) : Fl.scl (Fl.dm b) (Fl.de b + clamp k + 1074) = Fl.scl (Fl.mag (Fl.rung b)) k := by
  have hd := Fl.dm_bounds h0
  have he := Fl.de_bounds hf
  rw [Fl.scl_digits]
  unfold clamp
  have low : ∀ j : Int, j ≤ -54 → Fl.scl (Fl.dm b) j = 0 := by
    intro j hj
    refine Fl.scl_low _ _ ?_ (by omega)
    have : 2 ^ 54 ≤ 2 ^ (-j).toNat := Nat.pow_le_pow_right (by omega) (by omega)
    omega
  have high : ∀ j : Int, 2046 ≤ j → Fl.scl (Fl.dm b) j = Fl.INF := by
    intro j hj
    have := Fl.scl_exact (Fl.dm b) j.toNat hd.2 (.inl hd.1)
    rw [Int.toNat_of_nonneg (by omega)] at this
    have hI := Fl.INF_val
    rw [this]; unfold Fl.cap; omega
  split
  · rw [low _ (by omega), low _ (by omega)]
  · split
    · rw [high _ (by omega), high _ (by omega)]
    · congr 1; omega
theorem scale_any (b : Nat) (k : Int) (w : World) (hb : b < 18446744073709551616) :
    Calls Try.prog 62 #[.float .f64 b, .int .i64 k] w fun e w' => e = .returned (.float .f64 (Fl.scale b k)) ∧ Below w.heap.size w w' := by
  have ht := eql_zero b
  by_cases h0 : Fl.rung b = 0
  · rw [decide_eq_true h0] at ht
    have he : Fl.scale b k = b := by unfold Fl.scale; rw [if_pos (.inl h0)]
    rw [he]
    clear he h0
    go_enter Try.func62, Try.ntmps62
    go_wp2_with fail
    go_ret
    exact ⟨rfl, Below.refl _ _⟩
  · rw [decide_eq_false h0] at ht
    by_cases hf : Fl.rung b < Fl.INF
    · have hfin : Fl.fin b = true := decide_eq_true hf
      have hx := clamp_scl h0 hf k
      have he : Fl.scale b k = Fl.wd (Fl.sg b) (Fl.scl (Fl.dm b) (Fl.de b + clamp k + 1074)) := by rw [hx]; unfold Fl.scale; rw [if_neg (by omega)]
      have hd := Fl.de_bounds hf
      obtain ⟨d1, d2⟩ := hd
      have hm := Fl.dm_bounds h0
      rw [he]
      have H0 := Lib.hid h0
      have HF := Lib.hid hf
      have HI := Lib.hid hfin
      have HM := Lib.hid hm
      clear he hx h0 hf hfin hm
      have hk : (k < -2099 ∧ clamp k = -2099) ∨ (2099 < k ∧ clamp k = 2099) ∨ ((-2099 ≤ k ∧ k ≤ 2099) ∧ clamp k = k) := by
        unfold clamp; split
        · exact .inl ⟨by omega, rfl⟩
        · split
          · exact .inr (.inl ⟨by omega, rfl⟩)
          · exact .inr (.inr ⟨by omega, rfl⟩)
      rcases hk with ⟨k1, k2⟩ | ⟨k1, k2⟩ | ⟨k1, k2⟩
      all_goals
        rw [k2]
        clear k2
        go_enter Try.func62, Try.ntmps62
        go_wp2_with fail
        refine (finite_one _ _ b _ hb (by simp)).mono ?_
        rintro e w' ⟨rfl, rfl⟩
        rw [HI.out]
        go_wp2_with fail
        refine (digits_any b _ hb H0.out HF.out).mono ?_
        rintro e w' ⟨rfl, rfl⟩
        go_wp2_with fail
        refine (join_any (Fl.dm b) _ _ HM.out.1 HM.out.2 (by omega) (by omega)).mono ?_
        rintro e w' ⟨rfl, hbl⟩
        go_wp2_with fail
        go_ret
        refine ⟨ret_float ?_, ((Below.refl _ _).alloc (Nat.le_refl _) _).trans (hbl.mono (by simp))⟩
        rw [orU_sign (Nat.lt_of_le_of_lt (Fl.scl_le _ _) (by decide)), Int.toNat_natCast]
    · have hfin : Fl.fin b = false := decide_eq_false hf
      have he : Fl.scale b k = b := by unfold Fl.scale; rw [if_pos (.inr (by omega))]
      rw [he]
      have HI := Lib.hid hfin
      clear he h0 hf hfin
      go_enter Try.func62, Try.ntmps62
      go_wp2_with fail
      refine (finite_one _ _ b _ hb (by simp)).mono ?_
      rintro e w' ⟨rfl, rfl⟩
      rw [HI.out]
      go_wp2_with fail
      go_ret
      exact ⟨rfl, (Below.refl _ _).alloc (Nat.le_refl _) _⟩
end Go.Proofs.Ytjjneiidggcfdaa
set_option linter.unusedVariables false
namespace Go.Proofs.Ytjjneiidggcfdaa
open Go.RowKit
attribute [local go_sem ↓] ib_andNot_sign ib_and_frac ib_and_15 ib_and_1 ib_and_sign ib_and_inf ib_or

/-- After some doublings of m, each of which took one from e. -/
def Up1 (m : Nat) (e : Int) (M : Nat) (E : Int) : Prop := ∃ j : Nat, M = m * 2 ^ j ∧ E = e - j ∧ (j = 0 ∨ (M < 9007199254740992 ∧ -1074 ≤ E))
theorem Up1.start (m : Nat) (e : Int) : Up1 m e m e := ⟨0, by simp, by omega, .inl rfl⟩
theorem Up1.step {m : Nat} {e : Int} {M : Nat} {E : Int} (h : Up1 m e M E) (h1 : M < 4503599627370496) (h2 : -1074 < E) : Up1 m e (M * 2) (E - 1) := by
  obtain ⟨j, rfl, rfl, _⟩ := h
  exact ⟨j + 1, by rw [Nat.pow_succ, Nat.mul_assoc], by omega, .inr ⟨by omega, by omega⟩⟩
theorem Up1.scl {m : Nat} {e : Int} {M : Nat} {E : Int} (h : Up1 m e M E) : Fl.scl m (e + 1074) = Fl.scl M (E + 1074) := by
  obtain ⟨j, rfl, rfl, _⟩ := h
  rw [Fl.scl_shift]; congr 1; omega

/-- The last digit that was cut off, and whether one behind it was 1. -/
def lostB (m i : Nat) : Bool := if i = 0 then false else decide (m % 2 ^ (i - 1) ≠ 0)
def halfB (m i : Nat) : Bool := if i = 0 then false else decide (m / 2 ^ (i - 1) % 2 = 1)
def Down2 (m : Nat) (e : Int) (M : Nat) (E : Int) (lost half : Bool) : Prop :=
  ∃ i : Nat, M = m / 2 ^ i ∧ E = e + i ∧ lost = lostB m i ∧ half = halfB m i ∧ (i = 0 ∨ 4503599627370496 ≤ M ∨ E ≤ -1074)
theorem Down2.start (m : Nat) (e : Int) : Down2 m e m e false false := ⟨0, by simp, by omega, rfl, rfl, .inl rfl⟩
theorem Down2.step {m : Nat} {e : Int} {M : Nat} {E : Int} {lost half : Bool} (h : Down2 m e M E lost half) (hc : 9007199254740992 ≤ M ∨ E < -1074) :
    Down2 m e (M / 2) (E + 1) (lost || half) (decide (M % 2 = 1)) := by
  obtain ⟨i, rfl, rfl, rfl, rfl, _⟩ := h
  refine ⟨i + 1, by rw [Nat.pow_succ, Nat.div_div_eq_div_mul], by omega, ?_, ?_, ?_⟩
  · unfold lostB halfB
    rw [if_neg (show ¬ i + 1 = 0 by omega), show i + 1 - 1 = i by omega]
    by_cases h0 : i = 0
    · subst h0; simp [Nat.mod_one]
    · rw [if_neg h0, if_neg h0]
      obtain ⟨k, rfl⟩ : ∃ k, i = k + 1 := ⟨i - 1, by omega⟩
      rw [show k + 1 - 1 = k by omega, Nat.mod_pow_succ]
      have hp : 0 < 2 ^ k := Nat.two_pow_pos k
      rw [Bool.eq_iff_iff]
      simp only [Bool.or_eq_true, decide_eq_true_eq]
      have hb : m / 2 ^ k % 2 = 0 ∨ m / 2 ^ k % 2 = 1 := by omega
      rcases hb with hb | hb
      · rw [hb]; simp
      · rw [hb]; simp
  · unfold halfB
    rw [if_neg (show ¬ i + 1 = 0 by omega), show i + 1 - 1 = i by omega]
  · rcases hc with hc | hc
    · exact .inr (.inl (by omega))
    · exact .inr (.inr (by omega))
/-- Rounded: one more if the last digit that was cut off was 1, and one behind it, or the last that is kept. -/
theorem rne_lost (m i : Nat) : Fl.rne m i = m / 2 ^ i + if halfB m i = true ∧ (lostB m i = true ∨ m / 2 ^ i % 2 = 1) then 1 else 0 := by
  by_cases h0 : i = 0
  · subst h0; rw [Fl.rne_d0]; simp [halfB]
  · rw [rne_half m i (by omega)]
    congr 1
    unfold halfB lostB
    rw [if_neg h0, if_neg h0]
    obtain ⟨k, rfl⟩ : ∃ k, i = k + 1 := ⟨i - 1, by omega⟩
    rw [show k + 1 - 1 = k by omega, Nat.mod_pow_succ]
    have hp : 0 < 2 ^ k := Nat.two_pow_pos k
    have hm := Nat.mod_lt m hp
    simp only [decide_eq_true_eq]
    have hb : m / 2 ^ k % 2 = 0 ∨ m / 2 ^ k % 2 = 1 := by omega
    generalize m / 2 ^ (k + 1) % 2 = z
    rcases hb with hb | hb
    · rw [hb, if_neg (by simp; omega), if_neg (by omega)]
    · rw [hb]
      by_cases h1 : m % 2 ^ k = 0
      · by_cases h2 : z = 1
        · rw [if_pos (by simp; omega), if_pos ⟨rfl, .inr h2⟩]
        · rw [if_neg (by simp; omega), if_neg (by omega)]
      · rw [if_pos (by simp; omega), if_pos ⟨rfl, .inl h1⟩]

/-- The rung that Make comes to, out of what its loops leave. -/
theorem Down2.scl {m : Nat} {e : Int} {M : Nat} {E : Int} {lost half : Bool} (h : Down2 m e M E lost half) (h1 : M < 9007199254740992) (h2 : -1074 ≤ E) (h3 : 4503599627370496 ≤ m ∨ e ≤ -1074) :
    Fl.scl m (e + 1074) = Fl.cap ((E + 1074).toNat * 4503599627370496 + (M + if half = true ∧ (lost = true ∨ M % 2 = 1) then 1 else 0)) ∧ (4503599627370496 ≤ M ∨ E = -1074) := by
  obtain ⟨i, rfl, rfl, rfl, rfl, hl⟩ := h
  have hq : 4503599627370496 ≤ m / 2 ^ i ∨ (e + i + 1074).toNat = 0 := by
    rcases hl with rfl | hl | hl
    · rcases h3 with h3 | h3
      · left; simpa using h3
      · right; omega
    · exact .inl hl
    · right; omega
  have := Fl.scl_place m i (e + i + 1074).toNat h1 hq
  rw [Int.toNat_of_nonneg (by omega), show e + (i : Int) + 1074 - (i : Int) = e + 1074 by omega, rne_lost] at this
  exact ⟨this, by omega⟩

theorem Down2.bound {m : Nat} {e : Int} {M : Nat} {E : Int} {lost half : Bool} (h : Down2 m e M E lost half) (h1 : m < 4611686018427387904) (h2 : e ≤ 2000) (hc : 9007199254740992 ≤ M ∨ E < -1074) : E < 5000 := by
  obtain ⟨i, rfl, rfl, _⟩ := h
  rcases hc with hc | hc
  · have : i < 62 := by
      refine Nat.lt_of_not_le fun hi => ?_
      have : 2 ^ 62 ≤ 2 ^ i := Nat.pow_le_pow_right (by omega) hi
      rw [Nat.div_eq_of_lt (by omega)] at hc
      omega
    omega
  · omega

/-- What the document's Make answers. -/
def mk (neg : Bool) (m : Nat) (e : Int) : Nat := Fl.wd neg (Fl.scl m (e + 1074))

theorem mk_false {m : Nat} {e : Int} {R : Nat} (h : Fl.scl m (e + 1074) = Fl.cap R) : mk false m e = min R 9218868437227405312 := by
  unfold mk Fl.wd Fl.cap at *
  rw [Fl.INF_val] at h
  rw [h]; simp
theorem mk_true {m : Nat} {e : Int} {R : Nat} (h : Fl.scl m (e + 1074) = Fl.cap R) : mk true m e = 9223372036854775808 + min R 9218868437227405312 := by
  unfold mk Fl.wd Fl.cap at *
  rw [Fl.INF_val] at h
  rw [h]; simp

end Go.Proofs.Ytjjneiidggcfdaa
set_option linter.unusedVariables false
namespace Go.Proofs.Ytjjneiidggcfdaa
open Go.RowKit
attribute [local go_sem ↓] ib_andNot_sign ib_and_frac ib_and_15 ib_and_1 ib_and_sign ib_and_inf ib_or

set_option maxHeartbeats 1000000 in
theorem make_false (m : Nat) (e : Int) (w : World) (hm0 : m ≠ 0) (hm : m < 4611686018427387904) (he1 : -1200 ≤ e) (he2 : e ≤ 2000) :
    Calls Try.prog 72 #[.bool false, .int .u64 m, .int .i64 e] w fun z w' => z = .returned (.float .f64 (mk false m e)) ∧ w = w' := by
  have t0 : ((m : Int) == 0) = false := by simp; omega
  have t1 : decide (e < -1200) = false := by simp; omega
  have t2 : decide (2000 < e) = false := by simp; omega
  have H0 := Lib.hid hm0
  clear hm0
  go_enter Try.func72, Try.ntmps72
  go_wp2
  go_loop [1, 2] (fun a b => ∃ (M : Nat) (E : Int), a = .int .u64 M ∧ b = .int .i64 E ∧ M < 4611686018427387904 ∧ -1200 ≤ E ∧ E ≤ 2000 ∧ Up1 m e M E) (fun _ b => (intOf b + 1200).toNat)
  case atStart => exact ⟨m, e, rfl, rfl, hm, he1, he2, Up1.start m e⟩
  case round =>
    obtain ⟨M, E, rfl, rfl, hM, hE1, hE2, hP⟩ := hrel
    by_cases c : M < 4503599627370496 ∧ -1074 < E
    · have HP := Lib.hid (hP.step c.1 c.2)
      have b1 : decide ((M : Int) < 4503599627370496) = true := by simp; omega
      have b2 : decide (-1074 < E) = true := by simp; omega
      clear hP
      obtain ⟨c1, c2⟩ := c
      go_wp2
      go_round
      case rel => exact ⟨M * 2, E - 1, by go_num, by go_num, by omega, by omega, by omega, HP.out⟩
      case measure => simp [intOf]; omega
    · have hs := hP.scl
      have h3 : 4503599627370496 ≤ M ∨ E ≤ -1074 := by omega
      have HS := Lib.hid hs
      have H3 := Lib.hid h3
      clear hs h3 hP
      have hb : (decide ((M : Int) < 4503599627370496) = true ∧ decide (-1074 < E) = false) ∨ decide ((M : Int) < 4503599627370496) = false := by simp; omega
      clear c
      rcases hb with ⟨b1, b2⟩ | b1
      all_goals
        go_wp2
        clear b1
        try clear b2
        go_loop [1, 2, 8, 9] (fun a b c d => ∃ (N : Nat) (F : Int) (lost half : Bool), a = .int .u64 N ∧ b = .int .i64 F ∧ c = .bool lost ∧ d = .bool half ∧ N < 4611686018427387904 ∧ -1200 ≤ F ∧ F ≤ 5000 ∧ Down2 M E N F lost half) (fun a b _ _ => (intOf a).toNat + (-1074 - intOf b).toNat)
        case atStart => exact ⟨M, E, false, false, rfl, rfl, rfl, rfl, hM, hE1, by omega, Down2.start M E⟩
        case round =>
          obtain ⟨N, F, lost, half, rfl, rfl, rfl, rfl, hN, hF1, hF2, hD⟩ := hrel
          by_cases c : 9007199254740992 ≤ N ∨ F < -1074
          · have HD := Lib.hid (hD.step c)
            have hF3 : F < 5000 := hD.bound hM hE2 c
            have hp : ((N : Int) % 2 == 1) = decide (N % 2 = 1) := by rw [Bool.eq_iff_iff]; simp; omega
            have hb : decide (9007199254740992 ≤ (N : Int)) = true ∨ (decide (9007199254740992 ≤ (N : Int)) = false ∧ decide (F < -1074) = true) := by simp; omega
            have hms : N / 2 + (-1074 - (F + 1)).toNat < N + (-1074 - F).toNat := by omega
            have HMS := Lib.hid hms
            clear hD c hms
            cases lost
            all_goals
              rcases hb with d1 | ⟨d1, d2⟩
              all_goals
                go_wp2
                go_round
                case rel => exact ⟨N / 2, F + 1, _, _, by go_num, rfl, rfl, rfl, by omega, by omega, by omega, HD.out⟩
                case measure => have := HMS.out; simp [intOf]; omega
          · have hk := hD.scl (by omega) (by omega) H3.out
            rw [← HS.out] at hk
            have hI := Fl.INF_val
            have hbits := mk_false hk.1
            have hN2 : N < 9007199254740992 := by omega
            have hF3 : -1074 ≤ F := by omega
            have hor := hk.2
            have b1 : decide (9007199254740992 ≤ (N : Int)) = false := by simp; omega
            have b2 : decide (F < -1074) = false := by simp; omega
            have hc : (half = false ∧ mk false m e = min ((F + 1074).toNat * 4503599627370496 + N) 9218868437227405312) ∨
                (half = true ∧ lost = true ∧ mk false m e = min ((F + 1074).toNat * 4503599627370496 + (N + 1)) 9218868437227405312) ∨
                (half = true ∧ lost = false ∧ ((N : Int) % 2 == 1) = true ∧ mk false m e = min ((F + 1074).toNat * 4503599627370496 + (N + 1)) 9218868437227405312) ∨
                (half = true ∧ lost = false ∧ ((N : Int) % 2 == 1) = false ∧ mk false m e = min ((F + 1074).toNat * 4503599627370496 + N) 9218868437227405312) := by
              cases half
              · left; simpa using hbits
              · right
                cases lost
                · right
                  by_cases hp : N % 2 = 1
                  · left; rw [if_pos (by simp [hp])] at hbits; exact ⟨rfl, rfl, by simp; omega, hbits⟩
                  · right; rw [if_neg (by simp [hp])] at hbits; exact ⟨rfl, rfl, by simp; omega, hbits⟩
                · left; rw [if_pos (by simp)] at hbits; exact ⟨rfl, rfl, hbits⟩
            have H0R := Lib.hid hor
            clear hbits hk hD c hor hI
            have hA : ((N : Int) == 9007199254740992) = false := by simp; omega
            have hA2 : decide (2047 ≤ F + 1075) = true ∨ (decide (2047 ≤ F + 1075) = false ∧ (decide ((N : Int) < 4503599627370496) = true ∨ decide ((N : Int) < 4503599627370496) = false)) := by simp; omega
            have hB : (((N : Int) + 1 == 9007199254740992) = true ∧ (decide (2047 ≤ F + 1 + 1075) = true ∨ (decide (2047 ≤ F + 1 + 1075) = false ∧ decide (((N : Int) + 1) / 2 < 4503599627370496) = false))) ∨
                (((N : Int) + 1 == 9007199254740992) = false ∧ (decide (2047 ≤ F + 1075) = true ∨ (decide (2047 ≤ F + 1075) = false ∧ (decide ((N : Int) + 1 < 4503599627370496) = true ∨ decide ((N : Int) + 1 < 4503599627370496) = false)))) := by simp; omega
            rcases hc with ⟨rfl, hb⟩ | ⟨rfl, rfl, hb⟩ | ⟨rfl, rfl, p1, hb⟩ | ⟨rfl, rfl, p1, hb⟩
            · have HB := Lib.hid hb
              clear hb hB
              rcases hA2 with q | ⟨q, q2 | q2⟩
              all_goals
                go_wp2
                go_ret
                refine ⟨ret_float ?_, rfl⟩
                have h1 := HB.out
                have h2 := H0R.out
                rw [h1]
                simp only [decide_eq_true_eq, decide_eq_false_iff_not, beq_eq_false_iff_ne, ne_eq] at *
                try simp only [IntKind.wrap_u64]
                omega
            · have HB := Lib.hid hb
              clear hb hA2 hA
              rcases hB with ⟨q0, q | ⟨q, q2⟩⟩ | ⟨q0, q | ⟨q, q2 | q2⟩⟩
              all_goals
                go_wp2
                go_ret
                refine ⟨ret_float ?_, rfl⟩
                have h1 := HB.out
                have h2 := H0R.out
                rw [h1]
                simp only [decide_eq_true_eq, decide_eq_false_iff_not, beq_iff_eq, beq_eq_false_iff_ne, ne_eq] at *
                try simp only [IntKind.wrap_u64]
                omega
            · have HB := Lib.hid hb
              clear hb hA2 hA
              rcases hB with ⟨q0, q | ⟨q, q2⟩⟩ | ⟨q0, q | ⟨q, q2 | q2⟩⟩
              all_goals
                go_wp2
                go_ret
                refine ⟨ret_float ?_, rfl⟩
                have h1 := HB.out
                have h2 := H0R.out
                rw [h1]
                simp only [decide_eq_true_eq, decide_eq_false_iff_not, beq_iff_eq, beq_eq_false_iff_ne, ne_eq] at *
                try simp only [IntKind.wrap_u64]
                omega
            · have HB := Lib.hid hb
              clear hb hB
              rcases hA2 with q | ⟨q, q2 | q2⟩
              all_goals
                go_wp2
                go_ret
                refine ⟨ret_float ?_, rfl⟩
                have h1 := HB.out
                have h2 := H0R.out
                rw [h1]
                simp only [decide_eq_true_eq, decide_eq_false_iff_not, beq_eq_false_iff_ne, ne_eq] at *
                try simp only [IntKind.wrap_u64]
                omega
end Go.Proofs.Ytjjneiidggcfdaa
set_option linter.unusedVariables false
namespace Go.Proofs.Ytjjneiidggcfdaa
open Go.RowKit
attribute [local go_sem ↓] ib_andNot_sign ib_and_frac ib_and_15 ib_and_1 ib_and_sign ib_and_inf ib_or

set_option maxHeartbeats 1000000 in
theorem make_true (m : Nat) (e : Int) (w : World) (hm0 : m ≠ 0) (hm : m < 4611686018427387904) (he1 : -1200 ≤ e) (he2 : e ≤ 2000) :
    Calls Try.prog 72 #[.bool true, .int .u64 m, .int .i64 e] w fun z w' => z = .returned (.float .f64 (mk true m e)) ∧ w = w' := by
  have t0 : ((m : Int) == 0) = false := by simp; omega
  have t1 : decide (e < -1200) = false := by simp; omega
  have t2 : decide (2000 < e) = false := by simp; omega
  have H0 := Lib.hid hm0
  clear hm0
  go_enter Try.func72, Try.ntmps72
  go_wp2
  go_loop [1, 2] (fun a b => ∃ (M : Nat) (E : Int), a = .int .u64 M ∧ b = .int .i64 E ∧ M < 4611686018427387904 ∧ -1200 ≤ E ∧ E ≤ 2000 ∧ Up1 m e M E) (fun _ b => (intOf b + 1200).toNat)
  case atStart => exact ⟨m, e, rfl, rfl, hm, he1, he2, Up1.start m e⟩
  case round =>
    obtain ⟨M, E, rfl, rfl, hM, hE1, hE2, hP⟩ := hrel
    by_cases c : M < 4503599627370496 ∧ -1074 < E
    · have HP := Lib.hid (hP.step c.1 c.2)
      have b1 : decide ((M : Int) < 4503599627370496) = true := by simp; omega
      have b2 : decide (-1074 < E) = true := by simp; omega
      clear hP
      obtain ⟨c1, c2⟩ := c
      go_wp2
      go_round
      case rel => exact ⟨M * 2, E - 1, by go_num, by go_num, by omega, by omega, by omega, HP.out⟩
      case measure => simp [intOf]; omega
    · have hs := hP.scl
      have h3 : 4503599627370496 ≤ M ∨ E ≤ -1074 := by omega
      have HS := Lib.hid hs
      have H3 := Lib.hid h3
      clear hs h3 hP
      have hb : (decide ((M : Int) < 4503599627370496) = true ∧ decide (-1074 < E) = false) ∨ decide ((M : Int) < 4503599627370496) = false := by simp; omega
      clear c
      rcases hb with ⟨b1, b2⟩ | b1
      all_goals
        go_wp2
        clear b1
        try clear b2
        go_loop [1, 2, 8, 9] (fun a b c d => ∃ (N : Nat) (F : Int) (lost half : Bool), a = .int .u64 N ∧ b = .int .i64 F ∧ c = .bool lost ∧ d = .bool half ∧ N < 4611686018427387904 ∧ -1200 ≤ F ∧ F ≤ 5000 ∧ Down2 M E N F lost half) (fun a b _ _ => (intOf a).toNat + (-1074 - intOf b).toNat)
        case atStart => exact ⟨M, E, false, false, rfl, rfl, rfl, rfl, hM, hE1, by omega, Down2.start M E⟩
        case round =>
          obtain ⟨N, F, lost, half, rfl, rfl, rfl, rfl, hN, hF1, hF2, hD⟩ := hrel
          by_cases c : 9007199254740992 ≤ N ∨ F < -1074
          · have HD := Lib.hid (hD.step c)
            have hF3 : F < 5000 := hD.bound hM hE2 c
            have hp : ((N : Int) % 2 == 1) = decide (N % 2 = 1) := by rw [Bool.eq_iff_iff]; simp; omega
            have hb : decide (9007199254740992 ≤ (N : Int)) = true ∨ (decide (9007199254740992 ≤ (N : Int)) = false ∧ decide (F < -1074) = true) := by simp; omega
            have hms : N / 2 + (-1074 - (F + 1)).toNat < N + (-1074 - F).toNat := by omega
            have HMS := Lib.hid hms
            clear hD c hms
            cases lost
            all_goals
              rcases hb with d1 | ⟨d1, d2⟩
              all_goals
                go_wp2
                go_round
                case rel => exact ⟨N / 2, F + 1, _, _, by go_num, rfl, rfl, rfl, by omega, by omega, by omega, HD.out⟩
                case measure => have := HMS.out; simp [intOf]; omega
          · have hk := hD.scl (by omega) (by omega) H3.out
            rw [← HS.out] at hk
            have hI := Fl.INF_val
            have hbits := mk_true hk.1
            have hN2 : N < 9007199254740992 := by omega
            have hF3 : -1074 ≤ F := by omega
            have hor := hk.2
            have b1 : decide (9007199254740992 ≤ (N : Int)) = false := by simp; omega
            have b2 : decide (F < -1074) = false := by simp; omega
            have hc : (half = false ∧ mk true m e = 9223372036854775808 + min ((F + 1074).toNat * 4503599627370496 + N) 9218868437227405312) ∨
                (half = true ∧ lost = true ∧ mk true m e = 9223372036854775808 + min ((F + 1074).toNat * 4503599627370496 + (N + 1)) 9218868437227405312) ∨
                (half = true ∧ lost = false ∧ ((N : Int) % 2 == 1) = true ∧ mk true m e = 9223372036854775808 + min ((F + 1074).toNat * 4503599627370496 + (N + 1)) 9218868437227405312) ∨
                (half = true ∧ lost = false ∧ ((N : Int) % 2 == 1) = false ∧ mk true m e = 9223372036854775808 + min ((F + 1074).toNat * 4503599627370496 + N) 9218868437227405312) := by
              cases half
              · left; simpa using hbits
              · right
                cases lost
                · right
                  by_cases hp : N % 2 = 1
                  · left; rw [if_pos (by simp [hp])] at hbits; exact ⟨rfl, rfl, by simp; omega, hbits⟩
                  · right; rw [if_neg (by simp [hp])] at hbits; exact ⟨rfl, rfl, by simp; omega, hbits⟩
                · left; rw [if_pos (by simp)] at hbits; exact ⟨rfl, rfl, hbits⟩
            have H0R := Lib.hid hor
            clear hbits hk hD c hor hI
            have hA : ((N : Int) == 9007199254740992) = false := by simp; omega
            have hA2 : decide (2047 ≤ F + 1075) = true ∨ (decide (2047 ≤ F + 1075) = false ∧ (decide ((N : Int) < 4503599627370496) = true ∨ decide ((N : Int) < 4503599627370496) = false)) := by simp; omega
            have hB : (((N : Int) + 1 == 9007199254740992) = true ∧ (decide (2047 ≤ F + 1 + 1075) = true ∨ (decide (2047 ≤ F + 1 + 1075) = false ∧ decide (((N : Int) + 1) / 2 < 4503599627370496) = false))) ∨
                (((N : Int) + 1 == 9007199254740992) = false ∧ (decide (2047 ≤ F + 1075) = true ∨ (decide (2047 ≤ F + 1075) = false ∧ (decide ((N : Int) + 1 < 4503599627370496) = true ∨ decide ((N : Int) + 1 < 4503599627370496) = false)))) := by simp; omega
            rcases hc with ⟨rfl, hb⟩ | ⟨rfl, rfl, hb⟩ | ⟨rfl, rfl, p1, hb⟩ | ⟨rfl, rfl, p1, hb⟩
            · have HB := Lib.hid hb
              clear hb hB
              rcases hA2 with q | ⟨q, q2 | q2⟩
              all_goals
                go_wp2
                go_ret
                refine ⟨ret_float ?_, rfl⟩
                have h1 := HB.out
                have h2 := H0R.out
                rw [h1]
                simp only [decide_eq_true_eq, decide_eq_false_iff_not, beq_eq_false_iff_ne, ne_eq] at *
                try simp only [IntKind.wrap_u64]
                omega
            · have HB := Lib.hid hb
              clear hb hA2 hA
              rcases hB with ⟨q0, q | ⟨q, q2⟩⟩ | ⟨q0, q | ⟨q, q2 | q2⟩⟩
              all_goals
                go_wp2
                go_ret
                refine ⟨ret_float ?_, rfl⟩
                have h1 := HB.out
                have h2 := H0R.out
                rw [h1]
                simp only [decide_eq_true_eq, decide_eq_false_iff_not, beq_iff_eq, beq_eq_false_iff_ne, ne_eq] at *
                try simp only [IntKind.wrap_u64]
                omega
            · have HB := Lib.hid hb
              clear hb hA2 hA
              rcases hB with ⟨q0, q | ⟨q, q2⟩⟩ | ⟨q0, q | ⟨q, q2 | q2⟩⟩
              all_goals
                go_wp2
                go_ret
                refine ⟨ret_float ?_, rfl⟩
                have h1 := HB.out
                have h2 := H0R.out
                rw [h1]
                simp only [decide_eq_true_eq, decide_eq_false_iff_not, beq_iff_eq, beq_eq_false_iff_ne, ne_eq] at *
                try simp only [IntKind.wrap_u64]
                omega
            · have HB := Lib.hid hb
              clear hb hB
              rcases hA2 with q | ⟨q, q2 | q2⟩
              all_goals
                go_wp2
                go_ret
                refine ⟨ret_float ?_, rfl⟩
                have h1 := HB.out
                have h2 := H0R.out
                rw [h1]
                simp only [decide_eq_true_eq, decide_eq_false_iff_not, beq_eq_false_iff_ne, ne_eq] at *
                try simp only [IntKind.wrap_u64]
                omega
end Go.Proofs.Ytjjneiidggcfdaa
set_option linter.unusedVariables false
namespace Go.Proofs.Ytjjneiidggcfdaa
open Go.RowKit
attribute [local go_sem ↓] ib_andNot_sign ib_and_frac ib_and_15 ib_and_1 ib_and_sign ib_and_inf ib_or

theorem make_any (neg : Bool) (m : Nat) (e : Int) (w : World) (hm : m < 4611686018427387904) (he1 : -9000000000000000000 ≤ e) (he2 : e ≤ 9000000000000000000) :
    Calls Try.prog 72 #[.bool neg, .int .u64 m, .int .i64 e] w fun z w' => z = .returned (.float .f64 (mk neg m e)) ∧ w = w' := by
  by_cases h0 : m = 0
  · have t0 : ((m : Int) == 0) = true := by simp [h0]
    have hk : mk neg m e = Fl.wd neg 0 := by unfold mk; rw [h0, Fl.scl_zero]
    rw [hk]
    clear hk h0
    cases neg
    all_goals
      go_enter Try.func72, Try.ntmps72
      go_wp2
      go_ret
      exact ⟨rfl, rfl⟩
  · have t0 : ((m : Int) == 0) = false := by simp; omega
    by_cases h1 : e < -1200
    · have t1 : decide (e < -1200) = true := by simp [h1]
      have hk : mk neg m e = Fl.wd neg 0 := by
        unfold mk
        rw [Fl.scl_low _ _ ?_ (by omega)]
        have : 2 ^ 63 ≤ 2 ^ (-(e + 1074)).toNat := Nat.pow_le_pow_right (by omega) (by omega)
        omega
      rw [hk]
      clear hk h1 h0
      cases neg
      all_goals
        go_enter Try.func72, Try.ntmps72
        go_wp2
        go_ret
        exact ⟨rfl, rfl⟩
    · by_cases h2 : 2000 < e
      · have t1 : decide (e < -1200) = false := by simp; omega
        have t2 : decide (2000 < e) = true := by simp [h2]
        have hk : mk neg m e = Fl.wd neg 9218868437227405312 := by
          unfold mk
          rw [Fl.scl_high _ _ h0 (by omega), Fl.INF_val]
        have hw : Fl.wd false 9218868437227405312 = 9218868437227405312 ∧ Fl.wd true 9218868437227405312 = 18442240474082181120 := by unfold Fl.wd; simp
        rw [hk]
        clear hk h1 h0 h2
        have HW := Lib.hid hw
        clear hw
        cases neg
        all_goals
          go_enter Try.func72, Try.ntmps72
          go_wp2
          go_ret
          refine ⟨ret_float ?_, rfl⟩
          first | (rw [HW.out.1]; done) | (rw [HW.out.2]; done) | (rw [HW.out.1]; rfl) | (rw [HW.out.2]; rfl)
      · cases neg
        · exact make_false m e w h0 hm (by omega) (by omega)
        · exact make_true m e w h0 hm (by omega) (by omega)
end Go.Proofs.Ytjjneiidggcfdaa
set_option linter.unusedVariables false
namespace Go.Proofs.Ytjjneiidggcfdaa
open Go.RowKit
attribute [local go_sem ↓] ib_andNot_sign ib_and_frac ib_and_15 ib_and_1 ib_and_sign ib_and_inf ib_or

/-- A word with the other sign. -/
def negB (b : Nat) : Nat := Op.negFloat .f64 b
theorem unary_neg (b : Nat) : Op.unary .neg (.float .f64 b) = pure (.float .f64 (negB b)) := rfl
attribute [go_sem ↓] unary_neg
end Go.Proofs.Ytjjneiidggcfdaa
set_option linter.unusedVariables false
namespace Go.Proofs.Ytjjneiidggcfdaa
open Go.RowKit
attribute [local go_sem ↓] ib_andNot_sign ib_and_frac ib_and_15 ib_and_1 ib_and_sign ib_and_inf ib_or

theorem kind_fin {b : Nat} : (kindOf b != 0) = !Fl.fin b := by
  unfold kindOf Fl.fin
  by_cases h : Fl.rung b < Fl.INF
  · rw [if_pos h]; simp [h]
  · rw [if_neg h]; split <;> simp [h]

theorem rscale_val (b : Nat) (k : Int) (K : Int) (hb : b < 18446744073709551616) (hf : Fl.rung b < Fl.INF) (hK : K = k ∨ (5000 < k ∧ K = 5000) ∨ (k < -5000 ∧ K = -5000)) :
    mk (Fl.sg b) (Fl.pm b) ((Fl.pe b : Int) - 1074 + K) = Fl.scale b k := by
  have hp := Fl.rung_parts b
  have hl := Fl.pm_lt b
  have hu := Fl.pe_lt hf
  have he : Fl.scl (Fl.pm b) ((Fl.pe b : Int) + K) = Fl.scl (Fl.pm b) ((Fl.pe b : Int) + k) := by
    by_cases h0 : Fl.pm b = 0
    · rw [h0, Fl.scl_zero, Fl.scl_zero]
    · have low : ∀ j : Int, j ≤ -2000 → Fl.scl (Fl.pm b) j = 0 := by
        intro j hj
        refine Fl.scl_low _ _ ?_ (by omega)
        have : 2 ^ 55 ≤ 2 ^ (-j).toNat := Nat.pow_le_pow_right (by omega) (by omega)
        omega
      rcases hK with rfl | ⟨h1, rfl⟩ | ⟨h1, rfl⟩
      · rfl
      · rw [Fl.scl_high _ _ h0 (by omega), Fl.scl_high _ _ h0 (by omega)]
      · rw [low _ (by omega), low _ (by omega)]
  unfold mk Fl.scale
  rw [show (Fl.pe b : Int) - 1074 + K + 1074 = (Fl.pe b : Int) + K by omega, he]
  by_cases h0 : Fl.rung b = 0
  · rw [if_pos (.inl h0)]
    have : Fl.pm b = 0 := by omega
    rw [this, Fl.scl_zero]
    have := Fl.wd_parts hb
    rw [h0] at this
    exact this
  · rw [if_neg (by omega), Fl.scale_parts]

theorem rscale_any (b : Nat) (k : Int) (w : World) (hb : b < 18446744073709551616) :
    Calls Try.prog 65 #[.float .f64 b, .int .i64 k] w fun e w' => e = .returned (.float .f64 (Fl.scale b k)) ∧ w = w' := by
  have hkf := @kind_fin b
  by_cases hf : Fl.rung b < Fl.INF
  · have hfin : Fl.fin b = true := decide_eq_true hf
    rw [hfin] at hkf
    have hu := Fl.pe_lt hf
    have hl := Fl.pm_lt b
    have hm : partM b = (Fl.pm b : Int) := if_pos hf
    have he : partE b = (Fl.pe b : Int) - 1074 := if_pos hf
    have hk : (5000 < k ∧ mk (Fl.sg b) (Fl.pm b) ((Fl.pe b : Int) - 1074 + 5000) = Fl.scale b k) ∨ (k < -5000 ∧ mk (Fl.sg b) (Fl.pm b) ((Fl.pe b : Int) - 1074 + -5000) = Fl.scale b k) ∨
        ((-5000 ≤ k ∧ k ≤ 5000) ∧ mk (Fl.sg b) (Fl.pm b) ((Fl.pe b : Int) - 1074 + k) = Fl.scale b k) := by
      by_cases h1 : 5000 < k
      · exact .inl ⟨h1, rscale_val b k _ hb hf (.inr (.inl ⟨h1, rfl⟩))⟩
      · by_cases h2 : k < -5000
        · exact .inr (.inl ⟨h2, rscale_val b k _ hb hf (.inr (.inr ⟨h2, rfl⟩))⟩)
        · exact .inr (.inr ⟨by omega, rscale_val b k _ hb hf (.inl rfl)⟩)
    have HM := Lib.hid hm
    have HE := Lib.hid he
    clear hm he hfin hf
    generalize Fl.pe b = u at *
    generalize Fl.pm b = m at *
    rcases hk with ⟨h1, h2⟩ | ⟨h1, h2⟩ | ⟨⟨h1, h3⟩, h2⟩
    all_goals
      rw [← h2]
      clear h2
      go_enter Try.func65, Try.ntmps65
      go_wp2_with fail
      refine (parts_any b _ hb).mono ?_
      rintro e w' ⟨rfl, rfl⟩
      rw [HM.out, HE.out]
      go_wp2_with fail
      refine (make_any _ m _ _ (by omega) (by omega) (by omega)).mono ?_
      rintro e w' ⟨rfl, rfl⟩
      go_wp2_with fail
      go_ret
      exact ⟨rfl, rfl⟩
  · have hfin : Fl.fin b = false := decide_eq_false hf
    rw [hfin] at hkf
    have hs : Fl.scale b k = b := by unfold Fl.scale; rw [if_pos (.inr (by omega))]
    rw [hs]
    clear hs hfin hf
    go_enter Try.func65, Try.ntmps65
    go_wp2_with fail
    refine (parts_any b _ hb).mono ?_
    rintro e w' ⟨rfl, rfl⟩
    go_wp2_with fail
    go_ret
    exact ⟨rfl, rfl⟩
end Go.Proofs.Ytjjneiidggcfdaa
set_option linter.unusedVariables false
set_option linter.unusedSimpArgs false
set_option linter.unnecessarySimpa false
namespace Go.Proofs.Ytjjneiidggcfdaa
open Go.RowKit
attribute [local go_sem ↓] Go.wp_at_zero Go.wp_at_succ

theorem axplace_any (A : Option Addr) (n c : Nat) (o K i k : Nat) (w : World) (hP : o + k * i < 1048576) :
    Calls Try.prog 56 #[vec A n c o K i, .int .i64 k] w fun e w' => e = .returned (.int .i64 ((o + k * i : Nat) : Int)) ∧ Below w.heap.size w w' := by
  have HB := Lib.hid ((Below.refl w.heap.size w).alloc (Nat.le_refl _) (.cells #[.slice A n c, .int .i64 o, .int .i64 K, .int .i64 i] 30))
  obtain ⟨a, ha⟩ : ∃ a, k * i = a := ⟨_, rfl⟩
  obtain ⟨P, hPd⟩ : ∃ P, o + k * i = P := ⟨_, rfl⟩
  have e1 : ((k : Int) * (i : Int)) = (a : Int) := by rw [← ha]; simp
  have e2 : (o : Int) + (a : Int) = (P : Int) := by rw [← hPd, ha]; simp
  have HW := Lib.hid (wrap3 (o := o) (a := a) (P := P) (by rw [← hPd]; omega) (by rw [← ha, hPd]))
  rw [hPd] at hP ⊢
  clear ha hPd hP
  obtain ⟨u1, u2, u3, u4⟩ := HW.out
  unfold vec
  go_enter Try.func56, Try.ntmps56
  go_wp2_with fail
  go_ret
  exact ⟨rfl, HB.out⟩

/-- What Scal does to a number. -/
theorem axscal_one (a y k : Nat) (pa : Nat) (w : World) (ha : w.cell? ⟨pa, 0, none⟩ = some (.float .f64 a)) :
    Calls Try.prog 60 #[.int .i64 (k : Int), .float .f64 y, .pointer (some ⟨pa, 0, none⟩)] w fun e w' => ∃ r, e = .returned (.float .f64 r) ∧ Comes .mul a y r ∧ Below w.heap.size w w' := by
  go_enter Try.func60, Try.ntmps60
  go_wp2_with fail
  go_ret
  exact ⟨_, rfl, fres_comes _ _ _ _, below_drewN (Below.refl _ _) _⟩

set_option maxRecDepth 100000 in
set_option maxHeartbeats 1000000 in
/-- What Axpy does to a number. -/
theorem axaxpy_one (a x y : Nat) (pa px b y0 n c o K i k : Nat) (w : World) (ha : w.cell? ⟨pa, 0, none⟩ = some (.float .f64 a)) (hx : Blk w px 30 #[.slice (some ⟨b, y0, none⟩) n c, .int .i64 o, .int .i64 K, .int .i64 i])
    (hc : w.cell? ⟨b, y0 + (o + k * i), none⟩ = some (.float .f64 x)) (hP : o + k * i < n) (hn : n < 1048576) :
    Calls Try.prog 55 #[.int .i64 (k : Int), .float .f64 y, .pointer (some ⟨pa, 0, none⟩), .pointer (some ⟨px, 0, none⟩)] w fun e w' => ∃ p r, e = .returned (.float .f64 r) ∧ Comes .mul a x p ∧ Comes .add y p r ∧ Below w.heap.size w w' := by
  have HP := Lib.hid (fun W => axplace_any (some ⟨b, y0, none⟩) n c o K i k W (by omega))
  unfold vec at HP
  obtain ⟨P, hPd⟩ : ∃ P, o + k * i = P := ⟨_, rfl⟩
  rw [hPd] at HP hc hP
  have b1 : (P : Int) < (n : Int) := by omega
  have b0 : (0 : Int) ≤ (P : Int) := by omega
  have b2 := hP
  have HA := Lib.hid ha
  have HX := Lib.hid hx
  have HC := Lib.hid hc
  clear ha hx hc hPd hP hn
  go_enter Try.func55, Try.ntmps55
  go_wp2_with fail
  refine wp_region_inv [7, 8, 9, 10, 11, 12, 13, 14, 15, 16, 17, 6] (fun d s W => (d 0 = true → s 7 = .float .f64 y) ∧ (d 1 = true → s 8 = .float .f64 a) ∧ (d 2 = true → s 9 = .pointer (some ⟨px, 0, none⟩)) ∧ (d 3 = true → s 10 = .slice (some ⟨b, y0, none⟩) n c) ∧ (d 4 = true → s 11 = .agg #[.slice (some ⟨b, y0, none⟩) n c, .int .i64 (o : Int), .int .i64 (K : Int), .int .i64 (i : Int)]) ∧ (d 5 = true → s 12 = .int .i64 (k : Int)) ∧ (d 6 = true → s 13 = .int .i64 (P : Int)) ∧ (d 7 = true → s 14 = .pointer (some ⟨b, y0 + P, none⟩)) ∧ (d 8 = true → s 15 = .float .f64 x) ∧ (d 9 = true → ∃ p, s 16 = .float .f64 p ∧ Comes .mul a x p) ∧ (d 10 = true → ∃ p r, s 17 = .float .f64 r ∧ Comes .mul a x p ∧ Comes .add y p r) ∧ (d 11 = true → ∃ p r, s 6 = .float .f64 r ∧ Comes .mul a x p ∧ Comes .add y p r) ∧ Below w.heap.size w W)
    rfl (by kernel_rfl) ?_ ?_ ?_
  · exact ⟨by simp, by simp, by simp, by simp, by simp, by simp, by simp, by simp, by simp, by simp, by simp, by simp, (Below.refl _ _).drew⟩
  · refine ⟨?_, ?_, ?_, ?_, ?_, ?_, ?_, ?_, ?_, ?_, ?_, ?_, trivial⟩
    all_goals
      intro d s W hJ hfr hd hdep
      simp only [List.mem_cons, forall_eq_or_imp, List.not_mem_nil, false_implies, implies_true, and_true, Region.binds] at hdep
      have f0 := hfr 0 (by decide)
      have f1 := hfr 1 (by decide)
      have f2 := hfr 2 (by decide)
      have f3 := hfr 3 (by decide)
      simp at f0 f1 f2 f3 hdep
      obtain ⟨h0, h1, h2, h3, h4, h5, h6, h7, h8, h9, h10, h11, hT⟩ := hJ
      unfold OpSteps
    · simp [go_sem, evS, f1]
      exact ⟨fun _ => by simp [sput], fun h => by simpa [sput] using h1 (by simpa [did] using h), fun h => by simpa [sput] using h2 (by simpa [did] using h), fun h => by simpa [sput] using h3 (by simpa [did] using h), fun h => by simpa [sput] using h4 (by simpa [did] using h), fun h => by simpa [sput] using h5 (by simpa [did] using h), fun h => by simpa [sput] using h6 (by simpa [did] using h), fun h => by simpa [sput] using h7 (by simpa [did] using h), fun h => by simpa [sput] using h8 (by simpa [did] using h), fun h => by simpa [sput] using h9 (by simpa [did] using h), fun h => by simpa [sput] using h10 (by simpa [did] using h), fun h => by simpa [sput] using h11 (by simpa [did] using h), hT⟩
    · have pc := cell_below HA.out hT
      simp [go_sem, evS, f2, pc]
      exact ⟨fun h => by simpa [sput] using h0 (by simpa [did] using h), fun _ => by simp [sput], fun h => by simpa [sput] using h2 (by simpa [did] using h), fun h => by simpa [sput] using h3 (by simpa [did] using h), fun h => by simpa [sput] using h4 (by simpa [did] using h), fun h => by simpa [sput] using h5 (by simpa [did] using h), fun h => by simpa [sput] using h6 (by simpa [did] using h), fun h => by simpa [sput] using h7 (by simpa [did] using h), fun h => by simpa [sput] using h8 (by simpa [did] using h), fun h => by simpa [sput] using h9 (by simpa [did] using h), fun h => by simpa [sput] using h10 (by simpa [did] using h), fun h => by simpa [sput] using h11 (by simpa [did] using h), hT⟩
    · simp [go_sem, evS, f3]
      exact ⟨fun h => by simpa [sput] using h0 (by simpa [did] using h), fun h => by simpa [sput] using h1 (by simpa [did] using h), fun _ => by simp [sput], fun h => by simpa [sput] using h3 (by simpa [did] using h), fun h => by simpa [sput] using h4 (by simpa [did] using h), fun h => by simpa [sput] using h5 (by simpa [did] using h), fun h => by simpa [sput] using h6 (by simpa [did] using h), fun h => by simpa [sput] using h7 (by simpa [did] using h), fun h => by simpa [sput] using h8 (by simpa [did] using h), fun h => by simpa [sput] using h9 (by simpa [did] using h), fun h => by simpa [sput] using h10 (by simpa [did] using h), fun h => by simpa [sput] using h11 (by simpa [did] using h), hT⟩
    · have g2 := h2 (by simp [hdep])
      obtain ⟨p0, p1, p2, p3⟩ := cells4w (HX.out.below hT HX.out.lt)
      simp [go_sem, evS, g2, p0, p1, p2, p3]
      exact ⟨fun h => by simpa [sput] using h0 (by simpa [did] using h), fun h => by simpa [sput] using h1 (by simpa [did] using h), fun h => by simpa [sput] using h2 (by simpa [did] using h), fun _ => by simp [sput], fun h => by simpa [sput] using h4 (by simpa [did] using h), fun h => by simpa [sput] using h5 (by simpa [did] using h), fun h => by simpa [sput] using h6 (by simpa [did] using h), fun h => by simpa [sput] using h7 (by simpa [did] using h), fun h => by simpa [sput] using h8 (by simpa [did] using h), fun h => by simpa [sput] using h9 (by simpa [did] using h), fun h => by simpa [sput] using h10 (by simpa [did] using h), fun h => by simpa [sput] using h11 (by simpa [did] using h), hT⟩
    · obtain ⟨p0, p1, p2, p3⟩ := cells4w (HX.out.below hT HX.out.lt)
      simp [go_sem, evS, f3, p0, p1, p2, p3]
      exact ⟨fun h => by simpa [sput] using h0 (by simpa [did] using h), fun h => by simpa [sput] using h1 (by simpa [did] using h), fun h => by simpa [sput] using h2 (by simpa [did] using h), fun h => by simpa [sput] using h3 (by simpa [did] using h), fun _ => by simp [sput], fun h => by simpa [sput] using h5 (by simpa [did] using h), fun h => by simpa [sput] using h6 (by simpa [did] using h), fun h => by simpa [sput] using h7 (by simpa [did] using h), fun h => by simpa [sput] using h8 (by simpa [did] using h), fun h => by simpa [sput] using h9 (by simpa [did] using h), fun h => by simpa [sput] using h10 (by simpa [did] using h), fun h => by simpa [sput] using h11 (by simpa [did] using h), hT⟩
    · simp [go_sem, evS, f0]
      exact ⟨fun h => by simpa [sput] using h0 (by simpa [did] using h), fun h => by simpa [sput] using h1 (by simpa [did] using h), fun h => by simpa [sput] using h2 (by simpa [did] using h), fun h => by simpa [sput] using h3 (by simpa [did] using h), fun h => by simpa [sput] using h4 (by simpa [did] using h), fun _ => by simp [sput], fun h => by simpa [sput] using h6 (by simpa [did] using h), fun h => by simpa [sput] using h7 (by simpa [did] using h), fun h => by simpa [sput] using h8 (by simpa [did] using h), fun h => by simpa [sput] using h9 (by simpa [did] using h), fun h => by simpa [sput] using h10 (by simpa [did] using h), fun h => by simpa [sput] using h11 (by simpa [did] using h), hT⟩
    · have g4 := h4 (by simp [hdep])
      have g5 := h5 (by simp [hdep])
      simp [go_sem, evS, g4, g5]
      refine (HP.out W).mono ?_
      rintro e W' ⟨rfl, hb⟩
      refine ⟨_, rfl, ?_⟩
      exact ⟨fun h => by simpa [sput] using h0 (by simpa [did] using h), fun h => by simpa [sput] using h1 (by simpa [did] using h), fun h => by simpa [sput] using h2 (by simpa [did] using h), fun h => by simpa [sput] using h3 (by simpa [did] using h), fun h => by simpa [sput] using h4 (by simpa [did] using h), fun h => by simpa [sput] using h5 (by simpa [did] using h), fun _ => by simp [sput], fun h => by simpa [sput] using h7 (by simpa [did] using h), fun h => by simpa [sput] using h8 (by simpa [did] using h), fun h => by simpa [sput] using h9 (by simpa [did] using h), fun h => by simpa [sput] using h10 (by simpa [did] using h), fun h => by simpa [sput] using h11 (by simpa [did] using h), below_nx hT hb⟩
    · have g3 := h3 (by simp [hdep])
      have g6 := h6 (by simp [hdep])
      simp [go_sem, evS, g3, g6, b2]
      exact ⟨fun h => by simpa [sput] using h0 (by simpa [did] using h), fun h => by simpa [sput] using h1 (by simpa [did] using h), fun h => by simpa [sput] using h2 (by simpa [did] using h), fun h => by simpa [sput] using h3 (by simpa [did] using h), fun h => by simpa [sput] using h4 (by simpa [did] using h), fun h => by simpa [sput] using h5 (by simpa [did] using h), fun h => by simpa [sput] using h6 (by simpa [did] using h), fun _ => by simp [sput], fun h => by simpa [sput] using h8 (by simpa [did] using h), fun h => by simpa [sput] using h9 (by simpa [did] using h), fun h => by simpa [sput] using h10 (by simpa [did] using h), fun h => by simpa [sput] using h11 (by simpa [did] using h), hT⟩
    · have g7 := h7 (by simp [hdep])
      have pc := cell_below HC.out hT
      simp [go_sem, evS, g7, pc]
      exact ⟨fun h => by simpa [sput] using h0 (by simpa [did] using h), fun h => by simpa [sput] using h1 (by simpa [did] using h), fun h => by simpa [sput] using h2 (by simpa [did] using h), fun h => by simpa [sput] using h3 (by simpa [did] using h), fun h => by simpa [sput] using h4 (by simpa [did] using h), fun h => by simpa [sput] using h5 (by simpa [did] using h), fun h => by simpa [sput] using h6 (by simpa [did] using h), fun h => by simpa [sput] using h7 (by simpa [did] using h), fun _ => by simp [sput], fun h => by simpa [sput] using h9 (by simpa [did] using h), fun h => by simpa [sput] using h10 (by simpa [did] using h), fun h => by simpa [sput] using h11 (by simpa [did] using h), hT⟩
    · have g1 := h1 (by simp [hdep])
      have g8 := h8 (by simp [hdep])
      simp [go_sem, evS, g1, g8]
      exact ⟨fun h => by simpa [sput] using h0 (by simpa [did] using h), fun h => by simpa [sput] using h1 (by simpa [did] using h), fun h => by simpa [sput] using h2 (by simpa [did] using h), fun h => by simpa [sput] using h3 (by simpa [did] using h), fun h => by simpa [sput] using h4 (by simpa [did] using h), fun h => by simpa [sput] using h5 (by simpa [did] using h), fun h => by simpa [sput] using h6 (by simpa [did] using h), fun h => by simpa [sput] using h7 (by simpa [did] using h), fun h => by simpa [sput] using h8 (by simpa [did] using h), fun _ => ⟨fres .mul W a x, by simp [sput], fres_comes _ _ _ _⟩, fun h => by simpa [sput] using h10 (by simpa [did] using h), fun h => by simpa [sput] using h11 (by simpa [did] using h), below_drewN hT _⟩
    · have g0 := h0 (by simp [hdep])
      have g9 := h9 (by simp [hdep])
      obtain ⟨p, gp, hp⟩ := g9
      simp [go_sem, evS, g0, gp]
      exact ⟨fun h => by simpa [sput] using h0 (by simpa [did] using h), fun h => by simpa [sput] using h1 (by simpa [did] using h), fun h => by simpa [sput] using h2 (by simpa [did] using h), fun h => by simpa [sput] using h3 (by simpa [did] using h), fun h => by simpa [sput] using h4 (by simpa [did] using h), fun h => by simpa [sput] using h5 (by simpa [did] using h), fun h => by simpa [sput] using h6 (by simpa [did] using h), fun h => by simpa [sput] using h7 (by simpa [did] using h), fun h => by simpa [sput] using h8 (by simpa [did] using h), fun h => by simpa [sput] using h9 (by simpa [did] using h), fun _ => ⟨p, fres .add W y p, by simp [sput], hp, fres_comes _ _ _ _⟩, fun h => by simpa [sput] using h11 (by simpa [did] using h), below_drewN hT _⟩
    · have g10 := h10 (by simp [hdep])
      obtain ⟨p, r, gp, hp⟩ := g10
      simp [go_sem, evS, gp]
      exact ⟨fun h => by simpa [sput] using h0 (by simpa [did] using h), fun h => by simpa [sput] using h1 (by simpa [did] using h), fun h => by simpa [sput] using h2 (by simpa [did] using h), fun h => by simpa [sput] using h3 (by simpa [did] using h), fun h => by simpa [sput] using h4 (by simpa [did] using h), fun h => by simpa [sput] using h5 (by simpa [did] using h), fun h => by simpa [sput] using h6 (by simpa [did] using h), fun h => by simpa [sput] using h7 (by simpa [did] using h), fun h => by simpa [sput] using h8 (by simpa [did] using h), fun h => by simpa [sput] using h9 (by simpa [did] using h), fun h => by simpa [sput] using h10 (by simpa [did] using h), fun _ => ⟨p, r, by simp [sput], hp⟩, hT⟩
  intro d s W hJ hd
  obtain ⟨h0, h1, h2, h3, h4, h5, h6, h7, h8, h9, h10, h11, hT⟩ := hJ
  obtain ⟨p, r, hs, hp, hr⟩ := h11 (hd 11 (by decide))
  have HR := Lib.hid (And.intro hp hr)
  have HBe := Lib.hid hT
  clear h0 h1 h2 h3 h4 h5 h6 h7 h8 h9 h10 h11 hT hd hp hr
  simp [setAll, hs]
  clear hs
  go_wp2_with fail
  go_ret
  exact ⟨p, r, rfl, HR.out.1, HR.out.2, HBe.out⟩
/-- Is it at least 0? -/
def geB (a : Nat) : Bool := FloatKind.f64.format.order a 0 == some .gt || FloatKind.f64.format.order a 0 == some .eq
/-- 1 or -1. -/
def sgnW (a : Nat) : Nat := if geB a = true then 4607182418800017408 else 13830554455654793216
set_option maxRecDepth 100000 in
set_option maxHeartbeats 1000000 in
/-- What Sign does to a number. -/
theorem axsign_one (x y : Nat) (px b y0 n c o K i k : Nat) (w : World) (hx : Blk w px 30 #[.slice (some ⟨b, y0, none⟩) n c, .int .i64 o, .int .i64 K, .int .i64 i])
    (hc : w.cell? ⟨b, y0 + (o + k * i), none⟩ = some (.float .f64 x)) (hP : o + k * i < n) (hn : n < 1048576) :
    Calls Try.prog 63 #[.int .i64 (k : Int), .float .f64 y, .pointer (some ⟨px, 0, none⟩)] w fun e w' => e = .returned (.float .f64 (sgnW x)) ∧ Below w.heap.size w w' := by
  have HP := Lib.hid (fun W => axplace_any (some ⟨b, y0, none⟩) n c o K i k W (by omega))
  unfold vec at HP
  obtain ⟨P, hPd⟩ : ∃ P, o + k * i = P := ⟨_, rfl⟩
  rw [hPd] at HP hc hP
  have b2 := hP
  have HA := Lib.hid hx
  have HX := Lib.hid hx
  have HC := Lib.hid hc
  obtain ⟨gb, hgb⟩ : ∃ gb, geB x = gb := ⟨_, rfl⟩
  have hsg : sgnW x = if gb = true then 4607182418800017408 else 13830554455654793216 := by rw [← hgb]; rfl
  rw [hsg]
  unfold geB at hgb
  clear hx hc hPd hP hn hsg
  go_enter Try.func63, Try.ntmps63
  go_wp2_with fail
  refine wp_region_inv [6, 7, 8, 9, 10, 11, 12, 13] (fun d s W => (d 0 = true → s 6 = .pointer (some ⟨px, 0, none⟩)) ∧ (d 1 = true → s 7 = .slice (some ⟨b, y0, none⟩) n c) ∧ (d 2 = true → s 8 = .agg #[.slice (some ⟨b, y0, none⟩) n c, .int .i64 (o : Int), .int .i64 (K : Int), .int .i64 (i : Int)]) ∧ (d 3 = true → s 9 = .int .i64 (k : Int)) ∧ (d 4 = true → s 10 = .int .i64 (P : Int)) ∧ (d 5 = true → s 11 = .pointer (some ⟨b, y0 + P, none⟩)) ∧ (d 6 = true → s 12 = .float .f64 x) ∧ (d 7 = true → s 13 = .bool gb) ∧ Below w.heap.size w W)
    rfl (by kernel_rfl) ?_ ?_ ?_
  · exact ⟨by simp, by simp, by simp, by simp, by simp, by simp, by simp, by simp, (Below.refl _ _).drew⟩
  · refine ⟨?_, ?_, ?_, ?_, ?_, ?_, ?_, ?_, trivial⟩
    all_goals
      intro d s W hJ hfr hd hdep
      simp only [List.mem_cons, forall_eq_or_imp, List.not_mem_nil, false_implies, implies_true, and_true, Region.binds] at hdep
      have f0 := hfr 0 (by decide)
      have f2 := hfr 2 (by decide)
      simp at f0 f2 hdep
      obtain ⟨h0, h1, h2, h3, h4, h5, h6, h7, hT⟩ := hJ
      unfold OpSteps
    · simp [go_sem, evS, f2]
      exact ⟨fun _ => by simp [sput], fun h => by simpa [sput] using h1 (by simpa [did] using h), fun h => by simpa [sput] using h2 (by simpa [did] using h), fun h => by simpa [sput] using h3 (by simpa [did] using h), fun h => by simpa [sput] using h4 (by simpa [did] using h), fun h => by simpa [sput] using h5 (by simpa [did] using h), fun h => by simpa [sput] using h6 (by simpa [did] using h), fun h => by simpa [sput] using h7 (by simpa [did] using h), hT⟩
    · have g0 := h0 (by simp [hdep])
      obtain ⟨p0, p1, p2, p3⟩ := cells4w (HX.out.below hT HX.out.lt)
      simp [go_sem, evS, g0, p0, p1, p2, p3]
      exact ⟨fun h => by simpa [sput] using h0 (by simpa [did] using h), fun _ => by simp [sput], fun h => by simpa [sput] using h2 (by simpa [did] using h), fun h => by simpa [sput] using h3 (by simpa [did] using h), fun h => by simpa [sput] using h4 (by simpa [did] using h), fun h => by simpa [sput] using h5 (by simpa [did] using h), fun h => by simpa [sput] using h6 (by simpa [did] using h), fun h => by simpa [sput] using h7 (by simpa [did] using h), hT⟩
    · obtain ⟨p0, p1, p2, p3⟩ := cells4w (HX.out.below hT HX.out.lt)
      simp [go_sem, evS, f2, p0, p1, p2, p3]
      exact ⟨fun h => by simpa [sput] using h0 (by simpa [did] using h), fun h => by simpa [sput] using h1 (by simpa [did] using h), fun _ => by simp [sput], fun h => by simpa [sput] using h3 (by simpa [did] using h), fun h => by simpa [sput] using h4 (by simpa [did] using h), fun h => by simpa [sput] using h5 (by simpa [did] using h), fun h => by simpa [sput] using h6 (by simpa [did] using h), fun h => by simpa [sput] using h7 (by simpa [did] using h), hT⟩
    · simp [go_sem, evS, f0]
      exact ⟨fun h => by simpa [sput] using h0 (by simpa [did] using h), fun h => by simpa [sput] using h1 (by simpa [did] using h), fun h => by simpa [sput] using h2 (by simpa [did] using h), fun _ => by simp [sput], fun h => by simpa [sput] using h4 (by simpa [did] using h), fun h => by simpa [sput] using h5 (by simpa [did] using h), fun h => by simpa [sput] using h6 (by simpa [did] using h), fun h => by simpa [sput] using h7 (by simpa [did] using h), hT⟩
    · have g2 := h2 (by simp [hdep])
      have g3 := h3 (by simp [hdep])
      simp [go_sem, evS, g2, g3]
      refine (HP.out W).mono ?_
      rintro e W' ⟨rfl, hb⟩
      refine ⟨_, rfl, ?_⟩
      exact ⟨fun h => by simpa [sput] using h0 (by simpa [did] using h), fun h => by simpa [sput] using h1 (by simpa [did] using h), fun h => by simpa [sput] using h2 (by simpa [did] using h), fun h => by simpa [sput] using h3 (by simpa [did] using h), fun _ => by simp [sput], fun h => by simpa [sput] using h5 (by simpa [did] using h), fun h => by simpa [sput] using h6 (by simpa [did] using h), fun h => by simpa [sput] using h7 (by simpa [did] using h), below_nx hT hb⟩
    · have g1 := h1 (by simp [hdep])
      have g4 := h4 (by simp [hdep])
      simp [go_sem, evS, g1, g4, b2]
      exact ⟨fun h => by simpa [sput] using h0 (by simpa [did] using h), fun h => by simpa [sput] using h1 (by simpa [did] using h), fun h => by simpa [sput] using h2 (by simpa [did] using h), fun h => by simpa [sput] using h3 (by simpa [did] using h), fun h => by simpa [sput] using h4 (by simpa [did] using h), fun _ => by simp [sput], fun h => by simpa [sput] using h6 (by simpa [did] using h), fun h => by simpa [sput] using h7 (by simpa [did] using h), hT⟩
    · have g5 := h5 (by simp [hdep])
      have pc := cell_below HC.out hT
      simp [go_sem, evS, g5, pc]
      exact ⟨fun h => by simpa [sput] using h0 (by simpa [did] using h), fun h => by simpa [sput] using h1 (by simpa [did] using h), fun h => by simpa [sput] using h2 (by simpa [did] using h), fun h => by simpa [sput] using h3 (by simpa [did] using h), fun h => by simpa [sput] using h4 (by simpa [did] using h), fun h => by simpa [sput] using h5 (by simpa [did] using h), fun _ => by simp [sput], fun h => by simpa [sput] using h7 (by simpa [did] using h), hT⟩
    · have g6 := h6 (by simp [hdep])
      simp [go_sem, evS, g6, hgb]
      exact ⟨fun h => by simpa [sput] using h0 (by simpa [did] using h), fun h => by simpa [sput] using h1 (by simpa [did] using h), fun h => by simpa [sput] using h2 (by simpa [did] using h), fun h => by simpa [sput] using h3 (by simpa [did] using h), fun h => by simpa [sput] using h4 (by simpa [did] using h), fun h => by simpa [sput] using h5 (by simpa [did] using h), fun h => by simpa [sput] using h6 (by simpa [did] using h), fun _ => by simp [sput], hT⟩
  intro d s W hJ hd
  obtain ⟨h0, h1, h2, h3, h4, h5, h6, h7, hT⟩ := hJ
  have hs := h7 (hd 7 (by decide))
  have HBe := Lib.hid hT
  clear h0 h1 h2 h3 h4 h5 h6 h7 hT hd
  simp [setAll, hs]
  clear hs hgb
  cases gb
  · go_wp2_with fail
    go_ret
    exact ⟨rfl, HBe.out⟩
  · go_wp2_with fail
    go_ret
    exact ⟨rfl, HBe.out⟩

/-- What Shift does to a number. -/
theorem axshift_one (y k : Nat) (z : Int) (pk b y0 n c : Nat) (w : World) (hk : w.cell? ⟨pk, 0, none⟩ = some (.slice (some ⟨b, y0, none⟩) n c))
    (hc : w.cell? ⟨b, y0 + k, none⟩ = some (.int .i64 z)) (hP : k < n) (hy : y < 18446744073709551616) :
    Calls Try.prog 61 #[.int .i64 (k : Int), .float .f64 y, .pointer (some ⟨pk, 0, none⟩)] w fun e w' => e = .returned (.float .f64 (Fl.scale y z)) ∧ Below w.heap.size w w' := by
  have b1 : (k : Int) < (n : Int) := by omega
  have b0 : (0 : Int) ≤ (k : Int) := by omega
  have HSc := Lib.hid (fun W => scale_any y z W hy)
  clear hy
  go_enter Try.func61, Try.ntmps61
  go_wp2_with fail
  refine (HSc.out _).mono ?_
  rintro e w1 ⟨rfl, hb⟩
  have HB := Lib.hid hb
  clear hb
  go_wp2_with fail
  go_ret
  exact ⟨rfl, HB.out⟩
end Go.Proofs.Ytjjneiidggcfdaa
set_option linter.unusedVariables false
set_option linter.unusedSimpArgs false
set_option linter.unnecessarySimpa false
namespace Go.Proofs.Ytjjneiidggcfdaa
open Go.RowKit
attribute [local go_sem ↓] Go.wp_at_zero Go.wp_at_succ

theorem wrt_more (l : List Nat) (o i : Nat) (m : List Nat) (x : Nat) : ∀ k, k ≤ m.length → wrt l o i (m ++ [x]) k = wrt l o i m k
  | 0, _ => rfl
  | k + 1, h => by
    show (wrt l o i (m ++ [x]) k).set (o + k * i) ((m ++ [x]).getD k 0) = (wrt l o i m k).set (o + k * i) (m.getD k 0)
    rw [wrt_more l o i m x k (by omega)]
    congr 1
    simp [List.getD, List.getElem?_append_left (show k < m.length by omega)]
theorem wrt_last (l : List Nat) (o i : Nat) (m : List Nat) (x k : Nat) (h : m.length = k) : wrt l o i (m ++ [x]) (k + 1) = (wrt l o i m k).set (o + k * i) x := by
  show (wrt l o i (m ++ [x]) k).set (o + k * i) ((m ++ [x]).getD k 0) = _
  rw [wrt_more l o i m x k (by omega)]
  congr 1
  subst h
  simp [List.getD]
/-- One number has been stored. -/
def Stored (g P : Nat) (R : Nat → Prop) (wr W : World) : Prop := ∃ W' r, Below wr.heap.size wr W' ∧ W = W'.setCell ⟨g, P, none⟩ (.float .f64 r) ∧ R r
/-- Each number has become what was asked. -/
def Eached (I : World → Prop) (R : Nat → Nat → Prop) (g : Nat) (l : List Nat) (o i K : Nat) (w : World) (e : Ending) (w' : World) : Prop :=
  e = .returned (.tuple #[]) ∧ ∃ m : List Nat, m.length = K ∧ (∀ q, q < K → R q (m.getD q 0)) ∧ Own w' g (wrt l o i m K) ∧ I w' ∧ Chg [g] w w'
theorem frz_below {W W' : World} {b o : Nat} (h : W.frozen? ⟨b, o, none⟩ = false) (hlt : b < W.heap.size) (hb : Below W.heap.size W W') : W'.frozen? ⟨b, o, none⟩ = false := (hb.frozen (p := ⟨b, o, none⟩) hlt).trans h

set_option maxRecDepth 100000 in
set_option maxHeartbeats 1000000 in
theorem each_any (F : FuncId) (caps : Array Value) (I : World → Prop) (R : Nat → Nat → Prop) (g n c : Nat) (l : List Nat) (o K i : Nat) (w : World)
    (hF : ∀ args W, (callFunc F args).run Try.prog W = .ok (.enter F args) W) (hO : Own w g l) (hl : l.length = n) (hn : n < 1048576) (hi1 : 1 ≤ i) (hr : K = 0 ∨ o + (K - 1) * i < n) (hI : I w)
    (hIb : ∀ W W', I W → Below W.heap.size W W' → I W') (hIs : ∀ W q v, q < K → I W → I (W.setCell ⟨g, o + q * i, none⟩ (.float .f64 v)))
    (hC : ∀ W q, q < K → I W → Calls Try.prog F (#[.int .i64 (q : Int), .float .f64 (l.getD (o + q * i) 0)] ++ caps) W fun e w' => ∃ r, e = .returned (.float .f64 r) ∧ R q r ∧ Below W.heap.size W w') :
    Calls Try.prog 54 #[vec (some ⟨g, 0, none⟩) n c o K i, .func (.func F) #[] caps] w (Eached I R g l o i K w) := by
  have HRn := Lib.hid (fun a (h : a < K) => show o + a * i < n from by
    rcases hr with h0 | h0
    · omega
    · exact place_lt h0 h)
  have hK : K ≤ n := by
    rcases hr with h0 | h0
    · omega
    · have : K - 1 ≤ (K - 1) * i := Nat.le_mul_of_pos_right _ hi1
      omega
  have HF := Lib.hid hF
  have HO := Lib.hid hO
  have Hl := Lib.hid hl
  have HI0 := Lib.hid hI
  have HIb := Lib.hid hIb
  have HIs := Lib.hid hIs
  have HCa := Lib.hid hC
  have Hi1 := Lib.hid hi1
  have HPl := Lib.hid (fun a (h : a < K) W => axplace_any (some ⟨g, 0, none⟩) n c o K i a W (by have := HRn.out a h; omega))
  clear hF hO hl hI hIb hIs hC hr hi1
  unfold vec at *
  go_enter Try.func54, Try.ntmps54
  have HZ := Lib.hid (Blk.new w 30 #[.slice (some ⟨g, 0, none⟩) n c, .int .i64 o, .int .i64 K, .int .i64 i])
  have hbl0 : Below w.heap.size w _ := (Below.refl w.heap.size w).alloc (Nat.le_refl _) (.cells #[.slice (some ⟨g, 0, none⟩) n c, .int .i64 o, .int .i64 K, .int .i64 i] 30)
  have HO1 := Lib.hid (HO.out.nxt hbl0)
  have HI1 := Lib.hid (HIb.out _ _ HI0.out hbl0)
  have HC1 := Lib.hid (Chg.of_below (G := [g]) hbl0)
  have Hgz := Lib.hid (show g < w.heap.size from HO.out.lt)
  clear hbl0
  go_wp2_with fail
  generalize hz : w.heap.size = z at *
  have Hz := Lib.hid hz
  clear hz
  go_loopw [8] (fun a wr => ∃ (q : Nat) (m : List Nat), q ≤ K ∧ a = .int .i64 q ∧ Hid (m.length = q ∧ (∀ j, j < q → R j (m.getD j 0)) ∧ Own wr g (wrt l o i m q) ∧ I wr ∧ Chg [g] w wr ∧ Blk wr z 30 #[.slice (some ⟨g, 0, none⟩) n c, .int .i64 o, .int .i64 K, .int .i64 i])) (fun a _ => K - (intOf a).toNat)
  case atStart => exact ⟨0, [], Nat.zero_le _, rfl, Lib.hid ⟨rfl, fun j h => by omega, HO1.out, HI1.out, HC1.out, HZ.out⟩⟩
  case round =>
    obtain ⟨q, m, hq, rfl, HH⟩ := hrel
    have HZ1 := Lib.hid HH.out.2.2.2.2.2
    obtain ⟨c0, c1, c2, c3⟩ := cells4w HZ1.out
    by_cases hlt : q < K
    · have hP := HRn.out q hlt
      have HC0 := Lib.hid (fun W (h : I W) => HCa.out W q hlt h)
      have hyv : (wrt l o i m q).getD (o + q * i) 0 = l.getD (o + q * i) 0 := wrt_else l o i m q (fun j hj e => by have := place_inj Hi1.out e; omega)
      have hPl : o + q * i < (wrt l o i m q).length := by rw [wrt_length, Hl.out]; exact hP
      have hce := HH.out.2.2.1.get _ hPl
      have hfz := HH.out.2.2.1.frozen (o + q * i)
      rw [← getD_of_lt hPl, hyv] at hce
      have HDone0 := Lib.hid (show ∀ r, R q r → ∀ W', Below wr.heap.size wr W' → Hid ((m ++ [r]).length = q + 1 ∧ (∀ j, j < q + 1 → R j ((m ++ [r]).getD j 0)) ∧ Own (W'.setCell ⟨g, o + q * i, none⟩ (.float .f64 r)) g (wrt l o i (m ++ [r]) (q + 1)) ∧ I (W'.setCell ⟨g, o + q * i, none⟩ (.float .f64 r)) ∧ Chg [g] w (W'.setCell ⟨g, o + q * i, none⟩ (.float .f64 r)) ∧ Blk (W'.setCell ⟨g, o + q * i, none⟩ (.float .f64 r)) z 30 #[.slice (some ⟨g, 0, none⟩) n c, .int .i64 o, .int .i64 K, .int .i64 i]) from fun r hr W' hb => Lib.hid (by
        obtain ⟨e1, e2, e3, e4, e5, e6⟩ := HH.out
        refine ⟨by simp [e1], fun j hj => ?_, ?_, HIs.out _ _ _ hlt (HIb.out _ _ e4 hb), (e5.nxt hb).set_in (by simp) _, (e6.nxt hb).other (by show z ≠ g; have := Hgz.out; omega) _⟩
        · by_cases h : j < q
          · have : (m ++ [r]).getD j 0 = m.getD j 0 := by simp [List.getD, List.getElem?_append_left (show j < m.length by omega)]
            rw [this]; exact e2 j h
          · obtain rfl : j = q := by omega
            have : (m ++ [r]).getD j 0 = r := by simp [List.getD, ← e1]
            rw [this]; exact hr
        · rw [wrt_last l o i m r q e1]
          exact (e3.nxt hb).set_ _ _ hPl))
      obtain ⟨y, hy⟩ : ∃ y, l.getD (o + q * i) 0 = y := ⟨_, rfl⟩
      rw [hy] at HC0 hce
      have HPq := Lib.hid (HPl.out q hlt)
      obtain ⟨P, hPd⟩ : ∃ P, o + q * i = P := ⟨_, rfl⟩
      rw [hPd] at HPq hP hce hfz HDone0
      have HI := Lib.hid HH.out.2.2.2.1
      have hqK : (q : Int) < (K : Int) := by omega
      have hq1 : q + 1 ≤ 1048576 := by omega
      have b2 := hP
      have HCe0 := Lib.hid hce
      have HFz0 := Lib.hid hfz
      clear hyv hPl hy hPd hce hfz hP
      go_wp2_with fail
      refine (HPq.out _).mono ?_
      rintro e wp ⟨rfl, hbp⟩
      have HDone := Lib.hid (fun r hr W' (hb : Below wp.heap.size wp W') => HDone0.out r hr W' (below_nx hbp hb))
      have HCe := Lib.hid (cell_below HCe0.out hbp)
      have hlt0 : g < wp.heap.size := block_lt HCe.out
      have HFz := Lib.hid (frz_below HFz0.out (block_lt HCe0.out) hbp)
      have HC := HC0
      have HIp := Lib.hid (HIb.out _ _ HI.out hbp)
      have HZ2 := Lib.hid (HZ1.out.nxt hbp)
      have HI := HIp
      clear hbp c0 c1 c2 c3 HIp
      obtain ⟨c0, c1, c2, c3⟩ := cells4w HZ2.out
      generalize wp = wr at *
      go_wp2_with fail
      refine wp_region_inv [14, 15, 16, 17, 18, 19, 20, 21, 22, 23, 24, 25] (fun d s W => (d 0 = true → s 14 = .pointer (some ⟨z, 0, none⟩)) ∧ (d 1 = true → s 15 = .slice (some ⟨g, 0, none⟩) n c) ∧ (d 2 = true → s 16 = .int .i64 (P : Int)) ∧ (d 3 = true → s 17 = .func (.func F) #[] caps) ∧ (d 4 = true → s 18 = .int .i64 (q : Int)) ∧ (d 5 = true → s 19 = .pointer (some ⟨z, 0, none⟩)) ∧ (d 6 = true → s 20 = .slice (some ⟨g, 0, none⟩) n c) ∧ (d 7 = true → s 21 = .int .i64 (P : Int)) ∧ (d 8 = true → s 22 = .pointer (some ⟨g, P, none⟩)) ∧ (d 9 = true → s 23 = .float .f64 y) ∧ (d 10 = true → ∃ r, s 24 = .float .f64 r ∧ R q r) ∧ (d 11 = true → s 25 = .pointer (some ⟨g, P, none⟩)) ∧ (d 1 = true → d 0 = true) ∧ (d 6 = true → d 5 = true) ∧ (d 8 = true → d 5 = true ∧ d 6 = true ∧ d 7 = true) ∧ (d 9 = true → d 5 = true ∧ d 6 = true ∧ d 7 = true ∧ d 8 = true) ∧ (d 10 = true → d 3 = true ∧ d 4 = true ∧ d 5 = true ∧ d 6 = true ∧ d 7 = true ∧ d 8 = true ∧ d 9 = true) ∧ (d 11 = true → d 0 = true ∧ d 1 = true ∧ d 2 = true) ∧ (d 12 = true → d 0 = true ∧ d 1 = true ∧ d 2 = true ∧ d 3 = true ∧ d 4 = true ∧ d 5 = true ∧ d 6 = true ∧ d 7 = true ∧ d 8 = true ∧ d 9 = true ∧ d 10 = true ∧ d 11 = true) ∧ ((d 12 = false → Below wr.heap.size wr W) ∧ (d 12 = true → Stored g P (R q) wr W)))
        rfl (by kernel_rfl) ?_ ?_ ?_
      · exact ⟨by simp, by simp, by simp, by simp, by simp, by simp, by simp, by simp, by simp, by simp, by simp, by simp, by simp, by simp, by simp, by simp, by simp, by simp, by simp, ⟨fun _ => (Below.refl _ _).drew, fun h => by simp at h⟩⟩
      · refine ⟨?_, ?_, ?_, ?_, ?_, ?_, ?_, ?_, ?_, ?_, ?_, ?_, ?_, trivial⟩
        all_goals
          intro d s W hJ hfr hd hdep
          simp only [List.mem_cons, forall_eq_or_imp, List.not_mem_nil, false_implies, implies_true, and_true, Region.binds] at hdep
          have f1 := hfr 1 (by decide)
          have f2 := hfr 2 (by decide)
          have f4 := hfr 4 (by decide)
          have f5 := hfr 5 (by decide)
          simp at f1 f2 f4 f5 hdep
          obtain ⟨h0, h1, h2, h3, h4, h5, h6, h7, h8, h9, h10, h11, x0, x1, x2, x3, x4, x5, x6, hT⟩ := hJ
          have hT0 := hT
          unfold OpSteps
        · have hl : d 12 = false := by
            cases h : d 12
            · rfl
            · have := x6 h; simp [hd] at this
          replace hT := hT.1 hl
          simp [go_sem, evS, f2]
          exact ⟨fun _ => by simp [sput], fun h => by simpa [sput] using h1 (by simpa [did] using h), fun h => by simpa [sput] using h2 (by simpa [did] using h), fun h => by simpa [sput] using h3 (by simpa [did] using h), fun h => by simpa [sput] using h4 (by simpa [did] using h), fun h => by simpa [sput] using h5 (by simpa [did] using h), fun h => by simpa [sput] using h6 (by simpa [did] using h), fun h => by simpa [sput] using h7 (by simpa [did] using h), fun h => by simpa [sput] using h8 (by simpa [did] using h), fun h => by simpa [sput] using h9 (by simpa [did] using h), fun h => by simpa [sput] using h10 (by simpa [did] using h), fun h => by simpa [sput] using h11 (by simpa [did] using h), fun h => by have := x0 (by simpa [did] using h); simp [did, this], fun h => by have := x1 (by simpa [did] using h); simp [did, this], fun h => by have := x2 (by simpa [did] using h); simp [did, this], fun h => by have := x3 (by simpa [did] using h); simp [did, this], fun h => by have := x4 (by simpa [did] using h); simp [did, this], fun h => by have := x5 (by simpa [did] using h); simp [did, this], fun h => by have := x6 (by simpa [did] using h); simp [did, this], ⟨fun _ => hT, fun h => by simp [did, hl] at h⟩⟩
        · have hl : d 12 = false := by
            cases h : d 12
            · rfl
            · have := x6 h; simp [hd] at this
          replace hT := hT.1 hl
          have g0 := h0 (by simp [hdep])
          obtain ⟨p0, p1, p2, p3⟩ := cells4w (HZ2.out.below hT HZ2.out.lt)
          simp [go_sem, evS, g0, p0, p1, p2, p3]
          exact ⟨fun h => by simpa [sput] using h0 (by simpa [did] using h), fun _ => by simp [sput], fun h => by simpa [sput] using h2 (by simpa [did] using h), fun h => by simpa [sput] using h3 (by simpa [did] using h), fun h => by simpa [sput] using h4 (by simpa [did] using h), fun h => by simpa [sput] using h5 (by simpa [did] using h), fun h => by simpa [sput] using h6 (by simpa [did] using h), fun h => by simpa [sput] using h7 (by simpa [did] using h), fun h => by simpa [sput] using h8 (by simpa [did] using h), fun h => by simpa [sput] using h9 (by simpa [did] using h), fun h => by simpa [sput] using h10 (by simpa [did] using h), fun h => by simpa [sput] using h11 (by simpa [did] using h), fun _ => by simp [did, hdep], fun h => by have := x1 (by simpa [did] using h); simp [did, this], fun h => by have := x2 (by simpa [did] using h); simp [did, this], fun h => by have := x3 (by simpa [did] using h); simp [did, this], fun h => by have := x4 (by simpa [did] using h); simp [did, this], fun h => by have := x5 (by simpa [did] using h); simp [did, this], fun h => by have := x6 (by simpa [did] using h); simp [did, this], ⟨fun _ => hT, fun h => by simp [did, hl] at h⟩⟩
        · have hl : d 12 = false := by
            cases h : d 12
            · rfl
            · have := x6 h; simp [hd] at this
          replace hT := hT.1 hl
          simp [go_sem, evS, f5]
          exact ⟨fun h => by simpa [sput] using h0 (by simpa [did] using h), fun h => by simpa [sput] using h1 (by simpa [did] using h), fun _ => by simp [sput], fun h => by simpa [sput] using h3 (by simpa [did] using h), fun h => by simpa [sput] using h4 (by simpa [did] using h), fun h => by simpa [sput] using h5 (by simpa [did] using h), fun h => by simpa [sput] using h6 (by simpa [did] using h), fun h => by simpa [sput] using h7 (by simpa [did] using h), fun h => by simpa [sput] using h8 (by simpa [did] using h), fun h => by simpa [sput] using h9 (by simpa [did] using h), fun h => by simpa [sput] using h10 (by simpa [did] using h), fun h => by simpa [sput] using h11 (by simpa [did] using h), fun h => by have := x0 (by simpa [did] using h); simp [did, this], fun h => by have := x1 (by simpa [did] using h); simp [did, this], fun h => by have := x2 (by simpa [did] using h); simp [did, this], fun h => by have := x3 (by simpa [did] using h); simp [did, this], fun h => by have := x4 (by simpa [did] using h); simp [did, this], fun h => by have := x5 (by simpa [did] using h); simp [did, this], fun h => by have := x6 (by simpa [did] using h); simp [did, this], ⟨fun _ => hT, fun h => by simp [did, hl] at h⟩⟩
        · have hl : d 12 = false := by
            cases h : d 12
            · rfl
            · have := x6 h; simp [hd] at this
          replace hT := hT.1 hl
          simp [go_sem, evS, f1]
          exact ⟨fun h => by simpa [sput] using h0 (by simpa [did] using h), fun h => by simpa [sput] using h1 (by simpa [did] using h), fun h => by simpa [sput] using h2 (by simpa [did] using h), fun _ => by simp [sput], fun h => by simpa [sput] using h4 (by simpa [did] using h), fun h => by simpa [sput] using h5 (by simpa [did] using h), fun h => by simpa [sput] using h6 (by simpa [did] using h), fun h => by simpa [sput] using h7 (by simpa [did] using h), fun h => by simpa [sput] using h8 (by simpa [did] using h), fun h => by simpa [sput] using h9 (by simpa [did] using h), fun h => by simpa [sput] using h10 (by simpa [did] using h), fun h => by simpa [sput] using h11 (by simpa [did] using h), fun h => by have := x0 (by simpa [did] using h); simp [did, this], fun h => by have := x1 (by simpa [did] using h); simp [did, this], fun h => by have := x2 (by simpa [did] using h); simp [did, this], fun h => by have := x3 (by simpa [did] using h); simp [did, this], fun h => by have := x4 (by simpa [did] using h); simp [did, this], fun h => by have := x5 (by simpa [did] using h); simp [did, this], fun h => by have := x6 (by simpa [did] using h); simp [did, this], ⟨fun _ => hT, fun h => by simp [did, hl] at h⟩⟩
        · have hl : d 12 = false := by
            cases h : d 12
            · rfl
            · have := x6 h; simp [hd] at this
          replace hT := hT.1 hl
          simp [go_sem, evS, f4]
          exact ⟨fun h => by simpa [sput] using h0 (by simpa [did] using h), fun h => by simpa [sput] using h1 (by simpa [did] using h), fun h => by simpa [sput] using h2 (by simpa [did] using h), fun h => by simpa [sput] using h3 (by simpa [did] using h), fun _ => by simp [sput], fun h => by simpa [sput] using h5 (by simpa [did] using h), fun h => by simpa [sput] using h6 (by simpa [did] using h), fun h => by simpa [sput] using h7 (by simpa [did] using h), fun h => by simpa [sput] using h8 (by simpa [did] using h), fun h => by simpa [sput] using h9 (by simpa [did] using h), fun h => by simpa [sput] using h10 (by simpa [did] using h), fun h => by simpa [sput] using h11 (by simpa [did] using h), fun h => by have := x0 (by simpa [did] using h); simp [did, this], fun h => by have := x1 (by simpa [did] using h); simp [did, this], fun h => by have := x2 (by simpa [did] using h); simp [did, this], fun h => by have := x3 (by simpa [did] using h); simp [did, this], fun h => by have := x4 (by simpa [did] using h); simp [did, this], fun h => by have := x5 (by simpa [did] using h); simp [did, this], fun h => by have := x6 (by simpa [did] using h); simp [did, this], ⟨fun _ => hT, fun h => by simp [did, hl] at h⟩⟩
        · have hl : d 12 = false := by
            cases h : d 12
            · rfl
            · have := x6 h; simp [hd] at this
          replace hT := hT.1 hl
          simp [go_sem, evS, f2]
          exact ⟨fun h => by simpa [sput] using h0 (by simpa [did] using h), fun h => by simpa [sput] using h1 (by simpa [did] using h), fun h => by simpa [sput] using h2 (by simpa [did] using h), fun h => by simpa [sput] using h3 (by simpa [did] using h), fun h => by simpa [sput] using h4 (by simpa [did] using h), fun _ => by simp [sput], fun h => by simpa [sput] using h6 (by simpa [did] using h), fun h => by simpa [sput] using h7 (by simpa [did] using h), fun h => by simpa [sput] using h8 (by simpa [did] using h), fun h => by simpa [sput] using h9 (by simpa [did] using h), fun h => by simpa [sput] using h10 (by simpa [did] using h), fun h => by simpa [sput] using h11 (by simpa [did] using h), fun h => by have := x0 (by simpa [did] using h); simp [did, this], fun h => by have := x1 (by simpa [did] using h); simp [did, this], fun h => by have := x2 (by simpa [did] using h); simp [did, this], fun h => by have := x3 (by simpa [did] using h); simp [did, this], fun h => by have := x4 (by simpa [did] using h); simp [did, this], fun h => by have := x5 (by simpa [did] using h); simp [did, this], fun h => by have := x6 (by simpa [did] using h); simp [did, this], ⟨fun _ => hT, fun h => by simp [did, hl] at h⟩⟩
        · have hl : d 12 = false := by
            cases h : d 12
            · rfl
            · have := x6 h; simp [hd] at this
          replace hT := hT.1 hl
          have g5 := h5 (by simp [hdep])
          obtain ⟨p0, p1, p2, p3⟩ := cells4w (HZ2.out.below hT HZ2.out.lt)
          simp [go_sem, evS, g5, p0, p1, p2, p3]
          exact ⟨fun h => by simpa [sput] using h0 (by simpa [did] using h), fun h => by simpa [sput] using h1 (by simpa [did] using h), fun h => by simpa [sput] using h2 (by simpa [did] using h), fun h => by simpa [sput] using h3 (by simpa [did] using h), fun h => by simpa [sput] using h4 (by simpa [did] using h), fun h => by simpa [sput] using h5 (by simpa [did] using h), fun _ => by simp [sput], fun h => by simpa [sput] using h7 (by simpa [did] using h), fun h => by simpa [sput] using h8 (by simpa [did] using h), fun h => by simpa [sput] using h9 (by simpa [did] using h), fun h => by simpa [sput] using h10 (by simpa [did] using h), fun h => by simpa [sput] using h11 (by simpa [did] using h), fun h => by have := x0 (by simpa [did] using h); simp [did, this], fun _ => by simp [did, hdep], fun h => by have := x2 (by simpa [did] using h); simp [did, this], fun h => by have := x3 (by simpa [did] using h); simp [did, this], fun h => by have := x4 (by simpa [did] using h); simp [did, this], fun h => by have := x5 (by simpa [did] using h); simp [did, this], fun h => by have := x6 (by simpa [did] using h); simp [did, this], ⟨fun _ => hT, fun h => by simp [did, hl] at h⟩⟩
        · have hl : d 12 = false := by
            cases h : d 12
            · rfl
            · have := x6 h; simp [hd] at this
          replace hT := hT.1 hl
          simp [go_sem, evS, f5]
          exact ⟨fun h => by simpa [sput] using h0 (by simpa [did] using h), fun h => by simpa [sput] using h1 (by simpa [did] using h), fun h => by simpa [sput] using h2 (by simpa [did] using h), fun h => by simpa [sput] using h3 (by simpa [did] using h), fun h => by simpa [sput] using h4 (by simpa [did] using h), fun h => by simpa [sput] using h5 (by simpa [did] using h), fun h => by simpa [sput] using h6 (by simpa [did] using h), fun _ => by simp [sput], fun h => by simpa [sput] using h8 (by simpa [did] using h), fun h => by simpa [sput] using h9 (by simpa [did] using h), fun h => by simpa [sput] using h10 (by simpa [did] using h), fun h => by simpa [sput] using h11 (by simpa [did] using h), fun h => by have := x0 (by simpa [did] using h); simp [did, this], fun h => by have := x1 (by simpa [did] using h); simp [did, this], fun h => by have := x2 (by simpa [did] using h); simp [did, this], fun h => by have := x3 (by simpa [did] using h); simp [did, this], fun h => by have := x4 (by simpa [did] using h); simp [did, this], fun h => by have := x5 (by simpa [did] using h); simp [did, this], fun h => by have := x6 (by simpa [did] using h); simp [did, this], ⟨fun _ => hT, fun h => by simp [did, hl] at h⟩⟩
        · have hl : d 12 = false := by
            cases h : d 12
            · rfl
            · have := x6 h; simp [hd] at this
          replace hT := hT.1 hl
          have g6 := h6 (by simp [hdep])
          have g7 := h7 (by simp [hdep])
          simp [go_sem, evS, g6, g7, b2]
          exact ⟨fun h => by simpa [sput] using h0 (by simpa [did] using h), fun h => by simpa [sput] using h1 (by simpa [did] using h), fun h => by simpa [sput] using h2 (by simpa [did] using h), fun h => by simpa [sput] using h3 (by simpa [did] using h), fun h => by simpa [sput] using h4 (by simpa [did] using h), fun h => by simpa [sput] using h5 (by simpa [did] using h), fun h => by simpa [sput] using h6 (by simpa [did] using h), fun h => by simpa [sput] using h7 (by simpa [did] using h), fun _ => by simp [sput], fun h => by simpa [sput] using h9 (by simpa [did] using h), fun h => by simpa [sput] using h10 (by simpa [did] using h), fun h => by simpa [sput] using h11 (by simpa [did] using h), fun h => by have := x0 (by simpa [did] using h); simp [did, this], fun h => by have := x1 (by simpa [did] using h); simp [did, this], fun _ => by have y6 := x1 (by simp [hdep]); simp [did, hdep, y6], fun h => by have := x3 (by simpa [did] using h); simp [did, this], fun h => by have := x4 (by simpa [did] using h); simp [did, this], fun h => by have := x5 (by simpa [did] using h); simp [did, this], fun h => by have := x6 (by simpa [did] using h); simp [did, this], ⟨fun _ => hT, fun h => by simp [did, hl] at h⟩⟩
        · have hl : d 12 = false := by
            cases h : d 12
            · rfl
            · have := x6 h; simp [hd] at this
          replace hT := hT.1 hl
          have g8 := h8 (by simp [hdep])
          have pc := cell_below HCe.out hT
          simp [go_sem, evS, g8, pc]
          exact ⟨fun h => by simpa [sput] using h0 (by simpa [did] using h), fun h => by simpa [sput] using h1 (by simpa [did] using h), fun h => by simpa [sput] using h2 (by simpa [did] using h), fun h => by simpa [sput] using h3 (by simpa [did] using h), fun h => by simpa [sput] using h4 (by simpa [did] using h), fun h => by simpa [sput] using h5 (by simpa [did] using h), fun h => by simpa [sput] using h6 (by simpa [did] using h), fun h => by simpa [sput] using h7 (by simpa [did] using h), fun h => by simpa [sput] using h8 (by simpa [did] using h), fun _ => by simp [sput], fun h => by simpa [sput] using h10 (by simpa [did] using h), fun h => by simpa [sput] using h11 (by simpa [did] using h), fun h => by have := x0 (by simpa [did] using h); simp [did, this], fun h => by have := x1 (by simpa [did] using h); simp [did, this], fun h => by have := x2 (by simpa [did] using h); simp [did, this], fun _ => by have y8 := x2 (by simp [hdep]); simp [did, hdep, y8], fun h => by have := x4 (by simpa [did] using h); simp [did, this], fun h => by have := x5 (by simpa [did] using h); simp [did, this], fun h => by have := x6 (by simpa [did] using h); simp [did, this], ⟨fun _ => hT, fun h => by simp [did, hl] at h⟩⟩
        · have hl : d 12 = false := by
            cases h : d 12
            · rfl
            · have := x6 h; simp [hd] at this
          replace hT := hT.1 hl
          have g3 := h3 (by simp [hdep])
          have g4 := h4 (by simp [hdep])
          have g9 := h9 (by simp [hdep])
          simp [go_sem, evS, g3, g4, g9, HF.out]
          refine (HC.out W (HIb.out _ _ HI.out hT)).mono ?_
          rintro e W' ⟨r, rfl, hr, hb⟩
          refine ⟨_, rfl, ?_⟩
          exact ⟨fun h => by simpa [sput] using h0 (by simpa [did] using h), fun h => by simpa [sput] using h1 (by simpa [did] using h), fun h => by simpa [sput] using h2 (by simpa [did] using h), fun h => by simpa [sput] using h3 (by simpa [did] using h), fun h => by simpa [sput] using h4 (by simpa [did] using h), fun h => by simpa [sput] using h5 (by simpa [did] using h), fun h => by simpa [sput] using h6 (by simpa [did] using h), fun h => by simpa [sput] using h7 (by simpa [did] using h), fun h => by simpa [sput] using h8 (by simpa [did] using h), fun h => by simpa [sput] using h9 (by simpa [did] using h), fun _ => ⟨r, by simp [sput], hr⟩, fun h => by simpa [sput] using h11 (by simpa [did] using h), fun h => by have := x0 (by simpa [did] using h); simp [did, this], fun h => by have := x1 (by simpa [did] using h); simp [did, this], fun h => by have := x2 (by simpa [did] using h); simp [did, this], fun h => by have := x3 (by simpa [did] using h); simp [did, this], fun _ => by have y9 := x3 (by simp [hdep]); simp [did, hdep, y9], fun h => by have := x5 (by simpa [did] using h); simp [did, this], fun h => by have := x6 (by simpa [did] using h); simp [did, this], ⟨fun _ => below_nx hT hb, fun h => by simp [did, hl] at h⟩⟩
        · have hl : d 12 = false := by
            cases h : d 12
            · rfl
            · have := x6 h; simp [hd] at this
          replace hT := hT.1 hl
          have g1 := h1 (by simp [hdep])
          have g2 := h2 (by simp [hdep])
          simp [go_sem, evS, g1, g2, b2]
          exact ⟨fun h => by simpa [sput] using h0 (by simpa [did] using h), fun h => by simpa [sput] using h1 (by simpa [did] using h), fun h => by simpa [sput] using h2 (by simpa [did] using h), fun h => by simpa [sput] using h3 (by simpa [did] using h), fun h => by simpa [sput] using h4 (by simpa [did] using h), fun h => by simpa [sput] using h5 (by simpa [did] using h), fun h => by simpa [sput] using h6 (by simpa [did] using h), fun h => by simpa [sput] using h7 (by simpa [did] using h), fun h => by simpa [sput] using h8 (by simpa [did] using h), fun h => by simpa [sput] using h9 (by simpa [did] using h), fun h => by simpa [sput] using h10 (by simpa [did] using h), fun _ => by simp [sput], fun h => by have := x0 (by simpa [did] using h); simp [did, this], fun h => by have := x1 (by simpa [did] using h); simp [did, this], fun h => by have := x2 (by simpa [did] using h); simp [did, this], fun h => by have := x3 (by simpa [did] using h); simp [did, this], fun h => by have := x4 (by simpa [did] using h); simp [did, this], fun _ => by have y1 := x0 (by simp [hdep]); simp [did, hdep, y1], fun h => by have := x6 (by simpa [did] using h); simp [did, this], ⟨fun _ => hT, fun h => by simp [did, hl] at h⟩⟩
        · have g11 := h11 (by simp [hdep])
          have g10 := h10 (by simp [hdep])
          replace hT := hT.1 hd
          obtain ⟨r, gr, hr⟩ := g10
          have hfz := frz_below HFz.out hlt0 hT
          have hcl := cell_below HCe.out hT
          simp [go_sem, evS, g11, gr, hfz, hcl]
          exact ⟨fun h => by simpa [sput] using h0 (by simpa [did] using h), fun h => by simpa [sput] using h1 (by simpa [did] using h), fun h => by simpa [sput] using h2 (by simpa [did] using h), fun h => by simpa [sput] using h3 (by simpa [did] using h), fun h => by simpa [sput] using h4 (by simpa [did] using h), fun h => by simpa [sput] using h5 (by simpa [did] using h), fun h => by simpa [sput] using h6 (by simpa [did] using h), fun h => by simpa [sput] using h7 (by simpa [did] using h), fun h => by simpa [sput] using h8 (by simpa [did] using h), fun h => by simpa [sput] using h9 (by simpa [did] using h), fun h => by simpa [sput] using h10 (by simpa [did] using h), fun h => by simpa [sput] using h11 (by simpa [did] using h), fun h => by have := x0 (by simpa [did] using h); simp [did, this], fun h => by have := x1 (by simpa [did] using h); simp [did, this], fun h => by have := x2 (by simpa [did] using h); simp [did, this], fun h => by have := x3 (by simpa [did] using h); simp [did, this], fun h => by have := x4 (by simpa [did] using h); simp [did, this], fun h => by have := x5 (by simpa [did] using h); simp [did, this], fun _ => by have y10 := x4 (by simp [hdep]); have y11 := x5 (by simp [hdep]); simp [did, hdep, y10, y11], ⟨fun h => by simp [did] at h, fun _ => ⟨W, r, hT, rfl, hr⟩⟩⟩
      intro d s W hJ hd
      obtain ⟨h0, h1, h2, h3, h4, h5, h6, h7, h8, h9, h10, h11, x0, x1, x2, x3, x4, x5, x6, hT⟩ := hJ
      obtain ⟨W', r, hbw, rfl, hr⟩ := hT.2 (hd 12 (by decide))
      have HR := Lib.hid hr
      have HBw := Lib.hid hbw
      clear h0 h1 h2 h3 h4 h5 h6 h7 h8 h9 h10 h11 x0 x1 x2 x3 x4 x5 x6 hT hd hbw hr
      simp [setAll]
      generalize s 14 = s14
      generalize s 15 = s15
      generalize s 16 = s16
      generalize s 17 = s17
      generalize s 18 = s18
      generalize s 19 = s19
      generalize s 20 = s20
      generalize s 21 = s21
      generalize s 22 = s22
      generalize s 23 = s23
      generalize s 24 = s24
      generalize s 25 = s25
      go_wp2_with fail
      go_roundw
      case rel => exact ⟨q + 1, m ++ [r], by omega, by go_num, HDone.out r HR.out W' HBw.out⟩
      case measure => simp [intOf]; omega
    · obtain rfl : q = K := by omega
      have hqc : ¬ (q : Int) < (q : Int) := by omega
      go_wp2_with fail
      go_end0
      obtain ⟨e1, e2, e3, e4, e5, e6⟩ := HH.out
      exact ⟨rfl, m, e1, e2, e3, e4, e5⟩
end Go.Proofs.Ytjjneiidggcfdaa
set_option linter.unusedVariables false
set_option linter.unusedSimpArgs false
namespace Go.Proofs.Ytjjneiidggcfdaa
open Go.RowKit
attribute [local go_sem ↓] Go.wp_at_zero Go.wp_at_succ

theorem axaxpy_enters : Enters Try.prog 55 := enters_of Try.func55 (by kernel_rfl) rfl

/-- What Axpy makes of a number. -/
def AxR (a : Nat) (l : List Nat) (o i : Nat) (l' : List Nat) (o' i' : Nat) (q r : Nat) : Prop := ∃ p, Comes .mul a (l'.getD (o' + q * i') 0) p ∧ Comes .add (l.getD (o + q * i) 0) p r

set_option maxRecDepth 100000 in
set_option maxHeartbeats 1000000 in
theorem axpy_ok (a g g' c c' : Nat) (l l' : List Nat) (n n' : Nat) (o K i o' i' : Nat) (w : World) (hO : Own w g l) (hO' : Own w g' l') (hln : l.length = n) (hln' : l'.length = n') (hn : n < 1048576) (hn' : n' < 1048576)
    (hi1 : 1 ≤ i) (hr : K = 0 ∨ o + (K - 1) * i < n) (hr' : K = 0 ∨ o' + (K - 1) * i' < n') (ho : I64 o) (hk : I64 K) (hi : I64 i) (ho' : I64 o') (hi' : I64 i') (hP : pairI (decide (g = g')) n o K i n' o' K i' = 0) (hm : g = g' → metB o i o' i' K = false) :
    Calls Try.prog 24 #[.float .f64 a, vec (some ⟨g', 0, none⟩) n' c' o' K i', vec (some ⟨g, 0, none⟩) n c o K i] w fun e w' => e = .returned (.int .i64 0) ∧
      ∃ m : List Nat, m.length = K ∧ (∀ q, q < K → AxR a l o i l' o' i' q (m.getD q 0)) ∧ Own w' g (wrt l o i m K) ∧ Chg [g] w w' := by
  have HPr := Lib.hid (fun W (hb : Below w.heap.size w W) => pair_any g g' c c' l l' n n' o K i o' K i' W (hO.nxt hb) (hO'.nxt hb) hln hln' (by omega) (by omega) ho hk hi ho' hk hi')
  rw [hP] at HPr
  have HRx := Lib.hid (fun q (h : q < K) => show o' + q * i' < n' from by
    rcases hr' with h0 | h0
    · omega
    · exact place_lt h0 h)
  have HEa := Lib.hid (fun W (ga z : Nat) (hb : Below w.heap.size w W) (hz : w.heap.size ≤ ga) (hz2 : w.heap.size ≤ z) (hA : W.cell? ⟨ga, 0, none⟩ = some (.float .f64 a)) (hX : Blk W z 30 #[.slice (some ⟨g', 0, none⟩) n' c', .int .i64 o', .int .i64 K, .int .i64 i']) =>
    each_any 55 #[.pointer (some ⟨ga, 0, none⟩), .pointer (some ⟨z, 0, none⟩)]
      (fun W => W.cell? ⟨ga, 0, none⟩ = some (.float .f64 a) ∧ Blk W z 30 #[.slice (some ⟨g', 0, none⟩) n' c', .int .i64 o', .int .i64 K, .int .i64 i'] ∧ ∀ q, q < K → W.cell? ⟨g', 0 + (o' + q * i'), none⟩ = some (.float .f64 (l'.getD (o' + q * i') 0)))
      (AxR a l o i l' o' i') g n c l o K i W (fun args W => axaxpy_enters args W) (hO.nxt hb) hln hn hi1 hr
      ⟨hA, hX, fun q hq => by
        have h1 := HRx.out q hq
        have h2 : o' + q * i' < l'.length := by omega
        rw [Nat.zero_add, getD_of_lt h2]
        exact (hO'.nxt hb).get _ h2⟩
      (fun W W' h hb' => ⟨cell_below h.1 hb', h.2.1.nxt hb', fun q hq => cell_below (h.2.2 q hq) hb'⟩)
      (fun W q v hq h => ⟨(cell_set (by have := hO.lt; omega) _).trans h.1, h.2.1.other (by show z ≠ g; have := hO.lt; omega) _, fun j hj => by
        by_cases e : g = g'
        · refine (World.cell?_setCell_other W _ _ _ ?_).trans (h.2.2 j hj)
          intro e2
          have := metB_false.1 (hm e) q hq j hj
          injection e2 with _ e3
          omega
        · exact (cell_set (fun e2 => e e2.symm) _).trans (h.2.2 j hj)⟩)
      (fun W q hq h => by
        have := axaxpy_one a (l'.getD (o' + q * i') 0) (l.getD (o + q * i) 0) ga z g' 0 n' c' o' K i' q W h.1 h.2.1 (h.2.2 q hq) (HRx.out q hq) hn'
        exact this.mono fun e w' ⟨p, r, e1, e2, e3, e4⟩ => ⟨r, e1, ⟨p, e2, e3⟩, e4⟩))
  clear hO hO' hln hln' hn hn' ho hk hi ho' hi' hP hr hr' hi1 hm HRx
  unfold vec at *
  go_enter Try.func24, Try.ntmps24
  have HA0 := Lib.hid (show _ from (((Blk.new w 25 #[.float .f64 a]).alloc (.cells #[.slice (some ⟨g', 0, none⟩) n' c', .int .i64 o', .int .i64 K, .int .i64 i'] 30)).alloc (.cells #[.slice (some ⟨g, 0, none⟩) n c, .int .i64 o, .int .i64 K, .int .i64 i] 30)).cell 0)
  have HB0 := Lib.hid ((((Below.refl w.heap.size w).alloc (Nat.le_refl _) (.cells #[.float .f64 a] 25)).alloc (by simp) (.cells #[.slice (some ⟨g', 0, none⟩) n' c', .int .i64 o', .int .i64 K, .int .i64 i'] 30)).alloc (by simp; omega) (.cells #[.slice (some ⟨g, 0, none⟩) n c, .int .i64 o, .int .i64 K, .int .i64 i] 30))
  have HX := Lib.hid ((Blk.new_ (w.alloc (.cells #[.float .f64 a] 25)) 30 #[.slice (some ⟨g', 0, none⟩) n' c', .int .i64 o', .int .i64 K, .int .i64 i'] (w.heap.size + 1) (by simp)).alloc (.cells #[.slice (some ⟨g, 0, none⟩) n c, .int .i64 o, .int .i64 K, .int .i64 i] 30))
  obtain ⟨x0, x1, x2, x3⟩ := cells4w HX.out
  have HY := Lib.hid (Blk.new_ ((w.alloc (.cells #[.float .f64 a] 25)).alloc (.cells #[.slice (some ⟨g', 0, none⟩) n' c', .int .i64 o', .int .i64 K, .int .i64 i'] 30)) 30 #[.slice (some ⟨g, 0, none⟩) n c, .int .i64 o, .int .i64 K, .int .i64 i] (w.heap.size + 1 + 1) (by simp))
  obtain ⟨y0, y1, y2, y3⟩ := cells4w HY.out
  go_wp2_with fail
  refine (HPr.out _ HB0.out).mono ?_
  rintro e w1 ⟨rfl, hb⟩
  have HB1 := Lib.hid (below_nx HB0.out hb)
  have HA1 := Lib.hid (cell_below HA0.out hb)
  have HX1 := Lib.hid (HX.out.nxt hb)
  have HY1 := Lib.hid (HY.out.nxt hb)
  clear hb x0 x1 x2 x3 y0 y1 y2 y3
  obtain ⟨y0, y1, y2, y3⟩ := cells4w HY1.out
  go_wp2_with fail
  refine (HEa.out _ _ _ HB1.out (Nat.le_refl _) (by omega) HA1.out HX1.out).mono ?_
  rintro e w2 ⟨rfl, m, hm1, hm2, hm3, hm4, hm5⟩
  have HM := Lib.hid (And.intro hm1 (And.intro hm2 (And.intro hm3 hm5)))
  clear hm1 hm2 hm3 hm4 hm5 y0 y1 y2 y3
  go_wp2_with fail
  go_ret
  exact ⟨rfl, m, HM.out.1, HM.out.2.1, HM.out.2.2.1, (Chg.of_below HB1.out).trans HM.out.2.2.2⟩
end Go.Proofs.Ytjjneiidggcfdaa
set_option linter.unusedVariables false
set_option linter.unusedSimpArgs false
set_option linter.unnecessarySimpa false
namespace Go.Proofs.Ytjjneiidggcfdaa
open Go.RowKit
attribute [local go_sem ↓] Go.wp_at_zero Go.wp_at_succ

theorem wds_lst2 {l : List Nat} (h : Wds l) (o i K : Nat) : Wds (lst l o i K) := by
  intro b hb
  unfold lst at hb
  obtain ⟨j, _, rfl⟩ := List.mem_map.1 hb
  rcases Nat.lt_or_ge (o + j * i) l.length with h1 | h1
  · rw [getD_of_lt h1]; exact h.at_ _ h1
  · rw [getD_of_le h1]; omega
end Go.Proofs.Ytjjneiidggcfdaa
set_option linter.unusedVariables false
set_option linter.unusedSimpArgs false
set_option linter.unnecessarySimpa false
namespace Go.Proofs.Ytjjneiidggcfdaa
open Go.RowKit
attribute [local go_sem ↓] Go.wp_at_zero Go.wp_at_succ

theorem getD_wds {l : List Nat} (h : Wds l) (k : Nat) : l.getD k 0 < 18446744073709551616 := by
  rcases Nat.lt_or_ge k l.length with h1 | h1
  · rw [getD_of_lt h1]; exact h.at_ k h1
  · rw [getD_of_le h1]; omega
end Go.Proofs.Ytjjneiidggcfdaa
set_option linter.unusedVariables false
set_option linter.unusedSimpArgs false
namespace Go.Proofs.Ytjjneiidggcfdaa
open Go.RowKit
attribute [local go_sem ↓] Go.wp_at_zero Go.wp_at_succ

theorem axscal_enters : Enters Try.prog 60 := enters_of Try.func60 (by kernel_rfl) rfl
theorem axshift_enters : Enters Try.prog 61 := enters_of Try.func61 (by kernel_rfl) rfl
theorem axsign_enters : Enters Try.prog 63 := enters_of Try.func63 (by kernel_rfl) rfl

set_option maxHeartbeats 1000000 in
theorem axscal_err (a : Nat) (A : Option Addr) (n c : Nat) (off k inc : Int) (w : World) (hn : n < 9223372036854775808) (ho : I64 off) (hk : I64 k) (hi : I64 inc) (hv : vecB n off k inc = false) :
    Calls Try.prog 30 #[.float .f64 a, vec A n c off k inc] w fun e w' => e = .returned (.int .i64 1) ∧ Below w.heap.size w w' := by
  have HR := Lib.hid (fun W => right_any A n c off k inc W hn ho hk hi)
  rw [hv] at HR
  clear hn ho hk hi hv
  unfold vec at *
  go_enter Try.func30, Try.ntmps30
  have HB0 := Lib.hid (((Below.refl w.heap.size w).alloc (Nat.le_refl _) (.cells #[.float .f64 a] 25)).alloc (by simp) (.cells #[.slice A n c, .int .i64 off, .int .i64 k, .int .i64 inc] 30))
  have HX := Lib.hid (Blk.new_ (w.alloc (.cells #[.float .f64 a] 25)) 30 #[.slice A n c, .int .i64 off, .int .i64 k, .int .i64 inc] (w.heap.size + 1) (by simp))
  obtain ⟨x0, x1, x2, x3⟩ := cells4w HX.out
  go_wp2_with fail
  refine (HR.out _).mono ?_
  rintro e w1 ⟨rfl, hb⟩
  have HB1 := Lib.hid (below_nx HB0.out hb)
  clear hb x0 x1 x2 x3
  go_wp2_with fail
  go_ret
  exact ⟨rfl, HB1.out⟩

set_option maxHeartbeats 1000000 in
theorem axscal_ok (a g c : Nat) (l : List Nat) (n o K i : Nat) (w : World) (hO : Own w g l) (hln : l.length = n) (hn : n < 1048576)
    (hi1 : 1 ≤ i) (hr : K = 0 ∨ o + (K - 1) * i < n) (ho : I64 o) (hk : I64 K) (hi : I64 i) (hv : vecB n o K i = true) :
    Calls Try.prog 30 #[.float .f64 a, vec (some ⟨g, 0, none⟩) n c o K i] w fun e w' => e = .returned (.int .i64 0) ∧
      ∃ m : List Nat, m.length = K ∧ (∀ q, q < K → Comes .mul a (l.getD (o + q * i) 0) (m.getD q 0)) ∧ Own w' g (wrt l o i m K) ∧ Chg [g] w w' := by
  have HR := Lib.hid (fun W => right_any (some ⟨g, 0, none⟩) n c o K i W (by omega) ho hk hi)
  rw [hv] at HR
  have HEa := Lib.hid (fun W (ga : Nat) (hb : Below w.heap.size w W) (hz : w.heap.size ≤ ga) (hA : W.cell? ⟨ga, 0, none⟩ = some (.float .f64 a)) =>
    each_any 60 #[.pointer (some ⟨ga, 0, none⟩)] (fun W => W.cell? ⟨ga, 0, none⟩ = some (.float .f64 a)) (fun q r => Comes .mul a (l.getD (o + q * i) 0) r) g n c l o K i W
      (fun args W => axscal_enters args W) (hO.nxt hb) hln hn hi1 hr hA (fun W W' h hb' => cell_below h hb') (fun W q v hq h => (cell_set (by have := hO.lt; omega) _).trans h)
      (fun W q hq h => (axscal_one a (l.getD (o + q * i) 0) q ga W h).mono fun e w' ⟨r, e1, e2, e3⟩ => ⟨r, e1, e2, e3⟩))
  clear hO hln hn ho hk hi hr hi1 hv
  unfold vec at *
  go_enter Try.func30, Try.ntmps30
  have HA0 := Lib.hid (show _ from ((Blk.new w 25 #[.float .f64 a]).alloc (.cells #[.slice (some ⟨g, 0, none⟩) n c, .int .i64 o, .int .i64 K, .int .i64 i] 30)).cell 0)
  have HB0 := Lib.hid (((Below.refl w.heap.size w).alloc (Nat.le_refl _) (.cells #[.float .f64 a] 25)).alloc (by simp) (.cells #[.slice (some ⟨g, 0, none⟩) n c, .int .i64 o, .int .i64 K, .int .i64 i] 30))
  have HX := Lib.hid (Blk.new_ (w.alloc (.cells #[.float .f64 a] 25)) 30 #[.slice (some ⟨g, 0, none⟩) n c, .int .i64 o, .int .i64 K, .int .i64 i] (w.heap.size + 1) (by simp))
  obtain ⟨x0, x1, x2, x3⟩ := cells4w HX.out
  go_wp2_with fail
  refine (HR.out _).mono ?_
  rintro e w1 ⟨rfl, hb⟩
  have HB1 := Lib.hid (below_nx HB0.out hb)
  have HA1 := Lib.hid (cell_below HA0.out hb)
  have HX1 := Lib.hid (HX.out.nxt hb)
  clear hb x0 x1 x2 x3
  obtain ⟨x0, x1, x2, x3⟩ := cells4w HX1.out
  go_wp2_with fail
  refine (HEa.out _ _ HB1.out (Nat.le_refl _) HA1.out).mono ?_
  rintro e w2 ⟨rfl, m, hm1, hm2, hm3, hm4, hm5⟩
  have HM := Lib.hid (And.intro hm1 (And.intro hm2 (And.intro hm3 hm5)))
  clear hm1 hm2 hm3 hm4 hm5 x0 x1 x2 x3
  go_wp2_with fail
  go_ret
  exact ⟨rfl, m, HM.out.1, HM.out.2.1, HM.out.2.2.1, (Chg.of_below HB1.out).trans HM.out.2.2.2⟩

/-- Which error, or 0. -/
def shfI (n : Nat) (off k inc : Int) (kn : Nat) : Int := if vecB n off k inc = true then (if (kn : Int) = k then 0 else 3) else 1
set_option maxHeartbeats 1000000 in
theorem axshift_err (A B : Option Addr) (n c kn kc : Nat) (off k inc : Int) (w : World) (hn : n < 9223372036854775808) (ho : I64 off) (hk : I64 k) (hi : I64 inc) (P : Int) (hP : shfI n off k inc kn = P) (h0 : P ≠ 0) :
    Calls Try.prog 31 #[vec A n c off k inc, .slice B kn kc] w fun e w' => e = .returned (.int .i64 P) ∧ Below w.heap.size w w' := by
  have HR := Lib.hid (fun W => right_any A n c off k inc W hn ho hk hi)
  unfold shfI at hP
  clear hn ho hk hi
  cases hv : vecB n off k inc
  · rw [hv] at HR hP
    have HP := Lib.hid (show P = 1 by simpa using hP.symm)
    clear hP hv h0
    unfold vec at *
    go_enter Try.func31, Try.ntmps31
    have HB0 := Lib.hid (((Below.refl w.heap.size w).alloc (Nat.le_refl _) (.cells #[.slice A n c, .int .i64 off, .int .i64 k, .int .i64 inc] 30)).alloc (by simp) (.cells #[.slice B kn kc] 32))
    have HX := Lib.hid ((Blk.new w 30 #[.slice A n c, .int .i64 off, .int .i64 k, .int .i64 inc]).alloc (.cells #[.slice B kn kc] 32))
    obtain ⟨x0, x1, x2, x3⟩ := cells4w HX.out
    go_wp2_with fail
    refine (HR.out _).mono ?_
    rintro e w1 ⟨rfl, hb⟩
    have HB1 := Lib.hid (below_nx HB0.out hb)
    clear hb x0 x1 x2 x3
    go_wp2_with fail
    go_ret
    exact ⟨by rw [HP.out]; rfl, HB1.out⟩
  · rw [hv] at HR hP
    have hne : ¬ (kn : Int) = k := by intro e; simp [e] at hP; exact h0 hP.symm
    have HP := Lib.hid (show P = 3 by simpa [hne] using hP.symm)
    have ht : ((kn : Int) == k) = false := by simp [hne]
    have ht2 : ((kn : Int) != k) = true := by simp [hne]
    clear hP hv h0 hne
    unfold vec at *
    go_enter Try.func31, Try.ntmps31
    have HB0 := Lib.hid (((Below.refl w.heap.size w).alloc (Nat.le_refl _) (.cells #[.slice A n c, .int .i64 off, .int .i64 k, .int .i64 inc] 30)).alloc (by simp) (.cells #[.slice B kn kc] 32))
    have HX := Lib.hid ((Blk.new w 30 #[.slice A n c, .int .i64 off, .int .i64 k, .int .i64 inc]).alloc (.cells #[.slice B kn kc] 32))
    have HK := Lib.hid ((Blk.new_ (w.alloc (.cells #[.slice A n c, .int .i64 off, .int .i64 k, .int .i64 inc] 30)) 32 #[.slice B kn kc] (w.heap.size + 1) (by simp)).cell 0)
    obtain ⟨x0, x1, x2, x3⟩ := cells4w HX.out
    go_wp2_with fail
    refine (HR.out _).mono ?_
    rintro e w1 ⟨rfl, hb⟩
    have HB1 := Lib.hid (below_nx HB0.out hb)
    have HX1 := Lib.hid (HX.out.nxt hb)
    have k0 := cell_below HK.out hb
    clear hb x0 x1 x2 x3
    obtain ⟨x0, x1, x2, x3⟩ := cells4w HX1.out
    go_wp2_with fail
    go_ret
    exact ⟨by rw [HP.out]; rfl, HB1.out⟩

set_option maxHeartbeats 1000000 in
theorem axshift_ok (g c : Nat) (l : List Nat) (n o K i : Nat) (B : Option Addr) (kc : Nat) (zs : List Int) (w : World) (hO : Own w g l) (hW : Wds l) (hln : l.length = n) (hn : n < 1048576) (hZ : Row w B (i64s zs)) (hz : zs.length = K) (hBg : ∀ b y, B = some ⟨b, y, none⟩ → b ≠ g ∨ zs = [])
    (hi1 : 1 ≤ i) (hr : K = 0 ∨ o + (K - 1) * i < n) (ho : I64 o) (hk : I64 K) (hi : I64 i) (hv : vecB n o K i = true) :
    Calls Try.prog 31 #[vec (some ⟨g, 0, none⟩) n c o K i, .slice B K kc] w fun e w' => e = .returned (.int .i64 0) ∧
      ∃ m : List Nat, m.length = K ∧ (∀ q, q < K → m.getD q 0 = Fl.scale (l.getD (o + q * i) 0) (zs.getD q 0)) ∧ Own w' g (wrt l o i m K) ∧ Chg [g] w w' := by
  have HR := Lib.hid (fun W => right_any (some ⟨g, 0, none⟩) n c o K i W (by omega) ho hk hi)
  rw [hv] at HR
  have HEa := Lib.hid (fun W (ga : Nat) (hb : Below w.heap.size w W) (hzz : w.heap.size ≤ ga) (hA : W.cell? ⟨ga, 0, none⟩ = some (.slice B K kc)) =>
    each_any 61 #[.pointer (some ⟨ga, 0, none⟩)] (fun W => W.cell? ⟨ga, 0, none⟩ = some (.slice B K kc) ∧ Row W B (i64s zs)) (fun q r => r = Fl.scale (l.getD (o + q * i) 0) (zs.getD q 0)) g n c l o K i W
      (fun args W => axshift_enters args W) (hO.nxt hb) hln hn hi1 hr ⟨hA, hZ.below hb⟩ (fun W W' h hb' => ⟨cell_below h.1 hb', h.2.below hb'⟩)
      (fun W q v hq h => ⟨(cell_set (by have := hO.lt; omega) _).trans h.1, by
        rcases h.2 with h2 | ⟨b, y, e, hc⟩
        · exact .inl h2
        · rcases hBg b y e with h3 | h3
          · exact .inr ⟨b, y, e, fun j u hj => (cell_set h3 _).trans (hc j u hj)⟩
          · exact .inl (by rw [h3]; rfl)⟩)
      (fun W q hq h => by
        have hql : q < zs.length := by omega
        obtain ⟨b, y, e, _, hc⟩ := h.2.at_ (i64s_get zs q hql)
        have hg : zs.getD q 0 = zs[q] := by simp [List.getD, hql]
        rw [hg]
        subst e
        have := axshift_one (l.getD (o + q * i) 0) q zs[q] ga b y K kc W h.1 hc hq (getD_wds hW _)
        exact this.mono fun e w' ⟨e1, e2⟩ => ⟨_, e1, rfl, e2⟩))
  have hnn : ((K : Int) == (K : Int)) = true := by simp
  have hnn2 : ((K : Int) != (K : Int)) = false := by simp
  clear hO hln hn ho hk hi hr hi1 hv hZ hz hBg hW
  unfold vec at *
  go_enter Try.func31, Try.ntmps31
  have HB0 := Lib.hid (((Below.refl w.heap.size w).alloc (Nat.le_refl _) (.cells #[.slice (some ⟨g, 0, none⟩) n c, .int .i64 o, .int .i64 K, .int .i64 i] 30)).alloc (by simp) (.cells #[.slice B K kc] 32))
  have HX := Lib.hid ((Blk.new w 30 #[.slice (some ⟨g, 0, none⟩) n c, .int .i64 o, .int .i64 K, .int .i64 i]).alloc (.cells #[.slice B K kc] 32))
  have HK := Lib.hid ((Blk.new_ (w.alloc (.cells #[.slice (some ⟨g, 0, none⟩) n c, .int .i64 o, .int .i64 K, .int .i64 i] 30)) 32 #[.slice B K kc] (w.heap.size + 1) (by simp)).cell 0)
  obtain ⟨x0, x1, x2, x3⟩ := cells4w HX.out
  go_wp2_with fail
  refine (HR.out _).mono ?_
  rintro e w1 ⟨rfl, hb⟩
  have HB1 := Lib.hid (below_nx HB0.out hb)
  have HX1 := Lib.hid (HX.out.nxt hb)
  have HK1 := Lib.hid (cell_below HK.out hb)
  have k0 := cell_below HK.out hb
  clear hb x0 x1 x2 x3
  obtain ⟨x0, x1, x2, x3⟩ := cells4w HX1.out
  go_wp2_with fail
  refine (HEa.out _ _ HB1.out (by omega) HK1.out).mono ?_
  rintro e w2 ⟨rfl, m, hm1, hm2, hm3, hm4, hm5⟩
  have HM := Lib.hid (And.intro hm1 (And.intro hm2 (And.intro hm3 hm5)))
  clear hm1 hm2 hm3 hm4 hm5 x0 x1 x2 x3 k0
  go_wp2_with fail
  go_ret
  exact ⟨rfl, m, HM.out.1, HM.out.2.1, HM.out.2.2.1, (Chg.of_below HB1.out).trans HM.out.2.2.2⟩

set_option maxHeartbeats 1000000 in
theorem axsign_err (A : Option Addr) (n c : Nat) (off k inc : Int) (w : World) (hn : n < 9223372036854775808) (ho : I64 off) (hk : I64 k) (hi : I64 inc) (hv : vecB n off k inc = false) :
    Calls Try.prog 32 #[vec A n c off k inc] w fun e w' => e = .returned (.tuple #[.slice none 0 0, .int .i64 1]) ∧ Below w.heap.size w w' := by
  have HR := Lib.hid (fun W => right_any A n c off k inc W hn ho hk hi)
  rw [hv] at HR
  clear hn ho hk hi hv
  unfold vec at *
  go_enter Try.func32, Try.ntmps32
  have HB0 := Lib.hid ((Below.refl w.heap.size w).alloc (Nat.le_refl _) (.cells #[.slice A n c, .int .i64 off, .int .i64 k, .int .i64 inc] 30))
  have HX := Lib.hid (Blk.new w 30 #[.slice A n c, .int .i64 off, .int .i64 k, .int .i64 inc])
  obtain ⟨x0, x1, x2, x3⟩ := cells4w HX.out
  go_wp2_with fail
  refine (HR.out _).mono ?_
  rintro e w1 ⟨rfl, hb⟩
  have HB1 := Lib.hid (below_nx HB0.out hb)
  clear hb x0 x1 x2 x3
  go_wp2_with fail
  go_ret2
  exact ⟨rfl, HB1.out⟩

theorem wrt_whole (l m : List Nat) (K : Nat) (hl : l.length = K) (hm : m.length = K) : wrt l 0 1 m K = m := by
  refine ext_getD (by rw [wrt_length, hl, hm]) fun j hj => ?_
  rw [wrt_length] at hj
  have := wrt_at l 0 1 m K (Nat.le_refl _) (by by_cases h : K = 0; exact .inl h; exact .inr (by omega)) (i := j) (by omega)
  simpa using this
set_option maxHeartbeats 1000000 in
theorem axsign_ok (A : Option Addr) (n c : Nat) (l : List Nat) (o K i : Nat) (w : World) (hA : Row w A (f64s l)) (hln : l.length = n) (hn : n < 1048576)
    (hi1 : 1 ≤ i) (hr : K = 0 ∨ o + (K - 1) * i < n) (ho : I64 o) (hk : I64 K) (hi : I64 i) (hv : vecB n o K i = true) :
    Calls Try.prog 32 #[vec A n c o K i] w fun e w' => ∃ g m, e = .returned (.tuple #[.slice (some ⟨g, 0, none⟩) K K, .int .i64 0]) ∧
      m.length = K ∧ (∀ q, q < K → m.getD q 0 = sgnW (l.getD (o + q * i) 0)) ∧ Own w' g m ∧ Below w.heap.size w w' := by
  have HR := Lib.hid (fun W => right_any A n c o K i W (by omega) ho hk hi)
  rw [hv] at HR
  have HRn := Lib.hid (fun a (h : a < K) => show o + a * i < n from by
    rcases hr with h0 | h0
    · omega
    · exact place_lt h0 h)
  have hKn : K ≤ n := by
    rcases hr with h0 | h0
    · omega
    · have : K - 1 ≤ (K - 1) * i := Nat.le_mul_of_pos_right _ hi1
      omega
  have HEa := Lib.hid (show ∀ W (z g : Nat), Below w.heap.size w W → w.heap.size ≤ z → z < g → Blk W z 30 #[.slice A n c, .int .i64 o, .int .i64 K, .int .i64 i] → Own W g (List.replicate K 0) →
      Calls Try.prog 54 #[.agg #[.slice (some ⟨g, 0, none⟩) K K, .int .i64 0, .int .i64 K, .int .i64 1], .func (.func 63) #[] #[.pointer (some ⟨z, 0, none⟩)]] W _ from fun W (z g : Nat) (hb : Below w.heap.size w W) (hz : w.heap.size ≤ z) (hzg : z < g) (hX : Blk W z 30 #[.slice A n c, .int .i64 o, .int .i64 K, .int .i64 i]) (hG : Own W g (List.replicate K 0)) =>
    each_any 63 #[.pointer (some ⟨z, 0, none⟩)]
      (fun W => Blk W z 30 #[.slice A n c, .int .i64 o, .int .i64 K, .int .i64 i] ∧ Row W A (f64s l) ∧ ∀ b y, A = some ⟨b, y, none⟩ → b ≠ g ∨ l = []) (fun q r => r = sgnW (l.getD (o + q * i) 0)) g K K (List.replicate K 0) 0 K 1 W
      (fun args W => axsign_enters args W) hG (by simp) (by omega) (Nat.le_refl _) (by by_cases h : K = 0; exact .inl h; exact .inr (by omega)) ⟨hX, hA.below hb, fun b y e => by
        rcases hA with h | ⟨b', y', e', hc⟩
        · exact .inr (by simpa [f64s] using h)
        · cases l with
          | nil => exact .inr rfl
          | cons x l =>
            rw [e] at e'
            injection e' with e'
            injection e' with e1 e2
            subst e1
            have := block_lt (hc 0 _ rfl)
            exact .inl (by omega)⟩
      (fun W W' h hb' => ⟨h.1.nxt hb', h.2.1.below hb', h.2.2⟩)
      (fun W q v hq h => ⟨h.1.other (by show z ≠ g; omega) _, by
        rcases h.2.1 with h2 | ⟨b, y, e, hc⟩
        · exact .inl h2
        · rcases h.2.2 b y e with hne | h0
          · exact .inr ⟨b, y, e, fun j u hj => (cell_set hne _).trans (hc j u hj)⟩
          · exact .inl (by rw [h0]; rfl), h.2.2⟩)
      (fun W q hq h => by
        have h1 := HRn.out q hq
        have h2 : o + q * i < l.length := by omega
        obtain ⟨b, y, e, _, hc⟩ := h.2.1.at_ (f64s_get l _ h2)
        rw [getD_of_lt h2]
        subst e
        have := axsign_one l[o + q * i] ((List.replicate K 0).getD (0 + q * 1) 0) z b y n c o K i q W h.1 hc h1 hn
        exact this.mono fun e w' ⟨e1, e2⟩ => ⟨_, e1, rfl, e2⟩))
  have HMk := Lib.hid (fun W => frun_make K (by omega) W)
  have hm0 := fun W => frun_make K (by omega) W
  clear hA hln hn ho hk hi hr hi1 hv HRn hKn
  unfold vec at *
  go_enter Try.func32, Try.ntmps32
  have HB0 := Lib.hid ((Below.refl w.heap.size w).alloc (Nat.le_refl _) (.cells #[.slice A n c, .int .i64 o, .int .i64 K, .int .i64 i] 30))
  have HX := Lib.hid (Blk.new w 30 #[.slice A n c, .int .i64 o, .int .i64 K, .int .i64 i])
  obtain ⟨x0, x1, x2, x3⟩ := cells4w HX.out
  go_wp2_with fail
  refine (HR.out _).mono ?_
  rintro e w1 ⟨rfl, hb⟩
  have HB1 := Lib.hid (below_nx HB0.out hb)
  have HX1 := Lib.hid (HX.out.nxt hb)
  have hzz : w.heap.size < w1.heap.size := HX1.out.lt
  have HZ := Lib.hid hzz
  clear hb x0 x1 x2 x3 hzz
  obtain ⟨x0, x1, x2, x3⟩ := cells4w HX1.out
  have HX2 := Lib.hid (HX1.out.alloc (.cells (f64s (List.replicate K 0)).toArray 25))
  have HB2 := Lib.hid (HB1.out.alloc HB1.out.size (.cells (f64s (List.replicate K 0)).toArray 25))
  have HG := Lib.hid (own_blk (Blk.new w1 25 (f64s (List.replicate K 0)).toArray))
  obtain ⟨y0, y1, y2, y3⟩ := cells4w HX2.out
  go_wp2_with fail
  refine (HEa.out _ _ _ HB2.out (Nat.le_refl _) HZ.out HX2.out HG.out).mono ?_
  rintro e w2 ⟨rfl, m, hm1, hm2, hm3, hm4, hm5⟩
  rw [wrt_whole _ _ _ (by simp) hm1] at hm3
  have HM := Lib.hid (And.intro hm1 (And.intro hm2 (And.intro hm3 hm5)))
  clear hm1 hm2 hm3 hm4 hm5 x0 x1 x2 x3 y0 y1 y2 y3
  go_wp2_with fail
  go_ret2
  exact ⟨_, m, rfl, HM.out.1, HM.out.2.1, HM.out.2.2.1, HM.out.2.2.2.below HB2.out HB2.out.size (by intro g hg; simp at hg; subst hg; exact HB1.out.size)⟩
end Go.Proofs.Ytjjneiidggcfdaa
set_option linter.unusedVariables false
set_option linter.unusedSimpArgs false
set_option linter.unnecessarySimpa false
namespace Go.Proofs.Ytjjneiidggcfdaa
open Go.RowKit
attribute [local go_sem ↓] Go.wp_at_zero Go.wp_at_succ

/-- A list that is being made longer by one number. -/
def ApS (Z : Nat) (L : List Value) (R : Nat → Prop) (w wr : World) (db da : Bool) (vb va : Value) (W : World) : Prop :=
  (da = false → Below wr.heap.size wr W ∧ (db = true → ∃ g r, vb = .slice (some ⟨g, 0, none⟩) 1 1 ∧ W.cell? ⟨g, 0, none⟩ = some (.float .f64 r) ∧ R r)) ∧
  (da = true → ∃ r, R r ∧ W.ownsRow Z 25 1 va (L.length + 1) (L ++ [.float .f64 r]) ∧ Below w.heap.size w W)
theorem ApS.nxt {Z : Nat} {L : List Value} {R : Nat → Prop} {w wr : World} {db : Bool} {vb va : Value} {W W' : World} (h : ApS Z L R w wr db false vb va W) (hb : Below W.heap.size W W') : ApS Z L R w wr db false vb va W' :=
  ⟨fun _ => ⟨below_nx (h.1 rfl).1 hb, fun e => by
    obtain ⟨g, r, h1, h2, h3⟩ := (h.1 rfl).2 e
    exact ⟨g, r, h1, cell_below h2 hb, h3⟩⟩, fun e => by cases e⟩
theorem ApS.made {Z : Nat} {L : List Value} {R : Nat → Prop} {w wr : World} {vb va : Value} {W : World} {r : Nat} (h : ApS Z L R w wr false false vb va W) (hr : R r) :
    ApS Z L R w wr true false (.slice (some ⟨W.heap.size, 0, none⟩) 1 1) va (W.alloc (.cells #[.float .f64 r] 25)) :=
  ⟨fun _ => ⟨below_nx (h.1 rfl).1 below_one, fun _ => ⟨_, r, rfl, (Blk.new W 25 #[.float .f64 r]).cell 0, hr⟩⟩, fun e => by cases e⟩
theorem ApS.app {Z : Nat} {L : List Value} {R : Nat → Prop} {w wr : World} {vb va out : Value} {W : World} (h : ApS Z L R w wr true false vb va W) (hout : wr.ownsRow Z 25 1 out L.length L) (hbl : Below w.heap.size w wr) (hZ : w.heap.size ≤ Z) (hZ2 : Z ≤ wr.heap.size) (hq : L.length + 1 ≤ 1048576) :
    ∃ g v' w', vb = .slice (some ⟨g, 0, none⟩) 1 1 ∧ (Builtin.append_ #[22, 22] 22 #[out, .slice (some ⟨g, 0, none⟩) 1 1]).run Try.prog W = .ok v' w' ∧ ApS Z L R w wr true true vb v' w' := by
  obtain ⟨i0, hi, hz0, hz1, hz2⟩ := fi0
  obtain ⟨hb, hx⟩ := h.1 rfl
  obtain ⟨g, r, e1, e2, e3⟩ := hx rfl
  have hO : W.ownsRow Z 25 1 out L.length L := hout.kept (row := none) ⟨hb.os, hb.tape, hb.output, hb.size, fun k hk _ => hb.block k hk⟩ (by cases out.ownBlock <;> simp)
  obtain ⟨v', w', r1, r2, r3, _⟩ := run_append_own W Z 22 22 25 i0 (.float .f64 0) 1 8 Try.underlying22 hi hz0 hz1 hz2 rfl (by decide) out L.length L hO ⟨g, 0, none⟩ 1 1 [.float .f64 r] rfl
    (by
      intro j u hj
      match j, hj with
      | 0, hj =>
        have : u = .float .f64 r := by simpa using hj.symm
        subst this
        exact e2
      | j + 1, hj => simp at hj) (by intro u hu; simp at hu; subst hu; rfl) (by unfold maxLen; omega) (by omega) (by have := hb.size; omega)
  refine ⟨g, v', w', e1, r1, ⟨(fun e => by cases e), fun _ => ⟨r, e3, r2, ?_⟩⟩⟩
  exact (below_nx hbl hb).grown r3 (below_nx hbl hb).size (fun k hk => by have := (hO.lt k hk).1; omega)
theorem ownsRow_below {Z : Nat} {w w' : World} {e : TypeId} {n k : Nat} {v : Value} {xs : List Value} (h : w.ownsRow Z e k v n xs) (hb : Below w.heap.size w w') : w'.ownsRow Z e k v n xs :=
  h.kept (row := none) ⟨hb.os, hb.tape, hb.output, hb.size, fun k hk _ => hb.block k hk⟩ (by cases v.ownBlock <;> simp)

/-- The call returned a list of n numbers of which this holds. -/
def RetL (R : Nat → Nat → Prop) (n : Nat) (w : World) (e : Ending) (w' : World) : Prop :=
  ∃ B d m, e = .returned (.slice B n d) ∧ m.length = n ∧ (∀ q, q < n → R q (m.getD q 0)) ∧ Row w' B (f64s m) ∧ Below w.heap.size w w'
/-- What Axpy makes of a number. -/
def AxQ (a : Nat) (l l' : List Nat) (q r : Nat) : Prop := ∃ p, Comes .mul a (l.getD q 0) p ∧ Comes .add (l'.getD q 0) p r
theorem AxQ_all {R : Nat → Nat → Prop} {L : List Nat} {q r : Nat} (hl : L.length = q) (h : ∀ j, j < q → R j (L.getD j 0)) (hr : R q r) : ∀ j, j < q + 1 → R j ((L ++ [r]).getD j 0) := by
  intro j hj
  by_cases h1 : j < q
  · have : (L ++ [r]).getD j 0 = L.getD j 0 := by simp [List.getD, List.getElem?_append_left (show j < L.length by omega)]
    rw [this]; exact h j h1
  · obtain rfl : j = q := by omega
    have : (L ++ [r]).getD j 0 = r := by simp [List.getD, ← hl]
    rw [this]; exact hr
end Go.Proofs.Ytjjneiidggcfdaa
set_option linter.unusedVariables false
set_option linter.unusedSimpArgs false
set_option linter.unnecessarySimpa false
namespace Go.Proofs.Ytjjneiidggcfdaa
open Go.RowKit
attribute [local go_sem ↓] Go.wp_at_zero Go.wp_at_succ

set_option maxRecDepth 100000 in
set_option maxHeartbeats 1000000 in
theorem rscal_any (a : Nat) (A : Option Addr) (n c : Nat) (l : List Nat) (w : World) (hA : Row w A (f64s l)) (hl : l.length = n) (hn : n < 1048576) :
    Calls Try.prog 34 #[.float .f64 a, .slice A n c] w (RetL (fun q r => Comes .mul a (l.getD q 0) r) n w) := by
  obtain ⟨i0, hi, hz0, hz1, hz2⟩ := fi0
  have HA := Lib.hid hA
  have Hl := Lib.hid hl
  clear hA hl
  go_enter Try.func34, Try.ntmps34
  go_wp2_with fail
  go_loopw [5, 6] (fun out i wr => ∃ (q : Nat) (L : List Nat), q ≤ n ∧ i = .int .i64 q ∧ Hid (L.length = q ∧ ∀ j, j < q → (fun q r => Comes .mul a (l.getD q 0) r) j (L.getD j 0)) ∧ wr.ownsRow w.heap.size 25 1 out q (f64s L) ∧ Below w.heap.size w wr) (fun _ i _ => n - (intOf i).toNat)
  case atStart => exact ⟨0, [], Nat.zero_le _, rfl, Lib.hid ⟨rfl, fun j h => by omega⟩, World.ownsRow_nil _ _ _ _, Below.refl _ _⟩
  case round =>
    obtain ⟨q, L, hq, rfl, HL, hown, hbl⟩ := hrel
    have HBl := Lib.hid hbl
    have HOw0 := Lib.hid hown
    clear hown hbl
    by_cases hlt : q < n
    · have hql : q < l.length := by rw [Hl.out]; omega
      obtain ⟨b1, y1, rfl, _, hcx⟩ := HA.out.at_ (f64s_get l q hql)
      replace hcx := cell_below hcx HBl.out
      have HQ := Lib.hid (fun r (hp : Comes .mul a l[q] r) => show Comes .mul a (l.getD q 0) r by rw [getD_of_lt hql]; exact hp)
      obtain ⟨x, hx⟩ : ∃ x, l[q] = x := ⟨_, rfl⟩
      rw [hx] at hcx HQ
      have hqc : (q : Int) < (n : Int) := by omega
      have hq0 : (0 : Int) ≤ (q : Int) := by omega
      have hq1 : q + 1 ≤ 1048576 := by omega
      clear hx hql
      go_wp2_with fail
      refine (rtimes_any a x _).mono ?_
      rintro e wt ⟨r, rfl, hr, hb⟩
      have HR := Lib.hid (HQ.out r hr)
      have HOwW := Lib.hid (ownsRow_below HOw0.out hb)
      have HBlW := Lib.hid (below_nx HBl.out hb)
      clear hr hb hcx
      have HN := Lib.hid (Blk.new wt 25 #[.float .f64 r])
      have HOw2 := Lib.hid (HOwW.out.alloc (.cells #[.float .f64 r] 25))
      go_wp2_with (at_builtin; refine wpList_append_own _ rfl _ _ 22 rfl w.heap.size 25 i0 (.float .f64 0) 1 8 Try.underlying22 hi hz0 hz1 hz2 rfl (by decide) _ q (f64s L) rfl HOw2.out ⟨wt.heap.size, 0, none⟩ 1 1 [.float .f64 r] rfl rfl ?c1 (by intro u hu; simp at hu; subst hu; rfl) ?c3 ?c4 ?c5 ?_)
      case c1 =>
        intro j u hj
        match j, hj with
        | 0, hj =>
          have : u = .float .f64 r := by simpa using hj.symm
          subst this
          exact HN.out.cell 0
        | j + 1, hj => simp at hj
      case c3 => unfold maxLen; omega
      case c4 => omega
      case c5 => (try simp); have := HBlW.out.size; omega
      intro v' w' hown' hgrow _
      have HOw3 := Lib.hid (show w'.ownsRow w.heap.size 25 1 v' (q + 1) (f64s (L ++ [r])) by rw [f64s_snoc]; exact hown')
      have HBl3 := Lib.hid ((HBlW.out.alloc HBlW.out.size (.cells #[.float .f64 r] 25)).grown hgrow (by simp; have := HBlW.out.size; omega) (fun k hk => by have := (HOw2.out.lt k hk).1; omega))
      clear hown' hgrow
      go_wp2_with fail
      go_roundw
      case rel => exact ⟨q + 1, L ++ [r], by omega, by go_num, Lib.hid ⟨by simp [HL.out.1], AxQ_all (R := (fun q r => Comes .mul a (l.getD q 0) r)) HL.out.1 HL.out.2 HR.out⟩, HOw3.out, HBl3.out⟩
      case measure => simp [intOf]; omega
    · obtain rfl : q = n := by omega
      have hqc : ¬ (q : Int) < (q : Int) := by omega
      obtain ⟨B, d, rfl, hrow⟩ := own_row HOw0.out HL.out.1.symm
      have HRow := Lib.hid hrow
      clear hrow
      go_wp2_with fail
      go_ret
      exact ⟨B, d, L, rfl, HL.out.1, HL.out.2, HRow.out, HBl.out⟩

set_option maxRecDepth 100000 in
set_option maxHeartbeats 1000000 in
theorem rsign_any (A : Option Addr) (n c : Nat) (l : List Nat) (w : World) (hA : Row w A (f64s l)) (hl : l.length = n) (hn : n < 1048576) :
    Calls Try.prog 35 #[.slice A n c] w (RetL (fun q r => r = sgnW (l.getD q 0)) n w) := by
  obtain ⟨i0, hi, hz0, hz1, hz2⟩ := fi0
  have HA := Lib.hid hA
  have Hl := Lib.hid hl
  clear hA hl
  go_enter Try.func35, Try.ntmps35
  go_wp2_with fail
  go_loopw [3, 4] (fun out i wr => ∃ (q : Nat) (L : List Nat), q ≤ n ∧ i = .int .i64 q ∧ Hid (L.length = q ∧ ∀ j, j < q → (fun q r => r = sgnW (l.getD q 0)) j (L.getD j 0)) ∧ wr.ownsRow w.heap.size 25 1 out q (f64s L) ∧ Below w.heap.size w wr) (fun _ i _ => n - (intOf i).toNat)
  case atStart => exact ⟨0, [], Nat.zero_le _, rfl, Lib.hid ⟨rfl, fun j h => by omega⟩, World.ownsRow_nil _ _ _ _, Below.refl _ _⟩
  case round =>
    obtain ⟨q, L, hq, rfl, HL, hown, hbl⟩ := hrel
    have HBl := Lib.hid hbl
    have HOw0 := Lib.hid hown
    clear hown hbl
    by_cases hlt : q < n
    · have hql : q < l.length := by rw [Hl.out]; omega
      obtain ⟨b1, y1, rfl, _, hcx⟩ := HA.out.at_ (f64s_get l q hql)
      replace hcx := cell_below hcx HBl.out
      have hgx : l.getD q 0 = l[q] := getD_of_lt hql
      obtain ⟨x, hx⟩ : ∃ x, l[q] = x := ⟨_, rfl⟩
      rw [hx] at hcx hgx
      obtain ⟨gb, hgb⟩ : ∃ gb, geB x = gb := ⟨_, rfl⟩
      have hsg : sgnW (l.getD q 0) = if gb = true then 4607182418800017408 else 13830554455654793216 := by rw [hgx, ← hgb]; rfl
      have HSg := Lib.hid hsg
      unfold geB at hgb
      have hqc : (q : Int) < (n : Int) := by omega
      have hq0 : (0 : Int) ≤ (q : Int) := by omega
      have hq1 : q + 1 ≤ 1048576 := by omega
      have HOwW := HOw0
      have HBlW := HBl
      clear hx hql hgx hsg
      cases gb
      · have HR := Lib.hid (show (13830554455654793216 : Nat) = sgnW (l.getD q 0) by rw [HSg.out]; rfl)
        have HN := Lib.hid (Blk.new wr 25 #[.float .f64 13830554455654793216])
        have HOw2 := Lib.hid (HOwW.out.alloc (.cells #[.float .f64 13830554455654793216] 25))
        go_wp2_with (at_builtin; refine wpList_append_own _ rfl _ _ 22 rfl w.heap.size 25 i0 (.float .f64 0) 1 8 Try.underlying22 hi hz0 hz1 hz2 rfl (by decide) _ q (f64s L) rfl HOw2.out ⟨wr.heap.size, 0, none⟩ 1 1 [.float .f64 13830554455654793216] rfl rfl ?c1 (by intro u hu; simp at hu; subst hu; rfl) ?c3 ?c4 ?c5 ?_)
        case c3 => unfold maxLen; omega
        case c4 => omega
        case c5 => (try simp); have := HBlW.out.size; omega
        intro v' w' hown' hgrow _
        have HOw3 := Lib.hid (show w'.ownsRow w.heap.size 25 1 v' (q + 1) (f64s (L ++ [13830554455654793216])) by rw [f64s_snoc]; exact hown')
        have HBl3 := Lib.hid ((HBlW.out.alloc HBlW.out.size (.cells #[.float .f64 13830554455654793216] 25)).grown hgrow (by simp; have := HBlW.out.size; omega) (fun k hk => by have := (HOw2.out.lt k hk).1; omega))
        clear hown' hgrow
        go_wp2_with fail
        go_roundw
        case rel => exact ⟨q + 1, L ++ [13830554455654793216], by omega, by go_num, Lib.hid ⟨by simp [HL.out.1], AxQ_all (R := (fun q r => r = sgnW (l.getD q 0))) HL.out.1 HL.out.2 HR.out⟩, HOw3.out, HBl3.out⟩
        case measure => simp [intOf]; omega
      · have HR := Lib.hid (show (4607182418800017408 : Nat) = sgnW (l.getD q 0) by rw [HSg.out]; rfl)
        have HN := Lib.hid (Blk.new wr 25 #[.float .f64 4607182418800017408])
        have HOw2 := Lib.hid (HOwW.out.alloc (.cells #[.float .f64 4607182418800017408] 25))
        go_wp2_with (at_builtin; refine wpList_append_own _ rfl _ _ 22 rfl w.heap.size 25 i0 (.float .f64 0) 1 8 Try.underlying22 hi hz0 hz1 hz2 rfl (by decide) _ q (f64s L) rfl HOw2.out ⟨wr.heap.size, 0, none⟩ 1 1 [.float .f64 4607182418800017408] rfl rfl ?c1b (by intro u hu; simp at hu; subst hu; rfl) ?c3b ?c4b ?c5b ?_)
        case c3b => unfold maxLen; omega
        case c4b => omega
        case c5b => (try simp); have := HBlW.out.size; omega
        intro v' w' hown' hgrow _
        have HOw3 := Lib.hid (show w'.ownsRow w.heap.size 25 1 v' (q + 1) (f64s (L ++ [4607182418800017408])) by rw [f64s_snoc]; exact hown')
        have HBl3 := Lib.hid ((HBlW.out.alloc HBlW.out.size (.cells #[.float .f64 4607182418800017408] 25)).grown hgrow (by simp; have := HBlW.out.size; omega) (fun k hk => by have := (HOw2.out.lt k hk).1; omega))
        clear hown' hgrow
        go_wp2_with fail
        go_roundw
        case rel => exact ⟨q + 1, L ++ [4607182418800017408], by omega, by go_num, Lib.hid ⟨by simp [HL.out.1], AxQ_all (R := (fun q r => r = sgnW (l.getD q 0))) HL.out.1 HL.out.2 HR.out⟩, HOw3.out, HBl3.out⟩
        case measure => simp [intOf]; omega
    · obtain rfl : q = n := by omega
      have hqc : ¬ (q : Int) < (q : Int) := by omega
      obtain ⟨B, d, rfl, hrow⟩ := own_row HOw0.out HL.out.1.symm
      have HRow := Lib.hid hrow
      clear hrow
      go_wp2_with fail
      go_ret
      exact ⟨B, d, L, rfl, HL.out.1, HL.out.2, HRow.out, HBl.out⟩

set_option maxRecDepth 100000 in
set_option maxHeartbeats 1000000 in
theorem rshift6_any (A : Option Addr) (n c : Nat) (l : List Nat) (B : Option Addr) (n' c' : Nat) (zs : List Int) (w : World) (hA : Row w A (f64s l)) (hW : Wds l) (hl : l.length = n) (hZ : Row w B (i64s zs)) (hz : zs.length = n') (hnn : n ≤ n') (hn : n < 1048576) (hn' : n' < 1048576) :
    Calls Try.prog 36 #[.slice A n c, .slice B n' c'] w (RetL (fun q r => r = Fl.scale (l.getD q 0) (zs.getD q 0)) n w) := by
  obtain ⟨i0, hi, hz0, hz1, hz2⟩ := fi0
  have HA := Lib.hid hA
  have Hl := Lib.hid hl
  have HZ := Lib.hid hZ
  have Hz := Lib.hid hz
  have HW := Lib.hid hW
  clear hA hl hZ hz hW
  go_enter Try.func36, Try.ntmps36
  go_wp2_with fail
  go_loopw [5, 6] (fun out i wr => ∃ (q : Nat) (L : List Nat), q ≤ n ∧ i = .int .i64 q ∧ Hid (L.length = q ∧ ∀ j, j < q → (fun q r => r = Fl.scale (l.getD q 0) (zs.getD q 0)) j (L.getD j 0)) ∧ wr.ownsRow w.heap.size 25 1 out q (f64s L) ∧ Below w.heap.size w wr) (fun _ i _ => n - (intOf i).toNat)
  case atStart => exact ⟨0, [], Nat.zero_le _, rfl, Lib.hid ⟨rfl, fun j h => by omega⟩, World.ownsRow_nil _ _ _ _, Below.refl _ _⟩
  case round =>
    obtain ⟨q, L, hq, rfl, HL, hown, hbl⟩ := hrel
    have HBl := Lib.hid hbl
    have HOw0 := Lib.hid hown
    clear hown hbl
    by_cases hlt : q < n
    · have hql : q < l.length := by rw [Hl.out]; omega
      have hqz : q < zs.length := by rw [Hz.out]; omega
      obtain ⟨b1, y1, rfl, _, hcx⟩ := HA.out.at_ (f64s_get l q hql)
      obtain ⟨b2, y2, rfl, _, hcz⟩ := HZ.out.at_ (i64s_get zs q hqz)
      have HCx := Lib.hid (cell_below hcx HBl.out)
      have HCz := Lib.hid (cell_below hcz HBl.out)
      have HQ := Lib.hid (show Fl.scale l[q] zs[q] = Fl.scale (l.getD q 0) (zs.getD q 0) by rw [getD_of_lt hql]; simp [List.getD, hqz])
      have HXb := Lib.hid (HW.out.at_ q hql)
      have HOw := Lib.hid (show wr.ownsRow w.heap.size 25 1 u5 (f64s L).length (f64s L) from by
        have e : (f64s L).length = q := by simp [f64s, HL.out.1]
        rw [e]; exact HOw0.out)
      have HLe := Lib.hid (show (f64s L).length + 1 ≤ 1048576 by simp [f64s, HL.out.1]; omega)
      have HLf := Lib.hid (show (f64s L).length + 1 = q + 1 by simp [f64s, HL.out.1])
      obtain ⟨x, hx⟩ : ∃ x, l[q] = x := ⟨_, rfl⟩
      obtain ⟨z, hz⟩ : ∃ z, zs[q] = z := ⟨_, rfl⟩
      rw [hx] at HCx HQ HXb
      rw [hz] at HCz HQ
      have bq1 : q < n := by omega
      have bq2 : q < n' := by omega
      have hqc : (q : Int) < (n : Int) := by omega
      have hq1 : q + 1 ≤ 1048576 := by omega
      clear hx hz hcx hcz hql hqz
      go_wp2_with fail
      refine wp_region_inv [13, 14, 15, 16, 17, 18, 19, 20, 21, 22, 23, 24, 5] (fun d s W => (d 0 = true → s 13 = u5) ∧ (d 1 = true → s 14 = .slice (some ⟨b1, y1, none⟩) n c) ∧ (d 2 = true → s 15 = .int .i64 (q : Int)) ∧ (d 3 = true → s 16 = .pointer (some ⟨b1, y1 + q, none⟩)) ∧ (d 4 = true → s 17 = .float .f64 x) ∧ (d 5 = true → s 18 = .slice (some ⟨b2, y2, none⟩) n' c') ∧ (d 6 = true → s 19 = .int .i64 (q : Int)) ∧ (d 7 = true → s 20 = .pointer (some ⟨b2, y2 + q, none⟩)) ∧ (d 8 = true → s 21 = .int .i64 z) ∧ (d 9 = true → s 22 = .float .f64 (Fl.scale x z)) ∧ (d 12 = true → s 5 = s 24) ∧ (d 12 = true → d 11 = true) ∧ (d 12 = true → d 0 = true) ∧ (d 12 = false → s 5 = u5) ∧ (d 3 = true → d 1 = true ∧ d 2 = true) ∧ (d 4 = true → d 1 = true ∧ d 2 = true ∧ d 3 = true) ∧ (d 7 = true → d 5 = true ∧ d 6 = true) ∧ (d 8 = true → d 5 = true ∧ d 6 = true ∧ d 7 = true) ∧ (d 9 = true → d 1 = true ∧ d 2 = true ∧ d 3 = true ∧ d 4 = true ∧ d 5 = true ∧ d 6 = true ∧ d 7 = true ∧ d 8 = true) ∧ (d 10 = true → d 1 = true ∧ d 2 = true ∧ d 3 = true ∧ d 4 = true ∧ d 5 = true ∧ d 6 = true ∧ d 7 = true ∧ d 8 = true ∧ d 9 = true) ∧ (d 11 = true → d 0 = true ∧ d 1 = true ∧ d 2 = true ∧ d 3 = true ∧ d 4 = true ∧ d 5 = true ∧ d 6 = true ∧ d 7 = true ∧ d 8 = true ∧ d 9 = true ∧ d 10 = true) ∧ ApS w.heap.size (f64s L) (fun r => r = Fl.scale (l.getD q 0) (zs.getD q 0)) w wr (d 10) (d 11) (s 23) (s 24) W)
        rfl (by kernel_rfl) ?_ ?_ ?_
      · exact ⟨by simp, by simp, by simp, by simp, by simp, by simp, by simp, by simp, by simp, by simp, by simp, by simp, by simp, fun _ => by simp, by simp, by simp, by simp, by simp, by simp, by simp, by simp, ⟨fun _ => ⟨(Below.refl _ _).drew, fun e => by simp at e⟩, fun e => by simp at e⟩⟩
      · refine ⟨?_, ?_, ?_, ?_, ?_, ?_, ?_, ?_, ?_, ?_, ?_, ?_, ?_, trivial⟩
        all_goals
          intro d s W hJ hfr hd hdep
          simp only [List.mem_cons, forall_eq_or_imp, List.not_mem_nil, false_implies, implies_true, and_true, Region.binds] at hdep
          have f0 := hfr 0 (by decide)
          have f1 := hfr 1 (by decide)
          have f6 := hfr 6 (by decide)
          simp at f0 f1 f6 hdep
          obtain ⟨h0, h1, h2, h3, h4, h5, h6, h7, h8, h9, h12, x0, x1, x2, x3, x4, x5, x6, x7, x8, x9, hT⟩ := hJ
        · have hl : d 11 = false := by
            cases h : d 11
            · rfl
            · have := x9 h; simp [hd] at this
          rw [hl] at hT
          unfold OpSteps
          have e5 : d 12 = false := by
            cases h : d 12
            · rfl
            · have := x1 h; simp [hd] at this
          have f5 := x2 e5
          simp [go_sem, evS, f5]
          exact ⟨fun _ => by simp [sput], fun h => by simpa [sput] using h1 (by simpa [did] using h), fun h => by simpa [sput] using h2 (by simpa [did] using h), fun h => by simpa [sput] using h3 (by simpa [did] using h), fun h => by simpa [sput] using h4 (by simpa [did] using h), fun h => by simpa [sput] using h5 (by simpa [did] using h), fun h => by simpa [sput] using h6 (by simpa [did] using h), fun h => by simpa [sput] using h7 (by simpa [did] using h), fun h => by simpa [sput] using h8 (by simpa [did] using h), fun h => by simpa [sput] using h9 (by simpa [did] using h), fun h => by simpa [sput] using h12 (by simpa [did] using h), by simpa [sput, did] using x0, fun h => by have := x1 (by simpa [did] using h); simp [did, this], fun h => by simpa [sput] using x2 (by simpa [did] using h), fun h => by have := x3 (by simpa [did] using h); simp [did, this], fun h => by have := x4 (by simpa [did] using h); simp [did, this], fun h => by have := x5 (by simpa [did] using h); simp [did, this], fun h => by have := x6 (by simpa [did] using h); simp [did, this], fun h => by have := x7 (by simpa [did] using h); simp [did, this], fun h => by have := x8 (by simpa [did] using h); simp [did, this], fun h => by have := x9 (by simpa [did] using h); simp [did, this], by simpa [did, sput, hl] using hT⟩
        · have hl : d 11 = false := by
            cases h : d 11
            · rfl
            · have := x9 h; simp [hd] at this
          rw [hl] at hT
          unfold OpSteps
          simp [go_sem, evS, f0]
          exact ⟨fun h => by simpa [sput] using h0 (by simpa [did] using h), fun _ => by simp [sput], fun h => by simpa [sput] using h2 (by simpa [did] using h), fun h => by simpa [sput] using h3 (by simpa [did] using h), fun h => by simpa [sput] using h4 (by simpa [did] using h), fun h => by simpa [sput] using h5 (by simpa [did] using h), fun h => by simpa [sput] using h6 (by simpa [did] using h), fun h => by simpa [sput] using h7 (by simpa [did] using h), fun h => by simpa [sput] using h8 (by simpa [did] using h), fun h => by simpa [sput] using h9 (by simpa [did] using h), fun h => by simpa [sput] using h12 (by simpa [did] using h), by simpa [sput, did] using x0, fun h => by have := x1 (by simpa [did] using h); simp [did, this], fun h => by simpa [sput] using x2 (by simpa [did] using h), fun h => by have := x3 (by simpa [did] using h); simp [did, this], fun h => by have := x4 (by simpa [did] using h); simp [did, this], fun h => by have := x5 (by simpa [did] using h); simp [did, this], fun h => by have := x6 (by simpa [did] using h); simp [did, this], fun h => by have := x7 (by simpa [did] using h); simp [did, this], fun h => by have := x8 (by simpa [did] using h); simp [did, this], fun h => by have := x9 (by simpa [did] using h); simp [did, this], by simpa [did, sput, hl] using hT⟩
        · have hl : d 11 = false := by
            cases h : d 11
            · rfl
            · have := x9 h; simp [hd] at this
          rw [hl] at hT
          unfold OpSteps
          simp [go_sem, evS, f6]
          exact ⟨fun h => by simpa [sput] using h0 (by simpa [did] using h), fun h => by simpa [sput] using h1 (by simpa [did] using h), fun _ => by simp [sput], fun h => by simpa [sput] using h3 (by simpa [did] using h), fun h => by simpa [sput] using h4 (by simpa [did] using h), fun h => by simpa [sput] using h5 (by simpa [did] using h), fun h => by simpa [sput] using h6 (by simpa [did] using h), fun h => by simpa [sput] using h7 (by simpa [did] using h), fun h => by simpa [sput] using h8 (by simpa [did] using h), fun h => by simpa [sput] using h9 (by simpa [did] using h), fun h => by simpa [sput] using h12 (by simpa [did] using h), by simpa [sput, did] using x0, fun h => by have := x1 (by simpa [did] using h); simp [did, this], fun h => by simpa [sput] using x2 (by simpa [did] using h), fun h => by have := x3 (by simpa [did] using h); simp [did, this], fun h => by have := x4 (by simpa [did] using h); simp [did, this], fun h => by have := x5 (by simpa [did] using h); simp [did, this], fun h => by have := x6 (by simpa [did] using h); simp [did, this], fun h => by have := x7 (by simpa [did] using h); simp [did, this], fun h => by have := x8 (by simpa [did] using h); simp [did, this], fun h => by have := x9 (by simpa [did] using h); simp [did, this], by simpa [did, sput, hl] using hT⟩
        · have hl : d 11 = false := by
            cases h : d 11
            · rfl
            · have := x9 h; simp [hd] at this
          rw [hl] at hT
          have g1 := h1 (by simp [hdep])
          have g2 := h2 (by simp [hdep])
          unfold OpSteps
          simp [go_sem, evS, g1, g2, bq1, bq2]
          exact ⟨fun h => by simpa [sput] using h0 (by simpa [did] using h), fun h => by simpa [sput] using h1 (by simpa [did] using h), fun h => by simpa [sput] using h2 (by simpa [did] using h), fun _ => by simp [sput], fun h => by simpa [sput] using h4 (by simpa [did] using h), fun h => by simpa [sput] using h5 (by simpa [did] using h), fun h => by simpa [sput] using h6 (by simpa [did] using h), fun h => by simpa [sput] using h7 (by simpa [did] using h), fun h => by simpa [sput] using h8 (by simpa [did] using h), fun h => by simpa [sput] using h9 (by simpa [did] using h), fun h => by simpa [sput] using h12 (by simpa [did] using h), by simpa [sput, did] using x0, fun h => by have := x1 (by simpa [did] using h); simp [did, this], fun h => by simpa [sput] using x2 (by simpa [did] using h), fun _ => by simp [did, hdep], fun h => by have := x4 (by simpa [did] using h); simp [did, this], fun h => by have := x5 (by simpa [did] using h); simp [did, this], fun h => by have := x6 (by simpa [did] using h); simp [did, this], fun h => by have := x7 (by simpa [did] using h); simp [did, this], fun h => by have := x8 (by simpa [did] using h); simp [did, this], fun h => by have := x9 (by simpa [did] using h); simp [did, this], by simpa [did, sput, hl] using hT⟩
        · have hl : d 11 = false := by
            cases h : d 11
            · rfl
            · have := x9 h; simp [hd] at this
          rw [hl] at hT
          have g3 := h3 (by simp [hdep])
          unfold OpSteps
          have pc := cell_below HCx.out (hT.1 rfl).1
          simp [go_sem, evS, g3, pc]
          exact ⟨fun h => by simpa [sput] using h0 (by simpa [did] using h), fun h => by simpa [sput] using h1 (by simpa [did] using h), fun h => by simpa [sput] using h2 (by simpa [did] using h), fun h => by simpa [sput] using h3 (by simpa [did] using h), fun _ => by simp [sput], fun h => by simpa [sput] using h5 (by simpa [did] using h), fun h => by simpa [sput] using h6 (by simpa [did] using h), fun h => by simpa [sput] using h7 (by simpa [did] using h), fun h => by simpa [sput] using h8 (by simpa [did] using h), fun h => by simpa [sput] using h9 (by simpa [did] using h), fun h => by simpa [sput] using h12 (by simpa [did] using h), by simpa [sput, did] using x0, fun h => by have := x1 (by simpa [did] using h); simp [did, this], fun h => by simpa [sput] using x2 (by simpa [did] using h), fun h => by have := x3 (by simpa [did] using h); simp [did, this], fun _ => by have y3 := x3 (by simp [hdep]); simp [did, hdep, y3], fun h => by have := x5 (by simpa [did] using h); simp [did, this], fun h => by have := x6 (by simpa [did] using h); simp [did, this], fun h => by have := x7 (by simpa [did] using h); simp [did, this], fun h => by have := x8 (by simpa [did] using h); simp [did, this], fun h => by have := x9 (by simpa [did] using h); simp [did, this], by simpa [did, sput, hl] using hT⟩
        · have hl : d 11 = false := by
            cases h : d 11
            · rfl
            · have := x9 h; simp [hd] at this
          rw [hl] at hT
          unfold OpSteps
          simp [go_sem, evS, f1]
          exact ⟨fun h => by simpa [sput] using h0 (by simpa [did] using h), fun h => by simpa [sput] using h1 (by simpa [did] using h), fun h => by simpa [sput] using h2 (by simpa [did] using h), fun h => by simpa [sput] using h3 (by simpa [did] using h), fun h => by simpa [sput] using h4 (by simpa [did] using h), fun _ => by simp [sput], fun h => by simpa [sput] using h6 (by simpa [did] using h), fun h => by simpa [sput] using h7 (by simpa [did] using h), fun h => by simpa [sput] using h8 (by simpa [did] using h), fun h => by simpa [sput] using h9 (by simpa [did] using h), fun h => by simpa [sput] using h12 (by simpa [did] using h), by simpa [sput, did] using x0, fun h => by have := x1 (by simpa [did] using h); simp [did, this], fun h => by simpa [sput] using x2 (by simpa [did] using h), fun h => by have := x3 (by simpa [did] using h); simp [did, this], fun h => by have := x4 (by simpa [did] using h); simp [did, this], fun h => by have := x5 (by simpa [did] using h); simp [did, this], fun h => by have := x6 (by simpa [did] using h); simp [did, this], fun h => by have := x7 (by simpa [did] using h); simp [did, this], fun h => by have := x8 (by simpa [did] using h); simp [did, this], fun h => by have := x9 (by simpa [did] using h); simp [did, this], by simpa [did, sput, hl] using hT⟩
        · have hl : d 11 = false := by
            cases h : d 11
            · rfl
            · have := x9 h; simp [hd] at this
          rw [hl] at hT
          unfold OpSteps
          simp [go_sem, evS, f6]
          exact ⟨fun h => by simpa [sput] using h0 (by simpa [did] using h), fun h => by simpa [sput] using h1 (by simpa [did] using h), fun h => by simpa [sput] using h2 (by simpa [did] using h), fun h => by simpa [sput] using h3 (by simpa [did] using h), fun h => by simpa [sput] using h4 (by simpa [did] using h), fun h => by simpa [sput] using h5 (by simpa [did] using h), fun _ => by simp [sput], fun h => by simpa [sput] using h7 (by simpa [did] using h), fun h => by simpa [sput] using h8 (by simpa [did] using h), fun h => by simpa [sput] using h9 (by simpa [did] using h), fun h => by simpa [sput] using h12 (by simpa [did] using h), by simpa [sput, did] using x0, fun h => by have := x1 (by simpa [did] using h); simp [did, this], fun h => by simpa [sput] using x2 (by simpa [did] using h), fun h => by have := x3 (by simpa [did] using h); simp [did, this], fun h => by have := x4 (by simpa [did] using h); simp [did, this], fun h => by have := x5 (by simpa [did] using h); simp [did, this], fun h => by have := x6 (by simpa [did] using h); simp [did, this], fun h => by have := x7 (by simpa [did] using h); simp [did, this], fun h => by have := x8 (by simpa [did] using h); simp [did, this], fun h => by have := x9 (by simpa [did] using h); simp [did, this], by simpa [did, sput, hl] using hT⟩
        · have hl : d 11 = false := by
            cases h : d 11
            · rfl
            · have := x9 h; simp [hd] at this
          rw [hl] at hT
          have g5 := h5 (by simp [hdep])
          have g6 := h6 (by simp [hdep])
          unfold OpSteps
          simp [go_sem, evS, g5, g6, bq1, bq2]
          exact ⟨fun h => by simpa [sput] using h0 (by simpa [did] using h), fun h => by simpa [sput] using h1 (by simpa [did] using h), fun h => by simpa [sput] using h2 (by simpa [did] using h), fun h => by simpa [sput] using h3 (by simpa [did] using h), fun h => by simpa [sput] using h4 (by simpa [did] using h), fun h => by simpa [sput] using h5 (by simpa [did] using h), fun h => by simpa [sput] using h6 (by simpa [did] using h), fun _ => by simp [sput], fun h => by simpa [sput] using h8 (by simpa [did] using h), fun h => by simpa [sput] using h9 (by simpa [did] using h), fun h => by simpa [sput] using h12 (by simpa [did] using h), by simpa [sput, did] using x0, fun h => by have := x1 (by simpa [did] using h); simp [did, this], fun h => by simpa [sput] using x2 (by simpa [did] using h), fun h => by have := x3 (by simpa [did] using h); simp [did, this], fun h => by have := x4 (by simpa [did] using h); simp [did, this], fun _ => by simp [did, hdep], fun h => by have := x6 (by simpa [did] using h); simp [did, this], fun h => by have := x7 (by simpa [did] using h); simp [did, this], fun h => by have := x8 (by simpa [did] using h); simp [did, this], fun h => by have := x9 (by simpa [did] using h); simp [did, this], by simpa [did, sput, hl] using hT⟩
        · have hl : d 11 = false := by
            cases h : d 11
            · rfl
            · have := x9 h; simp [hd] at this
          rw [hl] at hT
          have g7 := h7 (by simp [hdep])
          unfold OpSteps
          have pc := cell_below HCz.out (hT.1 rfl).1
          simp [go_sem, evS, g7, pc]
          exact ⟨fun h => by simpa [sput] using h0 (by simpa [did] using h), fun h => by simpa [sput] using h1 (by simpa [did] using h), fun h => by simpa [sput] using h2 (by simpa [did] using h), fun h => by simpa [sput] using h3 (by simpa [did] using h), fun h => by simpa [sput] using h4 (by simpa [did] using h), fun h => by simpa [sput] using h5 (by simpa [did] using h), fun h => by simpa [sput] using h6 (by simpa [did] using h), fun h => by simpa [sput] using h7 (by simpa [did] using h), fun _ => by simp [sput], fun h => by simpa [sput] using h9 (by simpa [did] using h), fun h => by simpa [sput] using h12 (by simpa [did] using h), by simpa [sput, did] using x0, fun h => by have := x1 (by simpa [did] using h); simp [did, this], fun h => by simpa [sput] using x2 (by simpa [did] using h), fun h => by have := x3 (by simpa [did] using h); simp [did, this], fun h => by have := x4 (by simpa [did] using h); simp [did, this], fun h => by have := x5 (by simpa [did] using h); simp [did, this], fun _ => by have y7 := x5 (by simp [hdep]); simp [did, hdep, y7], fun h => by have := x7 (by simpa [did] using h); simp [did, this], fun h => by have := x8 (by simpa [did] using h); simp [did, this], fun h => by have := x9 (by simpa [did] using h); simp [did, this], by simpa [did, sput, hl] using hT⟩
        · have hl : d 11 = false := by
            cases h : d 11
            · rfl
            · have := x9 h; simp [hd] at this
          rw [hl] at hT
          have g4 := h4 (by simp [hdep])
          have g8 := h8 (by simp [hdep])
          unfold OpSteps
          simp [go_sem, evS, g4, g8]
          refine (rscale_any x z W HXb.out).mono ?_
          rintro e W' ⟨rfl, rfl⟩
          refine ⟨_, rfl, ?_⟩
          exact ⟨fun h => by simpa [sput] using h0 (by simpa [did] using h), fun h => by simpa [sput] using h1 (by simpa [did] using h), fun h => by simpa [sput] using h2 (by simpa [did] using h), fun h => by simpa [sput] using h3 (by simpa [did] using h), fun h => by simpa [sput] using h4 (by simpa [did] using h), fun h => by simpa [sput] using h5 (by simpa [did] using h), fun h => by simpa [sput] using h6 (by simpa [did] using h), fun h => by simpa [sput] using h7 (by simpa [did] using h), fun h => by simpa [sput] using h8 (by simpa [did] using h), fun _ => by simp [sput], fun h => by simpa [sput] using h12 (by simpa [did] using h), by simpa [sput, did] using x0, fun h => by have := x1 (by simpa [did] using h); simp [did, this], fun h => by simpa [sput] using x2 (by simpa [did] using h), fun h => by have := x3 (by simpa [did] using h); simp [did, this], fun h => by have := x4 (by simpa [did] using h); simp [did, this], fun h => by have := x5 (by simpa [did] using h); simp [did, this], fun h => by have := x6 (by simpa [did] using h); simp [did, this], fun _ => by have y4 := x4 (by simp [hdep]); have y8 := x6 (by simp [hdep]); simp [did, hdep, y4, y8], fun h => by have := x8 (by simpa [did] using h); simp [did, this], fun h => by have := x9 (by simpa [did] using h); simp [did, this], by simpa [did, sput, hl] using hT⟩
        · have hl : d 11 = false := by
            cases h : d 11
            · rfl
            · have := x9 h; simp [hd] at this
          rw [hl] at hT
          have g9 := h9 (by simp [hdep])
          unfold OpSteps
          simp [go_sem, evS, g9]
          exact ⟨fun h => by simpa [sput] using h0 (by simpa [did] using h), fun h => by simpa [sput] using h1 (by simpa [did] using h), fun h => by simpa [sput] using h2 (by simpa [did] using h), fun h => by simpa [sput] using h3 (by simpa [did] using h), fun h => by simpa [sput] using h4 (by simpa [did] using h), fun h => by simpa [sput] using h5 (by simpa [did] using h), fun h => by simpa [sput] using h6 (by simpa [did] using h), fun h => by simpa [sput] using h7 (by simpa [did] using h), fun h => by simpa [sput] using h8 (by simpa [did] using h), fun h => by simpa [sput] using h9 (by simpa [did] using h), fun h => by simpa [sput] using h12 (by simpa [did] using h), by simpa [sput, did] using x0, fun h => by have := x1 (by simpa [did] using h); simp [did, this], fun h => by simpa [sput] using x2 (by simpa [did] using h), fun h => by have := x3 (by simpa [did] using h); simp [did, this], fun h => by have := x4 (by simpa [did] using h); simp [did, this], fun h => by have := x5 (by simpa [did] using h); simp [did, this], fun h => by have := x6 (by simpa [did] using h); simp [did, this], fun h => by have := x7 (by simpa [did] using h); simp [did, this], fun _ => by have y9 := x7 (by simp [hdep]); simp [did, hdep, y9], fun h => by have := x9 (by simpa [did] using h); simp [did, this], by rw [hd] at hT; simpa [did, sput, hl] using hT.made HQ.out⟩
        · have g0 := h0 (by simp [hdep])
          have hd12 : d 10 = true := by simp [hdep]
          rw [hd12, hd] at hT
          obtain ⟨g, v', w', ga, gb, gc⟩ := hT.app HOw.out HBl.out (Nat.le_refl _) HBl.out.size HLe.out
          refine opSteps_append _ _ _ rfl (by simp only [evS]; exact g0) (by simp only [evS]; exact ga) gb ?_
          exact ⟨fun h => by simpa [sput] using h0 (by simpa [did] using h), fun h => by simpa [sput] using h1 (by simpa [did] using h), fun h => by simpa [sput] using h2 (by simpa [did] using h), fun h => by simpa [sput] using h3 (by simpa [did] using h), fun h => by simpa [sput] using h4 (by simpa [did] using h), fun h => by simpa [sput] using h5 (by simpa [did] using h), fun h => by simpa [sput] using h6 (by simpa [did] using h), fun h => by simpa [sput] using h7 (by simpa [did] using h), fun h => by simpa [sput] using h8 (by simpa [did] using h), fun h => by simpa [sput] using h9 (by simpa [did] using h), fun h => by have := x0 (by simpa [did] using h); simp [hd] at this, fun _ => by simp [did], fun h => by have := x1 (by simpa [did] using h); simp [did, this], fun h => by simpa [sput] using x2 (by simpa [did] using h), fun h => by have := x3 (by simpa [did] using h); simp [did, this], fun h => by have := x4 (by simpa [did] using h); simp [did, this], fun h => by have := x5 (by simpa [did] using h); simp [did, this], fun h => by have := x6 (by simpa [did] using h); simp [did, this], fun h => by have := x7 (by simpa [did] using h); simp [did, this], fun h => by have := x8 (by simpa [did] using h); simp [did, this], fun _ => by have y10 := x8 (by simp [hdep]); simp [did, hdep, y10], by simpa [did, sput, hd12, ga] using gc⟩
        · unfold OpSteps
          simp [go_sem, evS]
          exact ⟨fun h => by simpa [sput] using h0 (by simpa [did] using h), fun h => by simpa [sput] using h1 (by simpa [did] using h), fun h => by simpa [sput] using h2 (by simpa [did] using h), fun h => by simpa [sput] using h3 (by simpa [did] using h), fun h => by simpa [sput] using h4 (by simpa [did] using h), fun h => by simpa [sput] using h5 (by simpa [did] using h), fun h => by simpa [sput] using h6 (by simpa [did] using h), fun h => by simpa [sput] using h7 (by simpa [did] using h), fun h => by simpa [sput] using h8 (by simpa [did] using h), fun h => by simpa [sput] using h9 (by simpa [did] using h), fun _ => by simp [sput], fun _ => by simp [did, hdep], fun _ => by first | simp [did, hdep] | (have := x9 (by simp [hdep]); simp [did, this]), fun h => by simp [did] at h, fun h => by have := x3 (by simpa [did] using h); simp [did, this], fun h => by have := x4 (by simpa [did] using h); simp [did, this], fun h => by have := x5 (by simpa [did] using h); simp [did, this], fun h => by have := x6 (by simpa [did] using h); simp [did, this], fun h => by have := x7 (by simpa [did] using h); simp [did, this], fun h => by have := x8 (by simpa [did] using h); simp [did, this], fun h => by have := x9 (by simpa [did] using h); simp [did, this], by simpa [did, sput] using hT⟩
      intro d s W hJ hd
      obtain ⟨h0, h1, h2, h3, h4, h5, h6, h7, h8, h9, h12, x0, x1, x2, x3, x4, x5, x6, x7, x8, x9, hT⟩ := hJ
      have hs7 : s 5 = s 24 := h12 (hd 12 (by decide))
      have hA := hT.2 (hd 11 (by decide))
      clear h0 h1 h2 h3 h4 h5 h6 h7 h8 h9 h12 x0 x1 x2 x3 x4 x5 x6 x7 x8 x9 hT hd
      obtain ⟨r, hr, hown, hbl⟩ := hA
      have HR := Lib.hid hr
      have HOw2 := Lib.hid hown
      have HBl2 := Lib.hid hbl
      clear hr hown hbl
      simp [setAll, hs7]
      clear hs7
      generalize s 13 = s13
      generalize s 14 = s14
      generalize s 15 = s15
      generalize s 16 = s16
      generalize s 17 = s17
      generalize s 18 = s18
      generalize s 19 = s19
      generalize s 20 = s20
      generalize s 21 = s21
      generalize s 22 = s22
      generalize s 23 = s23
      generalize s 24 = s24 at *
      go_wp2_with fail
      go_roundw
      case rel => exact ⟨q + 1, L ++ [r], by omega, by go_num, Lib.hid ⟨by simp [HL.out.1], AxQ_all (R := (fun q r => r = Fl.scale (l.getD q 0) (zs.getD q 0))) HL.out.1 HL.out.2 HR.out⟩, by rw [← HLf.out]; simpa [f64s] using HOw2.out, HBl2.out⟩
      case measure => simp [intOf]; omega
    · obtain rfl : q = n := by omega
      have hqc : ¬ (q : Int) < (q : Int) := by omega
      obtain ⟨B, d, rfl, hrow⟩ := own_row HOw0.out HL.out.1.symm
      have HRow := Lib.hid hrow
      clear hrow
      go_wp2_with fail
      go_ret
      exact ⟨B, d, L, rfl, HL.out.1, HL.out.2, HRow.out, HBl.out⟩
end Go.Proofs.Ytjjneiidggcfdaa
set_option linter.unusedVariables false
set_option linter.unusedSimpArgs false
namespace Go.Proofs.Ytjjneiidggcfdaa
open Go.RowKit
attribute [local go_sem ↓] Go.wp_at_zero Go.wp_at_succ

def ex34 : List Nat := [4613937818241073152, 4616189618054758400]
def ex11 : List Nat := [4607182418800017408, 4607182418800017408]
def ex56 : List Nat := [4617315517961601024, 4618441417868443648]
theorem Comes.det {op : BinOp} {x y r z : Nat} (h : Comes op x y r) (e : floatBits op .f64 x y = some z) : r = z := by
  rcases h.2 with h | ⟨h, _⟩
  · rw [e] at h; injection h with h; exact h.symm
  · rw [e] at h; cases h
theorem ex_mul1 : floatBits .mul .f64 4611686018427387904 4607182418800017408 = some 4611686018427387904 := by decide +kernel
theorem ex_add5 : floatBits .add .f64 4613937818241073152 4611686018427387904 = some 4617315517961601024 := by decide +kernel
theorem ex_add6 : floatBits .add .f64 4616189618054758400 4611686018427387904 = some 4618441417868443648 := by decide +kernel
theorem ex56_wds : Wds ex56 := by intro b hb; simp [ex56] at hb; omega
theorem ex_axpy {m : List Nat} (hl : m.length = 2) (h : ∀ q, q < 2 → AxR 4611686018427387904 ex34 0 1 ex11 0 1 q (m.getD q 0)) : m = ex56 := by
  obtain ⟨p0, h0, k0⟩ := h 0 (by omega)
  obtain ⟨p1, h1, k1⟩ := h 1 (by omega)
  have e0 := h0.det ex_mul1
  have e1 := h1.det ex_mul1
  subst e0 e1
  have f0 := k0.det ex_add5
  have f1 := k1.det ex_add6
  match m, hl with
  | [a, b], _ =>
    simp [List.getD] at f0 f1
    subst f0 f1
    rfl
theorem ex_pair (g : Nat) : pairI (decide (g = g + 1)) 2 0 2 1 2 0 2 1 = 0 := by
  have : decide (g = g + 1) = false := by simp
  rw [this]; decide
set_option maxRecDepth 100000 in
set_option maxHeartbeats 1000000 in
theorem awake6_any (w : World) : Calls Try.prog 21 #[] w fun e w' => e = .returned (.bool true) ∧ Below w.heap.size w w' := by
  have HSc := Lib.hid (fun W => show Calls Try.prog 30 #[.float .f64 4607182418800017408, .agg #[.slice none 0 0, .int .i64 0, .int .i64 0, .int .i64 0]] W fun e w' => e = .returned (.int .i64 1) ∧ Below W.heap.size W w' from
    axscal_err 4607182418800017408 none 0 0 0 0 0 W (by omega) (by unfold I64; omega) (by unfold I64; omega) (by unfold I64; omega) (by decide))
  have HAx := Lib.hid (fun (g : Nat) W (hO : Own W g ex34) (hO' : Own W (g + 1) ex11) => show Calls Try.prog 24 #[.float .f64 4611686018427387904, .agg #[.slice (some ⟨g + 1, 0, none⟩) 2 2, .int .i64 0, .int .i64 2, .int .i64 1], .agg #[.slice (some ⟨g, 0, none⟩) 2 2, .int .i64 0, .int .i64 2, .int .i64 1]] W fun e w' => e = .returned (.int .i64 0) ∧ Own w' g ex56 ∧ Chg [g] W w' from by
    refine (axpy_ok 4611686018427387904 g (g + 1) 2 2 ex34 ex11 2 2 0 2 1 0 1 W hO hO' rfl rfl (by omega) (by omega) (by omega) (by omega) (by omega) (by unfold I64; omega) (by unfold I64; omega) (by unfold I64; omega) (by unfold I64; omega) (by unfold I64; omega) (ex_pair g) (fun e => by omega)).mono ?_
    rintro e w' ⟨rfl, m, h1, h2, h3, h4⟩
    rw [wrt_whole ex34 m 2 rfl h1, ex_axpy h1 h2] at h3
    exact ⟨rfl, h3, h4⟩)
  have HAl := Lib.hid (fun (A B : Option Addr) (W : World) (h : Row W A (f64s ex56)) (h' : Row W B (f64s ex56)) => show Calls Try.prog 26 #[.slice A 2 2, .slice B 2 2] W fun e w' => e = .returned (.bool true) ∧ Below W.heap.size W w' from
    rall_any A B 2 2 ex56 ex56 W ex56_wds ex56_wds h h' (by decide) (Alike.refl _))
  have HB0 := Lib.hid ((Below.refl w.heap.size w))
  go_enter Try.func21, Try.ntmps21
  go_wp2_with fail
  refine (HSc.out _).mono ?_
  rintro e w1 ⟨rfl, hb⟩
  have HB1 := Lib.hid hb
  clear hb
  go_wp2_with fail
  have HO := Lib.hid (own_blk ((Blk.new w1 25 (f64s ex34).toArray).alloc (.cells (f64s ex11).toArray 25)))
  have HO' := Lib.hid (own_blk (Blk.new_ (w1.alloc (.cells (f64s ex34).toArray 25)) 25 (f64s ex11).toArray (w1.heap.size + 1) (by simp)))
  have HB2 := Lib.hid (below_al (below_al HB1.out (o := (.cells (f64s ex34).toArray 25))) (o := (.cells (f64s ex11).toArray 25)))
  refine (HAx.out _ _ HO.out HO'.out).mono ?_
  rintro e w2 ⟨rfl, ho, hc⟩
  have HO2 := Lib.hid ho
  have HB3 := Lib.hid (hc.below HB2.out HB2.out.size (by intro g hg; simp at hg; subst hg; exact HB1.out.size))
  clear ho hc
  go_wp2_with fail
  have HR1 := Lib.hid (HO2.out.nxt (below_one (o := (.cells (f64s ex56).toArray 25)))).row
  have HR2 := Lib.hid (own_blk (Blk.new w2 25 (f64s ex56).toArray)).row
  have HB4 := Lib.hid (below_al HB3.out (o := (.cells (f64s ex56).toArray 25)))
  refine (HAl.out _ _ _ HR1.out HR2.out).mono ?_
  rintro e w3 ⟨rfl, hb⟩
  have HB5 := Lib.hid (below_nx HB4.out hb)
  clear hb
  go_wp2_with fail
  go_ret
  exact ⟨rfl, HB5.out⟩
end Go.Proofs.Ytjjneiidggcfdaa
