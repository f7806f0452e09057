/-
Trsv: the document's Solve, put together. Conditions: as each says.
-/
import Derived.Test.YtcdhpoikppfjkaaZYTrH1
import Derived.Test.YtcdhpoikppfjkaaZYTrH2
import Derived.Test.YtcdhpoikppfjkaaWaat
import Derived.Test.YtcdhpoikppfjkaaWaai
import Derived.Test.YtcdhpoikppfjkaaWaam
import Derived.Test.YtcdhpoikppfjkaaZYGrE
import Derived.Test.YtcdhpoikppfjkaaZYTsB
set_option linter.unusedVariables false
set_option linter.unusedSimpArgs false
set_option linter.unnecessarySimpa false
namespace Go.Proofs.Ytcdhpoikppfjkaa
open Go.RowKit
attribute [local go_sem ↓] Go.wp_at_zero Go.wp_at_succ

set_option maxRecDepth 100000 in
set_option maxHeartbeats 2000000 in
theorem rtsolve_nil1 (R gT N cT c : Nat) (F : Nat → Nat) (w : World) (hR : R = 0) : Calls Try.prog 23 #[.int .i64 1, tbl R R gT N cT, .slice none 0 c] w (RtSd R F w) := by
  unfold tbl
  have HR := Lib.hid hR
  clear hR
  go_enter Try.func23, Try.ntmps23
  have HZ0 := Lib.hid (Blk.new w 31 #[.int .i64 R, .int .i64 R, .slice (some ⟨gT, 0, none⟩) N cT])
  have HW := Lib.hid (show (∃ cs, Blk ((w.alloc (.cells #[.int .i64 R, .int .i64 R, .slice (some ⟨gT, 0, none⟩) N cT] 31)).alloc (.cells #[] 43)) (w.heap.size + 1) 43 cs) ∧ Below w.heap.size w ((w.alloc (.cells #[.int .i64 R, .int .i64 R, .slice (some ⟨gT, 0, none⟩) N cT] 31)).alloc (.cells #[] 43)) from ⟨⟨#[], Blk.new_ (w.alloc (.cells #[.int .i64 R, .int .i64 R, .slice (some ⟨gT, 0, none⟩) N cT] 31)) _ _ (w.heap.size + 1) (by simp)⟩, ((Below.refl w.heap.size w).alloc (Nat.le_refl _) _).alloc (by simp) _⟩)
  obtain ⟨t0, t1, t2⟩ := cells3v HZ0.out
  go_wp2_with fail
  clear t0 t1 t2 HZ0
  generalize (w.alloc (.cells #[.int .i64 R, .int .i64 R, .slice (some ⟨gT, 0, none⟩) N cT] 31)).alloc (.cells #[] 43) = w1 at *
  have Hg : w.heap.size ≤ w.heap.size + 1 := by omega
  generalize w.heap.size + 1 = g at *
  go_loopw [10] (fun x wr => ∃ i : Nat, i ≤ R ∧ x = .int .i64 (i : Int) ∧ Hid ((∃ cs, Blk wr g 43 cs) ∧ Below w.heap.size w wr)) (fun x _ => R - (intOf x).toNat)
  case atStart => exact ⟨0, Nat.zero_le _, rfl, HW⟩
  case round =>
    obtain ⟨i, hi, rfl, HH⟩ := hrel
    obtain rfl : R = i := by have := HR.out; omega
    have hqc : ¬ (R : Int) < (R : Int) := by omega
    have HW := HH
    clear hi
    go_wp2_with fail
    clear hqc
    go_loopw [11] (fun x wr => ∃ i : Nat, i ≤ R ∧ x = .int .i64 (i : Int) ∧ Hid ((∃ cs, Blk wr g 43 cs) ∧ Below w.heap.size w wr)) (fun x _ => 0)
    case atStart => exact ⟨0, Nat.zero_le _, rfl, HW⟩
    case round =>
      obtain ⟨i, hi, rfl, HH⟩ := hrel
      obtain rfl : R = i := by have := HR.out; omega
      have hqc : ¬ (R : Int) < (R : Int) := by omega
      go_wp2_with fail
      go_ret2
      obtain ⟨⟨cs, h1⟩, h2⟩ := HH.out
      have hR := HR.out
      exact ⟨g, 0, [], by subst hR; rfl, ⟨by simp [hR], fun p hp => by omega⟩, ⟨cs, h1, rfl⟩, Hg, h2⟩

set_option maxRecDepth 100000 in
set_option maxHeartbeats 2000000 in
theorem rtsolve_nil2 (R gT N cT c : Nat) (F : Nat → Nat) (w : World) (hR : R = 0) : Calls Try.prog 23 #[.int .i64 2, tbl R R gT N cT, .slice none 0 c] w (RtSd R F w) := by
  unfold tbl
  have HR := Lib.hid hR
  clear hR
  go_enter Try.func23, Try.ntmps23
  have HZ0 := Lib.hid (Blk.new w 31 #[.int .i64 R, .int .i64 R, .slice (some ⟨gT, 0, none⟩) N cT])
  have HW := Lib.hid (show (∃ cs, Blk ((w.alloc (.cells #[.int .i64 R, .int .i64 R, .slice (some ⟨gT, 0, none⟩) N cT] 31)).alloc (.cells #[] 43)) (w.heap.size + 1) 43 cs) ∧ Below w.heap.size w ((w.alloc (.cells #[.int .i64 R, .int .i64 R, .slice (some ⟨gT, 0, none⟩) N cT] 31)).alloc (.cells #[] 43)) from ⟨⟨#[], Blk.new_ (w.alloc (.cells #[.int .i64 R, .int .i64 R, .slice (some ⟨gT, 0, none⟩) N cT] 31)) _ _ (w.heap.size + 1) (by simp)⟩, ((Below.refl w.heap.size w).alloc (Nat.le_refl _) _).alloc (by simp) _⟩)
  obtain ⟨t0, t1, t2⟩ := cells3v HZ0.out
  go_wp2_with fail
  clear t0 t1 t2 HZ0
  generalize (w.alloc (.cells #[.int .i64 R, .int .i64 R, .slice (some ⟨gT, 0, none⟩) N cT] 31)).alloc (.cells #[] 43) = w1 at *
  have Hg : w.heap.size ≤ w.heap.size + 1 := by omega
  generalize w.heap.size + 1 = g at *
  go_loopw [10] (fun x wr => ∃ i : Nat, i ≤ R ∧ x = .int .i64 (i : Int) ∧ Hid ((∃ cs, Blk wr g 43 cs) ∧ Below w.heap.size w wr)) (fun x _ => R - (intOf x).toNat)
  case atStart => exact ⟨0, Nat.zero_le _, rfl, HW⟩
  case round =>
    obtain ⟨i, hi, rfl, HH⟩ := hrel
    obtain rfl : R = i := by have := HR.out; omega
    have hqc : ¬ (R : Int) < (R : Int) := by omega
    have HW := HH
    clear hi
    go_wp2_with fail
    clear hqc
    go_loopw [13] (fun x wr => ∃ z : Int, z < 0 ∧ x = .int .i64 z ∧ Hid ((∃ cs, Blk wr g 43 cs) ∧ Below w.heap.size w wr)) (fun x _ => 0)
    case atStart => exact ⟨(R : Int) - 1, by have := HR.out; omega, by have := HR.out; rw [wrap_id (by unfold I64; omega)], HW⟩
    case round =>
      obtain ⟨z, hz, rfl, HH⟩ := hrel
      have hqm : ¬ (0 : Int) ≤ z := by omega
      go_wp2_with fail
      go_ret2
      obtain ⟨⟨cs, h1⟩, h2⟩ := HH.out
      have hR := HR.out
      exact ⟨g, 0, [], by subst hR; rfl, ⟨by simp [hR], fun p hp => by omega⟩, ⟨cs, h1, rfl⟩, Hg, h2⟩

theorem trHZ_odd (kd : Nat) (hk : kd = 1 ∨ kd = 3) (f : Nat → Nat → Nat) (R : Nat) : trHZ kd f R = false := by
  unfold trHZ
  rw [List.any_eq_false]
  intro i _
  rcases hk with rfl | rfl <;> (unfold trV; simp [trZ0_one])
end Go.Proofs.Ytcdhpoikppfjkaa
/-
The document's column; its solution of one right side. Conditions: as each says.
-/
set_option linter.unusedVariables false
set_option linter.unusedSimpArgs false
set_option linter.unnecessarySimpa false
namespace Go.Proofs.Ytcdhpoikppfjkaa
open Go.RowKit
attribute [local go_sem ↓] Go.wp_at_zero Go.wp_at_succ

/-- The call returned a list of n numbers of which this holds. -/
def RetNt (R : Nat → Nat → Prop) (n : Nat) (w : World) (e : Ending) (w' : World) : Prop :=
  ∃ B d m, e = .returned (.slice B n d) ∧ m.length = n ∧ (∀ q, q < n → R q (m.getD q 0)) ∧ Row w' B (f64s m) ∧ Below w.heap.size w w'
theorem TsQ_all {R : Nat → Nat → Prop} {L : List Nat} {q r : Nat} (hl : L.length = q) (h : ∀ j, j < q → R j (L.getD j 0)) (hr : R q r) : ∀ j, j < q + 1 → R j ((L ++ [r]).getD j 0) := by
  intro j hj
  by_cases h1 : j < q
  · have : (L ++ [r]).getD j 0 = L.getD j 0 := by simp [List.getD, List.getElem?_append_left (show j < L.length by omega)]
    rw [this]; exact h j h1
  · obtain rfl : j = q := by omega
    have : (L ++ [r]).getD j 0 = r := by simp [List.getD, ← hl]
    rw [this]; exact hr

set_option maxRecDepth 100000 in
set_option maxHeartbeats 1000000 in
theorem tscolL_any (R C gT N cT : Nat) (T : List Nat) (b : Nat) (w : World) (hT : Row w (some ⟨gT, 0, none⟩) (f64s T)) (hTl : T.length = N) (hN : N < 1048576) (hRC : R * C = N) (hb : b < C) (hR : R < 1048576) :
    Calls Try.prog 24 #[.agg #[.int .i64 R, .int .i64 C, .slice (some ⟨gT, 0, none⟩) N cT], .int .i64 (b : Int)] w (RetNt (fun q r => r = T.getD (q * C + b) 0) R w) := by
  obtain ⟨i0, hi, hz0, hz1, hz2⟩ := fi0
  have HTr := Lib.hid hT
  have HAt0 := Lib.hid (fun W (q : Nat) (hq : q < R) (h : Row W (some ⟨gT, 0, none⟩) (f64s T)) => trat_any R C gT N cT T q b W h hTl hN (by rw [← hRC]; exact tab_lt hq hb))
  clear hT hTl hN hRC hb
  go_enter Try.func24, Try.ntmps24
  have HZ := Lib.hid (Blk.new w 31 #[.int .i64 R, .int .i64 C, .slice (some ⟨gT, 0, none⟩) N cT])
  have hb0 : Below w.heap.size w (w.alloc (.cells #[.int .i64 R, .int .i64 C, .slice (some ⟨gT, 0, none⟩) N cT] 31)) := (Below.refl w.heap.size w).alloc (Nat.le_refl _) (.cells #[.int .i64 R, .int .i64 C, .slice (some ⟨gT, 0, none⟩) N cT] 31)
  have HTr1 := Lib.hid (HTr.out.below hb0)
  clear HTr
  have HB0 := Lib.hid hb0
  clear hb0
  go_wp2_with fail
  generalize hw1 : w.alloc (.cells #[.int .i64 R, .int .i64 C, .slice (some ⟨gT, 0, none⟩) N cT] 31) = w1 at *
  have Hz := Lib.hid (show w.heap.size < w1.heap.size from HZ.out.lt)
  generalize hzt : w.heap.size = zt at *
  have Hzt := Lib.hid hzt
  clear hw1 hzt
  go_loopw [5, 6] (fun out i wr => ∃ (q : Nat) (L : List Nat), q ≤ R ∧ i = .int .i64 q ∧ Hid (L.length = q ∧ ∀ j, j < q → (fun q r => r = T.getD (q * C + b) 0) j (L.getD j 0)) ∧ wr.ownsRow w1.heap.size 43 1 out q (f64s L) ∧ Below w1.heap.size w1 wr) (fun _ i _ => R - (intOf i).toNat)
  case atStart => exact ⟨0, [], Nat.zero_le _, rfl, Lib.hid ⟨rfl, fun j h => by omega⟩, World.ownsRow_nil _ _ _ _, Below.refl _ _⟩
  case round =>
    obtain ⟨q, L, hq, rfl, HL, hown, hbl⟩ := hrel
    have HBl := Lib.hid hbl
    have HOw0 := Lib.hid hown
    clear hown hbl
    obtain ⟨t0, t1, t2⟩ := cells3v (HZ.out.below HBl.out HZ.out.lt)
    by_cases hlt : q < R
    · have hqc : (q : Int) < (R : Int) := by omega
      have hq1 : q + 1 ≤ 1048576 := by omega
      have HAt := Lib.hid (HAt0.out wr q hlt (HTr1.out.below HBl.out))
      have HR := Lib.hid (show (T.getD (q * C + b) 0) = T.getD (q * C + b) 0 from rfl)
      obtain ⟨v, hv⟩ : ∃ v, T.getD (q * C + b) 0 = v := ⟨_, rfl⟩
      have HRv := Lib.hid hv
      rw [hv] at HAt
      clear hv HR
      go_wp2_with fail
      refine HAt.out.mono ?_
      rintro e wt ⟨rfl, hbt⟩
      have HR := Lib.hid HRv.out.symm
      have HOwW := Lib.hid (ownsRow_below HOw0.out hbt)
      have HBlW := Lib.hid (below_nx HBl.out hbt)
      clear hbt t0 t1 t2
      have HN := Lib.hid (Blk.new wt 43 #[.float .f64 v])
      have HOw2 := Lib.hid (HOwW.out.alloc (.cells #[.float .f64 v] 43))
      go_wp2_with (at_builtin; refine wpList_append_own _ rfl _ _ 22 rfl w1.heap.size 43 i0 (.float .f64 0) 1 8 Try.underlying22 hi hz0 hz1 hz2 rfl (by decide) _ q (f64s L) rfl HOw2.out ⟨wt.heap.size, 0, none⟩ 1 1 [.float .f64 v] rfl rfl ?c1 (by intro u hu; simp at hu; subst hu; rfl) ?c3 ?c4 ?c5 ?_)
      case c1 =>
        intro j u hj
        match j, hj with
        | 0, hj =>
          have : u = .float .f64 v := by simpa using hj.symm
          subst this
          exact HN.out.cell 0
        | j + 1, hj => simp at hj
      case c3 => unfold maxLen; omega
      case c4 => omega
      case c5 => (try simp); have := HBlW.out.size; omega
      intro v' w' hown' hgrow _
      have HOw3 := Lib.hid (show w'.ownsRow w1.heap.size 43 1 v' (q + 1) (f64s (L ++ [v])) by rw [f64s_snoc]; exact hown')
      have HBl3 := Lib.hid ((HBlW.out.alloc HBlW.out.size (.cells #[.float .f64 v] 43)).grown hgrow (by simp; have := HBlW.out.size; omega) (fun k hk => by have := (HOw2.out.lt k hk).1; omega))
      clear hown' hgrow
      go_wp2_with fail
      go_roundw
      case rel => exact ⟨q + 1, L ++ [v], by omega, by go_num, Lib.hid ⟨by simp [HL.out.1], TsQ_all (R := (fun q r => r = T.getD (q * C + b) 0)) HL.out.1 HL.out.2 HR.out⟩, HOw3.out, HBl3.out⟩
      case measure => simp [intOf]; omega
    · obtain rfl : q = R := by omega
      have hqc : ¬ (q : Int) < (q : Int) := by omega
      obtain ⟨B9, d9, rfl, hrow⟩ := own_row HOw0.out HL.out.1.symm
      have HRow := Lib.hid hrow
      clear hrow
      go_wp2_with fail
      go_ret
      exact ⟨B9, d9, L, rfl, HL.out.1, HL.out.2, HRow.out, below_nx (by rw [Hzt.out]; exact HB0.out) HBl.out⟩

theorem tscol_any (R C gT N cT : Nat) (T : List Nat) (b : Nat) (w : World) (hT : Row w (some ⟨gT, 0, none⟩) (f64s T)) (hTl : T.length = N) (hN : N < 1048576) (hRC : R * C = N) (hb : b < C) (hR : R < 1048576) :
    Calls Try.prog 24 #[.agg #[.int .i64 R, .int .i64 C, .slice (some ⟨gT, 0, none⟩) N cT], .int .i64 (b : Int)] w fun e w' => ∃ B d, e = .returned (.slice B R d) ∧ Row w' B (f64s (lst T b C R)) ∧ Below w.heap.size w w' := by
  refine (tscolL_any R C gT N cT T b w hT hTl hN hRC hb hR).mono ?_
  rintro e w' ⟨B, d, m, h1, h2, h3, h4, h5⟩
  have : m = lst T b C R := ext_getD (by rw [h2, lst_length]) fun j hj => by
    rw [h3 j (by omega), lst_getD T b C (by omega), Nat.add_comm]
  subst this
  exact ⟨B, d, h1, h4, h5⟩
theorem tslst_wds {l : List Nat} (h : Wds l) (o i K : Nat) : Wds (lst l o i K) := by
  intro b hb
  obtain ⟨k, _, rfl⟩ := List.mem_map.1 hb
  exact getD_wds h _
/-- What the document's Solve answers, where one on the diagonal is 0. -/
def RtZo (R : Nat) (w : World) (e : Ending) (w' : World) : Prop := ∃ g c y, e = .returned (.tuple #[.slice (some ⟨g, 0, none⟩) R c, .bool false]) ∧ y.length = R ∧ Own w' g y ∧ w.heap.size ≤ g ∧ Below w.heap.size w w'

set_option maxRecDepth 100000 in
set_option maxHeartbeats 4000000 in
theorem tssolvez2 (R gT N cT : Nat) (T : List Nat) (a : Addr) (c : Nat) (l : List Nat) (w : World) (hT : Row w (some ⟨gT, 0, none⟩) (f64s T)) (hTl : T.length = N) (hN : R * R = N) (hNb : N < 1048576) (hgT : N ≠ 0 → gT < w.heap.size) (hRb : R ≤ 1000) (hWT : Wds T) (hA : Row w (some a) (f64s l)) (hl : l.length = R) (hW : Wds l) (hz : trHZ 2 (fun i k => T.getD (i * R + k) 0) R = true) :
    Calls Try.prog 23 #[.int .i64 2, tbl R R gT N cT, .slice (some a) R c] w (RtZo R w) := by
  obtain ⟨i0, hi, hz0, hz1, hz2⟩ := fi0
  have HAt := Lib.hid (fun i k (hi : i < R) (hk : k < R) W (h : Row W (some ⟨gT, 0, none⟩) (f64s T)) => trat_any R R gT N cT T i k W h hTl hNb (by rw [← hN]; exact tab_lt hi hk))
  have Hf := Lib.hid (fun i k => trV_lt (kd := 2) (f := fun i k => T.getD (i * R + k) 0) (i := i) (k := k) (fun i k => tr_wds hWT _))
  have HZr := Lib.hid hz
  have HA := Lib.hid hA
  have Hl := Lib.hid hl
  have HT := Lib.hid hT
  have HWl := Lib.hid hW
  obtain ⟨f, hf⟩ : ∃ f : Nat → Nat → Nat, f = fun i k => T.getD (i * R + k) 0 := ⟨_, rfl⟩
  have HfE := Lib.hid (fun i k => congrFun (congrFun hf i) k)
  rw [← hf] at Hf HZr
  clear hT hgT hTl hN hNb hWT hA hW hz hf
  unfold tbl at *
  go_enter Try.func23, Try.ntmps23
  have HZ0 := Lib.hid (Blk.new w 31 #[.int .i64 R, .int .i64 R, .slice (some ⟨gT, 0, none⟩) N cT])
  obtain ⟨t0, t1, t2⟩ := cells3v HZ0.out
  go_wp2_with (at_builtin; refine wpList_append_own _ rfl _ _ 22 rfl (w.heap.size + 1) 43 i0 (.float .f64 0) 1 8 Try.underlying22 hi hz0 hz1 hz2 rfl (by decide) _ _ _ rfl (own_empty_ _ _ (by simp)) a R c (f64s l) rfl (by simp [f64s, hl]) ?c1 (one_cells l) ?c3 ?c4 ?c5 ?_)
  case c1 => exact row_add (HA.out.below (((Below.refl _ _).alloc (Nat.le_refl _) _).alloc (by simp) _))
  case c3 => unfold maxLen; omega
  case c4 => omega
  case c5 => simp
  intro v' w' hown hgrow hne
  obtain ⟨g, c', rfl, hg, hc, hm, ho⟩ := own_of hown hne hl.symm
  have hO : Only (w.heap.size + 1) ((w.alloc (.cells #[.int .i64 R, .int .i64 R, .slice (some ⟨gT, 0, none⟩) N cT] 31)).alloc (.cells #[] 43)) w' := hgrow
  have HB := Lib.hid ((((Below.refl w.heap.size w).alloc (Nat.le_refl _) (.cells #[.int .i64 R, .int .i64 R, .slice (some ⟨gT, 0, none⟩) N cT] 31)).alloc (by simp) (.cells #[] 43)).grown hgrow (by simp; omega) (fun k hk => by simp [Value.ownBlock] at hk; omega))
  have HZ := Lib.hid (hO.blk (by omega) ((Blk.new w 31 #[.int .i64 R, .int .i64 R, .slice (some ⟨gT, 0, none⟩) N cT]).alloc (.cells #[] 43)))
  have HW0 := Lib.hid (show RtW w R gT N cT T g (fun p => l.getD p 0) w' from ⟨l, ⟨hl, fun p hp => Is.refl (tr_wds HWl.out p)⟩, ho, HT.out.below HB.out, HZ.out, HB.out, hg⟩)
  clear ho hgrow hown hO hl hg hc hm hne t0 t1 t2 HZ0 HB HZ HA HT HWl Hl
  go_wp2_with fail
  go_loopw [10] (fun x wr => ∃ i : Nat, i ≤ R ∧ x = .int .i64 (i : Int) ∧ Hid (trHZ 2 f i = false ∧ RtW w R gT N cT T g (fun p => l.getD p 0) wr)) (fun x _ => R - (intOf x).toNat)
  case atStart => exact ⟨0, Nat.zero_le _, rfl, Lib.hid ⟨rfl, HW0.out⟩⟩
  case round =>
    obtain ⟨i, hi1, rfl, HH⟩ := hrel
    by_cases hlt : i < R
    · have har : (i : Int) < (R : Int) := by omega
      have ha1 : i + 1 ≤ 1048576 := by omega
      obtain ⟨y, hy, hyO, hyT, hyZ, hyB, hyg⟩ := HH.out.2
      have HAi := Lib.hid (HAt.out i i hlt hlt wr hyT)
      have hv0 : trV 2 f i i = f i i := by unfold trV; simp
      have HT1 := Lib.hid (fun (h : trZ0 (f i i) = true) => trHZ_true (kd := 2) (f := f) (R := R) hlt (by rw [hv0]; exact h))
      have HF := Lib.hid (fun (h : trZ0 (f i i) = false) => trHZ_step (kd := 2) (f := f) HH.out.1 (by rw [hv0]; exact h))
      rw [← HfE.out i i] at HAi
      obtain ⟨v, hv⟩ : ∃ v, f i i = v := ⟨_, rfl⟩
      rw [hv] at HAi HT1 HF
      obtain ⟨t0, t1, t2⟩ := cells3v hyZ
      clear hy hyO hyT hyZ hyB hyg hv hv0
      go_wp2_with fail
      refine (HAi.out).mono ?_
      rintro e wa ⟨rfl, hb⟩
      have HW2 := Lib.hid (HH.out.2.nxt hb)
      clear hb t0 t1 t2
      obtain ⟨q, hq⟩ : ∃ q, trZ0 v = q := ⟨_, rfl⟩
      rw [hq] at HT1 HF
      unfold trZ0 at hq
      cases q
      · replace HF := Lib.hid (HF.out rfl)
        go_wp2_with fail
        go_roundw
        case rel => exact ⟨i + 1, by omega, by go_num, Lib.hid ⟨HF.out, HW2.out⟩⟩
        case measure => simp [intOf] <;> omega
      · go_wp2_with fail
        go_ret2
        obtain ⟨y, hy, hyO, hyT, hyZ, hyB, hyg⟩ := HW2.out
        exact ⟨g, c', y, rfl, hy.1, hyO, by omega, hyB⟩
    · obtain rfl : R = i := by omega
      have hqc : ¬ (R : Int) < (R : Int) := by omega
      exfalso
      have h1 := HH.out.1
      rw [HZr.out] at h1
      cases h1

/-- What it answers, whatever is on the diagonal. -/
def RtBo (R : Nat) (b : Bool) (F : Nat → Nat) (w : World) (e : Ending) (w' : World) : Prop := ∃ g c y, e = .returned (.tuple #[.slice (some ⟨g, 0, none⟩) R c, .bool b]) ∧ (y.length = R ∧ (b = true → ∀ p, p < R → Is (y.getD p 0) (F p))) ∧ Own w' g y ∧ w.heap.size ≤ g ∧ Below w.heap.size w w'
theorem tsboth_any (kd : Nat) (hk : kd = 1 ∨ kd = 2) (R gT N cT : Nat) (T : List Nat) (A : Option Addr) (c : Nat) (l : List Nat) (E : Nat → Nat → Nat) (F : Nat → Nat) (b : Bool) (w : World) (hT : Row w (some ⟨gT, 0, none⟩) (f64s T)) (hTl : T.length = N) (hN : R * R = N) (hNb : N < 1048576) (hgT : N ≠ 0 → gT < w.heap.size) (hRb : R ≤ 1000) (hWT : Wds T) (hA : Row w A (f64s l)) (hl : l.length = R) (hW : Wds l) (hS : TrS kd R (trV kd (fun i k => T.getD (i * R + k) 0)) (fun p => l.getD p 0) E F) (hz : (!trHZ kd (fun i k => T.getD (i * R + k) 0) R) = b) :
    Calls Try.prog 23 #[.int .i64 (kd : Int), tbl R R gT N cT, .slice A R c] w (RtBo R b F w) := by
  cases hq : trHZ kd (fun i k => T.getD (i * R + k) 0) R
  · rw [hq] at hz
    subst hz
    have key : Calls Try.prog 23 #[.int .i64 (kd : Int), tbl R R gT N cT, .slice A R c] w (RtSd R F w) := by
      cases A with
      | some a =>
        rcases hk with rfl | rfl
        · exact rtsolve1 R gT N cT T a c l E F w hT hTl hN hNb hgT hRb hWT hA hl hW hS hq
        · exact rtsolve2 R gT N cT T a c l E F w hT hTl hN hNb hgT hRb hWT hA hl hW hS hq
      | none =>
        rcases hA with h | ⟨b, o, h, _⟩
        · have h0 : l = [] := by simpa [f64s] using h
          have hR : R = 0 := by rw [← hl, h0]; rfl
          rw [show Value.slice none R c = Value.slice none 0 c by rw [hR]]
          rcases hk with rfl | rfl
          · exact rtsolve_nil1 R gT N cT c F w hR
          · exact rtsolve_nil2 R gT N cT c F w hR
        · cases h
    refine key.mono ?_
    rintro e w' ⟨g, c, y, h1, h2, h3, h4, h5⟩
    exact ⟨g, c, y, h1, ⟨h2.1, fun _ => h2.2⟩, h3, h4, h5⟩
  · have h2 := hq
    rw [hq] at hz
    subst hz
    rcases hk with rfl | rfl
    · rw [trHZ_odd 1 (.inl rfl)] at hq; cases hq
    · cases A with
      | some a =>
        refine (tssolvez2 R gT N cT T a c l w hT hTl hN hNb hgT hRb hWT hA hl hW hq).mono ?_
        rintro e w' ⟨g, c, y, h1, h2, h3, h4, h5⟩
        exact ⟨g, c, y, h1, ⟨h2, fun e => by cases e⟩, h3, h4, h5⟩
      | none =>
        rcases hA with h | ⟨b, o, h, _⟩
        · have h0 : l = [] := by simpa [f64s] using h
          have hR : R = 0 := by rw [← hl, h0]; rfl
          subst hR
          cases hq
        · cases h
end Go.Proofs.Ytcdhpoikppfjkaa
