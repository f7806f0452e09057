/-
List, Write: the document's numbers of a vector. Conditions: the vector is right, its list has at most 2^20 numbers.
-/
import Derived.Test.YtlhdcajamempoaaSam
import Derived.Test.YtlhdcajamempoaaSaf
import Derived.Test.YtlhdcajamempoaaSae
set_option linter.unusedVariables false
namespace Go.Proofs.Ytlhdcajamempoaa
open Go.RowKit
attribute [local go_sem ↓] Go.wp_at_zero Go.wp_at_succ

theorem wrap3 {o a P : Nat} (hP : P < 1048576) (h : o + a = P) : wrap64 (a : Int) = (a : Int) ∧ wrap64 (P : Int) = (P : Int) ∧ IntKind.i64.wrap (a : Int) = (a : Int) ∧ IntKind.i64.wrap (P : Int) = (P : Int) :=
  ⟨wrap_id (by unfold I64; omega), wrap_id (by unfold I64; omega), wrapi (by omega) (by omega), wrapi (by omega) (by omega)⟩
theorem f64s_snoc (l : List Nat) (x : Nat) : f64s (l ++ [x]) = f64s l ++ [.float .f64 x] := by simp [f64s]
theorem own_row {w : World} {B : Nat} {v : Value} {n : Nat} {l : List Nat} (h : w.ownsRow B 28 1 v n (f64s l)) (hn : n = l.length) : ∃ A c, v = .slice A n c ∧ Row w A (f64s l) := by
  by_cases hv : v = .slice none 0 0
  · subst hv
    have hl := h.1
    obtain ⟨_, ⟨_, h0⟩ | ⟨g, cap, cur, h1, _⟩⟩ := h
    · subst h0
      have : l = [] := List.length_eq_zero_iff.1 hn.symm
      subst this
      exact ⟨none, 0, rfl, .inl rfl⟩
    · cases h1
  · obtain ⟨g, c, rfl, _, _, _, ho⟩ := own_of h hv hn
    exact ⟨_, c, rfl, ho.row⟩

set_option maxHeartbeats 1000000 in
theorem rlist_any (A : Option Addr) (n c : Nat) (l : List Nat) (o K i : Nat) (w : World) (hA : Row w A (f64s l)) (hl : l.length = n) (hn : n < 1048576) (hr : K = 0 ∨ o + (K - 1) * i < n) (hK : K < 1048576) :
    Calls Try.prog 24 #[vec A n c o K i] w fun e w' => ∃ A' c', e = .returned (.slice A' K c') ∧ Row w' A' (f64s (lst l o i K)) ∧ Below w.heap.size w w' := by
  obtain ⟨i0, hi, hz0, hz1, hz2⟩ := fi0
  have HR := Lib.hid (fun a (h : a < K) => show o + a * i < n from by
    rcases hr with h0 | h0
    · omega
    · exact place_lt h0 h)
  have HA := Lib.hid hA
  have Hl := Lib.hid hl
  have Hn := Lib.hid hn
  clear hA hl hr hn
  unfold vec
  go_enter Try.func24, Try.ntmps24
  have HZ := Lib.hid (Blk.new w 32 #[.slice A n c, .int .i64 o, .int .i64 K, .int .i64 i])
  have HB := Lib.hid ((Below.refl w.heap.size w).alloc (Nat.le_refl _) (.cells #[.slice A n c, .int .i64 o, .int .i64 K, .int .i64 i] 32))
  go_wp2_with fail
  generalize hz : w.heap.size = z at *
  have Hz := Lib.hid hz
  clear hz
  go_loopw [3, 4] (fun out a wr => ∃ q : Nat, q ≤ K ∧ a = .int .i64 q ∧ wr.ownsRow (z + 1) 28 1 out q (f64s (lst l o i q)) ∧ Below z w wr ∧ Blk wr z 32 #[.slice A n c, .int .i64 o, .int .i64 K, .int .i64 i] ∧ z + 1 ≤ wr.heap.size) (fun _ a _ => K - (intOf a).toNat)
  case atStart => exact ⟨0, Nat.zero_le _, rfl, World.ownsRow_nil _ _ _ _, HB.out, HZ.out, by simp; have := Hz.out; omega⟩
  case round =>
    obtain ⟨q, hq, rfl, hown, hbl, hbz, hsz⟩ := hrel
    have HOw := Lib.hid hown
    have HBl := Lib.hid hbl
    have HBz := Lib.hid hbz
    have HSz := Lib.hid hsz
    clear hown hbl hbz hsz
    obtain ⟨c0, c1, c2, c3⟩ := cells4w HBz.out
    by_cases hlt : q < K
    · have hP := HR.out q hlt
      have hPl : o + q * i < l.length := by rw [Hl.out]; exact hP
      obtain ⟨b, x, rfl, _, hcell0⟩ := HA.out.at_ (f64s_get l _ hPl)
      have hcell := cell_below hcell0 (show Below w.heap.size w wr by rw [Hz.out]; exact HBl.out)
      have hv : l.getD (o + q * i) 0 = l[o + q * i] := getD_of_lt hPl
      have HSn := Lib.hid (lst_snoc l o i q)
      rw [hv] at HSn
      obtain ⟨v, hv2⟩ : ∃ v, l[o + q * i] = v := ⟨_, rfl⟩
      rw [hv2] at hcell HSn
      obtain ⟨a, ha⟩ : ∃ a, q * i = a := ⟨_, rfl⟩
      obtain ⟨P, hPd⟩ : ∃ P, o + q * i = P := ⟨_, rfl⟩
      have e1 : ((q : Int) * (i : Int)) = (a : Int) := by rw [← ha]; simp
      have e2 : (o : Int) + (a : Int) = (P : Int) := by rw [← hPd, ha]; simp
      have HW := Lib.hid (wrap3 (o := o) (a := a) (P := P) (by rw [← hPd]; have := Hn.out; omega) (by rw [← ha, hPd]))
      rw [hPd] at hcell hP
      have b1 : (P : Int) < (n : Int) := by omega
      have b0 : (0 : Int) ≤ (P : Int) := by omega
      clear hPl hcell0 hv hv2 ha hPd hP
      obtain ⟨u1, u2, u3, u4⟩ := HW.out
      have HN := Lib.hid (Blk.new wr 28 #[.float .f64 v])
      have HOw2 := Lib.hid (HOw.out.alloc (.cells #[.float .f64 v] 28))
      have hq1 : q + 1 ≤ 1048576 := by omega
      go_wp2_with (at_builtin; refine wpList_append_own _ rfl _ _ 24 rfl (z + 1) 28 i0 (.float .f64 0) 1 8 Try.underlying24 hi hz0 hz1 hz2 rfl (by decide) _ q (f64s (lst l o i q)) rfl HOw2.out ⟨wr.heap.size, 0, none⟩ 1 1 [.float .f64 v] rfl rfl ?c1 (by intro u hu; simp at hu; subst hu; rfl) ?c3 ?c4 ?c5 ?_)
      case c1 =>
        intro j u hj
        match j, hj with
        | 0, hj =>
          have : u = .float .f64 v := by simpa using hj.symm
          subst this
          exact HN.out.cell 0
        | j + 1, hj => simp at hj
      case c3 => unfold maxLen; omega
      case c4 => omega
      case c5 => simp; have := HSz.out; omega
      intro v' w' hown' hgrow _
      have hlst : f64s (lst l o i (q + 1)) = f64s (lst l o i q) ++ [.float .f64 v] := by rw [HSn.out, f64s_snoc]
      rw [← hlst] at hown'
      have HOw3 := Lib.hid hown'
      have hlt2 := fun k hk => (HOw2.out.lt k hk)
      have hz2' := HBz.out.lt
      have HBl2 := Lib.hid ((HBl.out.alloc (by omega) (.cells #[.float .f64 v] 28)).grown hgrow (by simp; omega) (fun k hk => by have := (hlt2 k hk).1; omega))
      have HBz2 := Lib.hid (show Blk w' z 32 #[.slice (some ⟨b, x, none⟩) n c, .int .i64 o, .int .i64 K, .int .i64 i] from (hgrow.block z (by simp; omega) (fun e => by have := (hlt2 z e.symm).1; omega)).trans (HBz.out.alloc (.cells #[.float .f64 v] 28)))
      have HSz2 := Lib.hid (show z + 1 ≤ w'.heap.size by have h1 := hgrow.size; simp at h1; omega)
      clear hown' hgrow hlst hlt2 hz2' c0 c1 c2 c3 hcell
      go_wp2_with fail
      go_roundw
      case rel => exact ⟨q + 1, by omega, by go_num, HOw3.out, HBl2.out, HBz2.out, HSz2.out⟩
      case measure => simp [intOf]; omega
    · obtain rfl : q = K := by omega
      obtain ⟨A', c', rfl, hrow⟩ := own_row HOw.out (by rw [lst_length])
      have HRow := Lib.hid hrow
      clear hrow
      go_wp2_with fail
      go_ret
      exact ⟨A', c', rfl, HRow.out, by rw [Hz.out]; exact HBl.out⟩

set_option maxHeartbeats 1000000 in
theorem rwrite_some (a : Addr) (n c : Nat) (l : List Nat) (o K i : Nat) (B : Option Addr) (d : Nat) (m : List Nat) (w : World) (hA : Row w (some a) (f64s l)) (hl : l.length = n) (hn : n < 1048576) (hi1 : 1 ≤ i) (hr : K = 0 ∨ o + (K - 1) * i < n) (hB : Row w B (f64s m)) (hm : m.length = K) :
    Calls Try.prog 27 #[vec (some a) n c o K i, .slice B K d] w fun e w' => ∃ g c', e = .returned (.slice (some ⟨g, 0, none⟩) n c') ∧ Own w' g (wrt l o i m K) ∧ w.heap.size ≤ g ∧ Below w.heap.size w w' := by
  obtain ⟨i0, hi, hz0, hz1, hz2⟩ := fi0
  have HR := Lib.hid (fun a (h : a < K) => show o + a * i < n from by
    rcases hr with h0 | h0
    · omega
    · exact place_lt h0 h)
  have hK : K ≤ n := by
    rcases hr with h0 | h0
    · omega
    · have : K - 1 ≤ (K - 1) * i := Nat.le_mul_of_pos_right _ hi1
      omega
  have HA := Lib.hid hA
  have HB := Lib.hid hB
  have Hm := Lib.hid hm
  have Hl := Lib.hid hl
  have Hn := Lib.hid hn
  clear hA hr hB hm hi1
  unfold vec
  go_enter Try.func27, Try.ntmps27
  go_wp2_with (at_builtin; refine wpList_append_own _ rfl _ _ 24 rfl (w.heap.size + 1) 28 i0 (.float .f64 0) 1 8 Try.underlying24 hi hz0 hz1 hz2 rfl (by decide) _ _ _ rfl (own_empty_ _ _ (by simp)) a n c (f64s l) rfl (by simp [f64s, hl]) ?c1 (one_cells l) ?c3 ?c4 ?c5 ?_)
  case c1 => exact row_add (HA.out.below (((Below.refl _ _).alloc (Nat.le_refl _) _).alloc (by simp) _))
  case c3 => unfold maxLen; omega
  case c4 => omega
  case c5 => simp
  intro v' w' hown hgrow hne
  obtain ⟨g, c', rfl, hg, hc, hm, ho⟩ := own_of hown hne hl.symm
  have hO : Only (w.heap.size + 1) ((w.alloc (.cells #[.slice (some a) n c, .int .i64 o, .int .i64 K, .int .i64 i] 32)).alloc (.cells #[] 28)) w' := hgrow
  have HBl := Lib.hid ((((Below.refl w.heap.size w).alloc (Nat.le_refl _) (.cells #[.slice (some a) n c, .int .i64 o, .int .i64 K, .int .i64 i] 32)).alloc (by simp) (.cells #[] 28)).grown hgrow (by simp; omega) (fun k hk => by simp [Value.ownBlock] at hk; omega))
  have HZ := Lib.hid (hO.blk (by omega) ((Blk.new w 32 #[.slice (some a) n c, .int .i64 o, .int .i64 K, .int .i64 i]).alloc (.cells #[] 28)))
  have HO := Lib.hid ho
  clear ho hgrow hown hO hl hn
  generalize hz : w.heap.size = z at *
  have Hz := Lib.hid hz
  have Hgz := Lib.hid hg
  clear hz hg
  go_wp2_with fail
  go_loopw [6] (fun a' wr => ∃ q : Nat, q ≤ K ∧ a' = .int .i64 q ∧ Own wr g (wrt l o i m q) ∧ Below z w wr ∧ Blk wr z 32 #[.slice (some a) n c, .int .i64 o, .int .i64 K, .int .i64 i]) (fun a' _ => K - (intOf a').toNat)
  case atStart => exact ⟨0, Nat.zero_le _, rfl, HO.out, HBl.out, HZ.out⟩
  case round =>
    obtain ⟨q, hq, rfl, ho2, hbl2, hz2'⟩ := hrel
    have HO2 := Lib.hid ho2
    have HBl2 := Lib.hid hbl2
    have HZ2 := Lib.hid hz2'
    clear ho2 hbl2 hz2'
    obtain ⟨c0, c1, c2, c3⟩ := cells4w HZ2.out
    by_cases hlt : q < K
    · have hP := HR.out q hlt
      have hql : q < m.length := by rw [Hm.out]; exact hlt
      obtain ⟨b, x, rfl, _, hcell0⟩ := HB.out.at_ (f64s_get m q hql)
      have hcell := cell_below hcell0 (show Below w.heap.size w wr by rw [Hz.out]; exact HBl2.out)
      have hv : m.getD q 0 = m[q] := getD_of_lt hql
      have hst : wrt l o i m (q + 1) = (wrt l o i m q).set (o + q * i) (m.getD q 0) := rfl
      rw [hv] at hst
      obtain ⟨v, hv2⟩ : ∃ v, m[q] = v := ⟨_, rfl⟩
      rw [hv2] at hcell hst
      have hPl : o + q * i < (wrt l o i m q).length := by rw [wrt_length, Hl.out]; exact hP
      have r0 := HO2.out.get _ hPl
      have r1 := HO2.out.frozen (o + q * i)
      have hset := HO2.out.set_ (o + q * i) v hPl
      rw [← hst] at hset
      obtain ⟨u, hu⟩ : ∃ u, (wrt l o i m q)[o + q * i] = u := ⟨_, rfl⟩
      rw [hu] at r0
      obtain ⟨a1, ha⟩ : ∃ a1, q * i = a1 := ⟨_, rfl⟩
      obtain ⟨P, hPd⟩ : ∃ P, o + q * i = P := ⟨_, rfl⟩
      have e1 : ((q : Int) * (i : Int)) = (a1 : Int) := by rw [← ha]; simp
      have e2 : (o : Int) + (a1 : Int) = (P : Int) := by rw [← hPd, ha]; simp
      have HW := Lib.hid (wrap3 (o := o) (a := a1) (P := P) (by rw [← hPd]; have := Hn.out; omega) (by rw [← ha, hPd]))
      rw [hPd] at hP r0 r1 hset
      have b1 : (P : Int) < (n : Int) := by omega
      have b0 : (0 : Int) ≤ (P : Int) := by omega
      have b2 : (q : Int) < (K : Int) := by omega
      have HSet := Lib.hid hset.drew
      have HBl3 := Lib.hid (HBl2.out.setCell (p := ⟨g, P, none⟩) (by show z ≤ g; have := Hgz.out; omega) (.float .f64 v)).drew
      have HZ3 := Lib.hid ((HZ2.out.other (p := ⟨g, P, none⟩) (by show z ≠ g; have := Hgz.out; omega) (.float .f64 v)).drew)
      clear hql hcell0 hv hv2 hst hPl hset hu ha hPd hP
      obtain ⟨u1, u2, u3, u4⟩ := HW.out
      go_wp2_with fail
      go_region
      go_wp2_with fail
      go_roundw
      case rel => exact ⟨q + 1, by omega, by go_num, HSet.out, HBl3.out, HZ3.out⟩
      case measure => simp [intOf]; omega
    · obtain rfl : q = K := by omega
      go_wp2_with fail
      go_ret
      exact ⟨g, c', rfl, HO2.out, by have := Hgz.out; have := Hz.out; omega, by rw [Hz.out]; exact HBl2.out⟩
end Go.Proofs.Ytlhdcajamempoaa
/-
Sums: what they come to; a number of a vector; |x|; sums and products of two. Conditions: as each says.
-/
set_option linter.unusedVariables false
namespace Go.Proofs.Ytlhdcajamempoaa
open Go.RowKit
attribute [local go_sem ↓] Go.wp_at_zero Go.wp_at_succ

/-- The sum of the first products, in its order. -/
def dotF (l m : List Nat) : Nat → Nat
  | 0 => 0
  | k + 1 => fbin .add (dotF l m k) (fbin .mul (l.getD k 0) (m.getD k 0))
/-- A word without its sign. -/
def absW (b : Nat) : Nat := b % 9223372036854775808
/-- The sum of the first numbers without signs. -/
def asumF (l : List Nat) : Nat → Nat
  | 0 => 0
  | k + 1 => fbin .add (asumF l k) (absW (l.getD k 0))
/-- The sum of the first numbers. -/
def sumF (l : List Nat) : Nat → Nat
  | 0 => 0
  | k + 1 => fbin .add (sumF l k) (l.getD k 0)
/-- Is a greater than b? -/
def gtB (a b : Nat) : Bool := FloatKind.f64.format.order a b == some .gt
/-- The place of the greatest of the first numbers. -/
def mostF (l : List Nat) : Nat → Nat
  | 0 => 0
  | k + 1 => if gtB (absW (l.getD k 0)) (absW (l.getD (mostF l k) 0)) then k else mostF l k
theorem mostF_lt (l : List Nat) : ∀ k, 1 ≤ k → mostF l k < k
  | 0, h => by omega
  | k + 1, _ => by
    unfold mostF
    split
    · omega
    · by_cases hk : k = 0
      · subst hk; simp [mostF]
      · have := mostF_lt l k (by omega); omega
theorem absW_lt (b : Nat) : absW b < 9223372036854775808 := Nat.mod_lt _ (by omega)
theorem is_zero : Is 0 0 := Is.refl (by omega)

theorem sat_any (A : Option Addr) (n c : Nat) (l : List Nat) (o K i k : Nat) (w : World) (hA : Row w A (f64s l)) (hl : l.length = n) (hn : n < 1048576) (hP : o + k * i < n) :
    Calls Try.prog 86 #[vec A n c o K i, .int .i64 k] w fun e w' => e = .returned (.float .f64 (l.getD (o + k * i) 0)) ∧ Below w.heap.size w w' := by
  have hPl : o + k * i < l.length := by rw [hl]; exact hP
  obtain ⟨b, x, rfl, _, hcell0⟩ := hA.at_ (f64s_get l _ hPl)
  have hv : l.getD (o + k * i) 0 = l[o + k * i] := getD_of_lt hPl
  rw [hv]
  have HB := Lib.hid ((Below.refl w.heap.size w).alloc (Nat.le_refl _) (.cells #[.slice (some ⟨b, x, none⟩) n c, .int .i64 o, .int .i64 K, .int .i64 i] 32))
  have hcell := cell_below hcell0 HB.out
  generalize l[o + k * i] = v at *
  obtain ⟨a, ha⟩ : ∃ a, k * i = a := ⟨_, rfl⟩
  obtain ⟨P, hPd⟩ : ∃ P, o + k * i = P := ⟨_, rfl⟩
  have e1 : ((k : Int) * (i : Int)) = (a : Int) := by rw [← ha]; simp
  have e2 : (o : Int) + (a : Int) = (P : Int) := by rw [← hPd, ha]; simp
  have HW := Lib.hid (wrap3 (o := o) (a := a) (P := P) (by rw [← hPd]; omega) (by rw [← ha, hPd]))
  rw [hPd] at hcell hP
  have b1 : (P : Int) < (n : Int) := by omega
  have b0 : (0 : Int) ≤ (P : Int) := by omega
  clear hPl hcell0 hv ha hPd hP hA hl
  obtain ⟨u1, u2, u3, u4⟩ := HW.out
  unfold vec
  go_enter Try.func86, Try.ntmps86
  go_wp2_with fail
  go_ret
  exact ⟨rfl, HB.out⟩

theorem rtimes_any (x y : Nat) (w : World) : Calls Try.prog 67 #[.float .f64 x, .float .f64 y] w fun e w' => ∃ r, e = .returned (.float .f64 r) ∧ Comes .mul x y r ∧ Below w.heap.size w w' := by
  go_enter Try.func67, Try.ntmps67
  go_wp2_with fail
  go_ret
  exact ⟨_, rfl, fres_comes _ _ _ _, below_drewN (Below.refl _ _) _⟩
theorem rplus_any (x y : Nat) (w : World) : Calls Try.prog 66 #[.float .f64 x, .float .f64 y] w fun e w' => ∃ r, e = .returned (.float .f64 r) ∧ Comes .add x y r ∧ Below w.heap.size w w' := by
  go_enter Try.func66, Try.ntmps66
  go_wp2_with fail
  go_ret
  exact ⟨_, rfl, fres_comes _ _ _ _, below_drewN (Below.refl _ _) _⟩

theorem mabs_any (b : Nat) (w : World) (hb : b < 18446744073709551616) : Calls Try.prog 79 #[.float .f64 b] w fun e w' => e = .returned (.float .f64 (absW b)) ∧ w = w' := by
  have e1 := bits_andNot_sign hb
  have e2 : b % 9223372036854775808 = absW b := rfl
  rw [e2] at e1
  clear e2
  generalize absW b = r at *
  go_enter Try.func79, Try.ntmps79
  go_wp2_with fail
  go_ret
  exact ⟨by simp, rfl⟩
end Go.Proofs.Ytlhdcajamempoaa
/-
A sum of products is close to the exact one. Conditions: at most 60 products, and the sum is finite.
-/
set_option linter.unusedVariables false
namespace Go.Proofs.Ytlhdcajamempoaa

theorem fbin_some {op : BinOp} {x y r : Nat} (h : fbin op x y = r) (hr : Fl.rung r < Fl.INF) : floatBits op .f64 x y = some r := by
  unfold fbin at h
  cases hb : floatBits op .f64 x y with
  | some z => rw [hb] at h; exact congrArg some h
  | none =>
    rw [hb] at h
    have h : NANW = r := h
    subst h
    exact absurd hr (by decide)
/-- The exact sum of the first products, in units of 2^-2148. -/
def dotE (l m : List Nat) : Nat → Int
  | 0 => 0
  | k + 1 => dotE l m k + Fl.val (l.getD k 0) * Fl.val (m.getD k 0)
/-- The exact sum of the first products without signs. -/
def dotA (l m : List Nat) : Nat → Nat
  | 0 => 0
  | k + 1 => dotA l m k + (Fl.val (l.getD k 0) * Fl.val (m.getD k 0)).natAbs
theorem dotE_le (l m : List Nat) : ∀ k, (dotE l m k).natAbs ≤ dotA l m k
  | 0 => by simp [dotE]
  | k + 1 => by
    have := dotE_le l m k
    unfold dotE dotA
    generalize Fl.val (l.getD k 0) * Fl.val (m.getD k 0) = P
    omega
theorem close_lin {a b c A P K X Y Z : Nat} (h1 : 4503599627370496 * a ≤ X + Y) (hX : X ≤ 60 * A) (hY : Y ≤ 60 * (4503599627370496 * K)) (hZ : P ≤ Z) (h2 : 9007199254740992 * b ≤ max P (4503599627370496 * K)) (h3 : 9007199254740992 * c ≤ A + a + P + b) :
    4503599627370496 * (a + b + c) ≤ X + A + Z + P + Y + 4503599627370496 * K := by
  omega
theorem dot_close (l m : List Nat) : ∀ n, n ≤ 60 → Fl.rung (dotF l m n) < Fl.INF →
    4503599627370496 * (Fl.val (dotF l m n) * ((2 ^ 1074 : Nat) : Int) - dotE l m n).natAbs ≤ n * (dotA l m n + 4503599627370496 * 2 ^ 1074)
  | 0, _, _ => by
    have h0 : Fl.val (dotF l m 0) = 0 := by unfold dotF; decide
    rw [h0, Int.zero_mul]
    exact Nat.le_trans (show 4503599627370496 * (0 - dotE l m 0).natAbs ≤ 0 by simp [dotE]) (Nat.zero_le _)
  | n + 1, hn, hr => by
    have hs := fbin_some (op := .add) (x := dotF l m n) (y := fbin .mul (l.getD n 0) (m.getD n 0)) rfl hr
    have hs : Ieee.double.add (dotF l m n) (fbin .mul (l.getD n 0) (m.getD n 0)) = some (dotF l m (n + 1)) := hs
    obtain ⟨hfs, hfp⟩ := Fl.add_back hs hr
    have hp := fbin_some (op := .mul) (x := l.getD n 0) (y := m.getD n 0) rfl hfp
    have hp : Ieee.double.mul (l.getD n 0) (m.getD n 0) = some (fbin .mul (l.getD n 0) (m.getD n 0)) := hp
    obtain ⟨hfx, hfy⟩ := Fl.mul_back hp hfp
    have hb := Fl.mul_err hfx hfy hp hfp
    have hc := Fl.add_err hfs hfp hs hr
    have hE : dotE l m (n + 1) = dotE l m n + Fl.val (l.getD n 0) * Fl.val (m.getD n 0) := rfl
    have hA : dotA l m (n + 1) = dotA l m n + (Fl.val (l.getD n 0) * Fl.val (m.getD n 0)).natAbs := rfl
    have hEA := dotE_le l m n
    rw [hE, hA]
    generalize Fl.val (l.getD n 0) * Fl.val (m.getD n 0) = P at *
    by_cases h0 : n = 0
    · subst h0
      have h1 := Fl.add_zero_val hfp hs
      rw [h1, show dotE l m 0 = 0 from rfl, show dotA l m 0 = 0 from rfl]
      generalize Fl.val (fbin .mul (l.getD 0 0) (m.getD 0 0)) * ((2 ^ 1074 : Nat) : Int) = q at *
      generalize 4503599627370496 * 2 ^ 1074 = Y at *
      omega
    · have ih := dot_close l m n (by omega) hfs
      have hK : 0 < 2 ^ 1074 := Nat.two_pow_pos 1074
      generalize Fl.val (dotF l m (n + 1)) = r at *
      generalize Fl.val (dotF l m n) = s at *
      generalize Fl.val (fbin .mul (l.getD n 0) (m.getD n 0)) = p at *
      generalize 2 ^ 1074 = K at *
      generalize dotE l m n = S at *
      generalize dotA l m n = A at *
      have hd : r * (K : Int) - (S + P) = (s * (K : Int) - S) + (p * (K : Int) - P) + (r - (s + p)) * (K : Int) := by
        rw [Int.sub_mul, Int.add_mul]; omega
      have hcK : ((r - (s + p)) * (K : Int)).natAbs = (r - (s + p)).natAbs * K := by rw [Int.natAbs_mul, Int.natAbs_natCast]
      have hsK : ((s + p) * (K : Int)).natAbs = (s + p).natAbs * K := by rw [Int.natAbs_mul, Int.natAbs_natCast]
      have hc2 : 9007199254740992 * ((r - (s + p)) * (K : Int)).natAbs ≤ ((s + p) * (K : Int)).natAbs := by
        rw [hcK, hsK, ← Nat.mul_assoc]
        exact Nat.mul_le_mul_right K hc
      have hsp : (s + p) * (K : Int) = s * (K : Int) + p * (K : Int) := Int.add_mul s p K
      rw [hsp] at hc2
      rw [hd]
      clear hcK hsK hsp hd hs hp hr hfs hfp hfx hfy hE hA hc
      have hX : n * A ≤ 60 * A := Nat.mul_le_mul_right _ (by omega)
      have hY : n * (4503599627370496 * K) ≤ 60 * (4503599627370496 * K) := Nat.mul_le_mul_right _ (by omega)
      have hZ : P.natAbs ≤ n * P.natAbs := Nat.le_mul_of_pos_left _ (by omega)
      rw [Nat.mul_add] at ih
      have eR : (n + 1) * (A + P.natAbs + 4503599627370496 * K) = n * A + A + n * P.natAbs + P.natAbs + n * (4503599627370496 * K) + 4503599627370496 * K := by
        rw [Nat.add_mul, Nat.one_mul, Nat.mul_add, Nat.mul_add]; omega
      rw [eR]
      generalize n * A = X at *
      generalize n * (4503599627370496 * K) = Y at *
      generalize n * P.natAbs = Z at *
      generalize s * (K : Int) = sk at *
      generalize p * (K : Int) = pk at *
      generalize (r - (s + p)) * (K : Int) = ck at *
      have h3 : 9007199254740992 * ck.natAbs ≤ A + (sk - S).natAbs + P.natAbs + (pk - P).natAbs := by omega
      refine Nat.le_trans ?_ (close_lin ih hX hY hZ hb h3)
      omega
end Go.Proofs.Ytlhdcajamempoaa
