/-
Norms: the program's One, Inf, Max. Conditions: as each says.
-/
import Derived.Test.YtbdlfaclakppgaaUcaa
import Derived.Test.YtbdlfaclakppgaaMvO
import Derived.Test.YtbdlfaclakppgaaSmD
import Derived.Test.YtbdlfaclakppgaaVwF
import Derived.Test.YtbdlfaclakppgaaVwD
import Derived.Test.YtbdlfaclakppgaaVwC
import Derived.Test.YtbdlfaclakppgaaMvI
import Derived.Test.YtbdlfaclakppgaaInv
set_option linter.unusedVariables false
set_option linter.unusedSimpArgs false
set_option linter.unnecessarySimpa false
namespace Go.Proofs.Ytbdlfaclakppgaa
open Go.RowKit
attribute [local go_sem ↓] Go.wp_at_zero Go.wp_at_succ

/-- The columns' sums, the rows', the rows' greatest. -/
def colS (l : List Nat) (o R C L : Nat) : List Nat := (List.range C).map fun j => asumF (lst l (o + j * L) 1 R) R
def rowS (l : List Nat) (o R C L : Nat) : List Nat := (List.range R).map fun i => asumF (lst l (o + i) L C) C
def rowM (l : List Nat) (o R C L : Nat) : List Nat := (List.range R).map fun i => gF ((colsL l (o + i) 1 L C).map absW) C
theorem nrmap_getD {f : Nat → Nat} {N k : Nat} (h : k < N) : ((List.range N).map f).getD k 0 = f k := by simp [List.getD, h]
theorem asumF_lt (l : List Nat) : ∀ k, asumF l k < 18446744073709551616
  | 0 => by show (0 : Nat) < _; omega
  | k + 1 => fbin_lt _ _ _
theorem nrmap_wds {f : Nat → Nat} (N : Nat) (h : ∀ k, f k < 18446744073709551616) : Wds ((List.range N).map f) := by
  intro b hb
  obtain ⟨k, _, rfl⟩ := List.mem_map.1 hb
  exact h k
/-- What One, Inf, Max come to. -/
def nrZ1 (l : List Nat) (o R C L : Nat) : Nat := if R = 0 ∨ C = 0 then 0 else gF (colS l o R C L) C
def nrZ2 (l : List Nat) (o R C L : Nat) : Nat := if R = 0 ∨ C = 0 then 0 else gF (rowS l o R C L) R
def nrZ3 (l : List Nat) (o R C L : Nat) : Nat := if R = 0 ∨ C = 0 then 0 else gF (rowM l o R C L) R

set_option maxHeartbeats 2000000 in
theorem nrone_bad (A : Option Addr) (n c : Nat) (off r k ld : Int) (w : World) (hn : n < 9223372036854775808) (ho : I64 off) (hr : I64 r) (hk : I64 k) (hi : I64 ld) (hgd : matB n off r k ld = false) :
    Calls Try.prog 8 #[mat A n c off r k ld] w fun e w' => e = .returned (.tuple #[.float .f64 0, .int .i64 1]) ∧ Below w.heap.size w w' := by
  have HG := Lib.hid (fun N F W => nrgreatest_bad A n c off r k ld N F W hn ho hr hk hi hgd)
  clear hn ho hr hk hi hgd
  unfold mat at *
  have HZ0 := Lib.hid (Blk.new w 24 #[.slice A n c, .int .i64 off, .int .i64 r, .int .i64 k, .int .i64 ld])
  have HB0 := Lib.hid ((Below.refl w.heap.size w).alloc (Nat.le_refl _) (.cells #[.slice A n c, .int .i64 off, .int .i64 r, .int .i64 k, .int .i64 ld] 24))
  obtain ⟨c0, c1, c2, c3, c4⟩ := cells5 HZ0.out
  go_enter Try.func8, Try.ntmps8
  go_wp2_with fail
  refine (HG.out _ _ _).mono ?_
  rintro e w1 ⟨rfl, hb⟩
  have HB1 := Lib.hid (below_nx HB0.out hb)
  clear hb c0 c1 c2 c3 c4
  go_wp2_with fail
  go_ret2
  exact ⟨rfl, HB1.out⟩
set_option maxHeartbeats 2000000 in
theorem nrone_any (A : Option Addr) (n c : Nat) (l : List Nat) (o R C L : Nat) (w : World) (hA : Row w A (f64s l)) (hW : Wds l) (hl : l.length = n) (hn : n < 1048576) (hoI : I64 o) (hLI : I64 L) (hR : R < 1048576) (hC : C < 1048576) (hL1 : 1 ≤ L) (hRL : R ≤ L) (hmr : R = 0 ∨ C = 0 ∨ o + (C - 1) * L + (R - 1) < n) :
    Calls Try.prog 8 #[mat A n c o R C L] w fun e w' => ∃ r, e = .returned (.tuple #[.float .f64 r, .int .i64 0]) ∧ Is r (nrZ1 l o R C L) ∧ Below w.heap.size w w' := by
  have HG := Lib.hid (fun W (hb : Below w.heap.size w W) (hZ : Blk W w.heap.size 24 #[.slice A n c, .int .i64 o, .int .i64 R, .int .i64 C, .int .i64 L]) => show Calls Try.prog 22 #[mat A n c o R C L, .int .i64 (C : Int), .func (.func 23) #[] #[.pointer (some ⟨w.heap.size, 0, none⟩)]] W fun e w' => ∃ r, e = .returned (.tuple #[.float .f64 r, .int .i64 0]) ∧ Is r (nrZ1 l o R C L) ∧ Below W.heap.size W w' from by
    by_cases h0 : R = 0 ∨ C = 0
    · refine (nrgreatest_none A n c o R C L _ _ W (by omega) hoI (by unfold I64; omega) (by unfold I64; omega) hLI (mat_right hL1 hRL hmr) h0).mono ?_
      rintro e w' ⟨rfl, hb'⟩
      exact ⟨0, rfl, by unfold nrZ1; rw [if_pos h0]; exact is_zero, hb'⟩
    · have hmr2 : o + (C - 1) * L + (R - 1) < n := by
        rcases hmr with h | h | h
        · exact absurd (.inl h) h0
        · exact absurd (.inr h) h0
        · exact h
      have := nrgreatest_ok 23 #[.pointer (some ⟨w.heap.size, 0, none⟩)] A n c o R C L C (colS l o R C L) W (fun args W => nrone_enters args W) (by omega) hoI (by unfold I64; omega) (by unfold I64; omega) hLI (mat_right hL1 hRL hmr) (fun e => h0 (.inl e)) (fun e => h0 (.inr e)) (by omega) (nrmap_wds _ (fun k => asumF_lt _ _)) (fun W' k hk hb' => by
        have := nrone_one w.heap.size A n c l o R C L k W' (hZ.nxt hb') ((hA.below hb).below hb') hW hl hn hoI hLI hR hC (fun e => h0 (.inl e)) (fun e => h0 (.inr e)) hL1 hRL hmr2 hk
        unfold colS
        rw [nrmap_getD hk]
        exact this)
      refine this.mono ?_
      rintro e w' ⟨r, rfl, hr, hb'⟩
      exact ⟨r, rfl, by unfold nrZ1; rw [if_neg h0]; exact hr, hb'⟩)
  clear hA hW hl hn hoI hLI hR hC hL1 hRL hmr
  generalize nrZ1 l o R C L = z at *
  unfold mat at *
  have HZ0 := Lib.hid (Blk.new w 24 #[.slice A n c, .int .i64 o, .int .i64 R, .int .i64 C, .int .i64 L])
  have HB0 := Lib.hid ((Below.refl w.heap.size w).alloc (Nat.le_refl _) (.cells #[.slice A n c, .int .i64 o, .int .i64 R, .int .i64 C, .int .i64 L] 24))
  obtain ⟨c0, c1, c2, c3, c4⟩ := cells5 HZ0.out
  go_enter Try.func8, Try.ntmps8
  go_wp2_with fail
  refine (HG.out _ HB0.out HZ0.out).mono ?_
  rintro e w1 ⟨r, rfl, hr, hb⟩
  have HB1 := Lib.hid (And.intro hr (below_nx HB0.out hb))
  clear hr hb c0 c1 c2 c3 c4
  go_wp2_with fail
  go_ret2
  exact ⟨r, rfl, HB1.out⟩

set_option maxHeartbeats 2000000 in
theorem nrinf_bad (A : Option Addr) (n c : Nat) (off r k ld : Int) (w : World) (hn : n < 9223372036854775808) (ho : I64 off) (hr : I64 r) (hk : I64 k) (hi : I64 ld) (hgd : matB n off r k ld = false) :
    Calls Try.prog 9 #[mat A n c off r k ld] w fun e w' => e = .returned (.tuple #[.float .f64 0, .int .i64 1]) ∧ Below w.heap.size w w' := by
  have HG := Lib.hid (fun N F W => nrgreatest_bad A n c off r k ld N F W hn ho hr hk hi hgd)
  clear hn ho hr hk hi hgd
  unfold mat at *
  have HZ0 := Lib.hid (Blk.new w 24 #[.slice A n c, .int .i64 off, .int .i64 r, .int .i64 k, .int .i64 ld])
  have HB0 := Lib.hid ((Below.refl w.heap.size w).alloc (Nat.le_refl _) (.cells #[.slice A n c, .int .i64 off, .int .i64 r, .int .i64 k, .int .i64 ld] 24))
  obtain ⟨c0, c1, c2, c3, c4⟩ := cells5 HZ0.out
  go_enter Try.func9, Try.ntmps9
  go_wp2_with fail
  refine (HG.out _ _ _).mono ?_
  rintro e w1 ⟨rfl, hb⟩
  have HB1 := Lib.hid (below_nx HB0.out hb)
  clear hb c0 c1 c2 c3 c4
  go_wp2_with fail
  go_ret2
  exact ⟨rfl, HB1.out⟩
set_option maxHeartbeats 2000000 in
theorem nrinf_any (A : Option Addr) (n c : Nat) (l : List Nat) (o R C L : Nat) (w : World) (hA : Row w A (f64s l)) (hW : Wds l) (hl : l.length = n) (hn : n < 1048576) (hoI : I64 o) (hLI : I64 L) (hR : R < 1048576) (hC : C < 1048576) (hL1 : 1 ≤ L) (hRL : R ≤ L) (hmr : R = 0 ∨ C = 0 ∨ o + (C - 1) * L + (R - 1) < n) :
    Calls Try.prog 9 #[mat A n c o R C L] w fun e w' => ∃ r, e = .returned (.tuple #[.float .f64 r, .int .i64 0]) ∧ Is r (nrZ2 l o R C L) ∧ Below w.heap.size w w' := by
  have HG := Lib.hid (fun W (hb : Below w.heap.size w W) (hZ : Blk W w.heap.size 24 #[.slice A n c, .int .i64 o, .int .i64 R, .int .i64 C, .int .i64 L]) => show Calls Try.prog 22 #[mat A n c o R C L, .int .i64 (R : Int), .func (.func 26) #[] #[.pointer (some ⟨w.heap.size, 0, none⟩)]] W fun e w' => ∃ r, e = .returned (.tuple #[.float .f64 r, .int .i64 0]) ∧ Is r (nrZ2 l o R C L) ∧ Below W.heap.size W w' from by
    by_cases h0 : R = 0 ∨ C = 0
    · refine (nrgreatest_none A n c o R C L _ _ W (by omega) hoI (by unfold I64; omega) (by unfold I64; omega) hLI (mat_right hL1 hRL hmr) h0).mono ?_
      rintro e w' ⟨rfl, hb'⟩
      exact ⟨0, rfl, by unfold nrZ2; rw [if_pos h0]; exact is_zero, hb'⟩
    · have hmr2 : o + (C - 1) * L + (R - 1) < n := by
        rcases hmr with h | h | h
        · exact absurd (.inl h) h0
        · exact absurd (.inr h) h0
        · exact h
      have := nrgreatest_ok 26 #[.pointer (some ⟨w.heap.size, 0, none⟩)] A n c o R C L R (rowS l o R C L) W (fun args W => nrinf_enters args W) (by omega) hoI (by unfold I64; omega) (by unfold I64; omega) hLI (mat_right hL1 hRL hmr) (fun e => h0 (.inl e)) (fun e => h0 (.inr e)) (by omega) (nrmap_wds _ (fun k => asumF_lt _ _)) (fun W' k hk hb' => by
        have := nrinf_one w.heap.size A n c l o R C L k W' (hZ.nxt hb') ((hA.below hb).below hb') hW hl hn hoI hLI hR hC (fun e => h0 (.inl e)) (fun e => h0 (.inr e)) hL1 hRL hmr2 hk
        unfold rowS
        rw [nrmap_getD hk]
        exact this)
      refine this.mono ?_
      rintro e w' ⟨r, rfl, hr, hb'⟩
      exact ⟨r, rfl, by unfold nrZ2; rw [if_neg h0]; exact hr, hb'⟩)
  clear hA hW hl hn hoI hLI hR hC hL1 hRL hmr
  generalize nrZ2 l o R C L = z at *
  unfold mat at *
  have HZ0 := Lib.hid (Blk.new w 24 #[.slice A n c, .int .i64 o, .int .i64 R, .int .i64 C, .int .i64 L])
  have HB0 := Lib.hid ((Below.refl w.heap.size w).alloc (Nat.le_refl _) (.cells #[.slice A n c, .int .i64 o, .int .i64 R, .int .i64 C, .int .i64 L] 24))
  obtain ⟨c0, c1, c2, c3, c4⟩ := cells5 HZ0.out
  go_enter Try.func9, Try.ntmps9
  go_wp2_with fail
  refine (HG.out _ HB0.out HZ0.out).mono ?_
  rintro e w1 ⟨r, rfl, hr, hb⟩
  have HB1 := Lib.hid (And.intro hr (below_nx HB0.out hb))
  clear hr hb c0 c1 c2 c3 c4
  go_wp2_with fail
  go_ret2
  exact ⟨r, rfl, HB1.out⟩

set_option maxHeartbeats 2000000 in
theorem nrmax_bad (A : Option Addr) (n c : Nat) (off r k ld : Int) (w : World) (hn : n < 9223372036854775808) (ho : I64 off) (hr : I64 r) (hk : I64 k) (hi : I64 ld) (hgd : matB n off r k ld = false) :
    Calls Try.prog 10 #[mat A n c off r k ld] w fun e w' => e = .returned (.tuple #[.float .f64 0, .int .i64 1]) ∧ Below w.heap.size w w' := by
  have HG := Lib.hid (fun N F W => nrgreatest_bad A n c off r k ld N F W hn ho hr hk hi hgd)
  clear hn ho hr hk hi hgd
  unfold mat at *
  have HZ0 := Lib.hid (Blk.new w 24 #[.slice A n c, .int .i64 off, .int .i64 r, .int .i64 k, .int .i64 ld])
  have HB0 := Lib.hid ((Below.refl w.heap.size w).alloc (Nat.le_refl _) (.cells #[.slice A n c, .int .i64 off, .int .i64 r, .int .i64 k, .int .i64 ld] 24))
  obtain ⟨c0, c1, c2, c3, c4⟩ := cells5 HZ0.out
  go_enter Try.func10, Try.ntmps10
  go_wp2_with fail
  refine (HG.out _ _ _).mono ?_
  rintro e w1 ⟨rfl, hb⟩
  have HB1 := Lib.hid (below_nx HB0.out hb)
  clear hb c0 c1 c2 c3 c4
  go_wp2_with fail
  go_ret2
  exact ⟨rfl, HB1.out⟩
set_option maxHeartbeats 2000000 in
theorem nrmax_any (A : Option Addr) (n c : Nat) (l : List Nat) (o R C L : Nat) (w : World) (hA : Row w A (f64s l)) (hW : Wds l) (hl : l.length = n) (hnc : n ≤ c) (hn : n < 1048576) (hoI : I64 o) (hLI : I64 L) (hR : R < 1048576) (hC : C < 1048576) (hL1 : 1 ≤ L) (hRL : R ≤ L) (hmr : R = 0 ∨ C = 0 ∨ o + (C - 1) * L + (R - 1) < n) :
    Calls Try.prog 10 #[mat A n c o R C L] w fun e w' => ∃ r, e = .returned (.tuple #[.float .f64 r, .int .i64 0]) ∧ Is r (nrZ3 l o R C L) ∧ Below w.heap.size w w' := by
  have HG := Lib.hid (fun W (hb : Below w.heap.size w W) (hZ : Blk W w.heap.size 24 #[.slice A n c, .int .i64 o, .int .i64 R, .int .i64 C, .int .i64 L]) => show Calls Try.prog 22 #[mat A n c o R C L, .int .i64 (R : Int), .func (.func 28) #[] #[.pointer (some ⟨w.heap.size, 0, none⟩)]] W fun e w' => ∃ r, e = .returned (.tuple #[.float .f64 r, .int .i64 0]) ∧ Is r (nrZ3 l o R C L) ∧ Below W.heap.size W w' from by
    by_cases h0 : R = 0 ∨ C = 0
    · refine (nrgreatest_none A n c o R C L _ _ W (by omega) hoI (by unfold I64; omega) (by unfold I64; omega) hLI (mat_right hL1 hRL hmr) h0).mono ?_
      rintro e w' ⟨rfl, hb'⟩
      exact ⟨0, rfl, by unfold nrZ3; rw [if_pos h0]; exact is_zero, hb'⟩
    · have hmr2 : o + (C - 1) * L + (R - 1) < n := by
        rcases hmr with h | h | h
        · exact absurd (.inl h) h0
        · exact absurd (.inr h) h0
        · exact h
      have := nrgreatest_ok 28 #[.pointer (some ⟨w.heap.size, 0, none⟩)] A n c o R C L R (rowM l o R C L) W (fun args W => nrmax_enters args W) (by omega) hoI (by unfold I64; omega) (by unfold I64; omega) hLI (mat_right hL1 hRL hmr) (fun e => h0 (.inl e)) (fun e => h0 (.inr e)) (by omega) (nrmap_wds _ (fun k => gF_lt (abs_wds _) _)) (fun W' k hk hb' => by
        have := nrmax_one w.heap.size A n c l o R C L k W' (hZ.nxt hb') ((hA.below hb).below hb') hW hl hnc hn hoI hLI hR hC (fun e => h0 (.inl e)) (fun e => h0 (.inr e)) hL1 hRL hmr2 hk
        unfold rowM
        rw [nrmap_getD hk]
        exact this)
      refine this.mono ?_
      rintro e w' ⟨r, rfl, hr, hb'⟩
      exact ⟨r, rfl, by unfold nrZ3; rw [if_neg h0]; exact hr, hb'⟩)
  clear hA hW hl hnc hn hoI hLI hR hC hL1 hRL hmr
  generalize nrZ3 l o R C L = z at *
  unfold mat at *
  have HZ0 := Lib.hid (Blk.new w 24 #[.slice A n c, .int .i64 o, .int .i64 R, .int .i64 C, .int .i64 L])
  have HB0 := Lib.hid ((Below.refl w.heap.size w).alloc (Nat.le_refl _) (.cells #[.slice A n c, .int .i64 o, .int .i64 R, .int .i64 C, .int .i64 L] 24))
  obtain ⟨c0, c1, c2, c3, c4⟩ := cells5 HZ0.out
  go_enter Try.func10, Try.ntmps10
  go_wp2_with fail
  refine (HG.out _ HB0.out HZ0.out).mono ?_
  rintro e w1 ⟨r, rfl, hr, hb⟩
  have HB1 := Lib.hid (And.intro hr (below_nx HB0.out hb))
  clear hr hb c0 c1 c2 c3 c4
  go_wp2_with fail
  go_ret2
  exact ⟨r, rfl, HB1.out⟩

end Go.Proofs.Ytbdlfaclakppgaa
/-
Two results that are made side by side, each with memory of its own. Conditions: as each says.
-/
set_option linter.unusedVariables false
set_option linter.unusedSimpArgs false
set_option linter.unnecessarySimpa false
namespace Go.Proofs.Ytbdlfaclakppgaa
open Go.RowKit
attribute [local go_sem ↓] Go.wp_at_zero Go.wp_at_succ

/-- Block g is of floats, and they meet S. -/
def OwnS (W : World) (S : Array Value → Prop) (g : Nat) : Prop := ∃ cs : Array Value, Blk W g 27 cs ∧ S cs
section
variable {W W' : World} {S S' : Array Value → Prop} {g : Nat}
theorem OwnS.nxt (h : OwnS W S g) (hb : Below W.heap.size W W') : OwnS W' S g := by
  obtain ⟨cs, h1, h2⟩ := h
  exact ⟨cs, h1.nxt hb, h2⟩
theorem OwnS.lt (h : OwnS W S g) : g < W.heap.size := by
  obtain ⟨cs, h1, h2⟩ := h
  exact h1.lt
theorem OwnS.ne_ {p : Nat} {t : TypeId} {cs : Array Value} (h : OwnS W S g) (hB : Blk W p t cs) (ht : t ≠ 27) : g ≠ p := by
  rintro rfl
  obtain ⟨cs', hB', _⟩ := h
  unfold Blk at hB hB'
  rw [hB] at hB'
  injection hB' with hB'
  injection hB' with _ e _
  exact ht e
theorem OwnS.far {p : Nat} (h : OwnS W S g) (hb : ∀ k, k ≠ p → W'.heap[k]? = W.heap[k]?) (hne : g ≠ p) : OwnS W' S g := by
  obtain ⟨cs', hB', h2⟩ := h
  exact ⟨cs', (hb g hne).trans hB', h2⟩
end
/-- Two results, each with a block of its own. -/
def Twn (Z : Nat) (S S' : Array Value → Prop) (f f' : Nat → Nat → Value) (d1 d3 : Bool) (va vb : Value) (W : World) : Prop :=
  d1 = true → ∃ g c, va = f g c ∧ OwnS W S g ∧ Z ≤ g ∧ (d3 = true → ∃ g' c', vb = f' g' c' ∧ OwnS W S' g' ∧ Z ≤ g' ∧ g ≠ g')
section
variable {Z : Nat} {S S' : Array Value → Prop} {f f' : Nat → Nat → Value} {d1 d3 : Bool} {va vb : Value} {W W' : World}
theorem Twn.nxt (h : Twn Z S S' f f' d1 d3 va vb W) (hb : Below W.heap.size W W') : Twn Z S S' f f' d1 d3 va vb W' := fun e => by
  obtain ⟨g, c, h1, h2, h3, h4⟩ := h e
  refine ⟨g, c, h1, h2.nxt hb, h3, fun e' => ?_⟩
  obtain ⟨g', c', k1, k2, k3, k4⟩ := h4 e'
  exact ⟨g', c', k1, k2.nxt hb, k3, k4⟩
theorem Twn.far {p : Nat} {t : TypeId} {cs : Array Value} (h : Twn Z S S' f f' d1 d3 va vb W) (hB : Blk W p t cs) (ht : t ≠ 27) (hb : ∀ k, k ≠ p → W'.heap[k]? = W.heap[k]?) : Twn Z S S' f f' d1 d3 va vb W' := fun e => by
  obtain ⟨g, c, h1, h2, h3, h4⟩ := h e
  refine ⟨g, c, h1, h2.far hb (h2.ne_ hB ht), h3, fun e' => ?_⟩
  obtain ⟨g', c', k1, k2, k3, k4⟩ := h4 e'
  exact ⟨g', c', k1, k2.far hb (k2.ne_ hB ht), k3, k4⟩
theorem Twn.first {g c : Nat} (ho : OwnS W S g) (hZ : Z ≤ g) (h3 : d3 = false) : Twn Z S S' f f' true d3 (f g c) vb W := fun _ => ⟨g, c, rfl, ho, hZ, fun e => by rw [h3] at e; cases e⟩
theorem Twn.second {g' c' : Nat} (h : Twn Z S S' f f' true false va vb W) (hb : Below W.heap.size W W') (ho : OwnS W' S' g') (hZ : Z ≤ g') (hg : W.heap.size ≤ g') : Twn Z S S' f f' true true va (f' g' c') W' := fun _ => by
  obtain ⟨g, c, h1, h2, h3, h4⟩ := h rfl
  exact ⟨g, c, h1, h2.nxt hb, h3, fun _ => ⟨g', c', rfl, ho, hZ, by have := h2.lt; omega⟩⟩
end
theorem rest_sets1 (w : World) (p : Addr) (x : Value) : (w.setCell p x).os = w.os ∧ (w.setCell p x).tape = w.tape ∧ (w.setCell p x).output = w.output ∧ w.heap.size ≤ (w.setCell p x).heap.size :=
  ⟨rfl, rfl, rfl, by simp [World.setCell]⟩
theorem rest_then {a b c : World} (h : b.os = a.os ∧ b.tape = a.tape ∧ b.output = a.output ∧ a.heap.size ≤ b.heap.size) (k : c.os = b.os ∧ c.tape = b.tape ∧ c.output = b.output ∧ b.heap.size ≤ c.heap.size) : c.os = a.os ∧ c.tape = a.tape ∧ c.output = a.output ∧ a.heap.size ≤ c.heap.size :=
  ⟨k.1.trans h.1, k.2.1.trans h.2.1, k.2.2.1.trans h.2.2.1, Nat.le_trans h.2.2.2 k.2.2.2⟩
theorem rest_sets5 (w : World) (p0 p1 p2 p3 p4 : Addr) (x0 x1 x2 x3 x4 : Value) : (((((w.setCell p0 x0).setCell p1 x1).setCell p2 x2).setCell p3 x3).setCell p4 x4).os = w.os ∧ (((((w.setCell p0 x0).setCell p1 x1).setCell p2 x2).setCell p3 x3).setCell p4 x4).tape = w.tape ∧ (((((w.setCell p0 x0).setCell p1 x1).setCell p2 x2).setCell p3 x3).setCell p4 x4).output = w.output ∧ w.heap.size ≤ (((((w.setCell p0 x0).setCell p1 x1).setCell p2 x2).setCell p3 x3).setCell p4 x4).heap.size :=
  rest_then (rest_sets4 w p0 p1 p2 p3 x0 x1 x2 x3) (rest_sets1 _ p4 x4)
theorem rest_sets3 (w : World) (p0 p1 p2 : Addr) (x0 x1 x2 : Value) : (((w.setCell p0 x0).setCell p1 x1).setCell p2 x2).os = w.os ∧ (((w.setCell p0 x0).setCell p1 x1).setCell p2 x2).tape = w.tape ∧ (((w.setCell p0 x0).setCell p1 x1).setCell p2 x2).output = w.output ∧ w.heap.size ≤ (((w.setCell p0 x0).setCell p1 x1).setCell p2 x2).heap.size :=
  ⟨rfl, rfl, rfl, by simp [World.setCell]⟩
theorem frozen5w {w : World} {b : Nat} {t : TypeId} {v0 v1 v2 v3 v4 : Value} (h : Blk w b t #[v0, v1, v2, v3, v4]) : w.frozen? ⟨b, 0, none⟩ = false ∧ w.frozen? ⟨b, 1, none⟩ = false ∧ w.frozen? ⟨b, 2, none⟩ = false ∧ w.frozen? ⟨b, 3, none⟩ = false ∧ w.frozen? ⟨b, 4, none⟩ = false := ⟨h.frozen 0, h.frozen 1, h.frozen 2, h.frozen 3, h.frozen 4⟩

end Go.Proofs.Ytbdlfaclakppgaa
/-
MoveRows: what is between its two calls; how the lists and the tables fit. Conditions: as each says.
-/
set_option linter.unusedVariables false
set_option linter.unusedSimpArgs false
set_option linter.unnecessarySimpa false
namespace Go.Proofs.Ytbdlfaclakppgaa
open Go.RowKit

theorem held13 {w W w' : World} {b0 o0 b1 o1 b2 o2 b3 o3 b4 o4 b5 o5 b6 o6 b7 o7 b8 o8 b9 o9 b10 o10 b11 o11 b12 o12 : Nat} {v0 v1 v2 v3 v4 v5 v6 v7 v8 v9 v10 v11 v12 : Value} (h : W.cell? ⟨b0, o0, none⟩ = some v0 ∧ W.cell? ⟨b1, o1, none⟩ = some v1 ∧ W.cell? ⟨b2, o2, none⟩ = some v2 ∧ W.cell? ⟨b3, o3, none⟩ = some v3 ∧ W.cell? ⟨b4, o4, none⟩ = some v4 ∧ W.cell? ⟨b5, o5, none⟩ = some v5 ∧ W.cell? ⟨b6, o6, none⟩ = some v6 ∧ W.cell? ⟨b7, o7, none⟩ = some v7 ∧ W.cell? ⟨b8, o8, none⟩ = some v8 ∧ W.cell? ⟨b9, o9, none⟩ = some v9 ∧ W.cell? ⟨b10, o10, none⟩ = some v10 ∧ W.cell? ⟨b11, o11, none⟩ = some v11 ∧ W.cell? ⟨b12, o12, none⟩ = some v12 ∧ Below w.heap.size w W) (hb : Below W.heap.size W w') :
    w'.cell? ⟨b0, o0, none⟩ = some v0 ∧ w'.cell? ⟨b1, o1, none⟩ = some v1 ∧ w'.cell? ⟨b2, o2, none⟩ = some v2 ∧ w'.cell? ⟨b3, o3, none⟩ = some v3 ∧ w'.cell? ⟨b4, o4, none⟩ = some v4 ∧ w'.cell? ⟨b5, o5, none⟩ = some v5 ∧ w'.cell? ⟨b6, o6, none⟩ = some v6 ∧ w'.cell? ⟨b7, o7, none⟩ = some v7 ∧ w'.cell? ⟨b8, o8, none⟩ = some v8 ∧ w'.cell? ⟨b9, o9, none⟩ = some v9 ∧ w'.cell? ⟨b10, o10, none⟩ = some v10 ∧ w'.cell? ⟨b11, o11, none⟩ = some v11 ∧ w'.cell? ⟨b12, o12, none⟩ = some v12 ∧ Below w.heap.size w w' :=
  ⟨cell_below h.1 hb, cell_below h.2.1 hb, cell_below h.2.2.1 hb, cell_below h.2.2.2.1 hb, cell_below h.2.2.2.2.1 hb, cell_below h.2.2.2.2.2.1 hb, cell_below h.2.2.2.2.2.2.1 hb, cell_below h.2.2.2.2.2.2.2.1 hb, cell_below h.2.2.2.2.2.2.2.2.1 hb, cell_below h.2.2.2.2.2.2.2.2.2.1 hb, cell_below h.2.2.2.2.2.2.2.2.2.2.1 hb, cell_below h.2.2.2.2.2.2.2.2.2.2.2.1 hb, cell_below h.2.2.2.2.2.2.2.2.2.2.2.2.1 hb, h.2.2.2.2.2.2.2.2.2.2.2.2.2.trans (hb.mono h.2.2.2.2.2.2.2.2.2.2.2.2.2.size)⟩
theorem blk_ne {W : World} {p g : Nat} {t t' : TypeId} {cs cs' : Array Value} (h : Blk W p t cs) (h' : Blk W g t' cs') (ht : t ≠ t') : p ≠ g := by
  rintro rfl
  unfold Blk at h h'
  rw [h] at h'
  injection h' with h'
  injection h' with _ e _
  exact ht e
/-- Two lists of the call's own, the one changed or not yet, and the other. -/
def Both (W0 : World) (l : List Nat) (F1 F2 : List Nat → Prop) (g1 g2 : Nat) (d3 d6 : Bool) (W : World) : Prop :=
  ∃ la lb, Own W g1 la ∧ Own W g2 lb ∧ (if d3 = true then F1 la else la = l) ∧ (if d6 = true then F2 lb else lb = l) ∧ Chg [g1, g2] W0 W
section
variable {W0 W W' : World} {l : List Nat} {F1 F2 : List Nat → Prop} {g1 g2 : Nat} {d3 d6 : Bool}
theorem Both.start (h1 : Own W g1 l) (h2 : Own W g2 l) (hc : Chg [g1, g2] W0 W) : Both W0 l F1 F2 g1 g2 false false W := ⟨l, l, h1, h2, rfl, rfl, hc⟩
theorem Both.first (h : Both W0 l F1 F2 g1 g2 false d6 W) (hne : g1 ≠ g2) {l' : List Nat} (ho : Own W' g1 l') (hF : F1 l') (hc : Chg [g1] W W') : Both W0 l F1 F2 g1 g2 true d6 W' := by
  obtain ⟨la, lb, h1, h2, h3, h4, h5⟩ := h
  exact ⟨l', lb, ho, hc.own (by simp; exact fun e => hne e.symm) h2, hF, h4, h5.trans (hc.mono (by simp))⟩
theorem Both.second (h : Both W0 l F1 F2 g1 g2 d3 false W) (hne : g1 ≠ g2) {l' : List Nat} (ho : Own W' g2 l') (hF : F2 l') (hc : Chg [g2] W W') : Both W0 l F1 F2 g1 g2 d3 true W' := by
  obtain ⟨la, lb, h1, h2, h3, h4, h5⟩ := h
  exact ⟨la, l', hc.own (by simp; exact hne) h1, ho, h3, hF, h5.trans (hc.mono (by simp))⟩
theorem Both.one (h : Both W0 l F1 F2 g1 g2 false d6 W) : Own W g1 l := by
  obtain ⟨la, lb, h1, h2, h3, h4, h5⟩ := h
  have h3 : la = l := h3
  subst h3; exact h1
theorem Both.two (h : Both W0 l F1 F2 g1 g2 d3 false W) : Own W g2 l := by
  obtain ⟨la, lb, h1, h2, h3, h4, h5⟩ := h
  have h4 : lb = l := h4
  subst h4; exact h2
theorem Both.chg (h : Both W0 l F1 F2 g1 g2 d3 d6 W) : Chg [g1, g2] W0 W := by
  obtain ⟨la, lb, h1, h2, h3, h4, h5⟩ := h
  exact h5
end
/-- A list of the caller's is as it was. -/
theorem chg_row {w W0 W : World} {G : List Nat} {B : Option Addr} {xs : List Value} (h : Row w B xs) (hb : Below w.heap.size w W0) (hc : Chg G W0 W) (hG : ∀ g ∈ G, w.heap.size ≤ g) : Row W B xs := by
  rcases h with rfl | ⟨b, o, rfl, h1⟩
  · exact .inl rfl
  · cases xs with
    | nil => exact .inl rfl
    | cons x xs =>
      have hlt := block_lt (h1 0 x rfl)
      refine hc.row (fun b' o' e => ?_) ((show Row w (some ⟨b, o, none⟩) (x :: xs) from .inr ⟨b, o, rfl, h1⟩).below hb)
      injection e with e; injection e with e _
      subst e
      intro hg
      have := hG _ hg
      omega

theorem tab_get {l T : List Nat} {o R C L N a b : Nat} (h : Tab l o R C L N T) (hN : R * C = N) (ha : a < R) (hb : b < C) : T.getD (a * C + b) 0 = l.getD (o + a + b * L) 0 :=
  h.2 a b ha hb (by rw [← hN]; exact tab_lt ha hb)
/-- The table as it was: the list as it was. -/
theorem fit_same {l T l' : List Nat} {o R C L N : Nat} (h : Tab l o R C L N T) (hN : R * C = N) (hi : Img l o R C L (fun a b => T.getD (a * C + b) 0) l') : l = l' :=
  (Img.refl l o R C L).uniq hi fun a ha b hb => (tab_get h hN ha hb).symm
theorem fit_half {l T T' m l' : List Nat} {o R C L N i j : Nat} (h : Tab l o R C L N T) (hN : R * C = N) (hi : i < R) (hj : j < R) (hh : Half T i j R C C T') (hm : Img l o R C L (fun a b => l.getD (o + sw i j a + b * L) 0) m)
    (hl : Img l o R C L (fun a b => T'.getD (a * C + b) 0) l') : m = l' :=
  hm.uniq hl fun a ha b hb => by rw [hh.2 a ha b hb, if_pos hb, tab_get h hN (sw_lt hi hj ha) hb]
theorem fit_prm {l T T' m l' : List Nat} {o R C L N q : Nat} {zs : List Int} (h : Tab l o R C L N T) (hN : R * C = N) (hz : OrdOk R zs q) (hq : q ≤ zs.length) (hh : Prm T zs R C q T') (hm : Img l o R C L (fun a b => l.getD (o + prm zs q a + b * L) 0) m)
    (hl : Img l o R C L (fun a b => T'.getD (a * C + b) 0) l') : m = l' :=
  hm.uniq hl fun a ha b hb => by rw [hh.2 a ha b hb, tab_get h hN (prm_lt hz hq ha) hb]
theorem wds_img {l l' : List Nat} {o R C L : Nat} {f : Nat → Nat} (h : Wds l) (hi : Img l o R C L (fun a b => l.getD (o + f a + b * L) 0) l') : Wds l' := by
  have hw : ∀ k, l.getD k 0 < 18446744073709551616 := fun k => by
    rcases Nat.lt_or_ge k l.length with h1 | h1
    · rw [getD_of_lt h1]; exact h.at_ k h1
    · rw [getD_of_le h1]; omega
  intro x hx
  obtain ⟨k, hk, rfl⟩ := List.mem_iff_getElem.1 hx
  rw [← getD_of_lt hk]
  by_cases hp : ∃ a, a < R ∧ ∃ b, b < C ∧ k = o + a + b * L
  · obtain ⟨a, ha, b, hb, rfl⟩ := hp
    rw [hi.2.1 a ha b hb]; exact hw _
  · rw [hi.2.2 k (fun a ha b hb e => hp ⟨a, ha, b, hb, e⟩)]; exact hw _
end Go.Proofs.Ytbdlfaclakppgaa
/-
Norms: the document's columns and rows, its One, Inf, Most, Max. Conditions: as each says.
-/
set_option linter.unusedVariables false
set_option linter.unusedSimpArgs false
set_option linter.unnecessarySimpa false
namespace Go.Proofs.Ytbdlfaclakppgaa
open Go.RowKit
attribute [local go_sem ↓] Go.wp_at_zero Go.wp_at_succ

/-- The call returned a list of n numbers of which this holds. -/
def RetN (R : Nat → Nat → Prop) (n : Nat) (w : World) (e : Ending) (w' : World) : Prop :=
  ∃ B d m, e = .returned (.slice B n d) ∧ m.length = n ∧ (∀ q, q < n → R q (m.getD q 0)) ∧ Row w' B (f64s m) ∧ Below w.heap.size w w'
theorem NrQ_all {R : Nat → Nat → Prop} {L : List Nat} {q r : Nat} (hl : L.length = q) (h : ∀ j, j < q → R j (L.getD j 0)) (hr : R q r) : ∀ j, j < q + 1 → R j ((L ++ [r]).getD j 0) := by
  intro j hj
  by_cases h1 : j < q
  · have : (L ++ [r]).getD j 0 = L.getD j 0 := by simp [List.getD, List.getElem?_append_left (show j < L.length by omega)]
    rw [this]; exact h j h1
  · obtain rfl : j = q := by omega
    have : (L ++ [r]).getD j 0 = r := by simp [List.getD, ← hl]
    rw [this]; exact hr
theorem nrat_any (R C gT N cT : Nat) (T : List Nat) (a b : Nat) (w : World) (hT : Row w (some ⟨gT, 0, none⟩) (f64s T)) (hTl : T.length = N) (hN : N < 1048576) (hab : a * C + b < N) :
    Calls Try.prog 44 #[.agg #[.int .i64 R, .int .i64 C, .slice (some ⟨gT, 0, none⟩) N cT], .int .i64 (a : Int), .int .i64 (b : Int)] w fun e w' => e = .returned (.float .f64 (T.getD (a * C + b) 0)) ∧ Below w.heap.size w w' := by
  have hPl : a * C + b < T.length := by rw [hTl]; exact hab
  obtain ⟨gb, x, hgx, _, hcell0⟩ := hT.at_ (f64s_get T _ hPl)
  injection hgx with hgx
  injection hgx with hg1 hg2
  subst hg1
  subst hg2
  have hv : T.getD (a * C + b) 0 = T[a * C + b] := getD_of_lt hPl
  rw [hv]
  have HB := Lib.hid ((Below.refl w.heap.size w).alloc (Nat.le_refl _) (.cells #[.int .i64 R, .int .i64 C, .slice (some ⟨gT, 0, none⟩) N cT] 32))
  have hcell := cell_below hcell0 HB.out
  generalize T[a * C + b] = v at *
  obtain ⟨p, hp⟩ : ∃ p, a * C = p := ⟨_, rfl⟩
  obtain ⟨P, hPd⟩ : ∃ P, p + b = P := ⟨_, rfl⟩
  have e1 : ((a : Int) * (C : Int)) = (p : Int) := by rw [← hp]; simp
  have e2 : (p : Int) + (b : Int) = (P : Int) := by rw [← hPd]; simp
  have hPN : P < N := by rw [← hPd, ← hp]; exact hab
  have HW := Lib.hid (wrap3 (o := b) (a := p) (P := P) (by omega) (by rw [← hPd, Nat.add_comm]))
  rw [hp, hPd, Nat.zero_add] at hcell
  have b1 : (P : Int) < (N : Int) := by omega
  have b0 : (0 : Int) ≤ (P : Int) := by omega
  have b2 := hPN
  clear hPl hcell0 hv hp hPd hPN hT hTl hab
  obtain ⟨u1, u2, u3, u4⟩ := HW.out
  go_enter Try.func44, Try.ntmps44
  go_wp2_with fail
  go_ret
  exact ⟨rfl, HB.out⟩

set_option maxRecDepth 100000 in
set_option maxHeartbeats 1000000 in
theorem nrcolL_any (R C gT N cT : Nat) (T : List Nat) (b : Nat) (w : World) (hT : Row w (some ⟨gT, 0, none⟩) (f64s T)) (hTl : T.length = N) (hN : N < 1048576) (hRC : R * C = N) (hb : b < C) (hR : R < 1048576) :
    Calls Try.prog 36 #[.agg #[.int .i64 R, .int .i64 C, .slice (some ⟨gT, 0, none⟩) N cT], .int .i64 (b : Int)] w (RetN (fun q r => r = T.getD (q * C + b) 0) R w) := by
  obtain ⟨i0, hi, hz0, hz1, hz2⟩ := fi0
  have HTr := Lib.hid hT
  have HAt0 := Lib.hid (fun W (q : Nat) (hq : q < R) (h : Row W (some ⟨gT, 0, none⟩) (f64s T)) => nrat_any R C gT N cT T q b W h hTl hN (by rw [← hRC]; exact tab_lt hq hb))
  clear hT hTl hN hRC hb
  go_enter Try.func36, Try.ntmps36
  have HZ := Lib.hid (Blk.new w 32 #[.int .i64 R, .int .i64 C, .slice (some ⟨gT, 0, none⟩) N cT])
  have hb0 : Below w.heap.size w (w.alloc (.cells #[.int .i64 R, .int .i64 C, .slice (some ⟨gT, 0, none⟩) N cT] 32)) := (Below.refl w.heap.size w).alloc (Nat.le_refl _) (.cells #[.int .i64 R, .int .i64 C, .slice (some ⟨gT, 0, none⟩) N cT] 32)
  have HTr1 := Lib.hid (HTr.out.below hb0)
  clear HTr
  have HB0 := Lib.hid hb0
  clear hb0
  go_wp2_with fail
  generalize hw1 : w.alloc (.cells #[.int .i64 R, .int .i64 C, .slice (some ⟨gT, 0, none⟩) N cT] 32) = w1 at *
  have Hz := Lib.hid (show w.heap.size < w1.heap.size from HZ.out.lt)
  generalize hzt : w.heap.size = zt at *
  have Hzt := Lib.hid hzt
  clear hw1 hzt
  go_loopw [5, 6] (fun out i wr => ∃ (q : Nat) (L : List Nat), q ≤ R ∧ i = .int .i64 q ∧ Hid (L.length = q ∧ ∀ j, j < q → (fun q r => r = T.getD (q * C + b) 0) j (L.getD j 0)) ∧ wr.ownsRow w1.heap.size 27 1 out q (f64s L) ∧ Below w1.heap.size w1 wr) (fun _ i _ => R - (intOf i).toNat)
  case atStart => exact ⟨0, [], Nat.zero_le _, rfl, Lib.hid ⟨rfl, fun j h => by omega⟩, World.ownsRow_nil _ _ _ _, Below.refl _ _⟩
  case round =>
    obtain ⟨q, L, hq, rfl, HL, hown, hbl⟩ := hrel
    have HBl := Lib.hid hbl
    have HOw0 := Lib.hid hown
    clear hown hbl
    obtain ⟨t0, t1, t2⟩ := cells3v (HZ.out.below HBl.out HZ.out.lt)
    by_cases hlt : q < R
    · have hqc : (q : Int) < (R : Int) := by omega
      have hq1 : q + 1 ≤ 1048576 := by omega
      have HAt := Lib.hid (HAt0.out wr q hlt (HTr1.out.below HBl.out))
      have HR := Lib.hid (show (T.getD (q * C + b) 0) = T.getD (q * C + b) 0 from rfl)
      obtain ⟨v, hv⟩ : ∃ v, T.getD (q * C + b) 0 = v := ⟨_, rfl⟩
      have HRv := Lib.hid hv
      rw [hv] at HAt
      clear hv HR
      go_wp2_with fail
      refine HAt.out.mono ?_
      rintro e wt ⟨rfl, hbt⟩
      have HR := Lib.hid HRv.out.symm
      have HOwW := Lib.hid (ownsRow_below HOw0.out hbt)
      have HBlW := Lib.hid (below_nx HBl.out hbt)
      clear hbt t0 t1 t2
      have HN := Lib.hid (Blk.new wt 27 #[.float .f64 v])
      have HOw2 := Lib.hid (HOwW.out.alloc (.cells #[.float .f64 v] 27))
      go_wp2_with (at_builtin; refine wpList_append_own _ rfl _ _ 22 rfl w1.heap.size 27 i0 (.float .f64 0) 1 8 Try.underlying22 hi hz0 hz1 hz2 rfl (by decide) _ q (f64s L) rfl HOw2.out ⟨wt.heap.size, 0, none⟩ 1 1 [.float .f64 v] rfl rfl ?c1 (by intro u hu; simp at hu; subst hu; rfl) ?c3 ?c4 ?c5 ?_)
      case c1 =>
        intro j u hj
        match j, hj with
        | 0, hj =>
          have : u = .float .f64 v := by simpa using hj.symm
          subst this
          exact HN.out.cell 0
        | j + 1, hj => simp at hj
      case c3 => unfold maxLen; omega
      case c4 => omega
      case c5 => (try simp); have := HBlW.out.size; omega
      intro v' w' hown' hgrow _
      have HOw3 := Lib.hid (show w'.ownsRow w1.heap.size 27 1 v' (q + 1) (f64s (L ++ [v])) by rw [f64s_snoc]; exact hown')
      have HBl3 := Lib.hid ((HBlW.out.alloc HBlW.out.size (.cells #[.float .f64 v] 27)).grown hgrow (by simp; have := HBlW.out.size; omega) (fun k hk => by have := (HOw2.out.lt k hk).1; omega))
      clear hown' hgrow
      go_wp2_with fail
      go_roundw
      case rel => exact ⟨q + 1, L ++ [v], by omega, by go_num, Lib.hid ⟨by simp [HL.out.1], NrQ_all (R := (fun q r => r = T.getD (q * C + b) 0)) HL.out.1 HL.out.2 HR.out⟩, HOw3.out, HBl3.out⟩
      case measure => simp [intOf]; omega
    · obtain rfl : q = R := by omega
      have hqc : ¬ (q : Int) < (q : Int) := by omega
      obtain ⟨B9, d9, rfl, hrow⟩ := own_row HOw0.out HL.out.1.symm
      have HRow := Lib.hid hrow
      clear hrow
      go_wp2_with fail
      go_ret
      exact ⟨B9, d9, L, rfl, HL.out.1, HL.out.2, HRow.out, below_nx (by rw [Hzt.out]; exact HB0.out) HBl.out⟩

set_option maxRecDepth 100000 in
set_option maxHeartbeats 1000000 in
theorem nrrowL_any (R C gT N cT : Nat) (T : List Nat) (b : Nat) (w : World) (hT : Row w (some ⟨gT, 0, none⟩) (f64s T)) (hTl : T.length = N) (hN : N < 1048576) (hRC : R * C = N) (hb : b < R) (hC : C < 1048576) :
    Calls Try.prog 38 #[.agg #[.int .i64 R, .int .i64 C, .slice (some ⟨gT, 0, none⟩) N cT], .int .i64 (b : Int)] w (RetN (fun q r => r = T.getD (b * C + q) 0) C w) := by
  obtain ⟨i0, hi, hz0, hz1, hz2⟩ := fi0
  have HTr := Lib.hid hT
  have HAt0 := Lib.hid (fun W (q : Nat) (hq : q < C) (h : Row W (some ⟨gT, 0, none⟩) (f64s T)) => nrat_any R C gT N cT T b q W h hTl hN (by rw [← hRC]; exact tab_lt hb hq))
  clear hT hTl hN hRC hb
  go_enter Try.func38, Try.ntmps38
  have HZ := Lib.hid (Blk.new w 32 #[.int .i64 R, .int .i64 C, .slice (some ⟨gT, 0, none⟩) N cT])
  have hb0 : Below w.heap.size w (w.alloc (.cells #[.int .i64 R, .int .i64 C, .slice (some ⟨gT, 0, none⟩) N cT] 32)) := (Below.refl w.heap.size w).alloc (Nat.le_refl _) (.cells #[.int .i64 R, .int .i64 C, .slice (some ⟨gT, 0, none⟩) N cT] 32)
  have HTr1 := Lib.hid (HTr.out.below hb0)
  clear HTr
  have HB0 := Lib.hid hb0
  clear hb0
  go_wp2_with fail
  generalize hw1 : w.alloc (.cells #[.int .i64 R, .int .i64 C, .slice (some ⟨gT, 0, none⟩) N cT] 32) = w1 at *
  have Hz := Lib.hid (show w.heap.size < w1.heap.size from HZ.out.lt)
  generalize hzt : w.heap.size = zt at *
  have Hzt := Lib.hid hzt
  clear hw1 hzt
  go_loopw [5, 6] (fun out i wr => ∃ (q : Nat) (L : List Nat), q ≤ C ∧ i = .int .i64 q ∧ Hid (L.length = q ∧ ∀ j, j < q → (fun q r => r = T.getD (b * C + q) 0) j (L.getD j 0)) ∧ wr.ownsRow w1.heap.size 27 1 out q (f64s L) ∧ Below w1.heap.size w1 wr) (fun _ i _ => C - (intOf i).toNat)
  case atStart => exact ⟨0, [], Nat.zero_le _, rfl, Lib.hid ⟨rfl, fun j h => by omega⟩, World.ownsRow_nil _ _ _ _, Below.refl _ _⟩
  case round =>
    obtain ⟨q, L, hq, rfl, HL, hown, hbl⟩ := hrel
    have HBl := Lib.hid hbl
    have HOw0 := Lib.hid hown
    clear hown hbl
    obtain ⟨t0, t1, t2⟩ := cells3v (HZ.out.below HBl.out HZ.out.lt)
    by_cases hlt : q < C
    · have hqc : (q : Int) < (C : Int) := by omega
      have hq1 : q + 1 ≤ 1048576 := by omega
      have HAt := Lib.hid (HAt0.out wr q hlt (HTr1.out.below HBl.out))
      have HR := Lib.hid (show (T.getD (b * C + q) 0) = T.getD (b * C + q) 0 from rfl)
      obtain ⟨v, hv⟩ : ∃ v, T.getD (b * C + q) 0 = v := ⟨_, rfl⟩
      have HRv := Lib.hid hv
      rw [hv] at HAt
      clear hv HR
      go_wp2_with fail
      refine HAt.out.mono ?_
      rintro e wt ⟨rfl, hbt⟩
      have HR := Lib.hid HRv.out.symm
      have HOwW := Lib.hid (ownsRow_below HOw0.out hbt)
      have HBlW := Lib.hid (below_nx HBl.out hbt)
      clear hbt t0 t1 t2
      have HN := Lib.hid (Blk.new wt 27 #[.float .f64 v])
      have HOw2 := Lib.hid (HOwW.out.alloc (.cells #[.float .f64 v] 27))
      go_wp2_with (at_builtin; refine wpList_append_own _ rfl _ _ 22 rfl w1.heap.size 27 i0 (.float .f64 0) 1 8 Try.underlying22 hi hz0 hz1 hz2 rfl (by decide) _ q (f64s L) rfl HOw2.out ⟨wt.heap.size, 0, none⟩ 1 1 [.float .f64 v] rfl rfl ?c1 (by intro u hu; simp at hu; subst hu; rfl) ?c3 ?c4 ?c5 ?_)
      case c1 =>
        intro j u hj
        match j, hj with
        | 0, hj =>
          have : u = .float .f64 v := by simpa using hj.symm
          subst this
          exact HN.out.cell 0
        | j + 1, hj => simp at hj
      case c3 => unfold maxLen; omega
      case c4 => omega
      case c5 => (try simp); have := HBlW.out.size; omega
      intro v' w' hown' hgrow _
      have HOw3 := Lib.hid (show w'.ownsRow w1.heap.size 27 1 v' (q + 1) (f64s (L ++ [v])) by rw [f64s_snoc]; exact hown')
      have HBl3 := Lib.hid ((HBlW.out.alloc HBlW.out.size (.cells #[.float .f64 v] 27)).grown hgrow (by simp; have := HBlW.out.size; omega) (fun k hk => by have := (HOw2.out.lt k hk).1; omega))
      clear hown' hgrow
      go_wp2_with fail
      go_roundw
      case rel => exact ⟨q + 1, L ++ [v], by omega, by go_num, Lib.hid ⟨by simp [HL.out.1], NrQ_all (R := (fun q r => r = T.getD (b * C + q) 0)) HL.out.1 HL.out.2 HR.out⟩, HOw3.out, HBl3.out⟩
      case measure => simp [intOf]; omega
    · obtain rfl : q = C := by omega
      have hqc : ¬ (q : Int) < (q : Int) := by omega
      obtain ⟨B9, d9, rfl, hrow⟩ := own_row HOw0.out HL.out.1.symm
      have HRow := Lib.hid hrow
      clear hrow
      go_wp2_with fail
      go_ret
      exact ⟨B9, d9, L, rfl, HL.out.1, HL.out.2, HRow.out, below_nx (by rw [Hzt.out]; exact HB0.out) HBl.out⟩


theorem nrcol_any (R C gT N cT : Nat) (T : List Nat) (b : Nat) (w : World) (hT : Row w (some ⟨gT, 0, none⟩) (f64s T)) (hTl : T.length = N) (hN : N < 1048576) (hRC : R * C = N) (hb : b < C) (hR : R < 1048576) :
    Calls Try.prog 36 #[.agg #[.int .i64 R, .int .i64 C, .slice (some ⟨gT, 0, none⟩) N cT], .int .i64 (b : Int)] w fun e w' => ∃ B d, e = .returned (.slice B R d) ∧ Row w' B (f64s (lst T b C R)) ∧ Below w.heap.size w w' := by
  refine (nrcolL_any R C gT N cT T b w hT hTl hN hRC hb hR).mono ?_
  rintro e w' ⟨B, d, m, h1, h2, h3, h4, h5⟩
  have : m = lst T b C R := ext_getD (by rw [h2, lst_length]) fun j hj => by
    rw [h3 j (by omega), lst_getD T b C (by omega), Nat.add_comm]
  subst this
  exact ⟨B, d, h1, h4, h5⟩
theorem nrrow_any (R C gT N cT : Nat) (T : List Nat) (b : Nat) (w : World) (hT : Row w (some ⟨gT, 0, none⟩) (f64s T)) (hTl : T.length = N) (hN : N < 1048576) (hRC : R * C = N) (hb : b < R) (hC : C < 1048576) :
    Calls Try.prog 38 #[.agg #[.int .i64 R, .int .i64 C, .slice (some ⟨gT, 0, none⟩) N cT], .int .i64 (b : Int)] w fun e w' => ∃ B d, e = .returned (.slice B C d) ∧ Row w' B (f64s (lst T (b * C) 1 C)) ∧ Below w.heap.size w w' := by
  refine (nrrowL_any R C gT N cT T b w hT hTl hN hRC hb hC).mono ?_
  rintro e w' ⟨B, d, m, h1, h2, h3, h4, h5⟩
  have : m = lst T (b * C) 1 C := ext_getD (by rw [h2, lst_length]) fun j hj => by
    rw [h3 j (by omega), lst_getD T (b * C) 1 (by omega), Nat.mul_one]
  subst this
  exact ⟨B, d, h1, h4, h5⟩
theorem lst_wds2 {l : List Nat} (h : Wds l) (o i K : Nat) : Wds (lst l o i K) := by
  intro b hb
  obtain ⟨k, _, rfl⟩ := List.mem_map.1 hb
  exact getD_wds h _

set_option maxRecDepth 100000 in
set_option maxHeartbeats 2000000 in
theorem r10one_any (R C gT N cT : Nat) (T V : List Nat) (w : World) (hT : Row w (some ⟨gT, 0, none⟩) (f64s T)) (hW : Wds T) (hTl : T.length = N) (hN : N < 1048576) (hRC : R * C = N) (hR : R < 1048576) (hC : C < 1048576) (hV : Wds V) (hVq : ∀ q, q < C → R ≠ 0 → asumF (lst T q C R) R = V.getD q 0) :
    Calls Try.prog 14 #[.agg #[.int .i64 R, .int .i64 C, .slice (some ⟨gT, 0, none⟩) N cT]] w fun e w' => ∃ r, e = .returned (.float .f64 r) ∧ Is r (if R = 0 ∨ C = 0 then 0 else gF V C) ∧ Below w.heap.size w w' := by
  obtain ⟨i0, hi, hz0, hz1, hz2⟩ := fi0
  have HTr := Lib.hid hT
  have HCl := Lib.hid (fun W (q : Nat) (hq : q < C) (h : Row W (some ⟨gT, 0, none⟩) (f64s T)) => nrcol_any R C gT N cT T q W h hTl hN hRC hq (by omega))
  have HAs := Lib.hid (fun (B : Option Addr) (d : Nat) W (q : Nat) (hq : q < C) (h0 : R ≠ 0) (h : Row W B (f64s (lst T q C R))) => show Calls Try.prog 18 #[.slice B R d] W fun e w' => ∃ r, e = .returned (.float .f64 r) ∧ Is r (V.getD q 0) ∧ Below W.heap.size W w' from by
    have := rasum_any B R d (lst T q C R) W h (lst_wds2 hW _ _ _) (lst_length _ _ _ _) (by omega)
    rw [hVq q hq h0] at this
    exact this)
  have HGt := Lib.hid (fun (B : Option Addr) (d K : Nat) (L : List Nat) W (hK : K < 1048576) (hL : L.length = K) (hq : ∀ j, j < K → Is (L.getD j 0) (V.getD j 0)) (h : Row W B (f64s L)) => show Calls Try.prog 37 #[.slice B K d] W fun e w' => ∃ r, e = .returned (.float .f64 r) ∧ Is r (gF V K) ∧ Below W.heap.size W w' from by
    have hLw : Wds L := by
      intro b hb
      obtain ⟨k, hk, rfl⟩ := List.mem_iff_getElem.1 hb
      rw [← getD_of_lt hk]
      exact (hq k (by omega)).lt
    refine (rgreat5_any B K d L W h hLw hL hK).mono ?_
    rintro e w' ⟨r, rfl, hr, hb⟩
    exact ⟨r, rfl, hr.trans (gF_alike hLw K hq hV), hb⟩)
  obtain ⟨M, hM⟩ : ∃ M, (if R = 0 then 0 else C) = M := ⟨_, rfl⟩
  have hM1 : ∀ q, q < M → q < C ∧ R ≠ 0 := fun q hq => by
    by_cases h : R = 0
    · rw [if_pos h] at hM; omega
    · rw [if_neg h] at hM; exact ⟨by omega, h⟩
  have hM2 : ∀ q, ¬ q < M → q ≤ M → ¬ q < C ∨ R = 0 := fun q hq _ => by
    by_cases h : R = 0
    · exact .inr h
    · rw [if_neg h] at hM; exact .inl (by omega)
  have hZ : gF V M = if R = 0 ∨ C = 0 then 0 else gF V C := by
    by_cases h : R = 0
    · rw [if_pos h] at hM; rw [if_pos (by omega), ← hM]; rfl
    · rw [if_neg h] at hM
      subst hM
      by_cases h2 : C = 0
      · rw [if_pos (by omega), h2]; rfl
      · rw [if_neg (by omega)]
  rw [← hZ]
  have hMb : M < 1048576 := by
    by_cases h : R = 0
    · rw [if_pos h] at hM; omega
    · rw [if_neg h] at hM; omega
  have HM1 := Lib.hid hM1
  have HM2 := Lib.hid hM2
  clear hT hTl hN hRC hR hC hVq hW hV hM hM1 hM2 hZ
  go_enter Try.func14, Try.ntmps14
  have HZ := Lib.hid (Blk.new w 32 #[.int .i64 R, .int .i64 C, .slice (some ⟨gT, 0, none⟩) N cT])
  have hb0 : Below w.heap.size w (w.alloc (.cells #[.int .i64 R, .int .i64 C, .slice (some ⟨gT, 0, none⟩) N cT] 32)) := (Below.refl w.heap.size w).alloc (Nat.le_refl _) (.cells #[.int .i64 R, .int .i64 C, .slice (some ⟨gT, 0, none⟩) N cT] 32)
  have HTr1 := Lib.hid (HTr.out.below hb0)
  clear HTr
  have HB0 := Lib.hid hb0
  clear hb0
  go_wp2_with fail
  generalize hw1 : w.alloc (.cells #[.int .i64 R, .int .i64 C, .slice (some ⟨gT, 0, none⟩) N cT] 32) = w1 at *
  have Hz := Lib.hid (show w.heap.size < w1.heap.size from HZ.out.lt)
  generalize hzt : w.heap.size = zt at *
  have Hzt := Lib.hid hzt
  clear hw1 hzt
  go_loopw [3, 4] (fun out i wr => ∃ (q : Nat) (L : List Nat), q ≤ M ∧ i = .int .i64 q ∧ Hid (L.length = q ∧ ∀ j, j < q → (fun q r => Is r (V.getD q 0)) j (L.getD j 0)) ∧ wr.ownsRow w1.heap.size 27 1 out q (f64s L) ∧ Below w1.heap.size w1 wr) (fun _ i _ => M - (intOf i).toNat)
  case atStart => exact ⟨0, [], Nat.zero_le _, rfl, Lib.hid ⟨rfl, fun j h => by omega⟩, World.ownsRow_nil _ _ _ _, Below.refl _ _⟩
  case round =>
    obtain ⟨q, L, hq, rfl, HL, hown, hbl⟩ := hrel
    have HBl := Lib.hid hbl
    have HOw0 := Lib.hid hown
    clear hown hbl
    obtain ⟨t0, t1, t2⟩ := cells3v (HZ.out.below HBl.out HZ.out.lt)
    by_cases hlt : q < M
    · have hqM := HM1.out q hlt
      have hqc : decide (q < C) = true := decide_eq_true hqM.1
      have hqi : (q : Int) < (C : Int) := by omega
      have hoc : decide (0 < R) = true := decide_eq_true (by omega)
      have hoi : (0 : Int) < (R : Int) := by omega
      have hq1 : q + 1 ≤ 1048576 := by omega
      have HClq := Lib.hid (HCl.out wr q hqM.1 (HTr1.out.below HBl.out))
      have HAq := Lib.hid (fun B d W h => HAs.out B d W q hqM.1 hqM.2 h)
      clear hqM
      go_wp2_with fail
      refine HClq.out.mono ?_
      rintro e wa ⟨B, d, rfl, hRow, hba⟩
      have HRw := Lib.hid hRow
      have HOwA := Lib.hid (ownsRow_below HOw0.out hba)
      have HBlA := Lib.hid (below_nx HBl.out hba)
      clear hba hRow t0 t1 t2
      go_wp2_with fail
      refine (HAq.out B d _ HRw.out).mono ?_
      rintro e wt ⟨v, rfl, hv, hbt⟩
      have HR := Lib.hid hv
      have HOwW := Lib.hid (ownsRow_below HOwA.out hbt)
      have HBlW := Lib.hid (below_nx HBlA.out hbt)
      clear hbt hv
      have HN := Lib.hid (Blk.new wt 27 #[.float .f64 v])
      have HOw2 := Lib.hid (HOwW.out.alloc (.cells #[.float .f64 v] 27))
      go_wp2_with (at_builtin; refine wpList_append_own _ rfl _ _ 22 rfl w1.heap.size 27 i0 (.float .f64 0) 1 8 Try.underlying22 hi hz0 hz1 hz2 rfl (by decide) _ q (f64s L) rfl HOw2.out ⟨wt.heap.size, 0, none⟩ 1 1 [.float .f64 v] rfl rfl ?c1 (by intro u hu; simp at hu; subst hu; rfl) ?c3 ?c4 ?c5 ?_)
      case c1 =>
        intro j u hj
        match j, hj with
        | 0, hj =>
          have : u = .float .f64 v := by simpa using hj.symm
          subst this
          exact HN.out.cell 0
        | j + 1, hj => simp at hj
      case c3 => unfold maxLen; omega
      case c4 => omega
      case c5 => (try simp); have := HBlW.out.size; omega
      intro v' w' hown' hgrow _
      have HOw3 := Lib.hid (show w'.ownsRow w1.heap.size 27 1 v' (q + 1) (f64s (L ++ [v])) by rw [f64s_snoc]; exact hown')
      have HBl3 := Lib.hid ((HBlW.out.alloc HBlW.out.size (.cells #[.float .f64 v] 27)).grown hgrow (by simp; have := HBlW.out.size; omega) (fun k hk => by have := (HOw2.out.lt k hk).1; omega))
      clear hown' hgrow
      go_wp2_with fail
      go_roundw
      case rel => exact ⟨q + 1, L ++ [v], by omega, by go_num, Lib.hid ⟨by simp [HL.out.1], NrQ_all (R := fun q r => Is r (V.getD q 0)) HL.out.1 HL.out.2 HR.out⟩, HOw3.out, HBl3.out⟩
      case measure => simp [intOf]; omega
    · have hrow := own_row HOw0.out HL.out.1.symm
      have hend := HM2.out q hlt hq
      obtain ⟨B9, d9, rfl, hrow⟩ := hrow
      have HRow := Lib.hid hrow
      clear hrow
      obtain rfl : q = M := by omega
      by_cases hqc0 : q < C
      · have hqc : decide (q < C) = true := decide_eq_true hqc0
        have hqi : (q : Int) < (C : Int) := by omega
        obtain h0 : R = 0 := by rcases hend with h | h; exact absurd hqc0 h; exact h
        have hoc : decide (0 < R) = false := decide_eq_false (by omega)
        have hoi : ¬ (0 : Int) < (R : Int) := by omega
        clear hend hqc0 h0
        go_wp2_with fail
        refine (HGt.out B9 d9 q L _ (by omega) HL.out.1 HL.out.2 HRow.out).mono ?_
        rintro e w5 ⟨r, rfl, hr, hb⟩
        have HR := Lib.hid (And.intro hr (below_nx HBl.out hb))
        clear hr hb
        go_wp2_with fail
        go_ret
        exact ⟨r, rfl, HR.out.1, below_nx (by rw [Hzt.out]; exact HB0.out) HR.out.2⟩
      · have hqc : decide (q < C) = false := decide_eq_false hqc0
        have hqi : ¬ (q : Int) < (C : Int) := by omega
        clear hend hqc0
        go_wp2_with fail
        refine (HGt.out B9 d9 q L _ (by omega) HL.out.1 HL.out.2 HRow.out).mono ?_
        rintro e w5 ⟨r, rfl, hr, hb⟩
        have HR := Lib.hid (And.intro hr (below_nx HBl.out hb))
        clear hr hb
        go_wp2_with fail
        go_ret
        exact ⟨r, rfl, HR.out.1, below_nx (by rw [Hzt.out]; exact HB0.out) HR.out.2⟩

set_option maxRecDepth 100000 in
set_option maxHeartbeats 2000000 in
theorem r10inf_any (R C gT N cT : Nat) (T V : List Nat) (w : World) (hT : Row w (some ⟨gT, 0, none⟩) (f64s T)) (hW : Wds T) (hTl : T.length = N) (hN : N < 1048576) (hRC : R * C = N) (hR : R < 1048576) (hC : C < 1048576) (hV : Wds V) (hVq : ∀ q, q < R → C ≠ 0 → asumF (lst T (q * C) 1 C) C = V.getD q 0) :
    Calls Try.prog 15 #[.agg #[.int .i64 R, .int .i64 C, .slice (some ⟨gT, 0, none⟩) N cT]] w fun e w' => ∃ r, e = .returned (.float .f64 r) ∧ Is r (if R = 0 ∨ C = 0 then 0 else gF V R) ∧ Below w.heap.size w w' := by
  obtain ⟨i0, hi, hz0, hz1, hz2⟩ := fi0
  have HTr := Lib.hid hT
  have HCl := Lib.hid (fun W (q : Nat) (hq : q < R) (h : Row W (some ⟨gT, 0, none⟩) (f64s T)) => nrrow_any R C gT N cT T q W h hTl hN hRC hq (by omega))
  have HAs := Lib.hid (fun (B : Option Addr) (d : Nat) W (q : Nat) (hq : q < R) (h0 : C ≠ 0) (h : Row W B (f64s (lst T (q * C) 1 C))) => show Calls Try.prog 18 #[.slice B C d] W fun e w' => ∃ r, e = .returned (.float .f64 r) ∧ Is r (V.getD q 0) ∧ Below W.heap.size W w' from by
    have := rasum_any B C d (lst T (q * C) 1 C) W h (lst_wds2 hW _ _ _) (lst_length _ _ _ _) (by omega)
    rw [hVq q hq h0] at this
    exact this)
  have HGt := Lib.hid (fun (B : Option Addr) (d K : Nat) (L : List Nat) W (hK : K < 1048576) (hL : L.length = K) (hq : ∀ j, j < K → Is (L.getD j 0) (V.getD j 0)) (h : Row W B (f64s L)) => show Calls Try.prog 37 #[.slice B K d] W fun e w' => ∃ r, e = .returned (.float .f64 r) ∧ Is r (gF V K) ∧ Below W.heap.size W w' from by
    have hLw : Wds L := by
      intro b hb
      obtain ⟨k, hk, rfl⟩ := List.mem_iff_getElem.1 hb
      rw [← getD_of_lt hk]
      exact (hq k (by omega)).lt
    refine (rgreat5_any B K d L W h hLw hL hK).mono ?_
    rintro e w' ⟨r, rfl, hr, hb⟩
    exact ⟨r, rfl, hr.trans (gF_alike hLw K hq hV), hb⟩)
  obtain ⟨M, hM⟩ : ∃ M, (if C = 0 then 0 else R) = M := ⟨_, rfl⟩
  have hM1 : ∀ q, q < M → q < R ∧ C ≠ 0 := fun q hq => by
    by_cases h : C = 0
    · rw [if_pos h] at hM; omega
    · rw [if_neg h] at hM; exact ⟨by omega, h⟩
  have hM2 : ∀ q, ¬ q < M → q ≤ M → ¬ q < R ∨ C = 0 := fun q hq _ => by
    by_cases h : C = 0
    · exact .inr h
    · rw [if_neg h] at hM; exact .inl (by omega)
  have hZ : gF V M = if R = 0 ∨ C = 0 then 0 else gF V R := by
    by_cases h : C = 0
    · rw [if_pos h] at hM; rw [if_pos (by omega), ← hM]; rfl
    · rw [if_neg h] at hM
      subst hM
      by_cases h2 : R = 0
      · rw [if_pos (by omega), h2]; rfl
      · rw [if_neg (by omega)]
  rw [← hZ]
  have hMb : M < 1048576 := by
    by_cases h : C = 0
    · rw [if_pos h] at hM; omega
    · rw [if_neg h] at hM; omega
  have HM1 := Lib.hid hM1
  have HM2 := Lib.hid hM2
  clear hT hTl hN hRC hR hC hVq hW hV hM hM1 hM2 hZ
  go_enter Try.func15, Try.ntmps15
  have HZ := Lib.hid (Blk.new w 32 #[.int .i64 R, .int .i64 C, .slice (some ⟨gT, 0, none⟩) N cT])
  have hb0 : Below w.heap.size w (w.alloc (.cells #[.int .i64 R, .int .i64 C, .slice (some ⟨gT, 0, none⟩) N cT] 32)) := (Below.refl w.heap.size w).alloc (Nat.le_refl _) (.cells #[.int .i64 R, .int .i64 C, .slice (some ⟨gT, 0, none⟩) N cT] 32)
  have HTr1 := Lib.hid (HTr.out.below hb0)
  clear HTr
  have HB0 := Lib.hid hb0
  clear hb0
  go_wp2_with fail
  generalize hw1 : w.alloc (.cells #[.int .i64 R, .int .i64 C, .slice (some ⟨gT, 0, none⟩) N cT] 32) = w1 at *
  have Hz := Lib.hid (show w.heap.size < w1.heap.size from HZ.out.lt)
  generalize hzt : w.heap.size = zt at *
  have Hzt := Lib.hid hzt
  clear hw1 hzt
  go_loopw [3, 4] (fun out i wr => ∃ (q : Nat) (L : List Nat), q ≤ M ∧ i = .int .i64 q ∧ Hid (L.length = q ∧ ∀ j, j < q → (fun q r => Is r (V.getD q 0)) j (L.getD j 0)) ∧ wr.ownsRow w1.heap.size 27 1 out q (f64s L) ∧ Below w1.heap.size w1 wr) (fun _ i _ => M - (intOf i).toNat)
  case atStart => exact ⟨0, [], Nat.zero_le _, rfl, Lib.hid ⟨rfl, fun j h => by omega⟩, World.ownsRow_nil _ _ _ _, Below.refl _ _⟩
  case round =>
    obtain ⟨q, L, hq, rfl, HL, hown, hbl⟩ := hrel
    have HBl := Lib.hid hbl
    have HOw0 := Lib.hid hown
    clear hown hbl
    obtain ⟨t0, t1, t2⟩ := cells3v (HZ.out.below HBl.out HZ.out.lt)
    by_cases hlt : q < M
    · have hqM := HM1.out q hlt
      have hqc : decide (q < R) = true := decide_eq_true hqM.1
      have hqi : (q : Int) < (R : Int) := by omega
      have hoc : decide (0 < C) = true := decide_eq_true (by omega)
      have hoi : (0 : Int) < (C : Int) := by omega
      have hq1 : q + 1 ≤ 1048576 := by omega
      have HClq := Lib.hid (HCl.out wr q hqM.1 (HTr1.out.below HBl.out))
      have HAq := Lib.hid (fun B d W h => HAs.out B d W q hqM.1 hqM.2 h)
      clear hqM
      go_wp2_with fail
      refine HClq.out.mono ?_
      rintro e wa ⟨B, d, rfl, hRow, hba⟩
      have HRw := Lib.hid hRow
      have HOwA := Lib.hid (ownsRow_below HOw0.out hba)
      have HBlA := Lib.hid (below_nx HBl.out hba)
      clear hba hRow t0 t1 t2
      go_wp2_with fail
      refine (HAq.out B d _ HRw.out).mono ?_
      rintro e wt ⟨v, rfl, hv, hbt⟩
      have HR := Lib.hid hv
      have HOwW := Lib.hid (ownsRow_below HOwA.out hbt)
      have HBlW := Lib.hid (below_nx HBlA.out hbt)
      clear hbt hv
      have HN := Lib.hid (Blk.new wt 27 #[.float .f64 v])
      have HOw2 := Lib.hid (HOwW.out.alloc (.cells #[.float .f64 v] 27))
      go_wp2_with (at_builtin; refine wpList_append_own _ rfl _ _ 22 rfl w1.heap.size 27 i0 (.float .f64 0) 1 8 Try.underlying22 hi hz0 hz1 hz2 rfl (by decide) _ q (f64s L) rfl HOw2.out ⟨wt.heap.size, 0, none⟩ 1 1 [.float .f64 v] rfl rfl ?c1 (by intro u hu; simp at hu; subst hu; rfl) ?c3 ?c4 ?c5 ?_)
      case c1 =>
        intro j u hj
        match j, hj with
        | 0, hj =>
          have : u = .float .f64 v := by simpa using hj.symm
          subst this
          exact HN.out.cell 0
        | j + 1, hj => simp at hj
      case c3 => unfold maxLen; omega
      case c4 => omega
      case c5 => (try simp); have := HBlW.out.size; omega
      intro v' w' hown' hgrow _
      have HOw3 := Lib.hid (show w'.ownsRow w1.heap.size 27 1 v' (q + 1) (f64s (L ++ [v])) by rw [f64s_snoc]; exact hown')
      have HBl3 := Lib.hid ((HBlW.out.alloc HBlW.out.size (.cells #[.float .f64 v] 27)).grown hgrow (by simp; have := HBlW.out.size; omega) (fun k hk => by have := (HOw2.out.lt k hk).1; omega))
      clear hown' hgrow
      go_wp2_with fail
      go_roundw
      case rel => exact ⟨q + 1, L ++ [v], by omega, by go_num, Lib.hid ⟨by simp [HL.out.1], NrQ_all (R := fun q r => Is r (V.getD q 0)) HL.out.1 HL.out.2 HR.out⟩, HOw3.out, HBl3.out⟩
      case measure => simp [intOf]; omega
    · have hrow := own_row HOw0.out HL.out.1.symm
      have hend := HM2.out q hlt hq
      obtain ⟨B9, d9, rfl, hrow⟩ := hrow
      have HRow := Lib.hid hrow
      clear hrow
      obtain rfl : q = M := by omega
      by_cases hqc0 : q < R
      · have hqc : decide (q < R) = true := decide_eq_true hqc0
        have hqi : (q : Int) < (R : Int) := by omega
        obtain h0 : C = 0 := by rcases hend with h | h; exact absurd hqc0 h; exact h
        have hoc : decide (0 < C) = false := decide_eq_false (by omega)
        have hoi : ¬ (0 : Int) < (C : Int) := by omega
        clear hend hqc0 h0
        go_wp2_with fail
        refine (HGt.out B9 d9 q L _ (by omega) HL.out.1 HL.out.2 HRow.out).mono ?_
        rintro e w5 ⟨r, rfl, hr, hb⟩
        have HR := Lib.hid (And.intro hr (below_nx HBl.out hb))
        clear hr hb
        go_wp2_with fail
        go_ret
        exact ⟨r, rfl, HR.out.1, below_nx (by rw [Hzt.out]; exact HB0.out) HR.out.2⟩
      · have hqc : decide (q < R) = false := decide_eq_false hqc0
        have hqi : ¬ (q : Int) < (R : Int) := by omega
        clear hend hqc0
        go_wp2_with fail
        refine (HGt.out B9 d9 q L _ (by omega) HL.out.1 HL.out.2 HRow.out).mono ?_
        rintro e w5 ⟨r, rfl, hr, hb⟩
        have HR := Lib.hid (And.intro hr (below_nx HBl.out hb))
        clear hr hb
        go_wp2_with fail
        go_ret
        exact ⟨r, rfl, HR.out.1, below_nx (by rw [Hzt.out]; exact HB0.out) HR.out.2⟩

set_option maxRecDepth 100000 in
set_option maxHeartbeats 2000000 in
theorem r10most_any (A : Option Addr) (n c : Nat) (l : List Nat) (w : World) (hA : Row w A (f64s l)) (hW : Wds l) (hl : l.length = n) (hn : n < 1048576) :
    Calls Try.prog 19 #[.slice A n c] w fun e w' => ∃ r, e = .returned (.float .f64 r) ∧ Is r (gF (l.map absW) n) ∧ Below w.heap.size w w' := by
  obtain ⟨i0, hi, hz0, hz1, hz2⟩ := fi0
  have HA := Lib.hid hA
  have HW := Lib.hid hW
  have Hl := Lib.hid hl
  have HGt := Lib.hid (fun (B : Option Addr) (d : Nat) W (h : Row W B (f64s (l.map absW))) => rgreat5_any B n d (l.map absW) W h (abs_wds l) (by rw [List.length_map, hl]) hn)
  have HDn := Lib.hid (fun (m : List Nat) (hm : m.length = n) (h : ∀ j, j < n → m.getD j 0 = absW (l.getD j 0)) => show m = l.map absW from ext_getD (by rw [hm, List.length_map, hl]) (fun i hi => by rw [abs_getD, h i (by omega)]))
  clear hA hW hl
  go_enter Try.func19, Try.ntmps19
  go_wp2_with fail
  go_loopw [3, 4] (fun out i wr => ∃ (q : Nat) (L : List Nat), q ≤ n ∧ i = .int .i64 q ∧ Hid (L.length = q ∧ ∀ j, j < q → (fun q r => r = absW (l.getD q 0)) j (L.getD j 0)) ∧ wr.ownsRow w.heap.size 27 1 out q (f64s L) ∧ Below w.heap.size w wr) (fun _ i _ => n - (intOf i).toNat)
  case atStart => exact ⟨0, [], Nat.zero_le _, rfl, Lib.hid ⟨rfl, fun j h => by omega⟩, World.ownsRow_nil _ _ _ _, Below.refl _ _⟩
  case round =>
    obtain ⟨q, L, hq, rfl, HL, hown, hbl⟩ := hrel
    have HBl := Lib.hid hbl
    have HOw0 := Lib.hid hown
    clear hown hbl
    by_cases hlt : q < n
    · obtain ⟨b, o, rfl, hc0⟩ := HA.out.get0 (k := q) (by rw [Hl.out]; exact hlt)
      have hc := cell_below hc0 HBl.out
      have HXl := Lib.hid (getD_wds HW.out q)
      obtain ⟨x, hx⟩ : ∃ x, l.getD q 0 = x := ⟨_, rfl⟩
      rw [hx] at hc HXl
      have HR := Lib.hid (show absW x = absW (l.getD q 0) by rw [hx])
      have hqc : (q : Int) < (n : Int) := by omega
      have hq1 : q + 1 ≤ 1048576 := by omega
      clear hc0 hx
      go_wp2_with fail
      refine (rabs_any x _ HXl.out).mono ?_
      rintro e w3 ⟨rfl, rfl⟩
      generalize absW x = v at *
      have HOwW := HOw0
      have HBlW := HBl
      have HN := Lib.hid (Blk.new wr 27 #[.float .f64 v])
      have HOw2 := Lib.hid (HOwW.out.alloc (.cells #[.float .f64 v] 27))
      go_wp2_with (at_builtin; refine wpList_append_own _ rfl _ _ 22 rfl w.heap.size 27 i0 (.float .f64 0) 1 8 Try.underlying22 hi hz0 hz1 hz2 rfl (by decide) _ q (f64s L) rfl HOw2.out ⟨wr.heap.size, 0, none⟩ 1 1 [.float .f64 v] rfl rfl ?c1 (by intro u hu; simp at hu; subst hu; rfl) ?c3 ?c4 ?c5 ?_)
      case c1 =>
        intro j u hj
        match j, hj with
        | 0, hj =>
          have : u = .float .f64 v := by simpa using hj.symm
          subst this
          exact HN.out.cell 0
        | j + 1, hj => simp at hj
      case c3 => unfold maxLen; omega
      case c4 => omega
      case c5 => (try simp); have := HBlW.out.size; omega
      intro v' w' hown' hgrow _
      have HOw3 := Lib.hid (show w'.ownsRow w.heap.size 27 1 v' (q + 1) (f64s (L ++ [v])) by rw [f64s_snoc]; exact hown')
      have HBl3 := Lib.hid ((HBlW.out.alloc HBlW.out.size (.cells #[.float .f64 v] 27)).grown hgrow (by simp; have := HBlW.out.size; omega) (fun k hk => by have := (HOw2.out.lt k hk).1; omega))
      clear hown' hgrow
      go_wp2_with fail
      go_roundw
      case rel => exact ⟨q + 1, L ++ [v], by omega, by go_num, Lib.hid ⟨by simp [HL.out.1], NrQ_all (R := fun q r => r = absW (l.getD q 0)) HL.out.1 HL.out.2 HR.out⟩, HOw3.out, HBl3.out⟩
      case measure => simp [intOf]; omega
    · obtain rfl : q = n := by omega
      have hqc : ¬ (q : Int) < (q : Int) := by omega
      obtain ⟨B9, d9, rfl, hrow⟩ := own_row HOw0.out HL.out.1.symm
      have hL := HDn.out L HL.out.1 HL.out.2
      subst hL
      have HRow := Lib.hid hrow
      clear hrow
      go_wp2_with fail
      refine (HGt.out B9 d9 _ HRow.out).mono ?_
      rintro e w5 ⟨r, rfl, hr, hb⟩
      have HR := Lib.hid (And.intro hr (below_nx HBl.out hb))
      clear hr hb
      go_wp2_with fail
      go_ret
      exact ⟨r, rfl, HR.out.1, HR.out.2⟩
set_option maxHeartbeats 2000000 in
theorem r10max_any (R C gT N cT : Nat) (T : List Nat) (w : World) (hT : Row w (some ⟨gT, 0, none⟩) (f64s T)) (hW : Wds T) (hTl : T.length = N) (hN : N < 1048576) :
    Calls Try.prog 16 #[.agg #[.int .i64 R, .int .i64 C, .slice (some ⟨gT, 0, none⟩) N cT]] w fun e w' => ∃ r, e = .returned (.float .f64 r) ∧ Is r (gF (T.map absW) N) ∧ Below w.heap.size w w' := by
  have HM := Lib.hid (fun W (hb : Below w.heap.size w W) => r10most_any (some ⟨gT, 0, none⟩) N cT T W (hT.below hb) hW hTl hN)
  clear hT hW hTl hN
  have HZ := Lib.hid (Blk.new w 32 #[.int .i64 R, .int .i64 C, .slice (some ⟨gT, 0, none⟩) N cT])
  have HB0 := Lib.hid ((Below.refl w.heap.size w).alloc (Nat.le_refl _) (.cells #[.int .i64 R, .int .i64 C, .slice (some ⟨gT, 0, none⟩) N cT] 32))
  obtain ⟨t0, t1, t2⟩ := cells3v HZ.out
  go_enter Try.func16, Try.ntmps16
  go_wp2_with fail
  refine (HM.out _ HB0.out).mono ?_
  rintro e w1 ⟨r, rfl, hr, hb⟩
  have HR := Lib.hid (And.intro hr (below_nx HB0.out hb))
  clear hr hb t0 t1 t2
  go_wp2_with fail
  go_ret
  exact ⟨r, rfl, HR.out.1, HR.out.2⟩

end Go.Proofs.Ytbdlfaclakppgaa
/-
Norms: the greatest number of a matrix; the law's example; NormsVectors. Conditions: as each says.
-/
set_option linter.unusedVariables false
set_option linter.unusedSimpArgs false
set_option linter.unnecessarySimpa false
namespace Go.Proofs.Ytbdlfaclakppgaa
open Go.RowKit
attribute [local go_sem ↓] Go.wp_at_zero Go.wp_at_succ

/-- The greatest of the rows' greatest is the greatest of all. -/
theorem grp_rowM {l : List Nat} {o R C L : Nat} : GrP (fun x => ∃ i, i < R ∧ ∃ j, j < C ∧ x = absW (l.getD (o + i + j * L) 0)) (gF (rowM l o R C L) R) := by
  refine GrP.union (P := fun i x => ∃ j, j < C ∧ x = absW (l.getD (o + i + j * L) 0)) (V := fun i => gF ((colsL l (o + i) 1 L C).map absW) C) (fun i _ => ?_) ?_
  · refine (GrP.gF (abs_wds (colsL l (o + i) 1 L C)) C).congr fun x => ?_
    have e : ∀ k, k < C → ((colsL l (o + i) 1 L C).map absW).getD k 0 = absW (l.getD (o + i + k * L) 0) := fun k hk => by
      rw [abs_getD]
      have := colsL_getD l (o + i) 1 L (a := 0) (b := k) (by omega) hk
      rw [Nat.mul_one, Nat.add_zero] at this
      rw [this, Nat.add_zero]
    constructor
    · rintro ⟨k, hk, h⟩; exact ⟨k, hk, by rw [h, e k hk]⟩
    · rintro ⟨k, hk, h⟩; exact ⟨k, hk, by rw [h, e k hk]⟩
  · refine (GrP.gF (nrmap_wds _ (fun k => gF_lt (abs_wds _) _)) R).congr fun x => ?_
    constructor
    · rintro ⟨k, hk, h⟩
      rw [nrmap_getD hk] at h
      exact ⟨k, hk, h⟩
    · rintro ⟨k, hk, h⟩
      exact ⟨k, hk, by rw [nrmap_getD hk]; exact h⟩
theorem grp_tab {l T : List Nat} {o R C L N : Nat} (h : Tab l o R C L N T) (hN : R * C = N) : GrP (fun x => ∃ i, i < R ∧ ∃ j, j < C ∧ x = absW (l.getD (o + i + j * L) 0)) (gF (T.map absW) N) := by
  refine (GrP.gF (abs_wds T) N).congr fun x => ?_
  constructor
  · rintro ⟨k, hk, e⟩
    rw [abs_getD] at e
    have hC : 0 < C := by
      rcases Nat.eq_zero_or_pos C with h0 | h0
      · subst h0; simp at hN; omega
      · exact h0
    have hi : k / C < R := Nat.div_lt_of_lt_mul (by rw [Nat.mul_comm, hN]; exact hk)
    have hj : k % C < C := Nat.mod_lt _ hC
    have hk2 : k / C * C + k % C = k := by rw [Nat.mul_comm]; exact Nat.div_add_mod k C
    refine ⟨k / C, hi, k % C, hj, ?_⟩
    rw [e, ← tab_get h hN hi hj, hk2]
  · rintro ⟨i, hi, j, hj, e⟩
    refine ⟨i * C + j, by rw [← hN]; exact tab_lt hi hj, ?_⟩
    rw [abs_getD, tab_get h hN hi hj]; exact e
theorem nrZ3_tab {l T : List Nat} {o R C L N : Nat} (h : Tab l o R C L N T) (hN : R * C = N) : Is (gF (T.map absW) N) (nrZ3 l o R C L) := by
  unfold nrZ3
  by_cases h0 : R = 0 ∨ C = 0
  · rw [if_pos h0]
    have : N = 0 := by rw [← hN]; rcases h0 with h | h <;> rw [h] <;> simp
    subst this
    exact is_zero
  · rw [if_neg h0]
    exact GrP.unique (grp_tab h hN) grp_rowM
theorem nr_colT {l T : List Nat} {o R C L N : Nat} (h : Tab l o R C L N T) (hN : R * C = N) (q : Nat) (hq : q < C) : asumF (lst T q C R) R = (colS l o R C L).getD q 0 := by
  unfold colS
  rw [nrmap_getD hq]
  congr 1
  refine ext_getD (by rw [lst_length, lst_length]) fun i hi => ?_
  rw [lst_length] at hi
  rw [lst_getD T q C hi, lst_getD l (o + q * L) 1 hi, Nat.add_comm q, tab_get h hN hi hq]
  congr 1
  omega
theorem nr_rowT {l T : List Nat} {o R C L N : Nat} (h : Tab l o R C L N T) (hN : R * C = N) (q : Nat) (hq : q < R) : asumF (lst T (q * C) 1 C) C = (rowS l o R C L).getD q 0 := by
  unfold rowS
  rw [nrmap_getD hq]
  congr 1
  refine ext_getD (by rw [lst_length, lst_length]) fun i hi => ?_
  rw [lst_length] at hi
  rw [lst_getD T (q * C) 1 hi, lst_getD l (o + q) L hi, Nat.mul_one, tab_get h hN hq hi]
theorem colS_wds (l : List Nat) (o R C L : Nat) : Wds (colS l o R C L) := nrmap_wds _ (fun k => asumF_lt _ _)
theorem rowS_wds (l : List Nat) (o R C L : Nat) : Wds (rowS l o R C L) := nrmap_wds _ (fun k => asumF_lt _ _)
/-- 1, -2, 3, 4, row by row, column by column. -/
def exN1 : List Nat := [4607182418800017408, 13835058055282163712, 4613937818241073152, 4616189618054758400]
def exN2 : List Nat := [4607182418800017408, 4613937818241073152, 13835058055282163712, 4616189618054758400]
theorem exN1_wds : Wds exN1 := by intro b hb; simp [exN1] at hb; omega
theorem exN2_wds : Wds exN2 := by intro b hb; simp [exN2] at hb; omega
theorem exN_1 : nrZ1 exN2 0 2 2 2 = 4618441417868443648 := by decide +kernel
theorem exN_2 : nrZ2 exN2 0 2 2 2 = 4619567317775286272 := by decide +kernel
theorem exN_3 : nrZ3 exN2 0 2 2 2 = 4616189618054758400 := by decide +kernel
theorem exE_1 : (FloatKind.f64.format.order 4618441417868443648 4618441417868443648 == some .eq) = true := by decide +kernel
theorem exE_2 : (FloatKind.f64.format.order 4619567317775286272 4619567317775286272 == some .eq) = true := by decide +kernel
theorem exE_3 : (FloatKind.f64.format.order 4616189618054758400 4616189618054758400 == some .eq) = true := by decide +kernel
theorem exE_0 : (FloatKind.f64.format.order 0 0 == some .eq) = true := by decide +kernel

set_option maxRecDepth 100000 in
set_option maxHeartbeats 2000000 in
theorem awake10_any (w : World) : Calls Try.prog 6 #[] w fun e w' => e = .returned (.bool true) ∧ Below w.heap.size w w' := by
  have z0 : I64 0 := by unfold I64; omega
  have z2 : I64 2 := by unfold I64; omega
  have HBd := Lib.hid (fun W => show Calls Try.prog 8 #[.agg #[.slice none 0 0, .int .i64 0, .int .i64 0, .int .i64 0, .int .i64 0]] W fun e w' => e = .returned (.tuple #[.float .f64 0, .int .i64 1]) ∧ Below W.heap.size W w' from
    nrone_bad none 0 0 0 0 0 0 W (by omega) z0 z0 z0 z0 (by decide))
  have HDn := Lib.hid (fun W (A : Option Addr) (hA : Row W A (f64s exN1)) => show Calls Try.prog 21 #[.int .i64 2, .int .i64 2, .slice A 4 4] W fun e w' => ∃ g, e = .returned (.agg #[.slice (some ⟨g, 0, none⟩) 4 4, .int .i64 0, .int .i64 2, .int .i64 2, .int .i64 2]) ∧ Own w' g exN2 ∧ Below W.heap.size W w' from by
    refine (dense_blk A 4 exN1 2 2 W (by omega) (by omega) hA (by decide) (by decide)).mono ?_
    rintro e w' ⟨g', M, rfl, hd, hB, hg, hb⟩
    obtain rfl := dense_ex hd
    exact ⟨g', rfl, own_blk hB, hb⟩)
  have Hnrone := Lib.hid (fun (g : Nat) W (hO : Own W g exN2) => show Calls Try.prog 8 #[.agg #[.slice (some ⟨g, 0, none⟩) 4 4, .int .i64 0, .int .i64 2, .int .i64 2, .int .i64 2]] W fun e w' => e = .returned (.tuple #[.float .f64 4618441417868443648, .int .i64 0]) ∧ Below W.heap.size W w' from by
    refine (nrone_any (some ⟨g, 0, none⟩) 4 4 exN2 0 2 2 2 W hO.row exN2_wds rfl (by omega) z0 z2 (by omega) (by omega) (by omega) (by omega) (by omega)).mono ?_
    rintro e w' ⟨r, rfl, hr, hb⟩
    rw [exN_1] at hr
    exact ⟨by rw [hr.eq_of (by decide)], hb⟩)
  have Hnrinf := Lib.hid (fun (g : Nat) W (hO : Own W g exN2) => show Calls Try.prog 9 #[.agg #[.slice (some ⟨g, 0, none⟩) 4 4, .int .i64 0, .int .i64 2, .int .i64 2, .int .i64 2]] W fun e w' => e = .returned (.tuple #[.float .f64 4619567317775286272, .int .i64 0]) ∧ Below W.heap.size W w' from by
    refine (nrinf_any (some ⟨g, 0, none⟩) 4 4 exN2 0 2 2 2 W hO.row exN2_wds rfl (by omega) z0 z2 (by omega) (by omega) (by omega) (by omega) (by omega)).mono ?_
    rintro e w' ⟨r, rfl, hr, hb⟩
    rw [exN_2] at hr
    exact ⟨by rw [hr.eq_of (by decide)], hb⟩)
  have Hnrmax := Lib.hid (fun (g : Nat) W (hO : Own W g exN2) => show Calls Try.prog 10 #[.agg #[.slice (some ⟨g, 0, none⟩) 4 4, .int .i64 0, .int .i64 2, .int .i64 2, .int .i64 2]] W fun e w' => e = .returned (.tuple #[.float .f64 4616189618054758400, .int .i64 0]) ∧ Below W.heap.size W w' from by
    refine (nrmax_any (some ⟨g, 0, none⟩) 4 4 exN2 0 2 2 2 W hO.row exN2_wds rfl (by omega) (by omega) z0 z2 (by omega) (by omega) (by omega) (by omega) (by omega)).mono ?_
    rintro e w' ⟨r, rfl, hr, hb⟩
    rw [exN_3] at hr
    exact ⟨by rw [hr.eq_of (by decide)], hb⟩)
  have hq1 := exE_1
  have hq2 := exE_2
  have hq3 := exE_3
  clear z0 z2
  go_enter Try.func6, Try.ntmps6
  go_wp2_with fail
  refine (HBd.out _).mono ?_
  rintro e w1 ⟨rfl, hb⟩
  have HB1 := Lib.hid hb
  clear hb
  go_wp2_with fail
  have HR1 := Lib.hid (own_blk (Blk.new w1 27 (f64s exN1).toArray)).row
  have HB2 := Lib.hid (below_al HB1.out (o := (.cells (f64s exN1).toArray 27)))
  refine (HDn.out _ _ HR1.out).mono ?_
  rintro e w2 ⟨g, rfl, hO, hb⟩
  have HB3 := Lib.hid (below_al (below_nx HB2.out hb) (o := (.cells #[.slice (some ⟨g, 0, none⟩) 4 4, .int .i64 0, .int .i64 2, .int .i64 2, .int .i64 2] 24)))
  have HM3 := Lib.hid (Blk.new w2 24 #[.slice (some ⟨g, 0, none⟩) 4 4, .int .i64 0, .int .i64 2, .int .i64 2, .int .i64 2])
  have HO3 := Lib.hid (hO.nxt (below_one (o := (.cells #[.slice (some ⟨g, 0, none⟩) 4 4, .int .i64 0, .int .i64 2, .int .i64 2, .int .i64 2] 24))))
  clear hb hO
  obtain ⟨m0, m1, m2, m3, m4⟩ := cells5 HM3.out
  go_wp2_with fail
  refine (Hnrone.out g _ HO3.out).mono ?_
  rintro e w4 ⟨rfl, hb⟩
  have HB4 := Lib.hid (below_nx HB3.out hb)
  have HM4 := Lib.hid (HM3.out.nxt hb)
  have HO4 := Lib.hid (HO3.out.nxt hb)
  clear hb m0 m1 m2 m3 m4
  obtain ⟨m0, m1, m2, m3, m4⟩ := cells5 HM4.out
  go_wp2_with fail
  refine (Hnrinf.out g _ HO4.out).mono ?_
  rintro e w5 ⟨rfl, hb⟩
  have HB5 := Lib.hid (below_nx HB4.out hb)
  have HM5 := Lib.hid (HM4.out.nxt hb)
  have HO5 := Lib.hid (HO4.out.nxt hb)
  clear hb m0 m1 m2 m3 m4
  obtain ⟨m0, m1, m2, m3, m4⟩ := cells5 HM5.out
  go_wp2_with fail
  refine (Hnrmax.out g _ HO5.out).mono ?_
  rintro e w6 ⟨rfl, hb⟩
  have HB6 := Lib.hid (below_nx HB5.out hb)
  clear hb m0 m1 m2 m3 m4
  go_wp2_with fail
  go_ret
  exact ⟨rfl, HB6.out⟩
set_option maxHeartbeats 2000000 in
theorem normsVectors_n (A : Option Addr) (n c : Nat) (l : List Nat) (w : World) (hA : Row w A (f64s l)) (hW : Wds l) (hl : l.length = n) (hn : n < 9223372036854775808) :
    Calls Try.prog 4 #[.slice A n c] w fun e w' => e = .returned (.bool true) ∧ Below w.heap.size w w' := by
  have HA := Lib.hid hA
  have HW := Lib.hid hW
  have Hl := Lib.hid hl
  clear hA hW hl
  go_enter Try.func4, Try.ntmps4
  go_wp2_with fail
  refine (awake10_any _).mono ?_
  rintro e w1 ⟨rfl, hb⟩
  have HB1 := Lib.hid hb
  clear hb
  by_cases hlg : (100 : Int) < (n : Int)
  · go_wp2_with fail
    refine (awake10_any _).mono ?_
    rintro e w2 ⟨rfl, hb⟩
    have HB2 := Lib.hid (below_nx HB1.out hb)
    clear hb
    go_wp2_with fail
    go_ret
    exact ⟨rfl, HB2.out⟩
  have hn2 : n < 1048576 := by omega
  go_wp2_with fail
  refine (nrvector_any A n c l _ (HA.out.below HB1.out) HW.out Hl.out hn2).mono ?_
  rintro e w2 ⟨r1, r2, rfl, h1, h2, hb⟩
  have HR1 := Lib.hid h1
  have HR2 := Lib.hid h2
  have HB2 := Lib.hid (below_nx HB1.out hb)
  clear h1 h2 hb
  go_wp2_with fail
  refine (rasum_any A n c l _ (HA.out.below HB2.out) HW.out Hl.out hn2).mono ?_
  rintro e w3 ⟨s1, rfl, h1, hb⟩
  have HS1 := Lib.hid h1
  have HB3 := Lib.hid (below_nx HB2.out hb)
  clear h1 hb
  go_wp2_with fail
  refine (rsame_v r1 s1 _ HR1.out.lt HS1.out.lt).mono ?_
  rw [HR1.out.same HS1.out]
  rintro e w4 ⟨rfl, rfl⟩
  go_wp2_with fail
  refine (r10most_any A n c l _ (HA.out.below HB3.out) HW.out Hl.out hn2).mono ?_
  rintro e w5 ⟨s2, rfl, h2, hb⟩
  have HS2 := Lib.hid h2
  have HB5 := Lib.hid (below_nx HB3.out hb)
  clear h2 hb
  go_wp2_with fail
  refine (rsame_v r2 s2 _ HR2.out.lt HS2.out.lt).mono ?_
  rw [HR2.out.same HS2.out]
  rintro e w6 ⟨rfl, rfl⟩
  go_wp2_with fail
  refine (awake10_any _).mono ?_
  rintro e w7 ⟨rfl, hb⟩
  have HB7 := Lib.hid (below_nx HB5.out hb)
  clear hb
  go_wp2_with fail
  go_ret
  exact ⟨rfl, HB7.out⟩
theorem normsVectors_walk (A : Option Addr) (c : Nat) (l : List Nat) (w : World) (hA : Row w A (f64s l)) (hW : Wds l) (hn : l.length < 9223372036854775808) :
    Calls Try.prog 4 #[.slice A l.length c] w fun e w' => e = .returned (.bool true) ∧ Below w.heap.size w w' := normsVectors_n A _ c l w hA hW rfl hn

end Go.Proofs.Ytbdlfaclakppgaa
/-
NormsTell. Conditions: none.
-/
set_option linter.unusedVariables false
set_option linter.unusedSimpArgs false
set_option linter.unnecessarySimpa false
namespace Go.Proofs.Ytbdlfaclakppgaa
open Go.RowKit
attribute [local go_sem ↓] Go.wp_at_zero Go.wp_at_succ

set_option maxHeartbeats 2000000 in
theorem normsTell_great (Am : Option Addr) (nm cm : Nat) (mo mr mk ml : Int) (w : World) (h : greatB nm mr mk = true) : Calls Try.prog 3 #[mat Am nm cm mo mr mk ml] w fun e w' => e = .returned (.bool true) ∧ Below w.heap.size w w' := by
  have HGr := Lib.hid (fun W => great_any Am nm cm mo mr mk ml W)
  rw [h] at HGr
  clear h
  unfold mat at *
  go_enter Try.func3, Try.ntmps3
  have Hm0 := Lib.hid (Blk.new w 24 #[.slice Am nm cm, .int .i64 mo, .int .i64 mr, .int .i64 mk, .int .i64 ml])
  have HB0 := Lib.hid ((Below.refl w.heap.size w).alloc (Nat.le_refl _) (.cells #[.slice Am nm cm, .int .i64 mo, .int .i64 mr, .int .i64 mk, .int .i64 ml] 24))
  obtain ⟨m0, m1, m2, m3, m4⟩ := cells5 Hm0.out
  go_wp2_with fail
  refine (awake10_any _).mono ?_
  rintro e w1 ⟨rfl, hb⟩
  have Hm1 := Lib.hid (Hm0.out.nxt hb)
  have HB1 := Lib.hid (below_nx HB0.out hb)
  clear hb
  clear m0 m1 m2 m3 m4
  obtain ⟨m0, m1, m2, m3, m4⟩ := cells5 Hm1.out
  go_wp2_with fail
  refine (HGr.out _).mono ?_
  rintro e w2 ⟨rfl, hb⟩
  have Hm2 := Lib.hid (Hm1.out.nxt hb)
  have HB2 := Lib.hid (below_nx HB1.out hb)
  clear hb
  clear m0 m1 m2 m3 m4
  obtain ⟨m0, m1, m2, m3, m4⟩ := cells5 Hm2.out
  go_wp2_with fail
  refine (awake10_any _).mono ?_
  rintro e w3 ⟨rfl, hb⟩
  have Hm3 := Lib.hid (Hm2.out.nxt hb)
  have HB3 := Lib.hid (below_nx HB2.out hb)
  clear hb
  clear m0 m1 m2 m3 m4
  obtain ⟨m0, m1, m2, m3, m4⟩ := cells5 Hm3.out
  go_wp2_with fail
  go_ret
  exact ⟨rfl, HB3.out⟩

set_option maxRecDepth 100000 in
set_option maxHeartbeats 2000000 in
theorem normsTell_bad (Am : Option Addr) (nm cm : Nat) (mo mr mk ml : Int) (w : World) (hn : nm ≤ 1000) (hmo : I64 mo) (hmr : I64 mr) (hmk : I64 mk) (hml : I64 ml) (hG : greatB nm mr mk = false) (h : matB nm mo mr mk ml = false) : Calls Try.prog 3 #[mat Am nm cm mo mr mk ml] w fun e w' => e = .returned (.bool true) ∧ Below w.heap.size w w' := by
  have HGr := Lib.hid (fun W => great_any Am nm cm mo mr mk ml W)
  rw [hG] at HGr
  have H1 := Lib.hid (fun W => nrone_bad Am nm cm mo mr mk ml W (by omega) hmo hmr hmk hml h)
  have H2 := Lib.hid (fun W => nrinf_bad Am nm cm mo mr mk ml W (by omega) hmo hmr hmk hml h)
  have H3 := Lib.hid (fun W => nrmax_bad Am nm cm mo mr mk ml W (by omega) hmo hmr hmk hml h)
  have HGm := Lib.hid (fun W => rgood_any Am nm cm mo mr mk ml W (by omega) hmo hmr hmk hml)
  rw [h] at HGm
  have hq0 := exE_0
  clear h hG hn hmo hmr hmk hml
  unfold mat at *
  go_enter Try.func3, Try.ntmps3
  have Hm0 := Lib.hid (Blk.new w 24 #[.slice Am nm cm, .int .i64 mo, .int .i64 mr, .int .i64 mk, .int .i64 ml])
  have HB0 := Lib.hid ((Below.refl w.heap.size w).alloc (Nat.le_refl _) (.cells #[.slice Am nm cm, .int .i64 mo, .int .i64 mr, .int .i64 mk, .int .i64 ml] 24))
  obtain ⟨m0, m1, m2, m3, m4⟩ := cells5 Hm0.out
  go_wp2_with fail
  refine (awake10_any _).mono ?_
  rintro e w1 ⟨rfl, hb⟩
  have Hm1 := Lib.hid (Hm0.out.nxt hb)
  have HB1 := Lib.hid (below_nx HB0.out hb)
  clear hb
  clear m0 m1 m2 m3 m4
  obtain ⟨m0, m1, m2, m3, m4⟩ := cells5 Hm1.out
  go_wp2_with fail
  refine (HGr.out _).mono ?_
  rintro e w2 ⟨rfl, hb⟩
  have Hm2 := Lib.hid (Hm1.out.nxt hb)
  have HB2 := Lib.hid (below_nx HB1.out hb)
  clear hb
  clear m0 m1 m2 m3 m4
  obtain ⟨m0, m1, m2, m3, m4⟩ := cells5 Hm2.out
  go_wp2_with fail
  refine (H1.out _).mono ?_
  rintro e w3 ⟨rfl, hb⟩
  have Hm3 := Lib.hid (Hm2.out.nxt hb)
  have HB3 := Lib.hid (below_nx HB2.out hb)
  clear hb
  clear m0 m1 m2 m3 m4
  obtain ⟨m0, m1, m2, m3, m4⟩ := cells5 Hm3.out
  go_wp2_with fail
  refine (H2.out _).mono ?_
  rintro e w4 ⟨rfl, hb⟩
  have Hm4 := Lib.hid (Hm3.out.nxt hb)
  have HB4 := Lib.hid (below_nx HB3.out hb)
  clear hb
  clear m0 m1 m2 m3 m4
  obtain ⟨m0, m1, m2, m3, m4⟩ := cells5 Hm4.out
  go_wp2_with fail
  refine (H3.out _).mono ?_
  rintro e w5 ⟨rfl, hb⟩
  have Hm5 := Lib.hid (Hm4.out.nxt hb)
  have HB5 := Lib.hid (below_nx HB4.out hb)
  clear hb
  clear m0 m1 m2 m3 m4
  obtain ⟨m0, m1, m2, m3, m4⟩ := cells5 Hm5.out
  go_wp2_with fail
  refine (HGm.out _).mono ?_
  rintro e w6 ⟨rfl, hb⟩
  have Hm6 := Lib.hid (Hm5.out.nxt hb)
  have HB6 := Lib.hid (below_nx HB5.out hb)
  clear hb
  clear m0 m1 m2 m3 m4
  obtain ⟨m0, m1, m2, m3, m4⟩ := cells5 Hm6.out
  go_wp2_with fail
  refine (awake10_any _).mono ?_
  rintro e w7 ⟨rfl, hb⟩
  have Hm7 := Lib.hid (Hm6.out.nxt hb)
  have HB7 := Lib.hid (below_nx HB6.out hb)
  clear hb
  clear m0 m1 m2 m3 m4
  obtain ⟨m0, m1, m2, m3, m4⟩ := cells5 Hm7.out
  go_wp2_with fail
  go_ret
  exact ⟨rfl, HB7.out⟩


theorem wds_tab {l T : List Nat} {o R C L N : Nat} (h : Tab l o R C L N T) (hW : Wds l) (hN : R * C = N) : Wds T := by
  intro b hb2
  obtain ⟨k, hk, rfl⟩ := List.mem_iff_getElem.1 hb2
  rw [← getD_of_lt hk]
  have hk2 : k < R * C := by rw [h.1] at hk; exact hk
  have hC0 : 0 < C := by
    rcases Nat.eq_zero_or_pos C with e | e
    · subst e; simp at hk2
    · exact e
  have e2 : k = k / C * C + k % C := by rw [Nat.mul_comm]; exact (Nat.div_add_mod k C).symm
  rw [e2, tab_get h hN (Nat.div_lt_of_lt_mul (by rw [Nat.mul_comm]; exact hk2)) (Nat.mod_lt _ hC0)]
  exact getD_wds hW _
set_option maxRecDepth 100000 in
set_option maxHeartbeats 2000000 in
theorem normsTell_ok (Am : Option Addr) (nm cm : Nat) (lm : List Nat) (o R C L : Nat) (w : World) (hAm : Row w Am (f64s lm)) (hWm : Wds lm) (hlm : lm.length = nm) (hnc : nm ≤ cm) (hn : nm ≤ 1000) (hoI : I64 o) (hLI : I64 L) (hR : R ≤ 20) (hC : C ≤ 20) (hL1 : 1 ≤ L) (hRL : R ≤ L) (hmr : R = 0 ∨ C = 0 ∨ o + (C - 1) * L + (R - 1) < nm) :
    Calls Try.prog 3 #[mat Am nm cm o R C L] w fun e w' => e = .returned (.bool true) ∧ Below w.heap.size w w' := by
  have hG : greatB nm (R : Int) (C : Int) = false := by unfold greatB; simp; omega
  have HGr := Lib.hid (fun W => great_any Am nm cm o R C L W)
  rw [hG] at HGr
  have HGm := Lib.hid (fun W => rgood_any Am nm cm o R C L W (by omega) hoI (by unfold I64; omega) (by unfold I64; omega) hLI)
  rw [mat_right hL1 hRL hmr] at HGm
  have H1 := Lib.hid (fun W (hb : Below w.heap.size w W) => nrone_any Am nm cm lm o R C L W (hAm.below hb) hWm hlm (by omega) hoI hLI (by omega) (by omega) hL1 hRL hmr)
  have H2 := Lib.hid (fun W (hb : Below w.heap.size w W) => nrinf_any Am nm cm lm o R C L W (hAm.below hb) hWm hlm (by omega) hoI hLI (by omega) (by omega) hL1 hRL hmr)
  have H3 := Lib.hid (fun W (hb : Below w.heap.size w W) => nrmax_any Am nm cm lm o R C L W (hAm.below hb) hWm hlm hnc (by omega) hoI hLI (by omega) (by omega) hL1 hRL hmr)
  obtain ⟨N, hN⟩ : ∃ N, R * C = N := ⟨_, rfl⟩
  have hNb : N ≤ 400 := by
    have h1 : R * C ≤ 20 * 20 := Nat.mul_le_mul hR hC
    omega
  have HOf := Lib.hid (fun W (hb : Below w.heap.size w W) => show Calls Try.prog 12 #[mat Am nm cm o R C L] W fun e w' => ∃ g T, e = .returned (tbl R C g N N) ∧ Tab lm o R C L N T ∧ Row w' (some ⟨g, 0, none⟩) (f64s T) ∧ Below W.heap.size W w' from by
    refine (rof_any Am nm cm lm o R C L N W (hAm.below hb) hlm (by omega) hN (by omega) (by omega) (by omega) hmr).mono ?_
    rintro e w' ⟨g', T, e1, e2, e3, _, e4⟩
    exact ⟨g', T, e1, e2, e3, e4⟩)
  have HQ1 := Lib.hid (fun g T W (hb : Below w.heap.size w W) (hT : Tab lm o R C L N T) (h : Row W (some ⟨g, 0, none⟩) (f64s T)) => show Calls Try.prog 14 #[.agg #[.int .i64 (R : Int), .int .i64 (C : Int), .slice (some ⟨g, 0, none⟩) N N]] W fun e w' => ∃ r, e = .returned (.float .f64 r) ∧ Is r (nrZ1 lm o R C L) ∧ Below W.heap.size W w' from by
    exact r10one_any R C g N N T (colS lm o R C L) W h (wds_tab hT hWm hN) (by rw [hT.1, hN]) (by omega) hN (by omega) (by omega) (colS_wds _ _ _ _ _) (fun q hq _ => nr_colT hT hN q hq))
  have HQ2 := Lib.hid (fun g T W (hb : Below w.heap.size w W) (hT : Tab lm o R C L N T) (h : Row W (some ⟨g, 0, none⟩) (f64s T)) => show Calls Try.prog 15 #[.agg #[.int .i64 (R : Int), .int .i64 (C : Int), .slice (some ⟨g, 0, none⟩) N N]] W fun e w' => ∃ r, e = .returned (.float .f64 r) ∧ Is r (nrZ2 lm o R C L) ∧ Below W.heap.size W w' from by
    exact r10inf_any R C g N N T (rowS lm o R C L) W h (wds_tab hT hWm hN) (by rw [hT.1, hN]) (by omega) hN (by omega) (by omega) (rowS_wds _ _ _ _ _) (fun q hq _ => nr_rowT hT hN q hq))
  have HQ3 := Lib.hid (fun g T W (hb : Below w.heap.size w W) (hT : Tab lm o R C L N T) (h : Row W (some ⟨g, 0, none⟩) (f64s T)) => show Calls Try.prog 16 #[.agg #[.int .i64 (R : Int), .int .i64 (C : Int), .slice (some ⟨g, 0, none⟩) N N]] W fun e w' => ∃ r, e = .returned (.float .f64 r) ∧ Is r (nrZ3 lm o R C L) ∧ Below W.heap.size W w' from by
    refine (r10max_any R C g N N T W h (wds_tab hT hWm hN) (by rw [hT.1, hN]) (by omega)).mono ?_
    rintro e w' ⟨r, e1, hr, hb'⟩
    exact ⟨r, e1, hr.trans (nrZ3_tab hT hN), hb'⟩)
  generalize nrZ1 lm o R C L = z1 at *
  generalize nrZ2 lm o R C L = z2 at *
  generalize nrZ3 lm o R C L = z3 at *
  clear hAm hWm hlm hnc hn hoI hLI hR hC hL1 hRL hmr hG hN hNb
  unfold mat tbl at *
  go_enter Try.func3, Try.ntmps3
  have Hm0 := Lib.hid (Blk.new w 24 #[.slice Am nm cm, .int .i64 (o : Int), .int .i64 (R : Int), .int .i64 (C : Int), .int .i64 (L : Int)])
  have HB0 := Lib.hid ((Below.refl w.heap.size w).alloc (Nat.le_refl _) (.cells #[.slice Am nm cm, .int .i64 (o : Int), .int .i64 (R : Int), .int .i64 (C : Int), .int .i64 (L : Int)] 24))
  obtain ⟨m0, m1, m2, m3, m4⟩ := cells5 Hm0.out
  go_wp2_with fail
  refine (awake10_any _).mono ?_
  rintro e w1 ⟨rfl, hb⟩
  have Hm1 := Lib.hid (Hm0.out.nxt hb)
  have HB1 := Lib.hid (below_nx HB0.out hb)
  clear hb
  clear m0 m1 m2 m3 m4
  obtain ⟨m0, m1, m2, m3, m4⟩ := cells5 Hm1.out
  go_wp2_with fail
  refine (HGr.out _).mono ?_
  rintro e w2 ⟨rfl, hb⟩
  have Hm2 := Lib.hid (Hm1.out.nxt hb)
  have HB2 := Lib.hid (below_nx HB1.out hb)
  clear hb
  clear m0 m1 m2 m3 m4
  obtain ⟨m0, m1, m2, m3, m4⟩ := cells5 Hm2.out
  go_wp2_with fail
  refine (H1.out _ HB2.out).mono ?_
  rintro e wp1 ⟨r1, rfl, hr, hb⟩
  have HR1 := Lib.hid hr
  clear hr
  have Hm3 := Lib.hid (Hm2.out.nxt hb)
  have HB3 := Lib.hid (below_nx HB2.out hb)
  clear hb
  clear m0 m1 m2 m3 m4
  obtain ⟨m0, m1, m2, m3, m4⟩ := cells5 Hm3.out
  go_wp2_with fail
  refine (H2.out _ HB3.out).mono ?_
  rintro e wp2 ⟨r2, rfl, hr, hb⟩
  have HR2 := Lib.hid hr
  clear hr
  have Hm4 := Lib.hid (Hm3.out.nxt hb)
  have HB4 := Lib.hid (below_nx HB3.out hb)
  clear hb
  clear m0 m1 m2 m3 m4
  obtain ⟨m0, m1, m2, m3, m4⟩ := cells5 Hm4.out
  go_wp2_with fail
  refine (H3.out _ HB4.out).mono ?_
  rintro e wp3 ⟨r3, rfl, hr, hb⟩
  have HR3 := Lib.hid hr
  clear hr
  have Hm5 := Lib.hid (Hm4.out.nxt hb)
  have HB5 := Lib.hid (below_nx HB4.out hb)
  clear hb
  clear m0 m1 m2 m3 m4
  obtain ⟨m0, m1, m2, m3, m4⟩ := cells5 Hm5.out
  go_wp2_with fail
  refine (HGm.out _).mono ?_
  rintro e w6 ⟨rfl, hb⟩
  have Hm6 := Lib.hid (Hm5.out.nxt hb)
  have HB6 := Lib.hid (below_nx HB5.out hb)
  clear hb
  clear m0 m1 m2 m3 m4
  obtain ⟨m0, m1, m2, m3, m4⟩ := cells5 Hm6.out
  go_wp2_with fail
  refine (HOf.out _ HB6.out).mono ?_
  rintro e wf ⟨gT, T, rfl, hT, hRw, hb⟩
  have HTt := Lib.hid hT
  have Hm7 := Lib.hid (Hm6.out.nxt hb)
  have HB7 := Lib.hid (below_nx HB6.out hb)
  clear hb
  clear m0 m1 m2 m3 m4
  obtain ⟨m0, m1, m2, m3, m4⟩ := cells5 Hm7.out
  have HT7 := Lib.hid hRw
  clear hT hRw
  have hb9 : Below wf.heap.size wf (wf.alloc (.cells #[.int .i64 (R : Int), .int .i64 (C : Int), .slice (some ⟨gT, 0, none⟩) N N] 32)) := below_one
  have Hm8 := Lib.hid (Hm7.out.nxt hb9)
  have HT8 := Lib.hid (HT7.out.below hb9)
  have HB8 := Lib.hid (below_nx HB7.out hb9)
  have Ht8 := Lib.hid (Blk.new wf 32 #[.int .i64 (R : Int), .int .i64 (C : Int), .slice (some ⟨gT, 0, none⟩) N N])
  clear hb9
  clear m0 m1 m2 m3 m4
  obtain ⟨m0, m1, m2, m3, m4⟩ := cells5 Hm8.out
  obtain ⟨t0, t1, t2⟩ := cells3v Ht8.out
  go_wp2_with fail
  refine (HQ1.out gT T _ HB8.out HTt.out HT8.out).mono ?_
  rintro e wq1 ⟨s1, rfl, hr, hb⟩
  have HS1 := Lib.hid hr
  clear hr
  have Hm9 := Lib.hid (Hm8.out.nxt hb)
  have Ht9 := Lib.hid (Ht8.out.nxt hb)
  have HT9 := Lib.hid (HT8.out.below hb)
  have HB9 := Lib.hid (below_nx HB8.out hb)
  clear hb
  clear m0 m1 m2 m3 m4 t0 t1 t2
  obtain ⟨m0, m1, m2, m3, m4⟩ := cells5 Hm9.out
  obtain ⟨t0, t1, t2⟩ := cells3v Ht9.out
  go_wp2_with fail
  refine (rsame_v r1 s1 _ HR1.out.lt HS1.out.lt).mono ?_
  rw [HR1.out.same HS1.out]
  rintro e ws1 ⟨rfl, rfl⟩
  go_wp2_with fail
  refine (HQ2.out gT T _ HB9.out HTt.out HT9.out).mono ?_
  rintro e wq2 ⟨s2, rfl, hr, hb⟩
  have HS2 := Lib.hid hr
  clear hr
  have Hm10 := Lib.hid (Hm9.out.nxt hb)
  have Ht10 := Lib.hid (Ht9.out.nxt hb)
  have HT10 := Lib.hid (HT9.out.below hb)
  have HB10 := Lib.hid (below_nx HB9.out hb)
  clear hb
  clear m0 m1 m2 m3 m4 t0 t1 t2
  obtain ⟨m0, m1, m2, m3, m4⟩ := cells5 Hm10.out
  obtain ⟨t0, t1, t2⟩ := cells3v Ht10.out
  go_wp2_with fail
  refine (rsame_v r2 s2 _ HR2.out.lt HS2.out.lt).mono ?_
  rw [HR2.out.same HS2.out]
  rintro e ws2 ⟨rfl, rfl⟩
  go_wp2_with fail
  refine (HQ3.out gT T _ HB10.out HTt.out HT10.out).mono ?_
  rintro e wq3 ⟨s3, rfl, hr, hb⟩
  have HS3 := Lib.hid hr
  clear hr
  have Hm11 := Lib.hid (Hm10.out.nxt hb)
  have Ht11 := Lib.hid (Ht10.out.nxt hb)
  have HT11 := Lib.hid (HT10.out.below hb)
  have HB11 := Lib.hid (below_nx HB10.out hb)
  clear hb
  clear m0 m1 m2 m3 m4 t0 t1 t2
  obtain ⟨m0, m1, m2, m3, m4⟩ := cells5 Hm11.out
  obtain ⟨t0, t1, t2⟩ := cells3v Ht11.out
  go_wp2_with fail
  refine (rsame_v r3 s3 _ HR3.out.lt HS3.out.lt).mono ?_
  rw [HR3.out.same HS3.out]
  rintro e ws3 ⟨rfl, rfl⟩
  go_wp2_with fail
  refine (awake10_any _).mono ?_
  rintro e w11 ⟨rfl, hb⟩
  have Hm12 := Lib.hid (Hm11.out.nxt hb)
  have Ht12 := Lib.hid (Ht11.out.nxt hb)
  have HT12 := Lib.hid (HT11.out.below hb)
  have HB12 := Lib.hid (below_nx HB11.out hb)
  clear hb
  clear m0 m1 m2 m3 m4 t0 t1 t2
  obtain ⟨m0, m1, m2, m3, m4⟩ := cells5 Hm12.out
  obtain ⟨t0, t1, t2⟩ := cells3v Ht12.out
  go_wp2_with fail
  go_ret
  exact ⟨rfl, HB12.out⟩

theorem normsTell_walk (Am : Option Addr) (cm : Nat) (lm : List Nat) (mo mr mk ml : Int) (w : World) (hAm : Row w Am (f64s lm)) (hWm : Wds lm) (hnc : lm.length ≤ cm) (hmo : I64 mo) (hmr : I64 mr) (hmk : I64 mk) (hml : I64 ml) :
    Calls Try.prog 3 #[mat Am lm.length cm mo mr mk ml] w fun e w' => e = .returned (.bool true) ∧ Below w.heap.size w w' := by
  cases hG : greatB lm.length mr mk
  · have hn : lm.length ≤ 1000 ∧ mr ≤ 20 ∧ mk ≤ 20 := by have h := hG; unfold greatB at h; simp at h; omega
    cases h : matB lm.length mo mr mk ml
    · exact normsTell_bad Am _ cm mo mr mk ml w hn.1 hmo hmr hmk hml hG h
    · obtain ⟨o, R, C, L, rfl, rfl, rfl, rfl, hL1, hRL, hmr2⟩ := mat_nat h
      exact normsTell_ok Am _ cm lm o R C L w hAm hWm rfl hnc hn.1 hmo hml (by omega) (by omega) hL1 hRL hmr2
  · exact normsTell_great Am _ cm mo mr mk ml w hG

end Go.Proofs.Ytbdlfaclakppgaa
/-
A region that draws its order, some of whose operations are guarded, by what holds whichever of its operations have come up. Conditions: each operation waits for earlier ones alone.
-/
set_option linter.unusedVariables false
namespace Go.Proofs.Ytbdlfaclakppgaa
open Go.RowKit

/-- Each waits for earlier ones alone, and writes one of these temporaries. -/
def plainG (L : List Nat) (n : Nat) : Nat → List Oper → Bool
  | _, [] => true
  | i, o :: r => o.after.all (fun e => !Region.binds .any e || decide (e.on < i)) && (match o.dst with | some k => L.contains k && decide (k < n) | none => true) && plainG L n (i + 1) r
theorem plainG_at {L : List Nat} {n : Nat} : ∀ {i : Nat} {ops : List Oper}, plainG L n i ops = true → ∀ {j : Nat} {o : Oper}, ops[j]? = some o → (∀ e ∈ o.after, Region.binds .any e = true → e.on < i + j) ∧ ∀ k, o.dst = some k → k ∈ L ∧ k < n
  | i, [], _, j, o, h => by simp at h
  | i, x :: r, h, j, o, ho => by
    simp only [plainG, Bool.and_eq_true] at h
    obtain ⟨⟨h1, h3⟩, h4⟩ := h
    cases j with
    | zero =>
      simp at ho
      subst ho
      refine ⟨fun e he hbd => ?_, fun k hk => ?_⟩
      · have := Array.all_eq_true_iff_forall_mem.1 h1 e he
        rw [hbd] at this
        simpa using this
      · rw [hk] at h3
        simpa using h3
    | succ j =>
      have := plainG_at h4 (j := j) (o := o) (by simpa using ho)
      refine ⟨fun e he hbd => ?_, this.2⟩
      have := this.1 e he hbd
      omega
/-- An append. -/
theorem opSteps_append {P : Program} {o : Oper} {ev : Operand → Value} {w : World} {K : Value → World → Prop} (s x : Operand) (t : TypeId) (ho : o.op = .call { callee := .builtin .append, args := #[s, x], argTypes := #[t, t] })
    {a b v' : Value} {w' : World} (hs : ev s = a) (hx : ev x = b) (hr : (Builtin.append_ #[t, t] o.type #[a, b]).run P w = .ok v' w') (h : K v' w') : OpSteps P o ev w K := by
  unfold OpSteps execOp
  simp only [ho, resolve, invoke, builtin, Sem.run_bind, Sem.run_pure, Result.andThen_ok, List.map_toArray, List.map_cons, List.map_nil, hs, hx, hr]
  exact h
/-- The Bool of a guard. -/
def yieldS (ops : Array Oper) (s : Nat → Value) (j : Nat) : Option Bool :=
  match (ops[j]?).bind (·.dst) with
  | some k => (match s k with | .bool b => some b | _ => none)
  | none => none
/-- One operation: it is carried out, or passed by. -/
def StepG (P : Program) (ops : Array Oper) (o : Oper) (s : Nat → Value) (w : World) (K : Value → World → Prop) : Prop :=
  if Region.wanted o (yieldS ops s) = true then OpSteps P o (evS s) w K else K undef w
theorem stepG_on {P : Program} {ops : Array Oper} {o : Oper} {s : Nat → Value} {w : World} {K : Value → World → Prop} (j k : Nat) (b : Bool) (hg : o.guard = some (j, b)) (hk : (ops[j]?).bind (·.dst) = some k) (hs : s k = .bool b) (h : OpSteps P o (evS s) w K) : StepG P ops o s w K := by
  have : yieldS ops s j = some b := by unfold yieldS; rw [hk]; simp only [hs]
  unfold StepG Region.wanted
  rw [hg]
  simp only [this, beq_self_eq_true, if_true]
  exact h
theorem stepG_off {P : Program} {ops : Array Oper} {o : Oper} {s : Nat → Value} {w : World} {K : Value → World → Prop} (j k : Nat) (b : Bool) (hg : o.guard = some (j, b)) (hk : (ops[j]?).bind (·.dst) = some k) (hs : s k = .bool (!b)) (h : K undef w) : StepG P ops o s w K := by
  have : yieldS ops s j = some (!b) := by unfold yieldS; rw [hk]; simp only [hs]
  unfold StepG Region.wanted
  rw [hg]
  simp only [this]
  rw [if_neg (by cases b <;> decide)]
  exact h
theorem stepG_undef {P : Program} {ops : Array Oper} {o : Oper} {s : Nat → Value} {w : World} {K : Value → World → Prop} (j k : Nat) (b : Bool) (hg : o.guard = some (j, b)) (hk : (ops[j]?).bind (·.dst) = some k) (hs : s k = undef) (h : K undef w) : StepG P ops o s w K := by
  have : yieldS ops s j = none := by unfold yieldS; rw [hk]; simp only [hs]; rfl
  unfold StepG Region.wanted
  rw [hg]
  simp only [this]
  rw [if_neg (by cases b <;> decide)]
  exact h
theorem stepG_plain {P : Program} {ops : Array Oper} {o : Oper} {s : Nat → Value} {w : World} {K : Value → World → Prop} (hg : o.guard = none) (h : OpSteps P o (evS s) w K) : StepG P ops o s w K := by
  unfold StepG Region.wanted
  rw [hg]
  simp only [if_true]
  exact h
/-- What is to be shown of each operation. -/
def AllStepsG (P : Program) (ops : Array Oper) (t0 : Array Value) (L : List Nat) (J : (Nat → Bool) → (Nat → Value) → World → Prop) : Nat → List Oper → Prop
  | _, [] => True
  | i, o :: r => (∀ d s w, J d s w → (∀ k, k ∉ L → s k = t0.getD k undef) → d i = false → (∀ e ∈ o.after.toList, Region.binds .any e = true → d e.on = true) → StepG P ops o s w (fun v w' => J (did d i) (sput s o.dst v) w')) ∧ AllStepsG P ops t0 L J (i + 1) r
theorem AllStepsG.at_ {P : Program} {ops : Array Oper} {t0 : Array Value} {L : List Nat} {J : (Nat → Bool) → (Nat → Value) → World → Prop} : ∀ {i : Nat} {os : List Oper}, AllStepsG P ops t0 L J i os → ∀ {j : Nat} {o : Oper}, os[j]? = some o →
    ∀ d s w, J d s w → (∀ k, k ∉ L → s k = t0.getD k undef) → d (i + j) = false → (∀ e ∈ o.after.toList, Region.binds .any e = true → d e.on = true) → StepG P ops o s w (fun v w' => J (did d (i + j)) (sput s o.dst v) w')
  | i, [], _, j, o, h => by simp at h
  | i, x :: r, h, j, o, ho => by
    cases j with
    | zero => simp at ho; subst ho; exact h.1
    | succ j =>
      have := AllStepsG.at_ h.2 (j := j) (o := o) (by simpa using ho)
      rw [show i + (j + 1) = i + 1 + j by omega]
      exact this
section
variable {P : Program} {ops : Array Oper} {Q : Exit → Act → World → Prop} {a0 : Act} {L : List Nat} {J : (Nat → Bool) → (Nat → Value) → World → Prop}
theorem yielded_eq (hp : plainG L a0.tmps.size 0 ops.toList = true) {a : Act} (hF : Fr a0 L a) (j : Nat) : yielded ops a.tmps j = yieldS ops (fun k => a.tmps.getD k undef) j := by
  unfold yielded yieldS
  cases h : ops[j]? with
  | none => rfl
  | some o =>
    cases hd : o.dst with
    | none => simp [hd]
    | some k =>
      have hk := (plainG_at hp (j := j) (o := o) (by simpa using h)).2 k hd
      have hk2 : k < a.tmps.size := by rw [hF.size]; exact hk.2
      have e : a.tmps.getD k undef = a.tmps[k] := arr_getD _ hk2
      simp only [Option.bind_some, hd, Array.getElem?_eq_getElem hk2, e]
      cases a.tmps[k] <;> rfl
theorem wpOp_invG (hp : plainG L a0.tmps.size 0 ops.toList = true) (hs : AllStepsG P ops a0.tmps L J 0 ops.toList) {d : Nat → Bool} {a : Act} {w : World} (hF : Fr a0 L a) (hJ : J d (fun k => a.tmps.getD k undef) w) {i : Nat} {o : Oper} (ho : ops[i]? = some o) (hd : d i = false)
    (hdep : ∀ e ∈ o.after, Region.binds .any e = true → d e.on = true) : wpOp P ops Q i (fun a' w' => Fr a0 L a' ∧ J (did d i) (fun k => a'.tmps.getD k undef) w') a w := by
  have ho' : ops.toList[i]? = some o := by simpa using ho
  obtain ⟨_, hdst⟩ := plainG_at hp ho'
  have h := hs.at_ ho' d _ w hJ (fun k hk => hF.keep k hk) (by simpa using hd) (fun e he => hdep e (by simpa using he))
  rw [Nat.zero_add] at h
  have hput : ∀ v w', J (did d i) (sput (fun k => a.tmps.getD k undef) o.dst v) w' → Fr a0 L (a.put o.dst v) ∧ J (did d i) (fun k => (a.put o.dst v).tmps.getD k undef) w' := fun v w' hj =>
    ⟨hF.put_ (fun k hk => (hdst k hk).1) v, by rw [put_slots hF.size (fun k hk => (hdst k hk).2)]; exact hj⟩
  unfold wpOp
  simp only [ho]
  have hw : Region.wanted o (yielded ops a.tmps) = Region.wanted o (yieldS ops (fun k => a.tmps.getD k undef)) := by
    unfold Region.wanted
    cases o.guard with
    | none => rfl
    | some p => simp only [yielded_eq hp hF]
  rw [hw]
  unfold StepG at h
  by_cases hg : Region.wanted o (yieldS ops (fun k => a.tmps.getD k undef)) = true
  · rw [if_pos hg] at h
    rw [if_pos hg]
    refine .inl ?_
    unfold Oper.wp
    rw [evS_of a]
    unfold OpSteps at h
    generalize (execOp (evS fun k => a.tmps.getD k undef) o).run P w = r at *
    cases r with
    | halt x w' => exact h.elim
    | ok n w' =>
      cases n <;> simp only [Oper.upon] at h ⊢
      case value v => exact hput v w' h
      case skip => exact hput undef w' h
      case enter f args =>
        refine Calls.mono h fun e w'' he => ?_
        obtain ⟨v, rfl, hj⟩ := he
        exact hput v w'' hj
  · rw [if_neg hg] at h
    rw [if_neg hg]
    exact hput undef w h

theorem wpAny_invG (hp : plainG L a0.tmps.size 0 ops.toList = true) (hs : AllStepsG P ops a0.tmps L J 0 ops.toList)
    (done : ∀ d a w, Fr a0 L a → J d (fun k => a.tmps.getD k undef) w → (∀ i, i < ops.size → d i = true) → Q .normal a w) :
    ∀ (fuel : Nat) (listed : Array Bool) (l : List Nat) (a : Act) (w : World), listed.size = ops.size → l.Nodup → (∀ i, i ∈ l ↔ listed.getD i true = false) → l.length ≤ fuel →
      Fr a0 L a → J (fun j => listed.getD j false) (fun k => a.tmps.getD k undef) w → wpAny P .any ops Q fuel listed a w := by
  have hnone : ∀ (listed : Array Bool), listed.size = ops.size → Region.ready .any ops listed = [] → ∀ i, i < ops.size → listed.getD i false = true := by
    intro listed hsz hr i
    induction i using Nat.strongRecOn with
    | ind i ih =>
      intro hi
      cases hb : listed.getD i false
      · exfalso
        have : i ∈ Region.ready .any ops listed := mem_ready.2 ⟨by simpa [Array.getD, hsz, hi] using hb, ops[i], Array.getElem?_eq_getElem hi, fun e he hbd => by
          have h1 := (plainG_at hp (j := i) (o := ops[i]) (by simp [hi])).1 e he hbd
          exact ih e.on (by omega) (by omega)⟩
        rw [hr] at this; cases this
      · rfl
  intro fuel
  induction fuel with
  | zero =>
    intro listed l a w hsz hnd hl hlen hF hJ
    have hl0 : l = [] := List.length_eq_zero_iff.1 (by omega)
    subst hl0
    have hr : Region.ready .any ops listed = [] := by
      refine List.eq_nil_iff_forall_not_mem.2 fun i hi => ?_
      have := (hl i).2 (mem_ready.1 hi).1
      cases this
    exact ⟨hr, done _ a w hF hJ (hnone listed hsz hr)⟩
  | succ fuel ih =>
    intro listed l a w hsz hnd hl hlen hF hJ
    refine ⟨fun hr => done _ a w hF hJ (hnone listed hsz hr), fun i hi => ?_⟩
    obtain ⟨h0, o, ho, hdep⟩ := mem_ready.1 hi
    have hi2 : i < listed.size := by
      rcases Nat.lt_or_ge i listed.size with h | h
      · exact h
      · simp [Array.getD, Nat.not_lt.2 h] at h0
    have h0' : listed.getD i false = false := by simpa [Array.getD, hi2] using h0
    refine wpOp_mono (fun a' w' h => ?_) (wpOp_invG hp hs hF hJ ho h0' hdep)
    refine ih (listed.setIfInBounds i true) (l.erase i) a' w' (by simp [hsz]) (hnd.erase i) (fun j => ?_) ?_ h.1 ?_
    · rw [hnd.mem_erase_iff, hl j]
      by_cases e : j = i
      · subst e
        simp [Array.getD, hi2]
      · simp only [Array.getD_eq_getD_getElem?]
        rw [Array.getElem?_setIfInBounds_ne (fun h => e h.symm)]
        simp [e]
    · rw [List.length_erase_of_mem ((hl i).2 h0)]; omega
    · have e : (fun j => (listed.setIfInBounds i true).getD j false) = did (fun j => listed.getD j false) i := by
        funext j
        unfold did
        by_cases e : j = i
        · subst e; simp [Array.getD, hi2]
        · rw [if_neg e]
          simp only [Array.getD_eq_getD_getElem?]
          rw [Array.getElem?_setIfInBounds_ne (fun h => e h.symm)]
      rw [e]; exact h.2

/-- THE RULE. -/
theorem wp_region_invG {id : Nat} {t0 : Array Value} {df : List Deferred} {w : World} (L : List Nat) (J : (Nat → Bool) → (Nat → Value) → World → Prop) (hm : P.follows .mixedOrders = true) (hp : plainG L t0.size 0 ops.toList = true)
    (start : J (fun _ => false) (fun k => t0.getD k undef) w.drew) (hs : AllStepsG P ops t0 L J 0 ops.toList)
    (done : ∀ d s w', J d s w' → (∀ i, i < ops.size → d i = true) → Q .normal ⟨setAll t0 s L, df⟩ w') : (Code.region id ops true).wp P Q ⟨t0, df⟩ w := by
  refine wp_region_any hm ?_
  refine wpAny_invG (a0 := ⟨t0, df⟩) (L := L) (J := J) hp hs (fun d a w' hF hJ hd => ?_) ops.size (Array.replicate ops.size false) (List.range ops.size) _ _ (by simp) List.nodup_range (fun i => ?_) (by simp) ⟨rfl, rfl, fun _ _ => rfl⟩ ?_
  · rw [hF.eq_]
    exact done d _ w' hJ hd
  · rw [List.mem_range]
    by_cases h : i < ops.size
    · simp [Array.getD, h]
    · simp [Array.getD, h]
  · have e : (fun j => (Array.replicate ops.size false).getD j false) = fun _ => false := by
      funext j
      simp only [Array.getD_eq_getD_getElem?]
      by_cases h : j < ops.size
      · simp [h]
      · simp [h]
    rw [e]; exact start
end
end Go.Proofs.Ytbdlfaclakppgaa
/-
The document's Turn. Conditions: the lists have at most 2^20 numbers.
-/
set_option linter.unusedVariables false
set_option linter.unusedSimpArgs false
set_option linter.unnecessarySimpa false
namespace Go.Proofs.Ytbdlfaclakppgaa
open Go.RowKit
attribute [local go_sem ↓] Go.wp_at_zero Go.wp_at_succ

theorem nblk3g {W : World} {b p : Nat} {t : TypeId} {cs : Array Value} (h : Blk W b t cs) (hne : b ≠ p) (x0 x1 x2 : Value) : Blk (((W.setCell ⟨p, 0, none⟩ x0).setCell ⟨p, 1, none⟩ x1).setCell ⟨p, 2, none⟩ x2) b t cs := (heap_sets3 hne x0 x1 x2).trans h
theorem nown3g {W : World} {b p : Nat} {l : List Nat} (h : Own W b l) (hne : b ≠ p) (x0 x1 x2 : Value) : Own (((W.setCell ⟨p, 0, none⟩ x0).setCell ⟨p, 1, none⟩ x1).setCell ⟨p, 2, none⟩ x2) b l := by
  obtain ⟨cs, h1, h2⟩ := h
  exact ⟨cs, nblk3g h1 hne _ _ _, h2⟩
theorem nbelow3g {z : Nat} {w W : World} (h : Below z w W) {p : Nat} (hz : z ≤ p) (x0 x1 x2 : Value) : Below z w (((W.setCell ⟨p, 0, none⟩ x0).setCell ⟨p, 1, none⟩ x1).setCell ⟨p, 2, none⟩ x2) :=
  ((h.setCell (p := ⟨p, 0, none⟩) hz x0).setCell (p := ⟨p, 1, none⟩) hz x1).setCell (p := ⟨p, 2, none⟩) hz x2
theorem nrset_own (r k : Int) (g n c : Nat) (T : List Nat) (i j p v : Nat) (w : World) (hO : Own w g T) (hT : T.length = n) (hp : p < n) (hn : n < 9223372036854775808) (he : (i : Int) * k + (j : Int) = (p : Int)) (hm : I64 ((i : Int) * k)) :
    Calls Try.prog 33 #[tbl r k g n c, .int .i64 i, .int .i64 j, .float .f64 v] w fun e w' => e = .returned (.tuple #[]) ∧ Own w' g (T.set p v) ∧ Only g w w' := by
  unfold I64 at hm
  have hO2 := hO.nxt (below_one (W := w) (o := .cells #[.int .i64 r, .int .i64 k, .slice (some ⟨g, 0, none⟩) n c] 32))
  have c0 := hO2.get p (by omega)
  have f0 := hO2.frozen p
  have HS := Lib.hid ((hO.set_ p v (by omega)).nxt (below_one (o := .cells #[.int .i64 r, .int .i64 k, .slice (some ⟨g, 0, none⟩) n c] 32)))
  have HO := Lib.hid (((Only.refl g w).set_ p (.float .f64 v)).alloc_ (.cells #[.int .i64 r, .int .i64 k, .slice (some ⟨g, 0, none⟩) n c] 32))
  obtain ⟨x, hx⟩ : ∃ x, T[p]'(by omega) = x := ⟨_, rfl⟩
  rw [hx] at c0
  have w1 : IntKind.i64.wrap ((i : Int) * k) = (i : Int) * k := wrapi (by omega) (by omega)
  have w2 : IntKind.i64.wrap (p : Int) = (p : Int) := wrapi (by omega) (by omega)
  have hpn : (p : Int) < (n : Int) := by omega
  have hlt := hO.lt
  clear hx hO2 hO
  unfold tbl
  go_enter Try.func33, Try.ntmps33
  go_wp2_with fail
  go_end0
  exact ⟨rfl, HS.out, HO.out⟩
/-- A table is filled row by row. -/
def Ptbn (N : Nat) (pos : Nat → Nat → Nat) (R C : Nat) (P : Nat → Nat → Nat → Prop) (i j : Nat) (T : List Nat) : Prop :=
  T.length = N ∧ ∀ a, a < R → ∀ b, b < C → (a < i ∨ (a = i ∧ b < j)) → P a b (T.getD (pos a b) 0)
theorem Ptbn.zero {N R C : Nat} {pos : Nat → Nat → Nat} {P : Nat → Nat → Nat → Prop} {T : List Nat} (h : T.length = N) : Ptbn N pos R C P 0 0 T := ⟨h, fun a _ b _ h => by omega⟩
theorem Ptbn.next {N R C i : Nat} {pos : Nat → Nat → Nat} {P : Nat → Nat → Nat → Prop} {T : List Nat} (h : Ptbn N pos R C P i C T) : Ptbn N pos R C P (i + 1) 0 T :=
  ⟨h.1, fun a ha b hb e => h.2 a ha b hb (by omega)⟩
theorem Ptbn.done {N R C : Nat} {pos : Nat → Nat → Nat} {P : Nat → Nat → Nat → Prop} {T : List Nat} (h : Ptbn N pos R C P R 0 T) : ∀ a, a < R → ∀ b, b < C → P a b (T.getD (pos a b) 0) :=
  fun a ha b hb => h.2 a ha b hb (.inl ha)
theorem Ptbn.step {N R C i j r : Nat} {pos : Nat → Nat → Nat} {P : Nat → Nat → Nat → Prop} {T : List Nat} (h : Ptbn N pos R C P i j T) (hinj : ∀ a, a < R → ∀ b, b < C → pos a b = pos i j → a = i ∧ b = j) (hp : pos i j < N) (hr : P i j r) : Ptbn N pos R C P i (j + 1) (T.set (pos i j) r) := by
  refine ⟨by rw [List.length_set]; exact h.1, fun a ha b hb e => ?_⟩
  by_cases h1 : a = i ∧ b = j
  · obtain ⟨rfl, rfl⟩ := h1
    rw [getD_set_self (by rw [h.1]; exact hp)]
    exact hr
  · rw [getD_set_ne _ (fun e2 => h1 (hinj a ha b hb e2.symm))]
    exact h.2 a ha b hb (by omega)
theorem ntab_injg {C a b a' b' : Nat} (hb : b < C) (hb' : b' < C) (h : a * C + b = a' * C + b') : a = a' ∧ b = b' := by
  have h2 : b + a * C = b' + a' * C := by omega
  have := spots_inj hb hb' h2
  exact ⟨this.2, this.1⟩
theorem ntab_facts {R C N i j : Nat} (hN : R * C = N) (hNb : N ≤ 1048576) (hi : i < R) (hj : j < C) : i * C + j < N ∧ I64 ((i : Int) * (C : Int)) ∧ (i : Int) * (C : Int) + (j : Int) = ((i * C + j : Nat) : Int) := by
  have h1 := tab_lt hi hj
  have e : (i : Int) * (C : Int) = ((i * C : Nat) : Int) := by simp
  rw [e]
  unfold I64
  omega
/-- A number of the table has been set. -/
def SetDn (g p : Nat) (R : Nat → Prop) (T1 : List Nat) (wr W : World) : Prop := ∃ W' r, Below wr.heap.size wr W' ∧ R r ∧ Own W g (T1.set p r) ∧ Only g W' W
def TurnTn (T : List Nat) (C i j r : Nat) : Prop := r = T.getD (i * C + j) 0
/-- What a call that makes a table comes to. -/
def RetTn (r k N : Nat) (S : List Nat → Prop) (w : World) (e : Ending) (w' : World) : Prop := ∃ g T', e = .returned (tbl r k g N N) ∧ Own w' g T' ∧ T'.length = N ∧ S T' ∧ w.heap.size ≤ g ∧ Below w.heap.size w w'
set_option maxRecDepth 100000 in
set_option maxHeartbeats 2000000 in
theorem nrturn_any  (R C gT N cT : Nat) (T : List Nat) (w : World) (hT : Row w (some ⟨gT, 0, none⟩) (f64s T)) (hTl : T.length = N) (hN : R * C = N) (hNb : N < 1048576) (hRb : R < 1048576) (hCb : C < 1048576) :
    Calls Try.prog 20 #[tbl R C gT N cT] w (RetTn C R N (fun T' => ∀ i, i < R → ∀ j, j < C → (TurnTn T C) i j (T'.getD (j * R + i) 0)) w) := by
  have HI := Lib.hid (fun i j (hi : i < R) (hj : j < C) => ntab_facts hN (Nat.le_of_lt hNb) hi hj)
  have HSl := Lib.hid (fun i j (hi : i < R) (hj : j < C) => ntab_facts (R := C) (C := R) (N := N) (i := j) (j := i) (by rw [Nat.mul_comm]; exact hN) (Nat.le_of_lt hNb) hj hi)
  have HAt := Lib.hid (fun W (hB : Row W (some ⟨gT, 0, none⟩) (f64s T)) (x q : Nat) (hx : x < R) (hq : q < C) => nrat_any R C gT N cT T x q W hB hTl hNb (HI.out x q hx hq).1)
  have HCp := Lib.hid (fun W => rnew_any C R N W (by rw [Nat.mul_comm]; exact hN) (by omega) (by omega) (by omega))
  have HTr := Lib.hid hT
  have HTl := Lib.hid hTl
  have HNb := Lib.hid hNb
  clear hT hTl hN hNb
  unfold tbl at *
  go_enter Try.func20, Try.ntmps20
  have HZ0 := Lib.hid ((Blk.new w 32 #[.int .i64 (R : Int), .int .i64 (C : Int), .slice (some ⟨gT, 0, none⟩) N cT]).alloc (.cells #[.int .i64 0, .int .i64 0, .slice none 0 0] 32))
  have HE0 := Lib.hid (Blk.new_ (w.alloc (.cells #[.int .i64 (R : Int), .int .i64 (C : Int), .slice (some ⟨gT, 0, none⟩) N cT] 32)) 32 #[.int .i64 0, .int .i64 0, .slice none 0 0] (w.heap.size + 1) (by simp))
  have HB0 := Lib.hid (((Below.refl w.heap.size w).alloc (Nat.le_refl _) (.cells #[.int .i64 (R : Int), .int .i64 (C : Int), .slice (some ⟨gT, 0, none⟩) N cT] 32)).alloc (by simp) (.cells #[.int .i64 0, .int .i64 0, .slice none 0 0] 32))
  obtain ⟨d0, d1, d2⟩ := cells3v HZ0.out
  go_wp2_with fail
  refine (HCp.out _).mono ?_
  rintro e w1 ⟨go, rfl, hBk, hg, hb⟩
  have HZ1 := Lib.hid ((HZ0.out.nxt hb).alloc (.cells #[.int .i64 (C : Int), .int .i64 (R : Int), .slice (some ⟨go, 0, none⟩) N N] 32))
  have HE1 := Lib.hid ((HE0.out.nxt hb).alloc (.cells #[.int .i64 (C : Int), .int .i64 (R : Int), .slice (some ⟨go, 0, none⟩) N N] 32))
  have HT1 := Lib.hid (Blk.new w1 32 #[.int .i64 (C : Int), .int .i64 (R : Int), .slice (some ⟨go, 0, none⟩) N N])
  have HO1 := Lib.hid ((own_blk hBk).nxt (below_one (o := (.cells #[.int .i64 (C : Int), .int .i64 (R : Int), .slice (some ⟨go, 0, none⟩) N N] 32))))
  have HB1 := Lib.hid (below_al (below_nx HB0.out hb) (o := (.cells #[.int .i64 (C : Int), .int .i64 (R : Int), .slice (some ⟨go, 0, none⟩) N N] 32)))
  have hgl := (own_blk hBk).lt
  have hsz := hb.size
  have HNe0 := Lib.hid (show w.heap.size + 2 ≤ go ∧ w.heap.size + 2 ≤ w1.heap.size ∧ go < w1.heap.size from ⟨by simp at hg; omega, by simp at hsz; omega, hgl⟩)
  clear hb hBk hg hgl hsz d0 d1 d2
  obtain ⟨d0, d1, d2⟩ := cells3v HZ1.out
  go_wp2_with fail
  clear d0 d1 d2
  generalize hw2 : w1.alloc (.cells #[.int .i64 (C : Int), .int .i64 (R : Int), .slice (some ⟨go, 0, none⟩) N N] 32) = w2 at *
  generalize w1.heap.size = tb at *
  generalize hz : w.heap.size = z at *
  have HNe := HNe0
  have Hz := Lib.hid hz
  clear hw2 hz HNe0
  go_loopw [4] (fun x wr => ∃ (i1 : Nat) (T1 : List Nat), i1 ≤ R ∧ x = .int .i64 (i1 : Int) ∧ Hid (Ptbn N (fun i j => j * R + i) R C (TurnTn T C) i1 0 T1 ∧ Own wr go T1 ∧ Blk wr z 32 #[.int .i64 (R : Int), .int .i64 (C : Int), .slice (some ⟨gT, 0, none⟩) N cT] ∧ Blk wr (z + 1) 32 #[.int .i64 0, .int .i64 0, .slice none 0 0] ∧ Blk wr tb 32 #[.int .i64 (C : Int), .int .i64 (R : Int), .slice (some ⟨go, 0, none⟩) N N] ∧ Below z w wr)) (fun x _ => R - (intOf x).toNat)
  case atStart => exact ⟨0, _, Nat.zero_le _, rfl, Lib.hid ⟨Ptbn.zero (by simp), HO1.out, HZ1.out, HE1.out, HT1.out, HB1.out⟩⟩
  case round =>
    obtain ⟨i1, T1, hi1, rfl, HS⟩ := hrel
    obtain ⟨d0, d1, d2⟩ := cells3v HS.out.2.2.1
    by_cases hlt : i1 < R
    · have har2 : (i1 : Int) < (R : Int) := by omega
      have ha1 : i1 + 1 ≤ 1048576 := by omega
      go_wp2_with fail
      clear d0 d1 d2
      go_loopw [5] (fun x wr => ∃ (j1 : Nat) (T1 : List Nat), j1 ≤ C ∧ x = .int .i64 (j1 : Int) ∧ Hid (Ptbn N (fun i j => j * R + i) R C (TurnTn T C) i1 j1 T1 ∧ Own wr go T1 ∧ Blk wr z 32 #[.int .i64 (R : Int), .int .i64 (C : Int), .slice (some ⟨gT, 0, none⟩) N cT] ∧ Blk wr (z + 1) 32 #[.int .i64 0, .int .i64 0, .slice none 0 0] ∧ Blk wr tb 32 #[.int .i64 (C : Int), .int .i64 (R : Int), .slice (some ⟨go, 0, none⟩) N N] ∧ Below z w wr)) (fun x _ => C - (intOf x).toNat)
      case atStart => exact ⟨0, T1, Nat.zero_le _, rfl, HS⟩
      case round =>
        obtain ⟨j1, T1, hj1, rfl, HS⟩ := hrel
        obtain ⟨d0, d1, d2⟩ := cells3v HS.out.2.2.1
        by_cases hlt2 : j1 < C
        · have hs := HSl.out i1 j1 hlt hlt2
          obtain ⟨P, hP⟩ : ∃ P, j1 * R + i1 = P := ⟨_, rfl⟩
          have HSt0 := fun r hr => HS.out.1.step (r := r) (fun a ha b hb e => (ntab_injg ha hlt e).symm) hs.1 hr
          have hsO : ∀ W r, Own W go T1 → Calls Try.prog 33 #[.agg #[.int .i64 (C : Int), .int .i64 (R : Int), .slice (some ⟨go, 0, none⟩) N N], .int .i64 (j1 : Int), .int .i64 (i1 : Int), .float .f64 r] W fun e w' => e = .returned (.tuple #[]) ∧ Own w' go (T1.set (j1 * R + i1) r) ∧ Only go W w' := fun W r h =>
            nrset_own (C : Int) (R : Int) go N N T1 j1 i1 (j1 * R + i1) r W h HS.out.1.1 hs.1 (by have := HNb.out; omega) hs.2.2 hs.2.1
          have HAv := Lib.hid (fun W (h : Below z w W) => HAt.out W (HTr.out.below (by rw [Hz.out]; exact h)) i1 j1 hlt hlt2)
          have hval : TurnTn T C i1 j1 (T.getD (i1 * C + j1) 0) := rfl
          obtain ⟨m0, hm0⟩ : ∃ m0, T.getD (i1 * C + j1) 0 = m0 := ⟨_, rfl⟩
          rw [hm0] at HAv hval
          have HVal := Lib.hid hval
          have e5 : (j1 : Int) < (C : Int) := by omega
          have hb1 : j1 + 1 ≤ 1048576 := by omega
          simp only [hP] at hsO HSt0
          have HSt := Lib.hid HSt0
          have HStO := Lib.hid hsO
          have HWz := Lib.hid (fun W (h : Below wr.heap.size wr W) => show Below z w W from by have h2 := HS.out.2.2.2.2.2; rw [← Hz.out] at h2 ⊢; exact below_nx h2 h)
          have HZ := Lib.hid HS.out.2.2.1
          have HTb := Lib.hid HS.out.2.2.2.2.1
          have HOw := Lib.hid HS.out.2.1
          clear hs HSt0 hsO hP hm0 hval
          go_wp2_with fail
          clear d0 d1 d2
          refine wp_region_inv [23, 24, 25, 26, 27, 28, 29, 30] (fun d s W => (d 0 = true → s 23 = .agg #[.int .i64 (C : Int), .int .i64 (R : Int), .slice (some ⟨go, 0, none⟩) N N]) ∧ (d 1 = true → s 24 = .int .i64 (j1 : Int)) ∧ (d 2 = true → s 25 = .int .i64 (i1 : Int)) ∧ (d 3 = true → s 26 = .agg #[.int .i64 (R : Int), .int .i64 (C : Int), .slice (some ⟨gT, 0, none⟩) N cT]) ∧ (d 4 = true → s 27 = .int .i64 (i1 : Int)) ∧ (d 5 = true → s 28 = .int .i64 (j1 : Int)) ∧ (d 6 = true → s 29 = .float .f64 m0) ∧ (d 7 = true → s 30 = .tuple #[]) ∧ (d 6 = true → d 3 = true ∧ d 4 = true ∧ d 5 = true) ∧ (d 7 = true → d 0 = true ∧ d 1 = true ∧ d 2 = true ∧ d 3 = true ∧ d 4 = true ∧ d 5 = true ∧ d 6 = true) ∧ ((d 7 = false → Below wr.heap.size wr W) ∧ (d 7 = true → SetDn go P ((TurnTn T C) i1 j1) T1 wr W)))
            rfl (by kernel_rfl) ?_ ?_ ?_
          · exact ⟨by simp, by simp, by simp, by simp, by simp, by simp, by simp, by simp, by simp, by simp, ⟨fun _ => (Below.refl _ _).drew, fun h => by simp at h⟩⟩
          · refine ⟨?_, ?_, ?_, ?_, ?_, ?_, ?_, ?_, trivial⟩
            all_goals
              intro d s W hJ hfr hd hdep
              simp only [List.mem_cons, forall_eq_or_imp, List.not_mem_nil, false_implies, implies_true, and_true, Region.binds] at hdep
              have f1 := hfr 1 (by decide)
              have f3 := hfr 3 (by decide)
              have f4 := hfr 4 (by decide)
              have f5 := hfr 5 (by decide)
              simp at f1 f3 f4 f5 hdep
              obtain ⟨h0, h1, h2, h3, h4, h5, h6, h7, x0, x1, hT⟩ := hJ
              have hT0 := hT
            · have hl : d 7 = false := by
                cases h : d 7
                · rfl
                · have := x1 h; simp [hd] at this
              replace hT := hT.1 hl
              unfold OpSteps
              obtain ⟨p0, p1, p2⟩ := cells3v (HTb.out.below hT HTb.out.lt)
              simp [go_sem, evS, f3, p0, p1, p2]
              exact ⟨fun _ => by simp [sput], fun h => by simpa [sput] using h1 (by simpa [did] using h), fun h => by simpa [sput] using h2 (by simpa [did] using h), fun h => by simpa [sput] using h3 (by simpa [did] using h), fun h => by simpa [sput] using h4 (by simpa [did] using h), fun h => by simpa [sput] using h5 (by simpa [did] using h), fun h => by simpa [sput] using h6 (by simpa [did] using h), fun h => by simpa [sput] using h7 (by simpa [did] using h), fun h => by have := x0 (by simpa [did] using h); simp [did, this], fun h => by have := x1 (by simpa [did] using h); simp [did, this], ⟨fun _ => hT, fun h => by simp [did, hl] at h⟩⟩
            · have hl : d 7 = false := by
                cases h : d 7
                · rfl
                · have := x1 h; simp [hd] at this
              replace hT := hT.1 hl
              unfold OpSteps
              simp [go_sem, evS, f5]
              exact ⟨fun h => by simpa [sput] using h0 (by simpa [did] using h), fun _ => by simp [sput], fun h => by simpa [sput] using h2 (by simpa [did] using h), fun h => by simpa [sput] using h3 (by simpa [did] using h), fun h => by simpa [sput] using h4 (by simpa [did] using h), fun h => by simpa [sput] using h5 (by simpa [did] using h), fun h => by simpa [sput] using h6 (by simpa [did] using h), fun h => by simpa [sput] using h7 (by simpa [did] using h), fun h => by have := x0 (by simpa [did] using h); simp [did, this], fun h => by have := x1 (by simpa [did] using h); simp [did, this], ⟨fun _ => hT, fun h => by simp [did, hl] at h⟩⟩
            · have hl : d 7 = false := by
                cases h : d 7
                · rfl
                · have := x1 h; simp [hd] at this
              replace hT := hT.1 hl
              unfold OpSteps
              simp [go_sem, evS, f4]
              exact ⟨fun h => by simpa [sput] using h0 (by simpa [did] using h), fun h => by simpa [sput] using h1 (by simpa [did] using h), fun _ => by simp [sput], fun h => by simpa [sput] using h3 (by simpa [did] using h), fun h => by simpa [sput] using h4 (by simpa [did] using h), fun h => by simpa [sput] using h5 (by simpa [did] using h), fun h => by simpa [sput] using h6 (by simpa [did] using h), fun h => by simpa [sput] using h7 (by simpa [did] using h), fun h => by have := x0 (by simpa [did] using h); simp [did, this], fun h => by have := x1 (by simpa [did] using h); simp [did, this], ⟨fun _ => hT, fun h => by simp [did, hl] at h⟩⟩
            · have hl : d 7 = false := by
                cases h : d 7
                · rfl
                · have := x1 h; simp [hd] at this
              replace hT := hT.1 hl
              unfold OpSteps
              obtain ⟨p0, p1, p2⟩ := cells3v (HZ.out.below hT HZ.out.lt)
              simp [go_sem, evS, f1, p0, p1, p2]
              exact ⟨fun h => by simpa [sput] using h0 (by simpa [did] using h), fun h => by simpa [sput] using h1 (by simpa [did] using h), fun h => by simpa [sput] using h2 (by simpa [did] using h), fun _ => by simp [sput], fun h => by simpa [sput] using h4 (by simpa [did] using h), fun h => by simpa [sput] using h5 (by simpa [did] using h), fun h => by simpa [sput] using h6 (by simpa [did] using h), fun h => by simpa [sput] using h7 (by simpa [did] using h), fun h => by have := x0 (by simpa [did] using h); simp [did, this], fun h => by have := x1 (by simpa [did] using h); simp [did, this], ⟨fun _ => hT, fun h => by simp [did, hl] at h⟩⟩
            · have hl : d 7 = false := by
                cases h : d 7
                · rfl
                · have := x1 h; simp [hd] at this
              replace hT := hT.1 hl
              unfold OpSteps
              simp [go_sem, evS, f4]
              exact ⟨fun h => by simpa [sput] using h0 (by simpa [did] using h), fun h => by simpa [sput] using h1 (by simpa [did] using h), fun h => by simpa [sput] using h2 (by simpa [did] using h), fun h => by simpa [sput] using h3 (by simpa [did] using h), fun _ => by simp [sput], fun h => by simpa [sput] using h5 (by simpa [did] using h), fun h => by simpa [sput] using h6 (by simpa [did] using h), fun h => by simpa [sput] using h7 (by simpa [did] using h), fun h => by have := x0 (by simpa [did] using h); simp [did, this], fun h => by have := x1 (by simpa [did] using h); simp [did, this], ⟨fun _ => hT, fun h => by simp [did, hl] at h⟩⟩
            · have hl : d 7 = false := by
                cases h : d 7
                · rfl
                · have := x1 h; simp [hd] at this
              replace hT := hT.1 hl
              unfold OpSteps
              simp [go_sem, evS, f5]
              exact ⟨fun h => by simpa [sput] using h0 (by simpa [did] using h), fun h => by simpa [sput] using h1 (by simpa [did] using h), fun h => by simpa [sput] using h2 (by simpa [did] using h), fun h => by simpa [sput] using h3 (by simpa [did] using h), fun h => by simpa [sput] using h4 (by simpa [did] using h), fun _ => by simp [sput], fun h => by simpa [sput] using h6 (by simpa [did] using h), fun h => by simpa [sput] using h7 (by simpa [did] using h), fun h => by have := x0 (by simpa [did] using h); simp [did, this], fun h => by have := x1 (by simpa [did] using h); simp [did, this], ⟨fun _ => hT, fun h => by simp [did, hl] at h⟩⟩
            · have hl : d 7 = false := by
                cases h : d 7
                · rfl
                · have := x1 h; simp [hd] at this
              replace hT := hT.1 hl
              have g3 := h3 (by simp [hdep])
              have g4 := h4 (by simp [hdep])
              have g5 := h5 (by simp [hdep])
              unfold OpSteps
              simp [go_sem, evS, g3, g4, g5]
              refine (HAv.out W (HWz.out W hT)).mono ?_
              rintro e W' ⟨rfl, hb⟩
              refine ⟨_, rfl, ?_⟩
              exact ⟨fun h => by simpa [sput] using h0 (by simpa [did] using h), fun h => by simpa [sput] using h1 (by simpa [did] using h), fun h => by simpa [sput] using h2 (by simpa [did] using h), fun h => by simpa [sput] using h3 (by simpa [did] using h), fun h => by simpa [sput] using h4 (by simpa [did] using h), fun h => by simpa [sput] using h5 (by simpa [did] using h), fun _ => by simp [sput], fun h => by simpa [sput] using h7 (by simpa [did] using h), fun _ => by simp [did, hdep], fun h => by have := x1 (by simpa [did] using h); simp [did, this], ⟨fun _ => below_nx hT hb, fun h => by simp [did, hl] at h⟩⟩
            · have g0 := h0 (by simp [hdep])
              have g1 := h1 (by simp [hdep])
              have g2 := h2 (by simp [hdep])
              have g6 := h6 (by simp [hdep])
              unfold OpSteps
              replace hT := hT.1 hd
              simp [go_sem, evS, g0, g1, g2, g6]
              refine (HStO.out W m0 (HOw.out.nxt hT)).mono ?_
              rintro e W' ⟨rfl, ho, hOn⟩
              refine ⟨_, rfl, ?_⟩
              exact ⟨fun h => by simpa [sput] using h0 (by simpa [did] using h), fun h => by simpa [sput] using h1 (by simpa [did] using h), fun h => by simpa [sput] using h2 (by simpa [did] using h), fun h => by simpa [sput] using h3 (by simpa [did] using h), fun h => by simpa [sput] using h4 (by simpa [did] using h), fun h => by simpa [sput] using h5 (by simpa [did] using h), fun h => by simpa [sput] using h6 (by simpa [did] using h), fun _ => by simp [sput], fun h => by have := x0 (by simpa [did] using h); simp [did, this], fun _ => by have y6 := x0 (by simp [hdep]); simp [did, hdep, y6], ⟨fun h => by simp [did] at h, fun _ => ⟨W, m0, hT, HVal.out, ho, hOn⟩⟩⟩
          intro d s W hJ hd
          obtain ⟨h0, h1, h2, h3, h4, h5, h6, h7, x0, x1, hT⟩ := hJ
          obtain ⟨W', r9, hbw, hr, ho, hOn⟩ := hT.2 (hd 7 (by decide))
          have HR := Lib.hid hr
          have HO2 := Lib.hid ho
          have HZ2 := Lib.hid (hOn.blk (by have := HNe.out; omega) (HS.out.2.2.1.nxt hbw))
          have HE2 := Lib.hid (hOn.blk (by have := HNe.out; omega) (HS.out.2.2.2.1.nxt hbw))
          have HTb2 := Lib.hid (hOn.blk (by have := HNe.out; omega) (HS.out.2.2.2.2.1.nxt hbw))
          have HB2 := Lib.hid (show Below z w W from hOn.below (by have h := HS.out.2.2.2.2.2; rw [← Hz.out] at h ⊢; exact below_nx h hbw) (by have := HS.out.2.2.1.lt; have := hbw.size; omega) (by have := HNe.out; omega))
          clear h0 h1 h2 h3 h4 h5 h6 h7 x0 x1 hT hd hbw hr ho hOn
          simp [setAll]
          generalize s 23 = s23
          generalize s 24 = s24
          generalize s 25 = s25
          generalize s 26 = s26
          generalize s 27 = s27
          generalize s 28 = s28
          generalize s 29 = s29
          generalize s 30 = s30
          generalize W = w9 at *
          go_wp2_with fail
          go_roundw
          case rel => exact ⟨j1 + 1, T1.set P r9, by omega, by go_num, Lib.hid ⟨HSt.out r9 HR.out, HO2.out, HZ2.out, HE2.out, HTb2.out, HB2.out⟩⟩
          case measure => simp [intOf]; omega
        · obtain rfl : j1 = C := by omega
          have hbb : ¬ (j1 : Int) < (j1 : Int) := by omega
          go_wp2_with fail
          go_roundw
          case rel => exact ⟨i1 + 1, T1, by omega, by go_num, Lib.hid ⟨HS.out.1.next, HS.out.2⟩⟩
          case measure => simp [intOf]; omega
    · obtain rfl : R = i1 := by omega
      have hbb : ¬ (R : Int) < (R : Int) := by omega
      obtain ⟨t0, t1, t2⟩ := cells3v HS.out.2.2.2.2.1
      obtain ⟨z0, z1, z2⟩ := cells3v HS.out.2.2.2.1
      obtain ⟨y0, y1, y2⟩ := frozen3v HS.out.2.2.2.1
      have HSt := Lib.hid (HS.out.2.2.2.1.store3v (.int .i64 (C : Int)) (.int .i64 (R : Int)) (.slice (some ⟨go, 0, none⟩) N N))
      have HBe := Lib.hid (nbelow3g HS.out.2.2.2.2.2 (Nat.le_succ z) (.int .i64 (C : Int)) (.int .i64 (R : Int)) (.slice (some ⟨go, 0, none⟩) N N))
      have HKe := Lib.hid (nown3g HS.out.2.1 (show go ≠ z + 1 by have := HNe.out; omega) (.int .i64 (C : Int)) (.int .i64 (R : Int)) (.slice (some ⟨go, 0, none⟩) N N))
      go_wp2_with fail
      obtain ⟨j0, j1, j2⟩ := cells3v HSt.out
      exact bodyPost_ret (v := .agg #[.int .i64 (C : Int), .int .i64 (R : Int), .slice (some ⟨go, 0, none⟩) N N]) (by simp [results, Try.results20, go_sem, j0, j1, j2]) rfl ⟨go, T1, rfl, HKe.out, HS.out.1.1, HS.out.1.done, by have := Hz.out; have := HNe.out; omega, by rw [Hz.out]; exact HBe.out⟩
theorem ndense_turn {l M : List Nat} {o R C L : Nat} (h : Dense (colsL l o R L C) C R M) {a b : Nat} (ha : a < R) (hb : b < C) : M.getD (b + a * C) 0 = l.getD (o + a + b * L) 0 := by
  have hp : b * R + a < C * R := tab_lt hb ha
  have h2 := h.2 (b * R + a) hp
  rw [colsL_getD l o R L ha hb] at h2
  have h3 : spot C R (b * R + a) = b + a * C := by
    unfold spot
    have e1 : (b * R + a) / R = b := by rw [Nat.add_comm, Nat.add_mul_div_right _ _ (by omega), Nat.div_eq_of_lt ha]; simp
    have e2 : (b * R + a) % R = a := by rw [Nat.add_comm, Nat.add_mul_mod_self_right, Nat.mod_eq_of_lt ha]
    rw [e1, e2]
  rw [← h3]
  exact h2

end Go.Proofs.Ytbdlfaclakppgaa
/-
NormsTurn. Conditions: none.
-/
set_option linter.unusedVariables false
set_option linter.unusedSimpArgs false
set_option linter.unnecessarySimpa false
namespace Go.Proofs.Ytbdlfaclakppgaa
open Go.RowKit
attribute [local go_sem ↓] Go.wp_at_zero Go.wp_at_succ

set_option maxHeartbeats 2000000 in
theorem normsTurn_great (Am : Option Addr) (nm cm : Nat) (mo mr mk ml : Int) (w : World) (h : greatB nm mr mk = true) : Calls Try.prog 5 #[mat Am nm cm mo mr mk ml] w fun e w' => e = .returned (.bool true) ∧ Below w.heap.size w w' := by
  have HGr := Lib.hid (fun W => great_any Am nm cm mo mr mk ml W)
  rw [h] at HGr
  clear h
  unfold mat at *
  go_enter Try.func5, Try.ntmps5
  have Hm0 := Lib.hid (Blk.new w 24 #[.slice Am nm cm, .int .i64 mo, .int .i64 mr, .int .i64 mk, .int .i64 ml])
  have HB0 := Lib.hid ((Below.refl w.heap.size w).alloc (Nat.le_refl _) (.cells #[.slice Am nm cm, .int .i64 mo, .int .i64 mr, .int .i64 mk, .int .i64 ml] 24))
  obtain ⟨m0, m1, m2, m3, m4⟩ := cells5 Hm0.out
  go_wp2_with fail
  refine (awake10_any _).mono ?_
  rintro e w1 ⟨rfl, hb⟩
  have Hm1 := Lib.hid (Hm0.out.nxt hb)
  have HB1 := Lib.hid (below_nx HB0.out hb)
  clear hb
  clear m0 m1 m2 m3 m4
  obtain ⟨m0, m1, m2, m3, m4⟩ := cells5 Hm1.out
  go_wp2_with fail
  refine (HGr.out _).mono ?_
  rintro e w2 ⟨rfl, hb⟩
  have Hm2 := Lib.hid (Hm1.out.nxt hb)
  have HB2 := Lib.hid (below_nx HB1.out hb)
  clear hb
  clear m0 m1 m2 m3 m4
  obtain ⟨m0, m1, m2, m3, m4⟩ := cells5 Hm2.out
  go_wp2_with fail
  refine (awake10_any _).mono ?_
  rintro e w3 ⟨rfl, hb⟩
  have Hm3 := Lib.hid (Hm2.out.nxt hb)
  have HB3 := Lib.hid (below_nx HB2.out hb)
  clear hb
  clear m0 m1 m2 m3 m4
  obtain ⟨m0, m1, m2, m3, m4⟩ := cells5 Hm3.out
  go_wp2_with fail
  go_ret
  exact ⟨rfl, HB3.out⟩

set_option maxRecDepth 100000 in
set_option maxHeartbeats 2000000 in
theorem normsTurn_bad (Am : Option Addr) (nm cm : Nat) (mo mr mk ml : Int) (w : World) (hn : nm ≤ 1000) (hmo : I64 mo) (hmr : I64 mr) (hmk : I64 mk) (hml : I64 ml) (hG : greatB nm mr mk = false) (h : matB nm mo mr mk ml = false) : Calls Try.prog 5 #[mat Am nm cm mo mr mk ml] w fun e w' => e = .returned (.bool true) ∧ Below w.heap.size w w' := by
  have HGr := Lib.hid (fun W => great_any Am nm cm mo mr mk ml W)
  rw [hG] at HGr
  have HGm := Lib.hid (fun W => rgood_any Am nm cm mo mr mk ml W (by omega) hmo hmr hmk hml)
  rw [h] at HGm
  clear h hG hn hmo hmr hmk hml
  unfold mat at *
  go_enter Try.func5, Try.ntmps5
  have Hm0 := Lib.hid (Blk.new w 24 #[.slice Am nm cm, .int .i64 mo, .int .i64 mr, .int .i64 mk, .int .i64 ml])
  have HB0 := Lib.hid ((Below.refl w.heap.size w).alloc (Nat.le_refl _) (.cells #[.slice Am nm cm, .int .i64 mo, .int .i64 mr, .int .i64 mk, .int .i64 ml] 24))
  obtain ⟨m0, m1, m2, m3, m4⟩ := cells5 Hm0.out
  go_wp2_with fail
  refine (awake10_any _).mono ?_
  rintro e w1 ⟨rfl, hb⟩
  have Hm1 := Lib.hid (Hm0.out.nxt hb)
  have HB1 := Lib.hid (below_nx HB0.out hb)
  clear hb
  clear m0 m1 m2 m3 m4
  obtain ⟨m0, m1, m2, m3, m4⟩ := cells5 Hm1.out
  go_wp2_with fail
  refine (HGr.out _).mono ?_
  rintro e w2 ⟨rfl, hb⟩
  have Hm2 := Lib.hid (Hm1.out.nxt hb)
  have HB2 := Lib.hid (below_nx HB1.out hb)
  clear hb
  clear m0 m1 m2 m3 m4
  obtain ⟨m0, m1, m2, m3, m4⟩ := cells5 Hm2.out
  go_wp2_with fail
  refine (HGm.out _).mono ?_
  rintro e w3 ⟨rfl, hb⟩
  have Hm3 := Lib.hid (Hm2.out.nxt hb)
  have HB3 := Lib.hid (below_nx HB2.out hb)
  clear hb
  clear m0 m1 m2 m3 m4
  obtain ⟨m0, m1, m2, m3, m4⟩ := cells5 Hm3.out
  go_wp2_with fail
  refine (awake10_any _).mono ?_
  rintro e w4 ⟨rfl, hb⟩
  have Hm4 := Lib.hid (Hm3.out.nxt hb)
  have HB4 := Lib.hid (below_nx HB3.out hb)
  clear hb
  clear m0 m1 m2 m3 m4
  obtain ⟨m0, m1, m2, m3, m4⟩ := cells5 Hm4.out
  go_wp2_with fail
  go_ret
  exact ⟨rfl, HB4.out⟩

/-- What the turned matrix' list holds. -/
theorem nr_turned {l T M : List Nat} {o R C L N D : Nat} {T' : List Nat} (hT : Tab l o R C L N T) (hN : R * C = N) (hT' : ∀ i, i < R → ∀ j, j < C → TurnTn T C i j (T'.getD (j * R + i) 0)) (hM : Dense T' C R M) (hD : max 1 C = D) {i j : Nat} (hi : i < R) (hj : j < C) : M.getD (0 + j + i * D) 0 = l.getD (o + i + j * L) 0 := by
  have hD2 : D = C := by omega
  subst hD2
  have h2 := hM.2 (j * R + i) (tab_lt hj hi)
  have h3 : spot D R (j * R + i) = 0 + j + i * D := by
    unfold spot
    have e1 : (j * R + i) / R = j := by rw [Nat.add_comm, Nat.add_mul_div_right _ _ (by omega), Nat.div_eq_of_lt hi]; simp
    have e2 : (j * R + i) % R = i := by rw [Nat.add_comm, Nat.add_mul_mod_self_right, Nat.mod_eq_of_lt hi]
    rw [e1, e2]; omega
  rw [h3] at h2
  have h4 := hT' i hi j hj
  unfold TurnTn at h4
  rw [h2, h4]
  exact tab_get hT hN hi hj
theorem nr_turn12 {l M : List Nat} {o R C L D : Nat} (h : ∀ i, i < R → ∀ j, j < C → M.getD (0 + j + i * D) 0 = l.getD (o + i + j * L) 0) : nrZ2 M 0 C R D = nrZ1 l o R C L := by
  unfold nrZ1 nrZ2
  by_cases h0 : R = 0 ∨ C = 0
  · rw [if_pos h0, if_pos (by omega)]
  · rw [if_neg h0, if_neg (by omega)]
    congr 1
    unfold rowS colS
    refine ext_getD (by simp) fun j hj => ?_
    have hj2 : j < C := by simpa using hj
    rw [nrmap_getD hj2, nrmap_getD hj2]
    congr 1
    refine ext_getD (by rw [lst_length, lst_length]) fun i hi => ?_
    rw [lst_length] at hi
    rw [lst_getD M (0 + j) D hi, lst_getD l (o + j * L) 1 hi, h i hi j hj2]
    congr 1
    omega
theorem nr_turn3 {l M : List Nat} {o R C L D : Nat} (h : ∀ i, i < R → ∀ j, j < C → M.getD (0 + j + i * D) 0 = l.getD (o + i + j * L) 0) : Is (nrZ3 M 0 C R D) (nrZ3 l o R C L) := by
  unfold nrZ3
  by_cases h0 : R = 0 ∨ C = 0
  · rw [if_pos h0, if_pos (by omega)]; exact is_zero
  · rw [if_neg h0, if_neg (by omega)]
    refine GrP.unique (grp_rowM.congr fun x => ?_) grp_rowM
    constructor
    · rintro ⟨j, hj, i, hi, e⟩; exact ⟨i, hi, j, hj, by rw [e, h i hi j hj]⟩
    · rintro ⟨i, hi, j, hj, e⟩; exact ⟨j, hj, i, hi, by rw [e, h i hi j hj]⟩

set_option maxRecDepth 100000 in
set_option maxHeartbeats 2000000 in
theorem normsTurn_ok (Am : Option Addr) (nm cm : Nat) (lm : List Nat) (o R C L : Nat) (w : World) (hAm : Row w Am (f64s lm)) (hWm : Wds lm) (hlm : lm.length = nm) (hnc : nm ≤ cm) (hn : nm ≤ 1000) (hoI : I64 o) (hLI : I64 L) (hR : R ≤ 20) (hC : C ≤ 20) (hL1 : 1 ≤ L) (hRL : R ≤ L) (hmr : R = 0 ∨ C = 0 ∨ o + (C - 1) * L + (R - 1) < nm) :
    Calls Try.prog 5 #[mat Am nm cm o R C L] w fun e w' => e = .returned (.bool true) ∧ Below w.heap.size w w' := by
  have hG : greatB nm (R : Int) (C : Int) = false := by unfold greatB; simp; omega
  have HGr := Lib.hid (fun W => great_any Am nm cm o R C L W)
  rw [hG] at HGr
  have HGm := Lib.hid (fun W => rgood_any Am nm cm o R C L W (by omega) hoI (by unfold I64; omega) (by unfold I64; omega) hLI)
  rw [mat_right hL1 hRL hmr] at HGm
  have H1 := Lib.hid (fun W (hb : Below w.heap.size w W) => nrone_any Am nm cm lm o R C L W (hAm.below hb) hWm hlm (by omega) hoI hLI (by omega) (by omega) hL1 hRL hmr)
  have H3 := Lib.hid (fun W (hb : Below w.heap.size w W) => nrmax_any Am nm cm lm o R C L W (hAm.below hb) hWm hlm hnc (by omega) hoI hLI (by omega) (by omega) hL1 hRL hmr)
  obtain ⟨N, hN⟩ : ∃ N, R * C = N := ⟨_, rfl⟩
  obtain ⟨D, hD⟩ : ∃ D, max 1 C = D := ⟨_, rfl⟩
  have hNb : N ≤ 400 := by
    have h1 : R * C ≤ 20 * 20 := Nat.mul_le_mul hR hC
    omega
  have hNt : C * R = N := by rw [Nat.mul_comm]; exact hN
  have hgd2 : C = 0 ∨ R = 0 ∨ 0 + (R - 1) * D + (C - 1) < N := by
    by_cases h0 : C = 0
    · exact .inl h0
    by_cases h1 : R = 0
    · exact .inr (.inl h1)
    right; right
    have hD2 : D = C := by omega
    subst hD2
    obtain ⟨r, rfl⟩ : ∃ r, R = r + 1 := ⟨R - 1, by omega⟩
    rw [← hN, Nat.add_sub_cancel, Nat.add_mul]
    omega
  have HOf := Lib.hid (fun W (hb : Below w.heap.size w W) => show Calls Try.prog 12 #[mat Am nm cm o R C L] W fun e w' => ∃ g T, e = .returned (tbl R C g N N) ∧ Tab lm o R C L N T ∧ Row w' (some ⟨g, 0, none⟩) (f64s T) ∧ Below W.heap.size W w' from by
    refine (rof_any Am nm cm lm o R C L N W (hAm.below hb) hlm (by omega) hN (by omega) (by omega) (by omega) hmr).mono ?_
    rintro e w' ⟨g', T, e1, e2, e3, _, e4⟩
    exact ⟨g', T, e1, e2, e3, e4⟩)
  have HTu := Lib.hid (fun (g : Nat) (T : List Nat) W (hb : Below w.heap.size w W) (hT : Tab lm o R C L N T) (h : Row W (some ⟨g, 0, none⟩) (f64s T)) => nrturn_any R C g N N T W h (by rw [hT.1, hN]) hN (by omega) (by omega) (by omega))
  have HDe := Lib.hid (fun (g : Nat) (U : List Nat) W (hU : U.length = N) (hO : Own W g U) => show Calls Try.prog 21 #[.int .i64 (C : Int), .int .i64 (R : Int), .slice (some ⟨g, 0, none⟩) N N] W fun e w' => ∃ g2 M, e = .returned (.agg #[.slice (some ⟨g2, 0, none⟩) N N, .int .i64 0, .int .i64 (C : Int), .int .i64 (R : Int), .int .i64 (D : Int)]) ∧ Dense U C R M ∧ Own w' g2 M ∧ Below W.heap.size W w' from by
    have := dense_blk (some ⟨g, 0, none⟩) N U C R W (by omega) (by omega) hO.row (by omega) (by omega)
    rw [hU, hNt, hD] at this
    refine this.mono ?_
    rintro e w' ⟨g', M, rfl, hd, hB, hg, hb⟩
    exact ⟨g', M, by simp [mat], hd, own_blk hB, hb⟩)
  have HWd := Lib.hid (fun (T U M : List Nat) (hT : Tab lm o R C L N T) (hU : ∀ i, i < R → ∀ j, j < C → TurnTn T C i j (U.getD (j * R + i) 0)) (hUl : U.length = N) (hM : Dense U C R M) => show Wds M from by
    have hMe := fun i (hi : i < R) j (hj : j < C) => nr_turned hT hN hU hM hD hi hj
    intro b hb
    obtain ⟨k, hk, rfl⟩ := List.mem_iff_getElem.1 hb
    rw [← getD_of_lt hk]
    rw [hM.1, hNt, ← hN] at hk
    have hC0 : 0 < C := by
      rcases Nat.eq_zero_or_pos C with e | e
      · subst e; simp at hk
      · exact e
    have hD2 : D = C := by omega
    have e2 : k = 0 + k % C + k / C * D := by rw [hD2, Nat.zero_add, Nat.mul_comm]; exact (Nat.mod_add_div k C).symm
    rw [e2, hMe _ (Nat.div_lt_of_lt_mul (by rw [Nat.mul_comm]; exact hk)) _ (Nat.mod_lt _ hC0)]
    exact getD_wds hWm _)
  have H2 := Lib.hid (fun (g : Nat) (M : List Nat) W (hl : M.length = N) (hw : Wds M) (h : ∀ i, i < R → ∀ j, j < C → M.getD (0 + j + i * D) 0 = lm.getD (o + i + j * L) 0) (hO : Own W g M) => show Calls Try.prog 9 #[.agg #[.slice (some ⟨g, 0, none⟩) N N, .int .i64 0, .int .i64 (C : Int), .int .i64 (R : Int), .int .i64 (D : Int)]] W fun e w' => ∃ r, e = .returned (.tuple #[.float .f64 r, .int .i64 0]) ∧ Is r (nrZ1 lm o R C L) ∧ Below W.heap.size W w' from by
    refine (nrinf_any (some ⟨g, 0, none⟩) N N M 0 C R D W hO.row hw hl (by omega) (by unfold I64; omega) (by unfold I64; omega) (by omega) (by omega) (by omega) (by omega) hgd2).mono ?_
    rintro e w' ⟨r, e1, hr, hb⟩
    exact ⟨r, e1, by rw [← nr_turn12 h]; exact hr, hb⟩)
  have H4 := Lib.hid (fun (g : Nat) (M : List Nat) W (hl : M.length = N) (hw : Wds M) (h : ∀ i, i < R → ∀ j, j < C → M.getD (0 + j + i * D) 0 = lm.getD (o + i + j * L) 0) (hO : Own W g M) => show Calls Try.prog 10 #[.agg #[.slice (some ⟨g, 0, none⟩) N N, .int .i64 0, .int .i64 (C : Int), .int .i64 (R : Int), .int .i64 (D : Int)]] W fun e w' => ∃ r, e = .returned (.tuple #[.float .f64 r, .int .i64 0]) ∧ Is r (nrZ3 lm o R C L) ∧ Below W.heap.size W w' from by
    refine (nrmax_any (some ⟨g, 0, none⟩) N N M 0 C R D W hO.row hw hl (Nat.le_refl _) (by omega) (by unfold I64; omega) (by unfold I64; omega) (by omega) (by omega) (by omega) (by omega) hgd2).mono ?_
    rintro e w' ⟨r, e1, hr, hb⟩
    exact ⟨r, e1, hr.trans (nr_turn3 h), hb⟩)
  have HN := Lib.hid hN
  have HNt := Lib.hid hNt
  have HD := Lib.hid hD
  generalize nrZ1 lm o R C L = z1 at *
  generalize nrZ3 lm o R C L = z3 at *
  clear hAm hWm hlm hnc hn hoI hLI hR hC hL1 hRL hmr hG hN hNb hNt hD hgd2
  unfold mat tbl at *
  unfold RetTn tbl at HTu
  go_enter Try.func5, Try.ntmps5
  have Hm0 := Lib.hid (Blk.new w 24 #[.slice Am nm cm, .int .i64 (o : Int), .int .i64 (R : Int), .int .i64 (C : Int), .int .i64 (L : Int)])
  have HB0 := Lib.hid ((Below.refl w.heap.size w).alloc (Nat.le_refl _) (.cells #[.slice Am nm cm, .int .i64 (o : Int), .int .i64 (R : Int), .int .i64 (C : Int), .int .i64 (L : Int)] 24))
  obtain ⟨m0, m1, m2, m3, m4⟩ := cells5 Hm0.out
  go_wp2_with fail
  refine (awake10_any _).mono ?_
  rintro e w1 ⟨rfl, hb⟩
  have Hm1 := Lib.hid (Hm0.out.nxt hb)
  have HB1 := Lib.hid (below_nx HB0.out hb)
  clear hb
  clear m0 m1 m2 m3 m4
  obtain ⟨m0, m1, m2, m3, m4⟩ := cells5 Hm1.out
  go_wp2_with fail
  refine (HGr.out _).mono ?_
  rintro e w2 ⟨rfl, hb⟩
  have Hm2 := Lib.hid (Hm1.out.nxt hb)
  have HB2 := Lib.hid (below_nx HB1.out hb)
  clear hb
  clear m0 m1 m2 m3 m4
  obtain ⟨m0, m1, m2, m3, m4⟩ := cells5 Hm2.out
  go_wp2_with fail
  refine (HGm.out _).mono ?_
  rintro e w3 ⟨rfl, hb⟩
  have Hm3 := Lib.hid (Hm2.out.nxt hb)
  have HB3 := Lib.hid (below_nx HB2.out hb)
  clear hb
  clear m0 m1 m2 m3 m4
  obtain ⟨m0, m1, m2, m3, m4⟩ := cells5 Hm3.out
  go_wp2_with fail
  refine (HOf.out _ HB3.out).mono ?_
  rintro e wf ⟨gT, T, rfl, hT, hRw, hb⟩
  have HTt := Lib.hid hT
  have Hm4 := Lib.hid (Hm3.out.nxt hb)
  have HB4 := Lib.hid (below_nx HB3.out hb)
  clear hb
  clear m0 m1 m2 m3 m4
  obtain ⟨m0, m1, m2, m3, m4⟩ := cells5 Hm4.out
  have HT4 := Lib.hid hRw
  clear hT hRw
  go_wp2_with fail
  refine (HTu.out gT T _ HB4.out HTt.out HT4.out).mono ?_
  rintro e wt ⟨gU, U, rfl, hO, hUl, hU, _, hb⟩
  have HUl := Lib.hid hUl
  have HU := Lib.hid hU
  clear hUl hU
  have Hm5 := Lib.hid (Hm4.out.nxt hb)
  have HT5 := Lib.hid (HT4.out.below hb)
  have HB5 := Lib.hid (below_nx HB4.out hb)
  clear hb
  clear m0 m1 m2 m3 m4
  obtain ⟨m0, m1, m2, m3, m4⟩ := cells5 Hm5.out
  have HO5 := Lib.hid hO
  clear hO
  have hb9 : Below wt.heap.size wt (wt.alloc (.cells #[.int .i64 (C : Int), .int .i64 (R : Int), .slice (some ⟨gU, 0, none⟩) N N] 32)) := below_one
  have Hm6 := Lib.hid (Hm5.out.nxt hb9)
  have HO6 := Lib.hid (HO5.out.nxt hb9)
  have HB6 := Lib.hid (below_nx HB5.out hb9)
  have Ht6 := Lib.hid (Blk.new wt 32 #[.int .i64 (C : Int), .int .i64 (R : Int), .slice (some ⟨gU, 0, none⟩) N N])
  clear hb9
  clear m0 m1 m2 m3 m4
  obtain ⟨m0, m1, m2, m3, m4⟩ := cells5 Hm6.out
  obtain ⟨t0, t1, t2⟩ := cells3v Ht6.out
  go_wp2_with fail
  refine (HDe.out gU U _ HUl.out HO6.out).mono ?_
  rintro e wd ⟨gN, M, rfl, hM, hO2, hb⟩
  have HM := Lib.hid (fun i hi j hj => nr_turned HTt.out HN.out HU.out hM HD.out (i := i) (j := j) hi hj)
  have HMl := Lib.hid (hM.1.trans HNt.out)
  have HMw := Lib.hid (HWd.out T U M HTt.out HU.out HUl.out hM)
  have Hm7 := Lib.hid (Hm6.out.nxt hb)
  have Ht7 := Lib.hid (Ht6.out.nxt hb)
  have HO7 := Lib.hid (HO6.out.nxt hb)
  have HB7 := Lib.hid (below_nx HB6.out hb)
  clear hb
  clear m0 m1 m2 m3 m4 t0 t1 t2
  obtain ⟨m0, m1, m2, m3, m4⟩ := cells5 Hm7.out
  obtain ⟨t0, t1, t2⟩ := cells3v Ht7.out
  have HQ7 := Lib.hid hO2
  clear hO2 hM
  have hb9 : Below wd.heap.size wd (wd.alloc (.cells #[.slice (some ⟨gN, 0, none⟩) N N, .int .i64 0, .int .i64 (C : Int), .int .i64 (R : Int), .int .i64 (D : Int)] 24)) := below_one
  have Hm8 := Lib.hid (Hm7.out.nxt hb9)
  have Ht8 := Lib.hid (Ht7.out.nxt hb9)
  have HQ8 := Lib.hid (HQ7.out.nxt hb9)
  have HB8 := Lib.hid (below_nx HB7.out hb9)
  have Hn8 := Lib.hid (Blk.new wd 24 #[.slice (some ⟨gN, 0, none⟩) N N, .int .i64 0, .int .i64 (C : Int), .int .i64 (R : Int), .int .i64 (D : Int)])
  clear hb9
  clear m0 m1 m2 m3 m4 t0 t1 t2
  obtain ⟨m0, m1, m2, m3, m4⟩ := cells5 Hm8.out
  obtain ⟨t0, t1, t2⟩ := cells3v Ht8.out
  obtain ⟨n0, n1, n2, n3, n4⟩ := cells5 Hn8.out
  go_wp2_with fail
  refine (H1.out _ HB8.out).mono ?_
  rintro e wp1 ⟨r1, rfl, hr, hb⟩
  have HR1 := Lib.hid hr
  clear hr
  have Hm9 := Lib.hid (Hm8.out.nxt hb)
  have Ht9 := Lib.hid (Ht8.out.nxt hb)
  have Hn9 := Lib.hid (Hn8.out.nxt hb)
  have HQ9 := Lib.hid (HQ8.out.nxt hb)
  have HB9 := Lib.hid (below_nx HB8.out hb)
  clear hb
  clear m0 m1 m2 m3 m4 t0 t1 t2 n0 n1 n2 n3 n4
  obtain ⟨m0, m1, m2, m3, m4⟩ := cells5 Hm9.out
  obtain ⟨t0, t1, t2⟩ := cells3v Ht9.out
  obtain ⟨n0, n1, n2, n3, n4⟩ := cells5 Hn9.out
  go_wp2_with fail
  refine (H2.out gN M _ HMl.out HMw.out HM.out HQ9.out).mono ?_
  rintro e wp2 ⟨r2, rfl, hr, hb⟩
  have HR2 := Lib.hid hr
  clear hr
  have Hm10 := Lib.hid (Hm9.out.nxt hb)
  have Ht10 := Lib.hid (Ht9.out.nxt hb)
  have Hn10 := Lib.hid (Hn9.out.nxt hb)
  have HQ10 := Lib.hid (HQ9.out.nxt hb)
  have HB10 := Lib.hid (below_nx HB9.out hb)
  clear hb
  clear m0 m1 m2 m3 m4 t0 t1 t2 n0 n1 n2 n3 n4
  obtain ⟨m0, m1, m2, m3, m4⟩ := cells5 Hm10.out
  obtain ⟨t0, t1, t2⟩ := cells3v Ht10.out
  obtain ⟨n0, n1, n2, n3, n4⟩ := cells5 Hn10.out
  go_wp2_with fail
  refine (H3.out _ HB10.out).mono ?_
  rintro e wp3 ⟨r3, rfl, hr, hb⟩
  have HR3 := Lib.hid hr
  clear hr
  have Hm11 := Lib.hid (Hm10.out.nxt hb)
  have Ht11 := Lib.hid (Ht10.out.nxt hb)
  have Hn11 := Lib.hid (Hn10.out.nxt hb)
  have HQ11 := Lib.hid (HQ10.out.nxt hb)
  have HB11 := Lib.hid (below_nx HB10.out hb)
  clear hb
  clear m0 m1 m2 m3 m4 t0 t1 t2 n0 n1 n2 n3 n4
  obtain ⟨m0, m1, m2, m3, m4⟩ := cells5 Hm11.out
  obtain ⟨t0, t1, t2⟩ := cells3v Ht11.out
  obtain ⟨n0, n1, n2, n3, n4⟩ := cells5 Hn11.out
  go_wp2_with fail
  refine (H4.out gN M _ HMl.out HMw.out HM.out HQ11.out).mono ?_
  rintro e wp4 ⟨r4, rfl, hr, hb⟩
  have HR4 := Lib.hid hr
  clear hr
  have Hm12 := Lib.hid (Hm11.out.nxt hb)
  have Ht12 := Lib.hid (Ht11.out.nxt hb)
  have Hn12 := Lib.hid (Hn11.out.nxt hb)
  have HQ12 := Lib.hid (HQ11.out.nxt hb)
  have HB12 := Lib.hid (below_nx HB11.out hb)
  clear hb
  clear m0 m1 m2 m3 m4 t0 t1 t2 n0 n1 n2 n3 n4
  obtain ⟨m0, m1, m2, m3, m4⟩ := cells5 Hm12.out
  obtain ⟨t0, t1, t2⟩ := cells3v Ht12.out
  obtain ⟨n0, n1, n2, n3, n4⟩ := cells5 Hn12.out
  go_wp2_with fail
  refine (rsame_v r1 r2 _ HR1.out.lt HR2.out.lt).mono ?_
  rw [HR1.out.same HR2.out]
  rintro e ws1 ⟨rfl, rfl⟩
  go_wp2_with fail
  refine (rsame_v r3 r4 _ HR3.out.lt HR4.out.lt).mono ?_
  rw [HR3.out.same HR4.out]
  rintro e ws3 ⟨rfl, rfl⟩
  go_wp2_with fail
  refine (awake10_any _).mono ?_
  rintro e w13 ⟨rfl, hb⟩
  have Hm13 := Lib.hid (Hm12.out.nxt hb)
  have Ht13 := Lib.hid (Ht12.out.nxt hb)
  have Hn13 := Lib.hid (Hn12.out.nxt hb)
  have HQ13 := Lib.hid (HQ12.out.nxt hb)
  have HB13 := Lib.hid (below_nx HB12.out hb)
  clear hb
  clear m0 m1 m2 m3 m4 t0 t1 t2 n0 n1 n2 n3 n4
  obtain ⟨m0, m1, m2, m3, m4⟩ := cells5 Hm13.out
  obtain ⟨t0, t1, t2⟩ := cells3v Ht13.out
  obtain ⟨n0, n1, n2, n3, n4⟩ := cells5 Hn13.out
  go_wp2_with fail
  go_ret
  exact ⟨rfl, HB13.out⟩

theorem normsTurn_walk (Am : Option Addr) (cm : Nat) (lm : List Nat) (mo mr mk ml : Int) (w : World) (hAm : Row w Am (f64s lm)) (hWm : Wds lm) (hnc : lm.length ≤ cm) (hmo : I64 mo) (hmr : I64 mr) (hmk : I64 mk) (hml : I64 ml) :
    Calls Try.prog 5 #[mat Am lm.length cm mo mr mk ml] w fun e w' => e = .returned (.bool true) ∧ Below w.heap.size w w' := by
  cases hG : greatB lm.length mr mk
  · have hn : lm.length ≤ 1000 ∧ mr ≤ 20 ∧ mk ≤ 20 := by have h := hG; unfold greatB at h; simp at h; omega
    cases h : matB lm.length mo mr mk ml
    · exact normsTurn_bad Am _ cm mo mr mk ml w hn.1 hmo hmr hmk hml hG h
    · obtain ⟨o, R, C, L, rfl, rfl, rfl, rfl, hL1, hRL, hmr2⟩ := mat_nat h
      exact normsTurn_ok Am _ cm lm o R C L w hAm hWm rfl hnc hn.1 hmo hml (by omega) (by omega) hL1 hRL hmr2
  · exact normsTurn_great Am _ cm mo mr mk ml w hG

end Go.Proofs.Ytbdlfaclakppgaa
