/-
Trsv: the document's Solve, put together. Conditions: as each says.
-/
import Derived.Test.YtlhdcajamempoaaZTrH1
import Derived.Test.YtlhdcajamempoaaZTrH2
import Derived.Test.YtlhdcajamempoaaZTrH3
import Derived.Test.YtlhdcajamempoaaZTrH4
set_option linter.unusedVariables false
set_option linter.unusedSimpArgs false
set_option linter.unnecessarySimpa false
namespace Go.Proofs.Ytlhdcajamempoaa
open Go.RowKit
attribute [local go_sem ↓] Go.wp_at_zero Go.wp_at_succ


set_option maxRecDepth 100000 in
set_option maxHeartbeats 2000000 in
theorem rtsolve_nil1 (R gT N cT c : Nat) (F : Nat → Nat) (w : World) (hR : R = 0) : Calls Try.prog 22 #[.int .i64 1, tbl R R gT N cT, .slice none 0 c] w (RtSd R F w) := by
  unfold tbl
  have HR := Lib.hid hR
  clear hR
  go_enter Try.func22, Try.ntmps22
  have HZ0 := Lib.hid (Blk.new w 47 #[.int .i64 R, .int .i64 R, .slice (some ⟨gT, 0, none⟩) N cT])
  have HW := Lib.hid (show (∃ cs, Blk ((w.alloc (.cells #[.int .i64 R, .int .i64 R, .slice (some ⟨gT, 0, none⟩) N cT] 47)).alloc (.cells #[] 28)) (w.heap.size + 1) 28 cs) ∧ Below w.heap.size w ((w.alloc (.cells #[.int .i64 R, .int .i64 R, .slice (some ⟨gT, 0, none⟩) N cT] 47)).alloc (.cells #[] 28)) from ⟨⟨#[], Blk.new_ (w.alloc (.cells #[.int .i64 R, .int .i64 R, .slice (some ⟨gT, 0, none⟩) N cT] 47)) _ _ (w.heap.size + 1) (by simp)⟩, ((Below.refl w.heap.size w).alloc (Nat.le_refl _) _).alloc (by simp) _⟩)
  obtain ⟨t0, t1, t2⟩ := cells3v HZ0.out
  go_wp2_with fail
  clear t0 t1 t2 HZ0
  generalize (w.alloc (.cells #[.int .i64 R, .int .i64 R, .slice (some ⟨gT, 0, none⟩) N cT] 47)).alloc (.cells #[] 28) = w1 at *
  have Hg : w.heap.size ≤ w.heap.size + 1 := by omega
  generalize w.heap.size + 1 = g at *
  go_loopw [10] (fun x wr => ∃ i : Nat, i ≤ R ∧ x = .int .i64 (i : Int) ∧ Hid ((∃ cs, Blk wr g 28 cs) ∧ Below w.heap.size w wr)) (fun x _ => R - (intOf x).toNat)
  case atStart => exact ⟨0, Nat.zero_le _, rfl, HW⟩
  case round =>
    obtain ⟨i, hi, rfl, HH⟩ := hrel
    obtain rfl : R = i := by have := HR.out; omega
    have hqc : ¬ (R : Int) < (R : Int) := by omega
    have HW := HH
    clear hi
    go_wp2_with fail
    clear hqc
    go_loopw [11] (fun x wr => ∃ i : Nat, i ≤ R ∧ x = .int .i64 (i : Int) ∧ Hid ((∃ cs, Blk wr g 28 cs) ∧ Below w.heap.size w wr)) (fun x _ => 0)
    case atStart => exact ⟨0, Nat.zero_le _, rfl, HW⟩
    case round =>
      obtain ⟨i, hi, rfl, HH⟩ := hrel
      obtain rfl : R = i := by have := HR.out; omega
      have hqc : ¬ (R : Int) < (R : Int) := by omega
      go_wp2_with fail
      go_ret2
      obtain ⟨⟨cs, h1⟩, h2⟩ := HH.out
      have hR := HR.out
      exact ⟨g, 0, [], by subst hR; rfl, ⟨by simp [hR], fun p hp => by omega⟩, ⟨cs, h1, rfl⟩, Hg, h2⟩

set_option maxRecDepth 100000 in
set_option maxHeartbeats 2000000 in
theorem rtsolve_nil2 (R gT N cT c : Nat) (F : Nat → Nat) (w : World) (hR : R = 0) : Calls Try.prog 22 #[.int .i64 2, tbl R R gT N cT, .slice none 0 c] w (RtSd R F w) := by
  unfold tbl
  have HR := Lib.hid hR
  clear hR
  go_enter Try.func22, Try.ntmps22
  have HZ0 := Lib.hid (Blk.new w 47 #[.int .i64 R, .int .i64 R, .slice (some ⟨gT, 0, none⟩) N cT])
  have HW := Lib.hid (show (∃ cs, Blk ((w.alloc (.cells #[.int .i64 R, .int .i64 R, .slice (some ⟨gT, 0, none⟩) N cT] 47)).alloc (.cells #[] 28)) (w.heap.size + 1) 28 cs) ∧ Below w.heap.size w ((w.alloc (.cells #[.int .i64 R, .int .i64 R, .slice (some ⟨gT, 0, none⟩) N cT] 47)).alloc (.cells #[] 28)) from ⟨⟨#[], Blk.new_ (w.alloc (.cells #[.int .i64 R, .int .i64 R, .slice (some ⟨gT, 0, none⟩) N cT] 47)) _ _ (w.heap.size + 1) (by simp)⟩, ((Below.refl w.heap.size w).alloc (Nat.le_refl _) _).alloc (by simp) _⟩)
  obtain ⟨t0, t1, t2⟩ := cells3v HZ0.out
  go_wp2_with fail
  clear t0 t1 t2 HZ0
  generalize (w.alloc (.cells #[.int .i64 R, .int .i64 R, .slice (some ⟨gT, 0, none⟩) N cT] 47)).alloc (.cells #[] 28) = w1 at *
  have Hg : w.heap.size ≤ w.heap.size + 1 := by omega
  generalize w.heap.size + 1 = g at *
  go_loopw [10] (fun x wr => ∃ i : Nat, i ≤ R ∧ x = .int .i64 (i : Int) ∧ Hid ((∃ cs, Blk wr g 28 cs) ∧ Below w.heap.size w wr)) (fun x _ => R - (intOf x).toNat)
  case atStart => exact ⟨0, Nat.zero_le _, rfl, HW⟩
  case round =>
    obtain ⟨i, hi, rfl, HH⟩ := hrel
    obtain rfl : R = i := by have := HR.out; omega
    have hqc : ¬ (R : Int) < (R : Int) := by omega
    have HW := HH
    clear hi
    go_wp2_with fail
    clear hqc
    go_loopw [13] (fun x wr => ∃ z : Int, z < 0 ∧ x = .int .i64 z ∧ Hid ((∃ cs, Blk wr g 28 cs) ∧ Below w.heap.size w wr)) (fun x _ => 0)
    case atStart => exact ⟨(R : Int) - 1, by have := HR.out; omega, by have := HR.out; rw [wrap_id (by unfold I64; omega)], HW⟩
    case round =>
      obtain ⟨z, hz, rfl, HH⟩ := hrel
      have hqm : ¬ (0 : Int) ≤ z := by omega
      go_wp2_with fail
      go_ret2
      obtain ⟨⟨cs, h1⟩, h2⟩ := HH.out
      have hR := HR.out
      exact ⟨g, 0, [], by subst hR; rfl, ⟨by simp [hR], fun p hp => by omega⟩, ⟨cs, h1, rfl⟩, Hg, h2⟩

set_option maxRecDepth 100000 in
set_option maxHeartbeats 2000000 in
theorem rtsolve_nil3 (R gT N cT c : Nat) (F : Nat → Nat) (w : World) (hR : R = 0) : Calls Try.prog 22 #[.int .i64 3, tbl R R gT N cT, .slice none 0 c] w (RtSd R F w) := by
  unfold tbl
  have HR := Lib.hid hR
  clear hR
  go_enter Try.func22, Try.ntmps22
  have HZ0 := Lib.hid (Blk.new w 47 #[.int .i64 R, .int .i64 R, .slice (some ⟨gT, 0, none⟩) N cT])
  have HW := Lib.hid (show (∃ cs, Blk ((w.alloc (.cells #[.int .i64 R, .int .i64 R, .slice (some ⟨gT, 0, none⟩) N cT] 47)).alloc (.cells #[] 28)) (w.heap.size + 1) 28 cs) ∧ Below w.heap.size w ((w.alloc (.cells #[.int .i64 R, .int .i64 R, .slice (some ⟨gT, 0, none⟩) N cT] 47)).alloc (.cells #[] 28)) from ⟨⟨#[], Blk.new_ (w.alloc (.cells #[.int .i64 R, .int .i64 R, .slice (some ⟨gT, 0, none⟩) N cT] 47)) _ _ (w.heap.size + 1) (by simp)⟩, ((Below.refl w.heap.size w).alloc (Nat.le_refl _) _).alloc (by simp) _⟩)
  obtain ⟨t0, t1, t2⟩ := cells3v HZ0.out
  go_wp2_with fail
  clear t0 t1 t2 HZ0
  generalize (w.alloc (.cells #[.int .i64 R, .int .i64 R, .slice (some ⟨gT, 0, none⟩) N cT] 47)).alloc (.cells #[] 28) = w1 at *
  have Hg : w.heap.size ≤ w.heap.size + 1 := by omega
  generalize w.heap.size + 1 = g at *
  go_loopw [10] (fun x wr => ∃ i : Nat, i ≤ R ∧ x = .int .i64 (i : Int) ∧ Hid ((∃ cs, Blk wr g 28 cs) ∧ Below w.heap.size w wr)) (fun x _ => R - (intOf x).toNat)
  case atStart => exact ⟨0, Nat.zero_le _, rfl, HW⟩
  case round =>
    obtain ⟨i, hi, rfl, HH⟩ := hrel
    obtain rfl : R = i := by have := HR.out; omega
    have hqc : ¬ (R : Int) < (R : Int) := by omega
    have HW := HH
    clear hi
    go_wp2_with fail
    clear hqc
    go_loopw [15] (fun x wr => ∃ z : Int, z < 0 ∧ x = .int .i64 z ∧ Hid ((∃ cs, Blk wr g 28 cs) ∧ Below w.heap.size w wr)) (fun x _ => 0)
    case atStart => exact ⟨(R : Int) - 1, by have := HR.out; omega, by have := HR.out; rw [wrap_id (by unfold I64; omega)], HW⟩
    case round =>
      obtain ⟨z, hz, rfl, HH⟩ := hrel
      have hqm : ¬ (0 : Int) ≤ z := by omega
      go_wp2_with fail
      go_ret2
      obtain ⟨⟨cs, h1⟩, h2⟩ := HH.out
      have hR := HR.out
      exact ⟨g, 0, [], by subst hR; rfl, ⟨by simp [hR], fun p hp => by omega⟩, ⟨cs, h1, rfl⟩, Hg, h2⟩

set_option maxRecDepth 100000 in
set_option maxHeartbeats 2000000 in
theorem rtsolve_nil4 (R gT N cT c : Nat) (F : Nat → Nat) (w : World) (hR : R = 0) : Calls Try.prog 22 #[.int .i64 4, tbl R R gT N cT, .slice none 0 c] w (RtSd R F w) := by
  unfold tbl
  have HR := Lib.hid hR
  clear hR
  go_enter Try.func22, Try.ntmps22
  have HZ0 := Lib.hid (Blk.new w 47 #[.int .i64 R, .int .i64 R, .slice (some ⟨gT, 0, none⟩) N cT])
  have HW := Lib.hid (show (∃ cs, Blk ((w.alloc (.cells #[.int .i64 R, .int .i64 R, .slice (some ⟨gT, 0, none⟩) N cT] 47)).alloc (.cells #[] 28)) (w.heap.size + 1) 28 cs) ∧ Below w.heap.size w ((w.alloc (.cells #[.int .i64 R, .int .i64 R, .slice (some ⟨gT, 0, none⟩) N cT] 47)).alloc (.cells #[] 28)) from ⟨⟨#[], Blk.new_ (w.alloc (.cells #[.int .i64 R, .int .i64 R, .slice (some ⟨gT, 0, none⟩) N cT] 47)) _ _ (w.heap.size + 1) (by simp)⟩, ((Below.refl w.heap.size w).alloc (Nat.le_refl _) _).alloc (by simp) _⟩)
  obtain ⟨t0, t1, t2⟩ := cells3v HZ0.out
  go_wp2_with fail
  clear t0 t1 t2 HZ0
  generalize (w.alloc (.cells #[.int .i64 R, .int .i64 R, .slice (some ⟨gT, 0, none⟩) N cT] 47)).alloc (.cells #[] 28) = w1 at *
  have Hg : w.heap.size ≤ w.heap.size + 1 := by omega
  generalize w.heap.size + 1 = g at *
  go_loopw [10] (fun x wr => ∃ i : Nat, i ≤ R ∧ x = .int .i64 (i : Int) ∧ Hid ((∃ cs, Blk wr g 28 cs) ∧ Below w.heap.size w wr)) (fun x _ => R - (intOf x).toNat)
  case atStart => exact ⟨0, Nat.zero_le _, rfl, HW⟩
  case round =>
    obtain ⟨i, hi, rfl, HH⟩ := hrel
    obtain rfl : R = i := by have := HR.out; omega
    have hqc : ¬ (R : Int) < (R : Int) := by omega
    have HW := HH
    clear hi
    go_wp2_with fail
    clear hqc
    go_loopw [17] (fun x wr => ∃ i : Nat, i ≤ R ∧ x = .int .i64 (i : Int) ∧ Hid ((∃ cs, Blk wr g 28 cs) ∧ Below w.heap.size w wr)) (fun x _ => 0)
    case atStart => exact ⟨0, Nat.zero_le _, rfl, HW⟩
    case round =>
      obtain ⟨i, hi, rfl, HH⟩ := hrel
      obtain rfl : R = i := by have := HR.out; omega
      have hqc : ¬ (R : Int) < (R : Int) := by omega
      go_wp2_with fail
      go_ret2
      obtain ⟨⟨cs, h1⟩, h2⟩ := HH.out
      have hR := HR.out
      exact ⟨g, 0, [], by subst hR; rfl, ⟨by simp [hR], fun p hp => by omega⟩, ⟨cs, h1, rfl⟩, Hg, h2⟩

theorem trHZ_odd (kd : Nat) (hk : kd = 1 ∨ kd = 3) (f : Nat → Nat → Nat) (R : Nat) : trHZ kd f R = false := by
  unfold trHZ
  rw [List.any_eq_false]
  intro i _
  rcases hk with rfl | rfl <;> (unfold trV; simp [trZ0_one])
/-- The document's Solve, where none on the diagonal is 0. -/
theorem rtsolve_any (kd : Nat) (hkd : kd = 1 ∨ kd = 2 ∨ kd = 3 ∨ kd = 4) (R gT N cT : Nat) (T : List Nat) (A : Option Addr) (c : Nat) (l : List Nat) (E : Nat → Nat → Nat) (F : Nat → Nat) (w : World) (hT : Row w (some ⟨gT, 0, none⟩) (f64s T)) (hTl : T.length = N) (hN : R * R = N) (hNb : N < 1048576) (hgT : N ≠ 0 → gT < w.heap.size) (hRb : R ≤ 1000) (hWT : Wds T) (hA : Row w A (f64s l)) (hl : l.length = R) (hW : Wds l) (hS : TrS kd R (trV kd (fun i k => T.getD (i * R + k) 0)) (fun p => l.getD p 0) E F) (hz : trHZ kd (fun i k => T.getD (i * R + k) 0) R = false) :
    Calls Try.prog 22 #[.int .i64 (kd : Int), tbl R R gT N cT, .slice A R c] w (RtSd R F w) := by
  cases A with
  | some a =>
    rcases hkd with rfl | rfl | rfl | rfl
    · exact rtsolve1 R gT N cT T a c l E F w hT hTl hN hNb hgT hRb hWT hA hl hW hS hz
    · exact rtsolve2 R gT N cT T a c l E F w hT hTl hN hNb hgT hRb hWT hA hl hW hS hz
    · exact rtsolve3 R gT N cT T a c l E F w hT hTl hN hNb hgT hRb hWT hA hl hW hS hz
    · exact rtsolve4 R gT N cT T a c l E F w hT hTl hN hNb hgT hRb hWT hA hl hW hS hz
  | none =>
    rcases hA with h | ⟨b, o, h, _⟩
    · have h0 : l = [] := by simpa [f64s] using h
      have hR : R = 0 := by rw [← hl, h0]; rfl
      have key : ∀ k, k = 1 ∨ k = 2 ∨ k = 3 ∨ k = 4 → Calls Try.prog 22 #[.int .i64 (k : Int), tbl R R gT N cT, .slice none 0 c] w (RtSd R F w) := by
        intro k hk
        rcases hk with rfl | rfl | rfl | rfl
        · exact rtsolve_nil1 R gT N cT c F w hR
        · exact rtsolve_nil2 R gT N cT c F w hR
        · exact rtsolve_nil3 R gT N cT c F w hR
        · exact rtsolve_nil4 R gT N cT c F w hR
      have h1 := key kd.cast (by omega)
      have e : Value.slice none R c = Value.slice none 0 c := by rw [hR]
      rw [e]
      exact_mod_cast key (kd : Int) (by omega)
    · cases h
theorem rtzero_any (kd : Nat) (hkd : kd = 1 ∨ kd = 2 ∨ kd = 3 ∨ kd = 4) (R gT N cT : Nat) (T : List Nat) (A : Option Addr) (c : Nat) (l : List Nat) (w : World) (hT : Row w (some ⟨gT, 0, none⟩) (f64s T)) (hTl : T.length = N) (hN : R * R = N) (hNb : N < 1048576) (hgT : N ≠ 0 → gT < w.heap.size) (hRb : R ≤ 1000) (hWT : Wds T) (hA : Row w A (f64s l)) (hl : l.length = R) (hW : Wds l) (hz : trHZ kd (fun i k => T.getD (i * R + k) 0) R = true) :
    Calls Try.prog 22 #[.int .i64 (kd : Int), tbl R R gT N cT, .slice A R c] w (RtZd R w) := by
  cases A with
  | some a =>
    rcases hkd with rfl | rfl | rfl | rfl
    · rw [trHZ_odd 1 (.inl rfl)] at hz; cases hz
    · exact rtsolvez2 R gT N cT T a c l w hT hTl hN hNb hgT hRb hWT hA hl hW hz
    · rw [trHZ_odd 3 (.inr rfl)] at hz; cases hz
    · exact rtsolvez4 R gT N cT T a c l w hT hTl hN hNb hgT hRb hWT hA hl hW hz
  | none =>
    rcases hA with h | ⟨b, o, h, _⟩
    · have h0 : l = [] := by simpa [f64s] using h
      have hR : R = 0 := by rw [← hl, h0]; rfl
      subst hR
      cases hz
    · cases h
/-- The same numbers, the same solution. -/
theorem TrS.agree {kd n : Nat} {a a' : Nat → Nat → Nat} {x x' : Nat → Nat} {E : Nat → Nat → Nat} {F : Nat → Nat} (hk : kd = 1 ∨ kd = 2 ∨ kd = 3 ∨ kd = 4) (ha : ∀ p, p < n → ∀ q, q < n → a p q = a' p q) (hx : ∀ p, p < n → x p = x' p) (h : TrS kd n a x E F) : TrS kd n a' x' E F :=
  ⟨fun p hp => by rw [h.zero p hp, hx p hp], fun p hp t ht => by rw [h.step p hp t ht, ha p hp _ (trO_early hk hp ht).1], fun p hp => by rw [h.last p hp, ha p hp p hp]⟩
theorem trHZ_agree {kd R : Nat} {f f' : Nat → Nat → Nat} (h : ∀ p, p < R → ∀ q, q < R → f p q = f' p q) : trHZ kd f R = trHZ kd f' R := by
  unfold trHZ
  rw [Bool.eq_iff_iff, List.any_eq_true, List.any_eq_true]
  have e : ∀ i, i < R → trV kd f i i = trV kd f' i i := fun i hi => by unfold trV; rw [h i hi i hi]
  constructor <;> rintro ⟨i, hi, hz⟩ <;> refine ⟨i, hi, ?_⟩
  · rw [← e i (List.mem_range.1 hi)]; exact hz
  · rw [e i (List.mem_range.1 hi)]; exact hz
theorem trV_agree {kd R : Nat} {f f' : Nat → Nat → Nat} (h : ∀ p, p < R → ∀ q, q < R → f p q = f' p q) : ∀ p, p < R → ∀ q, q < R → trV kd f p q = trV kd f' p q := fun p hp q hq => by unfold trV; rw [h p hp q hq, h q hq p hp]
theorem trSum_agree {kd R : Nat} {f f' : Nat → Nat → Nat} {X : Nat → Nat} (h : ∀ p, p < R → ∀ q, q < R → f p q = f' p q) {i : Nat} (hi : i < R) : ∀ k, k ≤ R → trSum kd f X i k = trSum kd f' X i k
  | 0, _ => rfl
  | k + 1, hk => by
    show (if trT kd i k = true then _ else _) = (if trT kd i k = true then _ else _)
    rw [trSum_agree h hi k (by omega), trV_agree h i hi k (by omega)]

end Go.Proofs.Ytlhdcajamempoaa
