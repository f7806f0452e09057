/-
A text's bytes from its end on: the iterator, told by places within the text. Conditions: the text isn't too long.
-/
import Derived.Test.YtdokpnfmmbkjfaaGreatDoorGr
import Derived.Test.YtdokpnfmmbkjfaaGreatDoorZPg
import Derived.Laws.Bits64b
set_option linter.unusedVariables false
set_option linter.unusedSimpArgs false
namespace Go.Proofs.YtdokpnfmmbkjfaaGreatDoor
open Go.RowKit Go.Shelf
attribute [local go_sem] Oper.semAt_some

/-- What yield is handed at a place from the end. -/
def encF (s : ByteArray) (i : Fin s.size) : Array Value := #[.int .i64 (i.val : Int), .int .u8 ((s[s.size - 1 - i.val]'(by have := i.isLt; omega)).toNat : Int)]
theorem finR_succ {n k : Nat} (h : k < n) : (List.finRange n).take (k + 1) = (List.finRange n).take k ++ [⟨k, h⟩] := by
  rw [List.take_succ_eq_append_getElem (by simpa using h)]
  simp
theorem finR_len {n k : Nat} (h : k ≤ n) : ((List.finRange n).take k).length = k := by simp [h]

set_option maxRecDepth 100000 in
set_option maxHeartbeats 4000000 in
theorem fromEndF_in (F : Fence) (n : Nat) (h8 : F.fn 130) (hro : F.round = none) (hn : 1 ≤ n) (l Bs n₀ : Nat) (s : ByteArray) (hs : s.size ≤ 4096) (J Jx : List (Fin s.size) → World → Prop)
    (hY : ∀ pre x W, J pre W → pre.length < s.size → YieldAt F (n - 1) Tryz.prog l (encF s x) W fun e W' =>
      (e = .returned (.bool true) ∧ J (pre ++ [x]) W' ∧ KpB n₀ Bs W W') ∨ (e = .returned (.bool false) ∧ Jx (pre ++ [x]) W'))
    (W : World) (hBs : W.cell? ⟨Bs, 0, none⟩ = some (.string s)) (h0 : J [] W) :
    CallsIn F n Tryz.prog 130 #[.func (.yield l) #[] #[], .pointer (some ⟨Bs, 0, none⟩)] W fun e W' => (∃ v, e = .returned v) ∧
      ((∃ ys, ys = (List.finRange s.size).take s.size ∧ J ys W') ∨ (∃ pre, (∃ k, k ≤ s.size ∧ pre = (List.finRange s.size).take k) ∧ Jx pre W')) := by
  refine callsIn_of_wp Tryz.func130 rfl h8 ?_ hro
  simp only [Tryz.ntmps130, List.size_toArray, List.length_cons, List.length_nil, Nat.reduceAdd, Nat.reduceSub, Array.replicate_succ, Array.replicate_zero, List.push_toArray, List.append_toArray, List.nil_append, List.cons_append]
  gi_wp2
  gi_loopw [6] (fun i wr => ∃ k : Nat, k ≤ s.size ∧ i = .int .i64 k ∧ J ((List.finRange s.size).take k) wr ∧ wr.cell? ⟨Bs, 0, none⟩ = some (.string s))
    (fun i _ => s.size - (intOf i).toNat)
  case atStart => exact ⟨0, Nat.zero_le _, rfl, h0, hBs⟩
  case round =>
    obtain ⟨k, hk, rfl, hJs, hcx⟩ := hrel
    by_cases hlt : k < s.size
    · have hi : s.size - 1 - k < s.size := by omega
      have hnext := finR_succ hlt
      obtain ⟨fn, tmps, assign, body, hy, hR⟩ := hY _ ⟨k, hlt⟩ wr hJs (by rw [finR_len hk]; exact hlt)
      unfold encF at hy
      dsimp only at hy
      rw [← hnext] at hR
      have e3 : wrap64 ((k : Int) + 1) = ((k + 1 : Nat) : Int) := by unfold wrap64; omega
      have E3 := Lib.hid e3
      clear hnext e3
      gi_wp2
      refine hR.mono ?_
      rintro e W3 (⟨rfl, hJ3, hk3⟩ | ⟨rfl, hJx3⟩)
      · gi_wp2
        go_roundw
        case rel => exact ⟨k + 1, hlt, by first | rfl | (rw [E3.out]), hJ3, hk3.2 _ hcx⟩
        case measure => first | (rw [E3.out]; simp [intOf]; omega) | (simp [intOf]; omega)
      · gi_wp2
        refine bodyPost_ret (results_none rfl _ _ _) rfl ?_
        exact ⟨⟨_, rfl⟩, .inr ⟨_, ⟨k + 1, hlt, rfl⟩, hJx3⟩⟩
    · obtain rfl : k = s.size := by omega
      gi_wp2
      go_end0
      exact ⟨⟨_, rfl⟩, .inl ⟨_, rfl, hJs⟩⟩
/-- The iterator, as the law of loops over functions asks it. -/
theorem fromEndF_stops (F : Fence) (n : Nat) (h8 : F.fn 130) (hro : F.round = none) (hn : 1 ≤ n) (Bs n₀ : Nat) (s : ByteArray) (hs : s.size ≤ 4096) (w : World) (hb : Bs < w.heap.size) (hBs : w.cell? ⟨Bs, 0, none⟩ = some (.string s)) :
    SeqStopsK F n Tryz.prog 130 #[.pointer (some ⟨Bs, 0, none⟩)] (encF s) (KpB n₀ Bs) (fun ys => ys = (List.finRange s.size).take s.size) (fun pre => ∃ k, k ≤ s.size ∧ pre = (List.finRange s.size).take k) s.size w :=
  fun l J Jx W hW hJ hJx hY h0 =>
    fromEndF_in F n h8 hro hn l Bs n₀ s hs J Jx hY W ((hW.cell (p := ⟨Bs, 0, none⟩) hb).trans hBs) h0

/-- A block is kept where nothing but what is no cells turns. -/
theorem blk_kept {W W' : World} {row : Option Nat} {g : Nat} {t : TypeId} {cs : Array Value} (h : Blk W g t cs) (hg : W.grownBy W' row) (hrow : ∀ r, row = some r → ∃ o : Obj, W.heap[r]? = some o ∧ o.isCells = false) : Blk W' g t cs :=
  (grownBy_keeps_cells hg hrow h rfl).trans h
/-- Behind part of a round: one block may have been written. -/
structure StepB (n₀ : Nat) (w1 W : World) (g : Nat) (t : TypeId) (cs : Array Value) : Prop where
  keeps : KeepsOthers w1 W
  below : Below n₀ w1 W
  other : ∀ b, b ≠ g → W.heap[b]? = w1.heap[b]?
  blk : Blk W g t cs
theorem StepB.start {n₀ : Nat} {w1 : World} {g : Nat} {t : TypeId} {cs : Array Value} (h : Blk w1 g t cs) : StepB n₀ w1 w1.drew g t cs :=
  ⟨KeepsOthers.drew _, (Below.refl _ _).drew, fun _ _ => rfl, h⟩
theorem StepB.set_ {n₀ : Nat} {w1 W : World} {g : Nat} {t : TypeId} {cs : Array Value} (h : StepB n₀ w1 W g t cs) (i : Nat) (u : Value) (hle : n₀ ≤ g) : StepB n₀ w1 (W.setCell ⟨g, i, none⟩ u) g t (cs.setIfInBounds i u) :=
  ⟨h.keeps.trans (KeepsOthers.setCell _ _ _), h.below.setCell (p := ⟨g, i, none⟩) hle _, fun b hb => (Below.heap_setCell W ⟨g, i, none⟩ u b hb).trans (h.other b hb), h.blk.set_ i u⟩
theorem StepB.blk_ {n₀ : Nat} {w1 W : World} {g g' : Nat} {t t' : TypeId} {cs cs' : Array Value} (h : StepB n₀ w1 W g t cs) (hB : Blk w1 g' t' cs') (hne : g' ≠ g) : Blk W g' t' cs' := (h.other g' hne).trans hB
end Go.Proofs.YtdokpnfmmbkjfaaGreatDoor
/-
The digits of an odd number's text, from its end: what each round adds. Conditions: the text isn't too long.
-/
set_option linter.unusedVariables false
set_option linter.unusedSimpArgs false
namespace Go.Proofs.YtdokpnfmmbkjfaaGreatDoor
open Go.RowKit Go.Shelf
/-- The byte at a place from the end. -/
def byF (s : ByteArray) (i : Fin s.size) : UInt8 := s[s.size - 1 - i.val]'(by have := i.isLt; omega)
def bytesF (s : ByteArray) (pre : List (Fin s.size)) : List UInt8 := (pre.map (byF s)).reverse
theorem bytesF_snoc (s : ByteArray) (pre : List (Fin s.size)) (x : Fin s.size) : bytesF s (pre ++ [x]) = byF s x :: bytesF s pre := by simp [bytesF]
theorem bytesF_len (s : ByteArray) (pre : List (Fin s.size)) : (bytesF s pre).length = pre.length := by simp [bytesF]
theorem bytesF_all (s : ByteArray) : bytesF s ((List.finRange s.size).take s.size) = s.data.toList := by
  rw [List.take_of_length_le (by simp)]
  apply List.ext_getElem
  · simp [bytesF]
  · intro i h1 h2
    have h3 : i < s.size := by simpa using h2
    have h4 := (List.getElem?_eq_some_iff.1 (bytes_at s i h3)).2
    simp only [bytesF, List.getElem_reverse, List.getElem_map, List.length_map, List.length_finRange, List.getElem_finRange]
    unfold byF
    rw [h4]
    congr 1
    show s.size - 1 - (s.size - 1 - i) = i
    omega
theorem hexV_from (l : List UInt8) (a : Nat) : l.foldl (fun a c => 16 * a + hexv c) a = a * 16 ^ l.length + hexV l := by
  induction l generalizing a with
  | nil => simp [hexV]
  | cons c t ih =>
    unfold hexV
    rw [List.foldl_cons, List.foldl_cons, ih, ih (16 * 0 + hexv c), List.length_cons, Nat.pow_succ, Nat.add_mul, show 16 * a * 16 ^ t.length = a * (16 ^ t.length * 16) by rw [Nat.mul_comm 16 a, Nat.mul_assoc, Nat.mul_comm 16], Nat.mul_zero, Nat.zero_add, Nat.add_assoc]
theorem hexV_cons (c : UInt8) (l : List UInt8) : hexV (c :: l) = hexv c * 16 ^ l.length + hexV l := by
  unfold hexV
  rw [List.foldl_cons, hexV_from]
  simp [hexV]
/-- The list of digits stands for what has come. -/
def OddAt (s : ByteArray) (L : Nat) (pre : List (Fin s.size)) (M : List Nat) : Prop := M.length = L ∧ Digs Q M ∧ (pre = (List.finRange s.size).take pre.length → Hexs (bytesF s pre) ∧ ofd Q M = hexV (bytesF s pre))
theorem orU_some {a b : Nat} (ha : a < 18446744073709551616) (hb : b < 18446744073709551616) : ∃ o : Nat, orU (a : Int) (b : Int) = (o : Int) ∧ o < 18446744073709551616 := by
  refine ⟨a ||| b, ?_, Nat.or_lt_two_pow (n := 64) ha hb⟩
  unfold orU
  exact bits_or_u64_nat a b ha hb
theorem odd_idx {k n L : Nat} (hk : k < n) (hn : n < 16 * L) (hL : L ≤ 20) : ∃ q r sh : Nat, (k : Int) / 16 = (q : Int) ∧ (k : Int).tdiv 16 = (q : Int) ∧ (k : Int) % 16 = (r : Int) ∧ (k : Int).tmod 16 = (r : Int) ∧ (r : Int) * 4 = (sh : Int) ∧ wrap64 (q : Int) = (q : Int) ∧ wrap64 (sh : Int) = (sh : Int) ∧ IntKind.i64.wrap (q : Int) = (q : Int) ∧ IntKind.i64.wrap (sh : Int) = (sh : Int) ∧
    q < L ∧ sh < 64 ∧ 4 * k = 64 * q + sh :=
  ⟨k / 16, k % 16, k % 16 * 4, by omega, by rw [Int.tdiv_eq_ediv_of_nonneg (by omega)]; omega, by omega, by rw [Int.tmod_eq_emod_of_nonneg (by omega)]; omega, by omega, by unfold wrap64; omega, by unfold wrap64; omega, wi_in (by omega), wi_in (by omega), by omega, by omega, by omega⟩
theorem odd_shl {d sh : Nat} (hd : d < 16) (hs : sh < 64) (h4 : sh % 4 = 0) : IntKind.u64.wrap ((d : Int) * 2 ^ sh) = ((d * 2 ^ sh : Nat) : Int) ∧ d * 2 ^ sh < 18446744073709551616 := by
  have h1 : 2 ^ sh ≤ 2 ^ 60 := Nat.pow_le_pow_right (by omega) (by omega)
  have h2 : (2 : Nat) ^ 60 = 1152921504606846976 := by decide
  have h3 : d * 2 ^ sh ≤ 15 * 2 ^ sh := Nat.mul_le_mul_right _ (by omega)
  have h5 : d * 2 ^ sh < 18446744073709551616 := by omega
  exact ⟨by rw [win_cast2, Nat.mod_eq_of_lt h5], h5⟩
theorem snoc_take {n : Nat} {pre : List (Fin n)} {x : Fin n} (h : pre ++ [x] = (List.finRange n).take (pre ++ [x]).length) : pre = (List.finRange n).take pre.length ∧ x.val = pre.length := by
  have h1 := congrArg List.length h
  simp only [List.length_append, List.length_cons, List.length_nil, List.length_take, List.length_finRange] at h1
  have hk : pre.length < n := by omega
  rw [List.length_append, List.length_cons, List.length_nil, Nat.zero_add, finR_succ hk] at h
  have h2 := List.append_inj' h (by simp)
  refine ⟨h2.1, ?_⟩
  have h3 := h2.2
  simp only [List.cons.injEq, and_true] at h3
  rw [h3]
theorem pow16k (k : Nat) : (16 : Nat) ^ k = 2 ^ (4 * k) := by rw [show (16 : Nat) = 2 ^ 4 by decide, ← Nat.pow_mul]
theorem powQ (q : Nat) : Q ^ q = 2 ^ (64 * q) := by rw [show Q = 2 ^ 64 by decide, ← Nat.pow_mul]
theorem le_ofd (B : Nat) : ∀ (l : List Nat) (i : Nat) (h : i < l.length), B ^ i * l[i] ≤ ofd B l := by
  intro l
  induction l with
  | nil => intro i h; cases h
  | cons d l ih =>
    intro i h
    cases i with
    | zero => simp [ofd_cons]
    | succ i =>
      rw [ofd_cons, Nat.pow_succ, Nat.mul_comm (B ^ i) B, Nat.mul_assoc]
      exact Nat.le_trans (Nat.mul_le_mul_left B (ih i (by simpa using h))) (Nat.le_add_left _ _)
theorem orU_lt {a b : Nat} (ha : a < 18446744073709551616) (hb : b < 18446744073709551616) : ∃ o : Nat, orU (a : Int) (b : Int) = (o : Int) ∧ o < 18446744073709551616 := orU_some ha hb
/-- What a round adds. -/
theorem odd_step {s : ByteArray} {L : Nat} {pre : List (Fin s.size)} {M : List Nat} {x : Fin s.size} {d q sh o : Nat} (h : OddAt s L pre M) (hd : hexv (byF s x) = d) (hd16 : d < 16) (hq : q < M.length) (hs : sh < 64) (hk : 4 * x.val = 64 * q + sh)
    (ho : orU (M[q] : Int) ((d * 2 ^ sh : Nat) : Int) = (o : Int)) (hob : o < 18446744073709551616) : OddAt s L (pre ++ [x]) (M.set q o) := by
  refine ⟨by rw [List.length_set]; exact h.1, h.2.1.set q hob, fun ht => ?_⟩
  obtain ⟨h1, h2⟩ := snoc_take ht
  obtain ⟨hH, hO⟩ := h.2.2 h1
  have hm : M[q] < 18446744073709551616 := h.2.1.get q hq
  have hlt : ofd Q M < 2 ^ (64 * q + sh) := by
    rw [hO, ← hk, h2, ← pow16k, ← bytesF_len s pre]
    exact hexV_lt hH
  have hmq : M[q] < 2 ^ sh := by
    have h3 := Nat.lt_of_le_of_lt (le_ofd Q M q hq) hlt
    rw [powQ, Nat.pow_add] at h3
    exact Nat.lt_of_mul_lt_mul_left h3
  have hdb := (odd_shl hd16 hs (by omega)).2
  have hsum : o = d * 2 ^ sh + M[q] := by
    rw [orU_comm _ _ hm hdb, orU_nat sh hdb hm hmq (Nat.mul_mod_left _ _)] at ho
    omega
  rw [bytesF_snoc]
  refine ⟨fun c hc => ?_, ?_⟩
  · rcases List.mem_cons.1 hc with rfl | hc
    · rw [hd]; exact hd16
    · exact hH c hc
  · have h4 := ofd_set Q M q o hq
    rw [hexV_cons, hd, bytesF_len, pow16k, ← h2, hk, ← hO, Nat.pow_add, ← powQ]
    rw [hsum, Nat.mul_add, ← hsum] at h4
    have h5 : d * (Q ^ q * 2 ^ sh) = Q ^ q * (d * 2 ^ sh) := by rw [← Nat.mul_assoc, Nat.mul_comm d, Nat.mul_assoc]
    rw [h5]
    omega
theorem odd_start (s : ByteArray) (L : Nat) : OddAt s L [] (List.replicate L 0) :=
  ⟨by simp, Digs.replicate (by decide) L, fun _ => ⟨fun _ h => (by simp [bytesF] at h), by rw [ofd_replicate]; simp [bytesF, hexV]⟩⟩
theorem odd_end {s : ByteArray} {L : Nat} {M : List Nat} (h : OddAt s L ((List.finRange s.size).take s.size) M) : Digs Q M ∧ M.length = L ∧ Hexs s.data.toList ∧ ofd Q M = hexV s.data.toList := by
  have h1 := h.2.2 (by rw [List.length_take, List.length_finRange, Nat.min_self])
  rw [bytesF_all] at h1
  exact ⟨h.2.1, h.1, h1⟩
/-- The last digit tells whether the number is odd. -/
theorem odd_bit {M : List Nat} (hM : 0 < M.length) {n : Nat} (h : ofd Q M = n) : ((M[0] : Nat) : Int) % 2 = ((n % 2 : Nat) : Int) := by
  cases M with
  | nil => cases hM
  | cons d l =>
    rw [ofd_cons] at h
    have : Q * ofd Q l = 2 * (9223372036854775808 * ofd Q l) := by rw [← Nat.mul_assoc]; rfl
    simp only [List.getElem_cons_zero]
    omega
end Go.Proofs.YtdokpnfmmbkjfaaGreatDoor
