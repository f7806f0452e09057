/-
The document's Parse. Conditions: the text isn't too long.
-/
import Derived.Test.YtdokpnfmmbkjfaaGreatDoorZPd
import Derived.Test.YtdokpnfmmbkjfaaGreatDoorGp
set_option linter.unusedVariables false
set_option linter.unusedSimpArgs false
set_option linter.unnecessarySimpa false
namespace Go.Proofs.YtdokpnfmmbkjfaaGreatDoor
open Go.RowKit
attribute [local go_sem ↓] Go.wp_at_zero Go.wp_at_succ

theorem byte_lt (c : UInt8) : c.toNat < 256 := c.toNat_lt
/-- How a byte stands to the hexadecimal digits, test by test. -/
theorem hex_ways (b : UInt8) (c : Nat) (hc : b.toNat = c) :
    (∃ d : Nat, hexv b = d ∧ d < 16 ∧ (c : Int) - 48 = (d : Int) ∧ decide (48 ≤ (c : Int)) = true ∧ decide ((c : Int) ≤ 57) = true ∧ decide (97 ≤ (c : Int)) = false) ∨
    (∃ d : Nat, hexv b = d ∧ d < 16 ∧ (c : Int) - 87 = (d : Int) ∧ decide (48 ≤ (c : Int)) = true ∧ decide ((c : Int) ≤ 57) = false ∧ decide (97 ≤ (c : Int)) = true ∧ decide ((c : Int) ≤ 102) = true) ∨
    (¬ hexv b < 16 ∧ decide (48 ≤ (c : Int)) = false ∧ decide (97 ≤ (c : Int)) = false) ∨
    (¬ hexv b < 16 ∧ decide (48 ≤ (c : Int)) = true ∧ decide ((c : Int) ≤ 57) = false ∧ decide (97 ≤ (c : Int)) = false) ∨
    (¬ hexv b < 16 ∧ decide (48 ≤ (c : Int)) = true ∧ decide ((c : Int) ≤ 57) = false ∧ decide (97 ≤ (c : Int)) = true ∧ decide ((c : Int) ≤ 102) = false) := by
  unfold hexv
  rw [hc]
  by_cases h1 : 48 ≤ c
  · by_cases h2 : c ≤ 57
    · left; rw [if_pos ⟨h1, h2⟩]; refine ⟨c - 48, rfl, by omega, by omega, ?_, ?_, ?_⟩ <;> simp <;> omega
    · right; rw [if_neg (by omega)]
      by_cases h3 : 97 ≤ c
      · by_cases h4 : c ≤ 102
        · left; rw [if_pos ⟨h3, h4⟩]; refine ⟨c - 87, rfl, by omega, by omega, ?_, ?_, ?_, ?_⟩ <;> simp <;> omega
        · right; right; right; rw [if_neg (by omega)]; refine ⟨by omega, ?_, ?_, ?_, ?_⟩ <;> simp <;> omega
      · right; right; left; rw [if_neg (by omega)]; refine ⟨by omega, ?_, ?_, ?_⟩ <;> simp <;> omega
  · right; right; left; rw [if_neg (by omega), if_neg (by omega)]; refine ⟨by omega, ?_, ?_⟩ <;> simp <;> omega
theorem dec_ways (b : UInt8) (c : Nat) (hc : b.toNat = c) :
    (∃ d : Nat, decv b = d ∧ d < 10 ∧ (c : Int) - 48 = (d : Int) ∧ c = d + 48 ∧ decide ((c : Int) < 48) = false ∧ decide (57 < (c : Int)) = false) ∨
    (¬ decv b < 10 ∧ decide ((c : Int) < 48) = true) ∨ (¬ decv b < 10 ∧ decide ((c : Int) < 48) = false ∧ decide (57 < (c : Int)) = true) := by
  unfold decv
  rw [hc]
  by_cases h1 : 48 ≤ c
  · by_cases h2 : c ≤ 57
    · left; rw [if_pos ⟨h1, h2⟩]; refine ⟨c - 48, rfl, by omega, by omega, by omega, ?_, ?_⟩ <;> simp <;> omega
    · right; right; rw [if_neg (by omega)]; refine ⟨by omega, ?_, ?_⟩ <;> simp <;> omega
  · right; left; rw [if_neg (by omega)]; refine ⟨by omega, ?_⟩; simp; omega
theorem bytes_at (s : ByteArray) (k : Nat) (h : k < s.size) : s.data.toList[k]? = some s[k] := Lib.data_getElem? s k h
theorem bytes_snoc (s : ByteArray) (k : Nat) (h : k < s.size) : s.data.toList.take (k + 1) = s.data.toList.take k ++ [s[k]] := by
  have h1 := bytes_at s k h
  obtain ⟨hl, hg⟩ := List.getElem?_eq_some_iff.1 h1
  rw [List.take_succ_eq_append_getElem hl, hg]
theorem byte_ne {a b : UInt8} (h : a ≠ b) : ((a.toNat : Int) == (b.toNat : Int)) = false := by
  rw [beq_eq_false_iff_ne]
  intro e
  exact h (UInt8.toNat_inj.1 (by omega))
theorem unsg_bytes (s : ByteArray) (h0 : 0 < s.size) (h : s[0] = 45) : (s.extract 1 s.size).data.toList = unsg s.data.toList ∧ hasSg s.data.toList = true := by
  have h1 := bytes_at s 0 h0
  rw [h] at h1
  have h2 : s.data.toList.head? = some 45 := by rw [List.head?_eq_getElem?]; exact h1
  unfold unsg hasSg
  rw [h2, if_pos rfl, Lib.extract_to_end]
  exact ⟨by simp, rfl⟩
theorem unsg_plain (s : ByteArray) (h : ∀ h0 : 0 < s.size, s[0] ≠ 45) : unsg s.data.toList = s.data.toList ∧ hasSg s.data.toList = false := by
  have h2 : s.data.toList.head? ≠ some 45 := by
    intro e
    rw [List.head?_eq_getElem?] at e
    have hl : 0 < s.size := by
      have := (List.getElem?_eq_some_iff.1 e).1
      simpa using this
    rw [bytes_at s 0 hl] at e
    exact h hl (Option.some.inj e)
  unfold unsg hasSg
  rw [if_neg h2]
  exact ⟨rfl, by simpa using h2⟩
theorem dv_zero (W : World) (c : Nat) : DV W (.agg #[.bool false, .slice none 0 c, .int .i64 0]) 0 :=
  ⟨false, none, 0, c, 0, [], rfl, ⟨rfl, Nat.zero_le _, Row.nil _ _, Digs.nil _, fun _ _ e => by cases e⟩, .inl ⟨rfl, rfl, rfl⟩, rdy_nil _ _⟩
theorem bx_zero {W : World} {g : Nat} (h : Blk W g 30 #[.bool false, .slice none 0 0, .int .i64 0]) : Bx W g 0 :=
  ⟨false, none, 0, 0, 0, [], h, ⟨rfl, Nat.le_refl _, Row.nil _ _, Digs.nil _, fun _ _ e => by cases e⟩, .inl ⟨rfl, rfl, rfl⟩, rdy_nil _ _⟩
theorem hexV_lt {l : List UInt8} (h : Hexs l) : hexV l < 16 ^ l.length := by
  have key : ∀ (n : Nat) (l : List UInt8), l.length = n → Hexs l → hexV l < 16 ^ n := by
    intro n
    induction n with
    | zero => intro l hl _; rw [List.length_eq_zero_iff.1 hl]; decide
    | succ n ih =>
      intro l hl h
      rcases List.eq_nil_or_concat l with rfl | ⟨t, c, rfl⟩
      · cases hl
      · rw [List.concat_eq_append] at *
        have h1 := ih t (by simpa using hl) h.init
        have h2 := h.last
        rw [hexV_snoc, Nat.pow_succ]
        omega
  exact key _ l rfl h
theorem sz_hex {l : List UInt8} {n : Nat} (h : Hexs l) (hn : l.length ≤ n) : Sz (4 * n) (dy (hexV l : Int) 0) := by
  refine Sz.int ?_
  have h1 := hexV_lt h
  have h2 : 16 ^ l.length ≤ 16 ^ n := Nat.pow_le_pow_right (by omega) hn
  rw [pow_four n] at h2
  rw [Int.natAbs_natCast]
  exact Nat.lt_of_lt_of_le h1 h2
theorem hex_add (a d : Nat) : dy (a : Int) 0 * dy 1 4 + dy (d : Int) 0 = dy ((16 * a + d : Nat) : Int) 0 := by
  rw [dy_one, show dy (a : Int) (0 + 4) = dy ((a : Int) * 2 ^ 4) 0 by rw [dy_pow]; rfl, dy_add]
  congr 1
  omega
theorem below_three {w W : World} (h : Below w.heap.size w W) (g : Nat) (hg : w.heap.size ≤ g) (a b c : Value) : Below w.heap.size w (((W.setCell ⟨g, 0, none⟩ a).setCell ⟨g, 1, none⟩ b).setCell ⟨g, 2, none⟩ c) :=
  ((h.setCell (p := ⟨g, 0, none⟩) hg _).setCell (p := ⟨g, 1, none⟩) hg _).setCell (p := ⟨g, 2, none⟩) hg _
theorem blk_other3 {W : World} {g g' : Nat} {t : TypeId} {cs : Array Value} (h : Blk W g t cs) (hg : g ≠ g') (a b c : Value) : Blk (((W.setCell ⟨g', 0, none⟩ a).setCell ⟨g', 1, none⟩ b).setCell ⟨g', 2, none⟩ c) g t cs :=
  ((h.other (p := ⟨g', 0, none⟩) hg _).other (p := ⟨g', 1, none⟩) hg _).other (p := ⟨g', 2, none⟩) hg _
theorem dv_three {W : World} {v : Value} {d : Dyadic} {g : Nat} {cs : Array Value} (h : DV W v d) (hB : Blk W g 30 cs) (a b c : Value) : DV (((W.setCell ⟨g, 0, none⟩ a).setCell ⟨g, 1, none⟩ b).setCell ⟨g, 2, none⟩ c) v d :=
  (((h.far hB (by decide) 0 _).far (hB.set_ 0 _) (by decide) 1 _).far ((hB.set_ 0 _).set_ 1 _) (by decide) 2 _)
theorem step_facts {N c d : Nat} (hN : N ≤ 10000000) (hc : c = d + 48) (hd : d < 10) : ∃ a b m : Nat, (N : Int) * 10 = (a : Int) ∧ (a : Int) + (c : Int) = (b : Int) ∧ (b : Int) - 48 = (m : Int) ∧ wrap64 (a : Int) = (a : Int) ∧ wrap64 (b : Int) = (b : Int) ∧ wrap64 (m : Int) = (m : Int) ∧
    IntKind.i64.wrap (a : Int) = (a : Int) ∧ IntKind.i64.wrap (b : Int) = (b : Int) ∧ IntKind.i64.wrap (m : Int) = (m : Int) ∧ wrap64 (c : Int) = (c : Int) ∧ m = 10 * N + d :=
  ⟨N * 10, N * 10 + c, 10 * N + d, by omega, by omega, by omega, by unfold wrap64; omega, by unfold wrap64; omega, by unfold wrap64; omega, wi_in (by omega), wi_in (by omega), wi_in (by omega), by unfold wrap64; omega, rfl⟩
theorem dec_round {t : List UInt8} {b : UInt8} {N i d m : Nat} (h1 : Decs t) (h2 : N = decV t) (h3 : N < 10 ^ i) (hb : decv b = d) (hd : d < 10) (hm : m = 10 * N + d) : Decs (t ++ [b]) ∧ m = decV (t ++ [b]) ∧ m < 10 ^ (i + 1) := by
  refine ⟨h1.snoc (by omega), by rw [decV_snoc, ← h2, hb]; exact hm, ?_⟩
  rw [Nat.pow_succ]; omega
theorem ten7 {N i : Nat} (h : N < 10 ^ i) (hi : i ≤ 7) : N ≤ 10000000 := by
  have h2 : 10 ^ i ≤ 10 ^ 7 := Nat.pow_le_pow_right (by omega) hi
  have h3 : (10 : Nat) ^ 7 = 10000000 := by decide
  omega
theorem wrap_succ {i n : Nat} (h : i < n) (hn : n ≤ 300) : wrap64 ((i : Int) + 1) = ((i + 1 : Nat) : Int) := by unfold wrap64; omega
theorem meas_succ {i n : Nat} (h : i < n) : n - (intOf (.int .i64 ((i + 1 : Nat) : Int))).toNat < n - (intOf (.int .i64 (i : Int))).toNat := by simp [intOf]; omega
theorem sgn_one {N : Nat} (h : N ≤ 1048576) : ((1 : Int) * (N : Int)).natAbs ≤ 1048576 := by omega
theorem sgn_neg {N : Nat} (h : N ≤ 1048576) : ((-1 : Int) * (N : Int)).natAbs ≤ 1048576 := by omega
theorem shl_ok {z : Nat} (h : z ≤ 1048576) : 1200 + z + 1 ≤ 1100000 := by omega
theorem dlt_t {a b : Nat} (h : a < b) : decide ((a : Int) < (b : Int)) = true := by simp; omega
theorem dlt_f {a b : Nat} (h : ¬ a < b) : decide ((a : Int) < (b : Int)) = false := by simp; omega
theorem big_t {N : Nat} (h : 1048576 < N) : decide (1048576 < (N : Int)) = true := by simp; omega
theorem big_f {N : Nat} (h : ¬ 1048576 < N) : decide (1048576 < (N : Int)) = false := by simp; omega
theorem sev_t {N : Nat} (h : 7 < N) : decide (7 < (N : Int)) = true := by simp; omega
theorem sev_f {N : Nat} (h : ¬ 7 < N) : decide (7 < (N : Int)) = false := by simp; omega
theorem nz_f {N : Nat} (h : ¬ N = 0) : ((N : Int) == 0) = false := by rw [beq_eq_false_iff_ne]; omega
theorem bytes_len (s : ByteArray) : s.data.toList.length = s.size := by simp
theorem hexd_facts {c d : Nat} (hc : c < 256) (hd : d < 16) : wrap64 (c : Int) = (c : Int) ∧ wrap64 (d : Int) = (d : Int) ∧ IntKind.i64.wrap (d : Int) = (d : Int) ∧ ((d : Int) == 16) = false :=
  ⟨by unfold wrap64; omega, by unfold wrap64; omega, wi_in (by omega), by rw [beq_eq_false_iff_ne]; omega⟩
theorem lt4096 {k n : Nat} (h : k < n) (hn : n ≤ 300) : decide (4096 ≤ (k : Int)) = false := by simp; omega
theorem nat_small {d : Nat} (h : d < 16) : (d : Int) ≤ 9223372036854775807 := by omega
theorem five_lt {d : Nat} (hd : d < 16) : (d : Int).natAbs < 2 ^ 5 := by
  have h : (2 : Nat) ^ 5 = 32 := by decide
  omega
theorem hex_sizes {l : List UInt8} {d : Nat} (h : Hexs l) (hl : l.length ≤ 300) (hd : d < 16) : Fitd (dy (hexV l : Int) 0) ∧ Fitd (dy (hexV l : Int) 0 * dy 1 4) ∧ Fitd (dy (d : Int) 0) :=
  ⟨(sz_hex h hl).fit (by decide), ((sz_hex h hl).shift (n := 1205) 4 (by decide)).fit (by decide), (Sz.int (k := 5) (five_lt hd)).fit (by decide)⟩
theorem byte_112 {a : UInt8} (h : a ≠ 112) : (((a.toNat : Nat) : Int) != 112) = true := by
  have h2 : a.toNat ≠ 112 := fun e => h (UInt8.toNat_inj.1 e)
  rw [bne_iff_ne]; omega
theorem val_ib {a a' : Int} (h : a = a') : Value.int .i64 a = Value.int .i64 a' := by rw [h]

end Go.Proofs.YtdokpnfmmbkjfaaGreatDoor
/-
A text's bytes from its end on: the iterator. Conditions: the text isn't too long.
-/
set_option linter.unusedVariables false
set_option linter.unusedSimpArgs false
namespace Go.Proofs.YtdokpnfmmbkjfaaGreatDoor
open Go.RowKit Go.Shelf
attribute [local go_sem] Oper.semAt_some

/-- The places from the end, with what stands there. -/
def fromEndL (s : ByteArray) (k : Nat) : List (Nat × UInt8) := (List.range k).map fun j => (j, s.data.toList.getD (s.size - 1 - j) 0)
theorem fromEndL_succ (s : ByteArray) (k : Nat) : fromEndL s (k + 1) = fromEndL s k ++ [(k, s.data.toList.getD (s.size - 1 - k) 0)] := by
  unfold fromEndL; rw [List.range_succ, List.map_append]; rfl
theorem fromEndL_len (s : ByteArray) (k : Nat) : (fromEndL s k).length = k := by simp [fromEndL]
theorem fe_idx {n k : Nat} (h : k < n) (hn : n ≤ 4096) : ∃ i : Nat, wrap64 ((n : Int) - 1) - (k : Int) = (i : Int) ∧ wrap64 (wrap64 ((n : Int) - 1) - (k : Int)) = (i : Int) ∧ i < n ∧ i = n - 1 - k ∧ wrap64 ((k : Int) + 1) = ((k + 1 : Nat) : Int) :=
  ⟨n - 1 - k, by unfold wrap64; omega, by unfold wrap64; omega, by omega, rfl, by unfold wrap64; omega⟩

/-- What a round keeps: what lay below n₀, and the text's box. -/
def KpB (n₀ Bs : Nat) (W W' : World) : Prop := Below n₀ W W' ∧ ∀ v, W.cell? ⟨Bs, 0, none⟩ = some v → W'.cell? ⟨Bs, 0, none⟩ = some v
theorem KpB.trans {n₀ Bs : Nat} {A B C : World} (h : KpB n₀ Bs A B) (h' : KpB n₀ Bs B C) : KpB n₀ Bs A C := ⟨h.1.trans h'.1, fun v hv => h'.2 v (h.2 v hv)⟩
theorem KpB.put {n₀ Bs : Nat} {w : World} (hn : n₀ ≤ w.heap.size) (W : World) (l : Nat) (o o' : Obj) (hl : w.heap.size ≤ l) (ho : W.heap[l]? = some o) (h1 : o.isCells = false) (h2 : o.isWalk = false) : KpB n₀ Bs W (W.putObj l o') :=
  ⟨belowK_b (w := w) hn W l o o' hl ho h1 h2, fun v hv => cell_kept hv (grownBy_putObj' _ l o') (fun r e => by cases e; exact ⟨_, ho, h1⟩)⟩

set_option maxRecDepth 100000 in
set_option maxHeartbeats 4000000 in
theorem fromEnd1_in (F : Fence) (n : Nat) (h8 : F.fn 130) (hro : F.round = none) (hn : 1 ≤ n) (l Bs n₀ : Nat) (s : ByteArray) (hs : s.size ≤ 4096) (J Jx : List (Nat × UInt8) → World → Prop)
    (hY : ∀ pre x W, J pre W → pre.length < s.size → YieldAt F (n - 1) Tryz.prog l #[.int .i64 (x.1 : Int), .int .u8 (x.2.toNat : Int)] W fun e W' =>
      (e = .returned (.bool true) ∧ J (pre ++ [x]) W' ∧ KpB n₀ Bs W W') ∨ (e = .returned (.bool false) ∧ Jx (pre ++ [x]) W'))
    (W : World) (hBs : W.cell? ⟨Bs, 0, none⟩ = some (.string s)) (h0 : J [] W) :
    CallsIn F n Tryz.prog 130 #[.func (.yield l) #[] #[], .pointer (some ⟨Bs, 0, none⟩)] W fun e W' => (∃ v, e = .returned v) ∧
      ((∃ ys, ys = fromEndL s s.size ∧ J ys W') ∨ (∃ pre, (∃ k, k ≤ s.size ∧ pre = fromEndL s k) ∧ Jx pre W')) := by
  refine callsIn_of_wp Tryz.func130 rfl h8 ?_ hro
  simp only [Tryz.ntmps130, List.size_toArray, List.length_cons, List.length_nil, Nat.reduceAdd, Nat.reduceSub, Array.replicate_succ, Array.replicate_zero, List.push_toArray, List.append_toArray, List.nil_append, List.cons_append]
  gi_wp2
  gi_loopw [6] (fun i wr => ∃ k : Nat, k ≤ s.size ∧ i = .int .i64 k ∧ J (fromEndL s k) wr ∧ wr.cell? ⟨Bs, 0, none⟩ = some (.string s))
    (fun i _ => s.size - (intOf i).toNat)
  case atStart => exact ⟨0, Nat.zero_le _, rfl, h0, hBs⟩
  case round =>
    obtain ⟨k, hk, rfl, hJs, hcx⟩ := hrel
    by_cases hlt : k < s.size
    · have hi : s.size - 1 - k < s.size := by omega
      have hget : s.data.toList.getD (s.size - 1 - k) 0 = s[s.size - 1 - k] := by
        have := bytes_at s _ hi
        rw [List.getD, this]; rfl
      have hnext := fromEndL_succ s k
      rw [hget] at hnext
      obtain ⟨fn, tmps, assign, body, hy, hR⟩ := hY _ (k, s.data.toList.getD (s.size - 1 - k) 0) wr hJs (by rw [fromEndL_len]; exact hlt)
      rw [hget] at hy hR
      dsimp only at hy
      rw [← hnext] at hR
      have e3 : wrap64 ((k : Int) + 1) = ((k + 1 : Nat) : Int) := by unfold wrap64; omega
      have E3 := Lib.hid e3
      clear hget hnext e3
      gi_wp2
      refine hR.mono ?_
      rintro e W3 (⟨rfl, hJ3, hk3⟩ | ⟨rfl, hJx3⟩)
      · gi_wp2
        go_roundw
        case rel => exact ⟨k + 1, hlt, by first | rfl | (rw [E3.out]), hJ3, hk3.2 _ hcx⟩
        case measure => first | (rw [E3.out]; simp [intOf]; omega) | (simp [intOf]; omega)
      · gi_wp2
        refine bodyPost_ret (results_none rfl _ _ _) rfl ?_
        exact ⟨⟨_, rfl⟩, .inr ⟨_, ⟨k + 1, hlt, rfl⟩, hJx3⟩⟩
    · obtain rfl : k = s.size := by omega
      gi_wp2
      go_end0
      exact ⟨⟨_, rfl⟩, .inl ⟨_, rfl, hJs⟩⟩
/-- The iterator, as the law of loops over functions asks it. -/
theorem fromEnd_stops (F : Fence) (n : Nat) (h8 : F.fn 130) (hro : F.round = none) (hn : 1 ≤ n) (Bs n₀ : Nat) (s : ByteArray) (hs : s.size ≤ 4096) (w : World) (hb : Bs < w.heap.size) (hBs : w.cell? ⟨Bs, 0, none⟩ = some (.string s)) :
    SeqStopsK F n Tryz.prog 130 #[.pointer (some ⟨Bs, 0, none⟩)] (fun x : Nat × UInt8 => #[.int .i64 (x.1 : Int), .int .u8 (x.2.toNat : Int)]) (KpB n₀ Bs) (fun ys => ys = fromEndL s s.size) (fun pre => ∃ k, k ≤ s.size ∧ pre = fromEndL s k) s.size w :=
  fun l J Jx W hW hJ hJx hY h0 =>
    fromEnd1_in F n h8 hro hn l Bs n₀ s hs J Jx hY W ((hW.cell (p := ⟨Bs, 0, none⟩) hb).trans hBs) h0
end Go.Proofs.YtdokpnfmmbkjfaaGreatDoor
