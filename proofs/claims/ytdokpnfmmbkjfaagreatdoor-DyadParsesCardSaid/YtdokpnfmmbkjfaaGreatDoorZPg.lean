/-
The program's exponent. Conditions: the text isn't too long.
-/
import Derived.Test.YtdokpnfmmbkjfaaGreatDoorGr
import Derived.Test.YtdokpnfmmbkjfaaGreatDoorZInR
import Derived.Test.YtdokpnfmmbkjfaaGreatDoorGe
set_option linter.unusedVariables false
set_option linter.unusedSimpArgs false
namespace Go.Proofs.YtdokpnfmmbkjfaaGreatDoor
open Go.RowKit Go.Shelf
attribute [local go_sem] Oper.semAt_some

theorem fromEnd_any (s : ByteArray) (w : World) :
    Calls Tryz.prog 104 #[.string s] w fun e w' => e = .returned (.func (.func 130) #[] #[.pointer (some ⟨w.heap.size, 0, none⟩)]) ∧ w' = w.alloc (.cells #[.string s] 9) := by
  go_enter Tryz.func104, Tryz.ntmps104
  go_wp2_with fail
  go_ret
  exact ⟨rfl, rfl⟩
/-- The bytes that have come, as they stand in the text. -/
def bytesOf (pre : List (Nat × UInt8)) : List UInt8 := (pre.map (·.2)).reverse
theorem bytesOf_snoc (pre : List (Nat × UInt8)) (x : Nat × UInt8) : bytesOf (pre ++ [x]) = x.2 :: bytesOf pre := by simp [bytesOf]
theorem bytesOf_all (s : ByteArray) : bytesOf (fromEndL s s.size) = s.data.toList := by
  unfold bytesOf fromEndL
  apply List.ext_getElem
  · simp
  · intro i h1 h2
    have h3 : i < s.size := by simpa using h2
    simp only [List.map_map, List.getElem_reverse, List.getElem_map, List.length_map, List.length_range, List.getElem_range, Function.comp]
    rw [show s.size - 1 - (s.size - 1 - i) = i by omega]
    rw [List.getD, List.getElem?_eq_getElem h2]; rfl
theorem bytesOf_len (pre : List (Nat × UInt8)) : (bytesOf pre).length = pre.length := by simp [bytesOf]
theorem decV_from (l : List UInt8) (a : Nat) : l.foldl (fun a c => 10 * a + decv c) a = a * 10 ^ l.length + decV l := by
  induction l generalizing a with
  | nil => simp [decV]
  | cons c t ih =>
    unfold decV
    rw [List.foldl_cons, List.foldl_cons, ih, ih (10 * 0 + decv c), List.length_cons, Nat.pow_succ, Nat.add_mul, show 10 * a * 10 ^ t.length = a * (10 ^ t.length * 10) by rw [Nat.mul_comm 10 a, Nat.mul_assoc, Nat.mul_comm 10], Nat.mul_zero, Nat.zero_add, Nat.add_assoc]
theorem decV_cons (c : UInt8) (l : List UInt8) : decV (c :: l) = decv c * 10 ^ l.length + decV l := by
  unfold decV
  rw [List.foldl_cons, decV_from]
  simp [decV]
theorem dec_index_fin : ∀ n : Fin 256, Lib.indexByte [48, 49, 50, 51, 52, 53, 54, 55, 56, 57] (UInt8.ofNat n.val) = if decv (UInt8.ofNat n.val) < 10 then (decv (UInt8.ofNat n.val) : Int) else -1 := by decide +kernel
theorem dec_index (c : UInt8) : Lib.indexByte [48, 49, 50, 51, 52, 53, 54, 55, 56, 57] c = if decv c < 10 then (decv c : Int) else -1 := by
  have := dec_index_fin ⟨c.toNat, c.toNat_lt⟩
  rw [byte_of] at this
  exact this
theorem hex_index_fin : ∀ n : Fin 256, Lib.indexByte [48, 49, 50, 51, 52, 53, 54, 55, 56, 57, 97, 98, 99, 100, 101, 102] (UInt8.ofNat n.val) = if hexv (UInt8.ofNat n.val) < 16 then (hexv (UInt8.ofNat n.val) : Int) else -1 := by decide +kernel
theorem hex_index (c : UInt8) : Lib.indexByte [48, 49, 50, 51, 52, 53, 54, 55, 56, 57, 97, 98, 99, 100, 101, 102] c = if hexv c < 16 then (hexv c : Int) else -1 := by
  have := hex_index_fin ⟨c.toNat, c.toNat_lt⟩
  rw [byte_of] at this
  exact this
theorem prefix_45 (s : ByteArray) : Lib.trimPrefix s.data.toList [45] = unsg s.data.toList ∧ Lib.hasPrefix s.data.toList [45] = hasSg s.data.toList := by
  unfold unsg hasSg Lib.trimPrefix Lib.hasPrefix
  cases s.data.toList with
  | nil => simp
  | cons x t =>
    by_cases h : x = 45
    · subst h; simp
    · have h' : ¬ (45 : UInt8) = x := fun e => h e.symm
      have e1 : (x == 45) = false := by simpa using h
      have e2 : ((45 : UInt8) == x) = false := by simpa using h'
      simp [h, h', List.isPrefixOf, e1, e2]
theorem decV_lt {l : List UInt8} (h : Decs l) : decV l < 10 ^ l.length := by
  induction l with
  | nil => decide
  | cons c t ih =>
    rw [decV_cons, List.length_cons, Nat.pow_succ]
    have h1 := ih (fun x hx => h x (List.mem_cons_of_mem _ hx))
    have h2 : decv c < 10 := h c List.mem_cons_self
    have h3 : decv c * 10 ^ t.length ≤ 9 * 10 ^ t.length := Nat.mul_le_mul_right _ (by omega)
    omega
theorem exp_step {N U d n : Nat} (hn : n < 7) (hU : U = 10 ^ n) (hN : N < U) (hd : d < 10) : ∃ m N' U' : Nat, (d : Int) * (U : Int) = (m : Int) ∧ (N : Int) + (m : Int) = (N' : Int) ∧ (U : Int) * 10 = (U' : Int) ∧ wrap64 (m : Int) = (m : Int) ∧ wrap64 (N' : Int) = (N' : Int) ∧ wrap64 (U' : Int) = (U' : Int) ∧
    IntKind.i64.wrap (m : Int) = (m : Int) ∧ IntKind.i64.wrap (N' : Int) = (N' : Int) ∧ IntKind.i64.wrap (U' : Int) = (U' : Int) ∧ N' = d * U + N ∧ U' = 10 ^ (n + 1) := by
  have h1 : 10 ^ n ≤ 10 ^ 6 := Nat.pow_le_pow_right (by omega) (by omega)
  have h2 : (10 : Nat) ^ 6 = 1000000 := by decide
  have h3 : d * U ≤ 9 * U := Nat.mul_le_mul_right _ (by omega)
  have h4 : (d : Int) * (U : Int) = ((d * U : Nat) : Int) := by simp
  obtain ⟨P, hP⟩ : ∃ P, d * U = P := ⟨_, rfl⟩
  rw [hP] at h3 h4
  rw [Nat.pow_succ, ← hU, hP]
  rw [← hU] at h1
  exact ⟨P, P + N, U * 10, h4, by omega, by omega, by unfold wrap64; omega, by unfold wrap64; omega, by unfold wrap64; omega, wi_in (by omega), wi_in (by omega), wi_in (by omega), rfl, rfl⟩
/-- Behind part of a round: two cells may have been written. -/
structure StepW (n₀ : Nat) (w1 W : World) (b5 b6 : Nat) (v5 v6 : Value) : Prop where
  keeps : KeepsOthers w1 W
  below : Below n₀ w1 W
  other : ∀ b, b ≠ b5 → b ≠ b6 → W.cell? ⟨b, 0, none⟩ = w1.cell? ⟨b, 0, none⟩
  froz : ∀ a, W.frozen? a = w1.frozen? a
  c5 : W.cell? ⟨b5, 0, none⟩ = some v5
  c6 : W.cell? ⟨b6, 0, none⟩ = some v6
  ne : b5 ≠ b6
theorem StepW.start {n₀ : Nat} {w1 : World} {b5 b6 : Nat} {v5 v6 : Value} (h5 : w1.cell? ⟨b5, 0, none⟩ = some v5) (h6 : w1.cell? ⟨b6, 0, none⟩ = some v6) (hne : b5 ≠ b6) : StepW n₀ w1 w1.drew b5 b6 v5 v6 :=
  ⟨KeepsOthers.drew _, (Below.refl _ _).drew, fun _ _ _ => rfl, fun _ => rfl, h5, h6, hne⟩
theorem StepW.set5 {n₀ : Nat} {w1 W : World} {b5 b6 : Nat} {v5 v6 : Value} (h : StepW n₀ w1 W b5 b6 v5 v6) (u : Value) (hle : n₀ ≤ b5) : StepW n₀ w1 (W.setCell ⟨b5, 0, none⟩ u) b5 b6 u v6 :=
  ⟨h.keeps.trans (KeepsOthers.setCell _ _ _), h.below.setCell (p := ⟨b5, 0, none⟩) hle _, fun b h1 h2 => by rw [cell_set h1]; exact h.other b h1 h2, fun a => by rw [World.frozen?_setCell]; exact h.froz a,
    World.cell?_setCell_same' _ _ _ (by rw [h.c5]; rfl), by rw [cell_set (fun e => h.ne e.symm)]; exact h.c6, h.ne⟩
theorem StepW.set6 {n₀ : Nat} {w1 W : World} {b5 b6 : Nat} {v5 v6 : Value} (h : StepW n₀ w1 W b5 b6 v5 v6) (u : Value) (hle : n₀ ≤ b6) : StepW n₀ w1 (W.setCell ⟨b6, 0, none⟩ u) b5 b6 v5 u :=
  ⟨h.keeps.trans (KeepsOthers.setCell _ _ _), h.below.setCell (p := ⟨b6, 0, none⟩) hle _, fun b h1 h2 => by rw [cell_set h2]; exact h.other b h1 h2, fun a => by rw [World.frozen?_setCell]; exact h.froz a,
    by rw [cell_set h.ne]; exact h.c5, World.cell?_setCell_same' _ _ _ (by rw [h.c6]; rfl), h.ne⟩
theorem tp_pos {N : Nat} (h : N ≤ 1048576) : decide (-1048576 ≤ (N : Int)) = true := by simp <;> omega
theorem tq_pos {N : Nat} (h : N ≤ 1048576) : decide ((N : Int) ≤ 1048576) = true := by simp <;> omega
theorem tp_neg {N : Nat} (h : N ≤ 1048576) : decide (-1048576 ≤ -(N : Int)) = true := by simp <;> omega
theorem tq_neg {N : Nat} (h : N ≤ 1048576) : decide (-(N : Int) ≤ 1048576) = true := by simp <;> omega
theorem tp_all {N : Nat} (h : ¬ N ≤ 1048576) : decide (-1048576 ≤ (N : Int)) = true := by simp <;> omega
theorem tp_far {N : Nat} (h : ¬ N ≤ 1048576) : decide (-1048576 ≤ -(N : Int)) = false := by simp <;> omega
theorem tq_far {N : Nat} (h : ¬ N ≤ 1048576) : decide ((N : Int) ≤ 1048576) = false := by simp <;> omega
theorem neg_le10 {N : Nat} (h : N < 10000000) : (-(N : Int)).natAbs ≤ 1125899906842624 := by omega
theorem exp_small {N : Nat} (h : N < 10000000) : ((N : Nat) : Int).natAbs ≤ 100000000 := by omega
theorem exp_small_neg {N : Nat} (h : N < 10000000) : (-((N : Nat) : Int)).natAbs ≤ 100000000 := by omega
/-- Exponent's outcome. -/
def ERes (l : List UInt8) (n : Int) (b : Bool) : Prop := (b = true → EOk l n) ∧ (b = false → ∀ E, ¬ EOk l E)

set_option maxRecDepth 100000 in
set_option maxHeartbeats 4000000 in
theorem exponent_any (s : ByteArray) (w : World) (hs : s.size ≤ 300) :
    Calls Tryz.prog 74 #[.string s] w fun e w' => ∃ n b, e = .returned (.tuple #[.int .i64 n, .bool b]) ∧ ERes s.data.toList n b ∧ n.natAbs ≤ 100000000 ∧ Below w.heap.size w w' := by
  cases h48 : (s.toList == [48]) with
  | true =>
    have e48 : s.data.toList = [48] := by rw [← Lib.toList_data]; exact eq_of_beq h48
    rw [e48]
    clear e48 hs
    go_enter Tryz.func74, Tryz.ntmps74
    go_wp2_with fail
    have B2 := (Blk.new w 3 #[.int .i64 0]).alloc (.cells #[.bool true] 4)
    have B3 := Blk.new_ (w.alloc (.cells #[.int .i64 0] 3)) 4 #[.bool true] (w.heap.size + 1) (by simp)
    have c2 := B2.cell 0
    have c3 := B3.cell 0
    exact bodyPost_ret (v := .tuple #[.int .i64 0, .bool true]) (by simp [results, Tryz.results74, go_sem, c2, c3]) rfl
      ⟨0, true, rfl, ⟨fun _ => eok_zero, fun e => by cases e⟩, by decide, below_nx ((Below.refl _ _).alloc (Nat.le_refl _) _) below_one⟩
  | false =>
    obtain ⟨F, hF⟩ : ∃ F : ByteArray, (⟨(unsg s.data.toList).toArray⟩ : ByteArray) = F := ⟨_, rfl⟩
    have hFl : F.data.toList = unsg s.data.toList := by rw [← hF]
    obtain ⟨bl, hbl⟩ : ∃ bl, hasSg s.data.toList = bl := ⟨_, rfl⟩
    have HCp := fun W => Tryz.strings_CutPrefix s ⟨#[45]⟩ W
    rw [show (⟨#[45]⟩ : ByteArray).data.toList = [45] from rfl, (prefix_45 s).1, (prefix_45 s).2, hF, hbl] at HCp
    have HC := Lib.hid HCp
    by_cases hF0 : F.size = 0
    · have tf0 := hF0
      clear hF hF0
      go_enter Tryz.func74, Tryz.ntmps74
      go_wp2_with fail
      refine (HC.out _).mono ?_
      rintro e w1 ⟨rfl, rfl⟩
      have HW := Lib.hid (show ∀ E, ¬ EOk s.data.toList E from fun E hE => by
        have h := (eok_val hE).2.2.2.1
        rw [← hFl] at h
        exact h (List.length_eq_zero_iff.1 (by rw [bytes_len]; exact tf0)))
      go_wp2_with fail
      have B2 := (Blk.new w 3 #[.int .i64 0]).alloc (.cells #[.bool false] 4)
      have B3 := Blk.new_ (w.alloc (.cells #[.int .i64 0] 3)) 4 #[.bool false] (w.heap.size + 1) (by simp)
      have c2 := B2.cell 0
      have c3 := B3.cell 0
      exact bodyPost_ret (v := .tuple #[.int .i64 0, .bool false]) (by simp [results, Tryz.results74, go_sem, c2, c3]) rfl
        ⟨0, false, rfl, ⟨(fun e => by cases e), fun _ => HW.out⟩, by decide, below_nx ((Below.refl _ _).alloc (Nat.le_refl _) _) below_one⟩
    · have tf0 := nz_f hF0
      have tz : decide (0 < F.size) = true := decide_eq_true (Nat.pos_of_ne_zero hF0)
      have hz : 0 < F.size := Nat.pos_of_ne_zero hF0
      by_cases hF7 : 7 < F.size
      · have tf7 := sev_t hF7
        have HW := Lib.hid (show ∀ E, ¬ EOk s.data.toList E from fun E hE => by
          have h := (eok_val hE).2.2.2.2
          rw [← hFl, bytes_len] at h
          exact absurd h (Nat.not_le_of_lt hF7))
        clear hF hF0 hF7
        go_enter Tryz.func74, Tryz.ntmps74
        go_wp2_with fail
        refine (HC.out _).mono ?_
        rintro e w1 ⟨rfl, rfl⟩
        go_wp2_with fail
        have B2 := (Blk.new w 3 #[.int .i64 0]).alloc (.cells #[.bool false] 4)
        have B3 := Blk.new_ (w.alloc (.cells #[.int .i64 0] 3)) 4 #[.bool false] (w.heap.size + 1) (by simp)
        have c2 := B2.cell 0
        have c3 := B3.cell 0
        exact bodyPost_ret (v := .tuple #[.int .i64 0, .bool false]) (by simp [results, Tryz.results74, go_sem, c2, c3]) rfl
          ⟨0, false, rfl, ⟨(fun e => by cases e), fun _ => HW.out⟩, by decide, below_nx ((Below.refl _ _).alloc (Nat.le_refl _) _) below_one⟩
      · have tf7 := sev_f hF7
        by_cases h0 : F[0] = 48
        · have t48 : (((F[0].toNat : Nat) : Int) == 48) = true := by rw [h0]; rfl
          have HW := Lib.hid (show ∀ E, ¬ EOk s.data.toList E from fun E hE => by
            have h := eok_head hE (fun e => by rw [Lib.toList_data, e] at h48; exact absurd h48 (by decide))
            rw [← hFl, List.head?_eq_getElem?, bytes_at F 0 hz, h0] at h
            exact h rfl)
          clear hF hF0 hF7 h0
          go_enter Tryz.func74, Tryz.ntmps74
          go_wp2_with fail
          refine (HC.out _).mono ?_
          rintro e w1 ⟨rfl, rfl⟩
          go_wp2_with fail
          have B2 := (Blk.new w 3 #[.int .i64 0]).alloc (.cells #[.bool false] 4)
          have B3 := Blk.new_ (w.alloc (.cells #[.int .i64 0] 3)) 4 #[.bool false] (w.heap.size + 1) (by simp)
          have c2 := B2.cell 0
          have c3 := B3.cell 0
          exact bodyPost_ret (v := .tuple #[.int .i64 0, .bool false]) (by simp [results, Tryz.results74, go_sem, c2, c3]) rfl
            ⟨0, false, rfl, ⟨(fun e => by cases e), fun _ => HW.out⟩, by decide, below_nx ((Below.refl _ _).alloc (Nat.le_refl _) _) below_one⟩
        · have t48 : (((F[0].toNat : Nat) : Int) == 48) = false := byte_ne h0
          clear hF
          refine (callsIn_wide (n := 5)).1 ?_
          refine callsIn_of_wp_marks Tryz.func74 rfl trivial ?_ rfl
          simp only [Tryz.ntmps74, List.size_toArray, List.length_cons, List.length_nil, Nat.reduceAdd, Nat.reduceSub, Array.replicate_succ, Array.replicate_zero, List.push_toArray, List.append_toArray, List.nil_append, List.cons_append]
          gi_wp2
          refine ⟨trivial, (callsIn_wide.2 (HC.out _)).mono ?_⟩
          rintro e w1 ⟨rfl, rfl⟩
          gi_wp2
          refine ⟨trivial, (callsIn_wide.2 (fromEnd_any _ _)).mono ?_⟩
          rintro e w1 ⟨rfl, rfl⟩
          gi_wp2
          have b0 := ((((Blk.new w 3 #[.int .i64 0]).alloc (.cells #[.bool false] 4)).alloc (.cells #[.int .i64 0] 3)).alloc (.cells #[.int .i64 1] 3)).alloc (.cells #[.string F] 9)
          have b1 := (((Blk.new_ (w.alloc (.cells #[.int .i64 0] 3)) 4 #[.bool false] (w.heap.size + 1) (by simp)).alloc (.cells #[.int .i64 0] 3)).alloc (.cells #[.int .i64 1] 3)).alloc (.cells #[.string F] 9)
          have b2 := ((Blk.new_ ((w.alloc (.cells #[.int .i64 0] 3)).alloc (.cells #[.bool false] 4)) 3 #[.int .i64 0] (w.heap.size + 1 + 1) (by simp)).alloc (.cells #[.int .i64 1] 3)).alloc (.cells #[.string F] 9)
          have b3 := (Blk.new_ (((w.alloc (.cells #[.int .i64 0] 3)).alloc (.cells #[.bool false] 4)).alloc (.cells #[.int .i64 0] 3)) 3 #[.int .i64 1] (w.heap.size + 1 + 1 + 1) (by simp)).alloc (.cells #[.string F] 9)
          have b4 := Blk.new_ ((((w.alloc (.cells #[.int .i64 0] 3)).alloc (.cells #[.bool false] 4)).alloc (.cells #[.int .i64 0] 3)).alloc (.cells #[.int .i64 1] 3)) 9 #[.string F] (w.heap.size + 1 + 1 + 1 + 1) (by simp)
          have hB0 : Below w.heap.size w (((((w.alloc (.cells #[.int .i64 0] 3)).alloc (.cells #[.bool false] 4)).alloc (.cells #[.int .i64 0] 3)).alloc (.cells #[.int .i64 1] 3)).alloc (.cells #[.string F] 9)) := below_al (below_al (below_al (below_al below_one)))
          have hF300 : F.size ≤ 4096 := by omega
          refine wpIn_rangeFunc_ownF rfl (by omega) (gf := 130) (lb := #[.pointer (some ⟨w.heap.size + 1 + 1 + 1 + 1, 0, none⟩)]) rfl trivial (enters_of Tryz.func130 (by kernel_rfl) rfl)
            (fromEnd_stops Fence.wide (5 - 1) trivial rfl (by omega) (w.heap.size + 1 + 1 + 1 + 1) w.heap.size F hF300 _ (by simp) (b4.cell 0)) KpB.trans (KpB.put (by simp; omega)) (Below.refl _ _) (fun _ => rfl)
            (fun pre W => (Decs (bytesOf pre) ∧ W.cell? ⟨w.heap.size + 1 + 1, 0, none⟩ = some (.int .i64 (decV (bytesOf pre) : Int)) ∧ W.frozen? ⟨w.heap.size + 1 + 1, 0, none⟩ = false ∧ W.cell? ⟨w.heap.size + 1 + 1 + 1, 0, none⟩ = some (.int .i64 ((10 ^ pre.length : Nat) : Int)) ∧ W.frozen? ⟨w.heap.size + 1 + 1 + 1, 0, none⟩ = false ∧
              W.cell? ⟨w.heap.size, 0, none⟩ = some (.int .i64 0) ∧ W.frozen? ⟨w.heap.size, 0, none⟩ = false ∧ W.cell? ⟨w.heap.size + 1, 0, none⟩ = some (.bool false) ∧ W.frozen? ⟨w.heap.size + 1, 0, none⟩ = false) ∧ Below w.heap.size w W)
            (fun c pre W => (c = .ret ∧ (∃ x ∈ pre, ¬ decv x.2 < 10) ∧ W.cell? ⟨w.heap.size, 0, none⟩ = some (.int .i64 0) ∧ W.cell? ⟨w.heap.size + 1, 0, none⟩ = some (.bool false)) ∧ Below w.heap.size w W)
            (OwnFrom.and (Own.from (fun s A B row hs hg hr => ⟨hs.1, cell_kept hs.2.1 hg hr, (frozen_kept hs.2.1 hg hr).trans hs.2.2.1, cell_kept hs.2.2.2.1 hg hr, (frozen_kept hs.2.2.2.1 hg hr).trans hs.2.2.2.2.1, cell_kept hs.2.2.2.2.2.1 hg hr, (frozen_kept hs.2.2.2.2.2.1 hg hr).trans hs.2.2.2.2.2.2.1, cell_kept hs.2.2.2.2.2.2.2.1 hg hr, (frozen_kept hs.2.2.2.2.2.2.2.1 hg hr).trans hs.2.2.2.2.2.2.2.2⟩) _) (ownFrom_below (Nat.le_refl _) (by simp; omega)))
            (fun c => OwnFrom.and (Own.from (fun s A B row hs hg hr => ⟨hs.1, hs.2.1, cell_kept hs.2.2.1 hg hr, cell_kept hs.2.2.2 hg hr⟩) _) (ownFrom_below (Nat.le_refl _) (by simp; omega)))
            ⟨⟨fun _ h => (by simp [bytesOf] at h), b2.cell 0, b2.frozen 0, b3.cell 0, b3.frozen 0, b0.cell 0, b0.frozen 0, b1.cell 0, b1.frozen 0⟩, hB0⟩
            ?a1 ?assign ?body ?done ?stop
          case assign =>
            intro l x W K hK
            gi_wp2
            exact hK
          case body =>
            rintro l pre x W ⟨⟨hD, x1, x2, x3, x4, x5, x6, x7, x8⟩, hB⟩ hlen
            have HIx := Lib.hid (fun W => show Calls Tryz.prog 105 #[.string ⟨#[48, 49, 50, 51, 52, 53, 54, 55, 56, 57]⟩, .int .u8 (x.2.toNat : Int)] W fun e w' => e = .returned (.int .i64 (if decv x.2 < 10 then (decv x.2 : Int) else -1)) ∧ w' = W from by
              have h := Tryz.strings_IndexByte ⟨#[48, 49, 50, 51, 52, 53, 54, 55, 56, 57]⟩ (x.2.toNat : Int) W
              rw [Lib.byte_back] at h
              rw [← dec_index]
              exact h)
            have HLn := Lib.hid (show pre.length < 7 by omega)
            have HB := Lib.hid hB
            have HD := Lib.hid hD
            have HNl := Lib.hid (show decV (bytesOf pre) < 10 ^ pre.length by have := decV_lt hD; rwa [bytesOf_len] at this)
            obtain ⟨N, hN⟩ : ∃ N, decV (bytesOf pre) = N := ⟨_, rfl⟩
            obtain ⟨U, hU⟩ : ∃ U, 10 ^ pre.length = U := ⟨_, rfl⟩
            rw [hN] at x1 HNl
            rw [hU] at x3 HNl
            by_cases hx : decv x.2 < 10
            · simp only [if_pos hx] at HIx
              obtain ⟨d0, hd⟩ : ∃ d0, decv x.2 = d0 := ⟨_, rfl⟩
              rw [hd] at HIx hx
              obtain ⟨m, N', U', f1, f2, f3, f4, f5, f6, f7, f8, f9, hm, hu⟩ := exp_step HLn.out hU.symm HNl.out hx
              have HR := Lib.hid (show Decs (bytesOf (pre ++ [x])) ∧ N' = decV (bytesOf (pre ++ [x])) ∧ U' = 10 ^ (pre ++ [x]).length from by
                rw [bytesOf_snoc]
                refine ⟨fun c hc => ?_, ?_, by rw [hu]; simp⟩
                · rcases List.mem_cons.1 hc with rfl | hc
                  · rw [hd]; exact hx
                  · exact HD.out c hc
                · rw [decV_cons, hd, bytesOf_len, hU, hN]; exact hm)
              clear hD hB hlen hN hU hd hm hu b0 b1 b2 b3 b4 hB0 hF300
              gi_wp2
              refine ⟨trivial, (CallsIn.inRound l (callsIn_wide.2 (HIx.out _))).mono ?_⟩
              rintro e w1 ⟨rfl, rfl⟩
              gi_wp2
              refine wp_region_invR [38, 39, 40, 41, 42, 43, 44] (fun d s W => (d 0 = true → s 38 = .int .i64 (N : Int)) ∧ (d 1 = true → s 39 = .int .i64 (d0 : Int)) ∧ (d 2 = true → s 40 = .int .i64 (U : Int)) ∧ (d 3 = true → s 41 = .int .i64 (m : Int)) ∧ (d 4 = true → s 42 = .int .i64 (N' : Int)) ∧ (d 5 = true → s 43 = .int .i64 (U : Int)) ∧ (d 6 = true → s 44 = .int .i64 (U' : Int)) ∧ (d 7 = true → d 0 = true ∧ d 4 = true) ∧ (d 8 = true → d 2 = true ∧ d 5 = true ∧ d 6 = true ∧ d 7 = true) ∧ StepW w.heap.size w1 W (w.heap.size + 1 + 1) (w.heap.size + 1 + 1 + 1) (.int .i64 ((if d 7 = true then N' else N : Nat) : Int)) (.int .i64 ((if d 8 = true then U' else U : Nat) : Int)))
                (by kernel_rfl) (by kernel_rfl) (by kernel_rfl) ?_ ?_ ?_
              · exact ⟨by simp, by simp, by simp, by simp, by simp, by simp, by simp, by simp, by simp, by simpa using StepW.start x1 x3 (show w.heap.size + 1 + 1 ≠ w.heap.size + 1 + 1 + 1 by omega)⟩
              · refine ⟨?_, ?_, ?_, ?_, ?_, ?_, ?_, ?_, ?_, trivial⟩
                all_goals
                  intro d s W hJ hfr hd hdep
                  simp only [List.mem_cons, forall_eq_or_imp, List.not_mem_nil, false_implies, implies_true, and_true, Region.binds] at hdep
                  have fr5 := hfr 5 (by decide)
                  have fr6 := hfr 6 (by decide)
                  have fr9 := hfr 9 (by decide)
                  simp at fr5 fr6 fr9 hdep
                  obtain ⟨h0, h1, h2, h3, h4, h5, h6, y0, y1, hT⟩ := hJ
                  unfold OpSteps
                · have l7 : d 7 = false := by
                    cases h : d 7
                    · rfl
                    · have := y0 h; simp [hd] at this
                  have c5 := hT.c5
                  simp only [l7, Bool.false_eq_true, if_false] at c5
                  simp [go_sem, evS, fr5, fr6, fr9, c5]
                  exact ⟨fun _ => by simp [sput], fun h => by simpa [sput] using h1 (by simpa [did] using h), fun h => by simpa [sput] using h2 (by simpa [did] using h), fun h => by simpa [sput] using h3 (by simpa [did] using h), fun h => by simpa [sput] using h4 (by simpa [did] using h), fun h => by simpa [sput] using h5 (by simpa [did] using h), fun h => by simpa [sput] using h6 (by simpa [did] using h), fun h => by have := y0 (by simpa [did] using h); simp [did, this], fun h => by have := y1 (by simpa [did] using h); simp [did, this], by simpa [did] using hT⟩
                · simp [go_sem, evS, fr5, fr6, fr9]
                  exact ⟨fun h => by simpa [sput] using h0 (by simpa [did] using h), fun _ => by simp [sput], fun h => by simpa [sput] using h2 (by simpa [did] using h), fun h => by simpa [sput] using h3 (by simpa [did] using h), fun h => by simpa [sput] using h4 (by simpa [did] using h), fun h => by simpa [sput] using h5 (by simpa [did] using h), fun h => by simpa [sput] using h6 (by simpa [did] using h), fun h => by have := y0 (by simpa [did] using h); simp [did, this], fun h => by have := y1 (by simpa [did] using h); simp [did, this], by simpa [did] using hT⟩
                · have l8 : d 8 = false := by
                    cases h : d 8
                    · rfl
                    · have := y1 h; simp [hd] at this
                  have c6 := hT.c6
                  simp only [l8, Bool.false_eq_true, if_false] at c6
                  simp [go_sem, evS, fr5, fr6, fr9, c6]
                  exact ⟨fun h => by simpa [sput] using h0 (by simpa [did] using h), fun h => by simpa [sput] using h1 (by simpa [did] using h), fun _ => by simp [sput], fun h => by simpa [sput] using h3 (by simpa [did] using h), fun h => by simpa [sput] using h4 (by simpa [did] using h), fun h => by simpa [sput] using h5 (by simpa [did] using h), fun h => by simpa [sput] using h6 (by simpa [did] using h), fun h => by have := y0 (by simpa [did] using h); simp [did, this], fun h => by have := y1 (by simpa [did] using h); simp [did, this], by simpa [did] using hT⟩
                · have g1 := h1 (by simp [hdep])
                  have g2 := h2 (by simp [hdep])
                  simp [go_sem, evS, fr5, fr6, fr9, g1, g2, f1, f7, f4]
                  exact ⟨fun h => by simpa [sput] using h0 (by simpa [did] using h), fun h => by simpa [sput] using h1 (by simpa [did] using h), fun h => by simpa [sput] using h2 (by simpa [did] using h), fun _ => by simp [sput], fun h => by simpa [sput] using h4 (by simpa [did] using h), fun h => by simpa [sput] using h5 (by simpa [did] using h), fun h => by simpa [sput] using h6 (by simpa [did] using h), fun h => by have := y0 (by simpa [did] using h); simp [did, this], fun h => by have := y1 (by simpa [did] using h); simp [did, this], by simpa [did] using hT⟩
                · have g0 := h0 (by simp [hdep])
                  have g3 := h3 (by simp [hdep])
                  simp [go_sem, evS, fr5, fr6, fr9, g0, g3, f2, f5, f8]
                  exact ⟨fun h => by simpa [sput] using h0 (by simpa [did] using h), fun h => by simpa [sput] using h1 (by simpa [did] using h), fun h => by simpa [sput] using h2 (by simpa [did] using h), fun h => by simpa [sput] using h3 (by simpa [did] using h), fun _ => by simp [sput], fun h => by simpa [sput] using h5 (by simpa [did] using h), fun h => by simpa [sput] using h6 (by simpa [did] using h), fun h => by have := y0 (by simpa [did] using h); simp [did, this], fun h => by have := y1 (by simpa [did] using h); simp [did, this], by simpa [did] using hT⟩
                · have l8 : d 8 = false := by
                    cases h : d 8
                    · rfl
                    · have := y1 h; simp [hd] at this
                  have c6 := hT.c6
                  simp only [l8, Bool.false_eq_true, if_false] at c6
                  simp [go_sem, evS, fr5, fr6, fr9, c6]
                  exact ⟨fun h => by simpa [sput] using h0 (by simpa [did] using h), fun h => by simpa [sput] using h1 (by simpa [did] using h), fun h => by simpa [sput] using h2 (by simpa [did] using h), fun h => by simpa [sput] using h3 (by simpa [did] using h), fun h => by simpa [sput] using h4 (by simpa [did] using h), fun _ => by simp [sput], fun h => by simpa [sput] using h6 (by simpa [did] using h), fun h => by have := y0 (by simpa [did] using h); simp [did, this], fun h => by have := y1 (by simpa [did] using h); simp [did, this], by simpa [did] using hT⟩
                · have g5 := h5 (by simp [hdep])
                  simp [go_sem, evS, fr5, fr6, fr9, g5, f3, f6, f9]
                  exact ⟨fun h => by simpa [sput] using h0 (by simpa [did] using h), fun h => by simpa [sput] using h1 (by simpa [did] using h), fun h => by simpa [sput] using h2 (by simpa [did] using h), fun h => by simpa [sput] using h3 (by simpa [did] using h), fun h => by simpa [sput] using h4 (by simpa [did] using h), fun h => by simpa [sput] using h5 (by simpa [did] using h), fun _ => by simp [sput], fun h => by have := y0 (by simpa [did] using h); simp [did, this], fun h => by have := y1 (by simpa [did] using h); simp [did, this], by simpa [did] using hT⟩
                · have g4 := h4 (by simp [hdep])
                  have l7 := hd
                  have c5 := hT.c5
                  simp only [l7, Bool.false_eq_true, if_false] at c5
                  have z5 := hT.froz ⟨w.heap.size + 1 + 1, 0, none⟩
                  rw [x2] at z5
                  simp [go_sem, evS, fr5, fr6, fr9, g4, c5, z5]
                  exact ⟨fun h => by simpa [sput] using h0 (by simpa [did] using h), fun h => by simpa [sput] using h1 (by simpa [did] using h), fun h => by simpa [sput] using h2 (by simpa [did] using h), fun h => by simpa [sput] using h3 (by simpa [did] using h), fun h => by simpa [sput] using h4 (by simpa [did] using h), fun h => by simpa [sput] using h5 (by simpa [did] using h), fun h => by simpa [sput] using h6 (by simpa [did] using h), fun _ => by simp [did, hdep], fun h => by have := y1 (by simpa [did] using h); simp [did, this], by simpa [did] using hT.set5 (.int .i64 (N' : Int)) (show w.heap.size ≤ w.heap.size + 1 + 1 by omega)⟩
                · have g6 := h6 (by simp [hdep])
                  have l8 := hd
                  have c6 := hT.c6
                  simp only [l8, Bool.false_eq_true, if_false] at c6
                  have z6 := hT.froz ⟨w.heap.size + 1 + 1 + 1, 0, none⟩
                  rw [x4] at z6
                  simp [go_sem, evS, fr5, fr6, fr9, g6, c6, z6]
                  exact ⟨fun h => by simpa [sput] using h0 (by simpa [did] using h), fun h => by simpa [sput] using h1 (by simpa [did] using h), fun h => by simpa [sput] using h2 (by simpa [did] using h), fun h => by simpa [sput] using h3 (by simpa [did] using h), fun h => by simpa [sput] using h4 (by simpa [did] using h), fun h => by simpa [sput] using h5 (by simpa [did] using h), fun h => by simpa [sput] using h6 (by simpa [did] using h), fun h => by have := y0 (by simpa [did] using h); simp [did, this], fun _ => by simp [did, hdep], by simpa [did] using hT.set6 (.int .i64 (U' : Int)) (show w.heap.size ≤ w.heap.size + 1 + 1 + 1 by omega)⟩
              intro d s W hJ hd
              obtain ⟨h0, h1, h2, h3, h4, h5, h6, y0, y1, hT⟩ := hJ
              have hT' := hT
              rw [hd 7 (by decide), hd 8 (by decide)] at hT'
              simp only [if_true] at hT'
              have HT' := Lib.hid hT'
              clear h0 h1 h2 h3 h4 h5 h6 y0 y1 hT hd hT'
              refine ⟨HT'.out.keeps, ⟨HT'.out.below, fun v hv => by rw [HT'.out.other _ (by omega) (by omega)]; exact hv⟩, ⟨⟨HR.out.1, by rw [← HR.out.2.1]; exact HT'.out.c5, by rw [HT'.out.froz]; exact x2, by rw [← HR.out.2.2]; exact HT'.out.c6, by rw [HT'.out.froz]; exact x4,
                by rw [HT'.out.other _ (by omega) (by omega)]; exact x5, by rw [HT'.out.froz]; exact x6, by rw [HT'.out.other _ (by omega) (by omega)]; exact x7, by rw [HT'.out.froz]; exact x8⟩, HB.out.trans HT'.out.below⟩⟩
            · simp only [if_neg hx] at HIx
              have HX := Lib.hid hx
              clear hD hB hlen hN hU b0 b1 b2 b3 b4 hB0 hF300 hx
              gi_wp2
              refine ⟨trivial, (CallsIn.inRound l (callsIn_wide.2 (HIx.out _))).mono ?_⟩
              rintro e w1 ⟨rfl, rfl⟩
              gi_wp2
              exact ⟨(KeepsOthers.setCell w1 _ _).trans (KeepsOthers.setCell _ _ _), ⟨⟨rfl, ⟨x, by simp, HX.out⟩, by rw [cell_set (show w.heap.size ≠ w.heap.size + 1 by omega)]; exact World.cell?_setCell_same' _ _ _ (by rw [x5]; rfl),
                World.cell?_setCell_same' _ _ _ (by rw [cell_set (show w.heap.size + 1 ≠ w.heap.size by omega), x7]; rfl)⟩, (HB.out.setCell (p := ⟨w.heap.size, 0, none⟩) (Nat.le_refl _) _).setCell (p := ⟨w.heap.size + 1, 0, none⟩) (Nat.le_succ _) _⟩⟩
          case done =>
            rintro D ys W hD rfl ⟨⟨hDe, x1, x2, x3, x4, x5, x6, x7, x8⟩, hB⟩ hK
            rw [bytesOf_all] at x1 hDe
            have HB := Lib.hid hB
            have HK := Lib.hid hK
            have HDe := Lib.hid hDe
            have HDs := Lib.hid (show w.heap.size ≤ D by simp at hD; omega)
            have HNb := Lib.hid (show decV F.data.toList < 10000000 by
              have h1 := decV_lt hDe
              rw [bytes_len] at h1
              exact Nat.lt_of_lt_of_le h1 (Nat.le_trans (Nat.pow_le_pow_right (j := 7) (by omega) (Nat.le_of_not_lt hF7)) (by decide)))
            have HFe := Lib.hid (show F.data.toList ≠ [] ∧ F.data.toList.head? ≠ some 48 from ⟨fun e => hF0 (by rw [← bytes_len, e]; rfl), by rw [List.head?_eq_getElem?, bytes_at F 0 hz]; intro e; exact h0 (Option.some.inj e)⟩)
            obtain ⟨N, hN⟩ : ∃ N, decV F.data.toList = N := ⟨_, rfl⟩
            rw [hN] at x1 HNb
            have HN := Lib.hid hN
            clear hB hK hDe hN b0 b1 b2 b3 b4 hB0 hF300 hD
            cases bl
            · gi_wp2
              refine wpIn_wide.2 ?_
              obtain ⟨z, hz⟩ : ∃ z : Int, (N : Int) = z := ⟨_, rfl⟩
              rw [hz] at x1
              obtain ⟨W0, rfl⟩ : ∃ W0 : World, W0 = W := ⟨_, rfl⟩
              have X5 := x5
              have X6 := x6
              have X7 := x7
              have X8 := x8
              have HK' := HK
              have HB' := HB
              clear x3 x4 x5 x6 x7 x8
              by_cases hb : N ≤ 1048576
              · have hb' := hb
                have tp : decide (-1048576 ≤ z) = true := by rw [← hz]; exact tp_pos hb
                have tq : decide (z ≤ 1048576) = true := by rw [← hz]; exact tq_pos hb
                have HRes := Lib.hid (show ERes s.data.toList z true ∧ z.natAbs ≤ 100000000 from by
                  rw [← hz, ← HN.out]
                  refine ⟨⟨fun _ => ?_, fun e => by cases e⟩, exp_small (by rw [HN.out]; exact HNb.out)⟩
                  have h := eok_of (neg := false) (show s.data.toList = sg false ++ F.data.toList from by rw [hFl, ← hbl]; exact sg_unsg _) HDe.out HFe.out.1 HFe.out.2 (by rw [HN.out]; exact hb)
                  simpa [sgd] using h)
                clear hb hb' hz
                refine wp_region_invG [48, 49, 50, 51, 52, 53, 54] (fun d s W => (d 0 = true → s 48 = .int .i64 z) ∧ (d 1 = true → s 49 = .int .i64 z) ∧ (d 2 = true → s 50 = .bool true) ∧ (d 3 = true → s 51 = .bool true) ∧ (d 4 = true → s 52 = .int .i64 z) ∧ (d 5 = true → s 53 = .bool true) ∧ (d 6 = true → s 54 = .bool true) ∧ (d 7 = true → d 0 = true) ∧ (d 8 = true → d 6 = true ∧ d 7 = true) ∧ StepW w.heap.size W0 W w.heap.size (w.heap.size + 1) (.int .i64 (if d 7 = true then z else 0)) (.bool (if d 8 = true then true else false)))
                  rfl (by kernel_rfl) ?_ ?_ ?_
                · exact ⟨by simp, by simp, by simp, by simp, by simp, by simp, by simp, by simp, by simp, by simpa using StepW.start X5 X7 (show w.heap.size ≠ w.heap.size + 1 by omega)⟩
                · refine ⟨?_, ?_, ?_, ?_, ?_, ?_, ?_, ?_, ?_, trivial⟩
                  all_goals
                    intro d s W hJ hfr hd hdep
                    simp only [List.mem_cons, forall_eq_or_imp, List.not_mem_nil, false_implies, implies_true, and_true, Region.binds] at hdep
                    have fr2 := hfr 2 (by decide)
                    have fr3 := hfr 3 (by decide)
                    have fr5 := hfr 5 (by decide)
                    simp at fr2 fr3 fr5 hdep
                    obtain ⟨h0, h1, h2, h3, h4, h5, h6, y0, y1, hT⟩ := hJ
                  · have c5 := hT.other (w.heap.size + 1 + 1) (by omega) (by omega)
                    rw [x1] at c5
                    refine stepG_plain rfl ?_
                    unfold OpSteps
                    simp [go_sem, evS, fr2, fr3, fr5, c5]
                    exact ⟨fun _ => by simp [sput], fun h => by simpa [sput] using h1 (by simpa [did] using h), fun h => by simpa [sput] using h2 (by simpa [did] using h), fun h => by simpa [sput] using h3 (by simpa [did] using h), fun h => by simpa [sput] using h4 (by simpa [did] using h), fun h => by simpa [sput] using h5 (by simpa [did] using h), fun h => by simpa [sput] using h6 (by simpa [did] using h), fun h => by have := y0 (by simpa [did] using h); simp [did, this], fun h => by have := y1 (by simpa [did] using h); simp [did, this], by simpa [did] using hT⟩
                  · have c5 := hT.other (w.heap.size + 1 + 1) (by omega) (by omega)
                    rw [x1] at c5
                    refine stepG_plain rfl ?_
                    unfold OpSteps
                    simp [go_sem, evS, fr2, fr3, fr5, c5]
                    exact ⟨fun h => by simpa [sput] using h0 (by simpa [did] using h), fun _ => by simp [sput], fun h => by simpa [sput] using h2 (by simpa [did] using h), fun h => by simpa [sput] using h3 (by simpa [did] using h), fun h => by simpa [sput] using h4 (by simpa [did] using h), fun h => by simpa [sput] using h5 (by simpa [did] using h), fun h => by simpa [sput] using h6 (by simpa [did] using h), fun h => by have := y0 (by simpa [did] using h); simp [did, this], fun h => by have := y1 (by simpa [did] using h); simp [did, this], by simpa [did] using hT⟩
                  · have g1 := h1 (by simp [hdep])
                    refine stepG_plain rfl ?_
                    unfold OpSteps
                    simp [go_sem, evS, fr2, fr3, fr5, g1, tp]
                    exact ⟨fun h => by simpa [sput] using h0 (by simpa [did] using h), fun h => by simpa [sput] using h1 (by simpa [did] using h), fun _ => by simp [sput], fun h => by simpa [sput] using h3 (by simpa [did] using h), fun h => by simpa [sput] using h4 (by simpa [did] using h), fun h => by simpa [sput] using h5 (by simpa [did] using h), fun h => by simpa [sput] using h6 (by simpa [did] using h), fun h => by have := y0 (by simpa [did] using h); simp [did, this], fun h => by have := y1 (by simpa [did] using h); simp [did, this], by simpa [did] using hT⟩
                  · have g2 := h2 (by simp [hdep])
                    refine stepG_plain rfl ?_
                    unfold OpSteps
                    simp [go_sem, evS, fr2, fr3, fr5, g2]
                    exact ⟨fun h => by simpa [sput] using h0 (by simpa [did] using h), fun h => by simpa [sput] using h1 (by simpa [did] using h), fun h => by simpa [sput] using h2 (by simpa [did] using h), fun _ => by simp [sput], fun h => by simpa [sput] using h4 (by simpa [did] using h), fun h => by simpa [sput] using h5 (by simpa [did] using h), fun h => by simpa [sput] using h6 (by simpa [did] using h), fun h => by have := y0 (by simpa [did] using h); simp [did, this], fun h => by have := y1 (by simpa [did] using h); simp [did, this], by simpa [did] using hT⟩
                  · have g3 := h3 (by simp [hdep])
                    have c5 := hT.other (w.heap.size + 1 + 1) (by omega) (by omega)
                    rw [x1] at c5
                    refine stepG_on 3 51 true rfl rfl g3 ?_
                    unfold OpSteps
                    simp [go_sem, evS, fr2, fr3, fr5, g3, c5]
                    exact ⟨fun h => by simpa [sput] using h0 (by simpa [did] using h), fun h => by simpa [sput] using h1 (by simpa [did] using h), fun h => by simpa [sput] using h2 (by simpa [did] using h), fun h => by simpa [sput] using h3 (by simpa [did] using h), fun _ => by simp [sput], fun h => by simpa [sput] using h5 (by simpa [did] using h), fun h => by simpa [sput] using h6 (by simpa [did] using h), fun h => by have := y0 (by simpa [did] using h); simp [did, this], fun h => by have := y1 (by simpa [did] using h); simp [did, this], by simpa [did] using hT⟩
                  · have g3 := h3 (by simp [hdep])
                    have g4 := h4 (by simp [hdep])
                    refine stepG_on 3 51 true rfl rfl g3 ?_
                    unfold OpSteps
                    simp [go_sem, evS, fr2, fr3, fr5, g3, g4, tq]
                    exact ⟨fun h => by simpa [sput] using h0 (by simpa [did] using h), fun h => by simpa [sput] using h1 (by simpa [did] using h), fun h => by simpa [sput] using h2 (by simpa [did] using h), fun h => by simpa [sput] using h3 (by simpa [did] using h), fun h => by simpa [sput] using h4 (by simpa [did] using h), fun _ => by simp [sput], fun h => by simpa [sput] using h6 (by simpa [did] using h), fun h => by have := y0 (by simpa [did] using h); simp [did, this], fun h => by have := y1 (by simpa [did] using h); simp [did, this], by simpa [did] using hT⟩
                  · have g3 := h3 (by simp [hdep])
                    have g5 := h5 (by simp [hdep])
                    refine stepG_plain rfl ?_
                    unfold OpSteps
                    simp [go_sem, evS, fr2, fr3, fr5, g3, g5]
                    exact ⟨fun h => by simpa [sput] using h0 (by simpa [did] using h), fun h => by simpa [sput] using h1 (by simpa [did] using h), fun h => by simpa [sput] using h2 (by simpa [did] using h), fun h => by simpa [sput] using h3 (by simpa [did] using h), fun h => by simpa [sput] using h4 (by simpa [did] using h), fun h => by simpa [sput] using h5 (by simpa [did] using h), fun _ => by simp [sput], fun h => by have := y0 (by simpa [did] using h); simp [did, this], fun h => by have := y1 (by simpa [did] using h); simp [did, this], by simpa [did] using hT⟩
                  · have g0 := h0 (by simp [hdep])
                    have l7 := hd
                    have k5 := hT.c5
                    have z5 := hT.froz ⟨w.heap.size, 0, none⟩
                    rw [X6] at z5
                    refine stepG_plain rfl ?_
                    unfold OpSteps
                    simp [go_sem, evS, fr2, fr3, fr5, g0, k5, z5]
                    exact ⟨fun h => by simpa [sput] using h0 (by simpa [did] using h), fun h => by simpa [sput] using h1 (by simpa [did] using h), fun h => by simpa [sput] using h2 (by simpa [did] using h), fun h => by simpa [sput] using h3 (by simpa [did] using h), fun h => by simpa [sput] using h4 (by simpa [did] using h), fun h => by simpa [sput] using h5 (by simpa [did] using h), fun h => by simpa [sput] using h6 (by simpa [did] using h), fun _ => by simp [did, hdep], fun h => by have := y1 (by simpa [did] using h); simp [did, this], by simpa [did] using hT.set5 (.int .i64 z) (Nat.le_refl _)⟩
                  · have g6 := h6 (by simp [hdep])
                    have l8 := hd
                    have k6 := hT.c6
                    have z6 := hT.froz ⟨w.heap.size + 1, 0, none⟩
                    rw [X8] at z6
                    refine stepG_plain rfl ?_
                    unfold OpSteps
                    simp [go_sem, evS, fr2, fr3, fr5, g6, k6, z6]
                    exact ⟨fun h => by simpa [sput] using h0 (by simpa [did] using h), fun h => by simpa [sput] using h1 (by simpa [did] using h), fun h => by simpa [sput] using h2 (by simpa [did] using h), fun h => by simpa [sput] using h3 (by simpa [did] using h), fun h => by simpa [sput] using h4 (by simpa [did] using h), fun h => by simpa [sput] using h5 (by simpa [did] using h), fun h => by simpa [sput] using h6 (by simpa [did] using h), fun h => by have := y0 (by simpa [did] using h); simp [did, this], fun _ => by simp [did, hdep], by simpa [did] using hT.set6 (.bool true) (Nat.le_succ _)⟩
                intro d s W hJ hd
                obtain ⟨h0, h1, h2, h3, h4, h5, h6, y0, y1, hT⟩ := hJ
                have hT' := hT
                rw [hd 7 (by decide), hd 8 (by decide)] at hT'
                simp only [if_true] at hT'
                have HT' := Lib.hid hT'
                clear h0 h1 h2 h3 h4 h5 h6 y0 y1 hT hd hT'
                simp [setAll]
                gi_wp2
                have hK' := HT'.out.keeps.same D _ HK'.out rfl
                refine ⟨by simp, .inl ⟨_, _, rfl, run_takeDeferred hK', ?_⟩⟩
                have c0 := cell_kept HT'.out.c5 (grownBy_putObj' _ D (.deferred none)) (fun r e => by cases e; exact ⟨_, hK', rfl⟩)
                have c1 := cell_kept HT'.out.c6 (grownBy_putObj' _ D (.deferred none)) (fun r e => by cases e; exact ⟨_, hK', rfl⟩)
                refine ⟨.tuple #[.int .i64 z, .bool true], ?_, ⟨z, true, rfl, HRes.out.1, HRes.out.2, (HB'.out.trans HT'.out.below).trans (belowK_b (w := w) (Nat.le_refl _) _ D _ _ HDs.out hK' rfl rfl)⟩⟩
                simp [results, Tryz.results74, go_sem, c0, c1]
              · have tp : decide (-1048576 ≤ z) = true := by rw [← hz]; exact tp_all hb
                have tq : decide (z ≤ 1048576) = false := by rw [← hz]; exact tq_far hb
                have HRes := Lib.hid (show ERes s.data.toList z false ∧ z.natAbs ≤ 100000000 from by
                  refine ⟨⟨fun e => (by cases e), fun _ E hE => ?_⟩, by rw [← hz]; exact exp_small HNb.out⟩
                  have h := (eok_val hE).2.1
                  rw [← hFl, HN.out] at h
                  exact hb h)
                clear hb hz
                refine wp_region_invG [48, 49, 50, 51, 52, 53, 54] (fun d s W => (d 0 = true → s 48 = .int .i64 z) ∧ (d 1 = true → s 49 = .int .i64 z) ∧ (d 2 = true → s 50 = .bool true) ∧ (d 3 = true → s 51 = .bool true) ∧ (d 4 = true → s 52 = .int .i64 z) ∧ (d 5 = true → s 53 = .bool false) ∧ (d 6 = true → s 54 = .bool false) ∧ (d 7 = true → d 0 = true) ∧ (d 8 = true → d 6 = true ∧ d 7 = true) ∧ StepW w.heap.size W0 W w.heap.size (w.heap.size + 1) (.int .i64 (if d 7 = true then z else 0)) (.bool (if d 8 = true then false else false)))
                  rfl (by kernel_rfl) ?_ ?_ ?_
                · exact ⟨by simp, by simp, by simp, by simp, by simp, by simp, by simp, by simp, by simp, by simpa using StepW.start X5 X7 (show w.heap.size ≠ w.heap.size + 1 by omega)⟩
                · refine ⟨?_, ?_, ?_, ?_, ?_, ?_, ?_, ?_, ?_, trivial⟩
                  all_goals
                    intro d s W hJ hfr hd hdep
                    simp only [List.mem_cons, forall_eq_or_imp, List.not_mem_nil, false_implies, implies_true, and_true, Region.binds] at hdep
                    have fr2 := hfr 2 (by decide)
                    have fr3 := hfr 3 (by decide)
                    have fr5 := hfr 5 (by decide)
                    simp at fr2 fr3 fr5 hdep
                    obtain ⟨h0, h1, h2, h3, h4, h5, h6, y0, y1, hT⟩ := hJ
                  · have c5 := hT.other (w.heap.size + 1 + 1) (by omega) (by omega)
                    rw [x1] at c5
                    refine stepG_plain rfl ?_
                    unfold OpSteps
                    simp [go_sem, evS, fr2, fr3, fr5, c5]
                    exact ⟨fun _ => by simp [sput], fun h => by simpa [sput] using h1 (by simpa [did] using h), fun h => by simpa [sput] using h2 (by simpa [did] using h), fun h => by simpa [sput] using h3 (by simpa [did] using h), fun h => by simpa [sput] using h4 (by simpa [did] using h), fun h => by simpa [sput] using h5 (by simpa [did] using h), fun h => by simpa [sput] using h6 (by simpa [did] using h), fun h => by have := y0 (by simpa [did] using h); simp [did, this], fun h => by have := y1 (by simpa [did] using h); simp [did, this], by simpa [did] using hT⟩
                  · have c5 := hT.other (w.heap.size + 1 + 1) (by omega) (by omega)
                    rw [x1] at c5
                    refine stepG_plain rfl ?_
                    unfold OpSteps
                    simp [go_sem, evS, fr2, fr3, fr5, c5]
                    exact ⟨fun h => by simpa [sput] using h0 (by simpa [did] using h), fun _ => by simp [sput], fun h => by simpa [sput] using h2 (by simpa [did] using h), fun h => by simpa [sput] using h3 (by simpa [did] using h), fun h => by simpa [sput] using h4 (by simpa [did] using h), fun h => by simpa [sput] using h5 (by simpa [did] using h), fun h => by simpa [sput] using h6 (by simpa [did] using h), fun h => by have := y0 (by simpa [did] using h); simp [did, this], fun h => by have := y1 (by simpa [did] using h); simp [did, this], by simpa [did] using hT⟩
                  · have g1 := h1 (by simp [hdep])
                    refine stepG_plain rfl ?_
                    unfold OpSteps
                    simp [go_sem, evS, fr2, fr3, fr5, g1, tp]
                    exact ⟨fun h => by simpa [sput] using h0 (by simpa [did] using h), fun h => by simpa [sput] using h1 (by simpa [did] using h), fun _ => by simp [sput], fun h => by simpa [sput] using h3 (by simpa [did] using h), fun h => by simpa [sput] using h4 (by simpa [did] using h), fun h => by simpa [sput] using h5 (by simpa [did] using h), fun h => by simpa [sput] using h6 (by simpa [did] using h), fun h => by have := y0 (by simpa [did] using h); simp [did, this], fun h => by have := y1 (by simpa [did] using h); simp [did, this], by simpa [did] using hT⟩
                  · have g2 := h2 (by simp [hdep])
                    refine stepG_plain rfl ?_
                    unfold OpSteps
                    simp [go_sem, evS, fr2, fr3, fr5, g2]
                    exact ⟨fun h => by simpa [sput] using h0 (by simpa [did] using h), fun h => by simpa [sput] using h1 (by simpa [did] using h), fun h => by simpa [sput] using h2 (by simpa [did] using h), fun _ => by simp [sput], fun h => by simpa [sput] using h4 (by simpa [did] using h), fun h => by simpa [sput] using h5 (by simpa [did] using h), fun h => by simpa [sput] using h6 (by simpa [did] using h), fun h => by have := y0 (by simpa [did] using h); simp [did, this], fun h => by have := y1 (by simpa [did] using h); simp [did, this], by simpa [did] using hT⟩
                  · have g3 := h3 (by simp [hdep])
                    have c5 := hT.other (w.heap.size + 1 + 1) (by omega) (by omega)
                    rw [x1] at c5
                    refine stepG_on 3 51 true rfl rfl g3 ?_
                    unfold OpSteps
                    simp [go_sem, evS, fr2, fr3, fr5, g3, c5]
                    exact ⟨fun h => by simpa [sput] using h0 (by simpa [did] using h), fun h => by simpa [sput] using h1 (by simpa [did] using h), fun h => by simpa [sput] using h2 (by simpa [did] using h), fun h => by simpa [sput] using h3 (by simpa [did] using h), fun _ => by simp [sput], fun h => by simpa [sput] using h5 (by simpa [did] using h), fun h => by simpa [sput] using h6 (by simpa [did] using h), fun h => by have := y0 (by simpa [did] using h); simp [did, this], fun h => by have := y1 (by simpa [did] using h); simp [did, this], by simpa [did] using hT⟩
                  · have g3 := h3 (by simp [hdep])
                    have g4 := h4 (by simp [hdep])
                    refine stepG_on 3 51 true rfl rfl g3 ?_
                    unfold OpSteps
                    simp [go_sem, evS, fr2, fr3, fr5, g3, g4, tq]
                    exact ⟨fun h => by simpa [sput] using h0 (by simpa [did] using h), fun h => by simpa [sput] using h1 (by simpa [did] using h), fun h => by simpa [sput] using h2 (by simpa [did] using h), fun h => by simpa [sput] using h3 (by simpa [did] using h), fun h => by simpa [sput] using h4 (by simpa [did] using h), fun _ => by simp [sput], fun h => by simpa [sput] using h6 (by simpa [did] using h), fun h => by have := y0 (by simpa [did] using h); simp [did, this], fun h => by have := y1 (by simpa [did] using h); simp [did, this], by simpa [did] using hT⟩
                  · have g3 := h3 (by simp [hdep])
                    have g5 := h5 (by simp [hdep])
                    refine stepG_plain rfl ?_
                    unfold OpSteps
                    simp [go_sem, evS, fr2, fr3, fr5, g3, g5]
                    exact ⟨fun h => by simpa [sput] using h0 (by simpa [did] using h), fun h => by simpa [sput] using h1 (by simpa [did] using h), fun h => by simpa [sput] using h2 (by simpa [did] using h), fun h => by simpa [sput] using h3 (by simpa [did] using h), fun h => by simpa [sput] using h4 (by simpa [did] using h), fun h => by simpa [sput] using h5 (by simpa [did] using h), fun _ => by simp [sput], fun h => by have := y0 (by simpa [did] using h); simp [did, this], fun h => by have := y1 (by simpa [did] using h); simp [did, this], by simpa [did] using hT⟩
                  · have g0 := h0 (by simp [hdep])
                    have l7 := hd
                    have k5 := hT.c5
                    have z5 := hT.froz ⟨w.heap.size, 0, none⟩
                    rw [X6] at z5
                    refine stepG_plain rfl ?_
                    unfold OpSteps
                    simp [go_sem, evS, fr2, fr3, fr5, g0, k5, z5]
                    exact ⟨fun h => by simpa [sput] using h0 (by simpa [did] using h), fun h => by simpa [sput] using h1 (by simpa [did] using h), fun h => by simpa [sput] using h2 (by simpa [did] using h), fun h => by simpa [sput] using h3 (by simpa [did] using h), fun h => by simpa [sput] using h4 (by simpa [did] using h), fun h => by simpa [sput] using h5 (by simpa [did] using h), fun h => by simpa [sput] using h6 (by simpa [did] using h), fun _ => by simp [did, hdep], fun h => by have := y1 (by simpa [did] using h); simp [did, this], by simpa [did] using hT.set5 (.int .i64 z) (Nat.le_refl _)⟩
                  · have g6 := h6 (by simp [hdep])
                    have l8 := hd
                    have k6 := hT.c6
                    have z6 := hT.froz ⟨w.heap.size + 1, 0, none⟩
                    rw [X8] at z6
                    refine stepG_plain rfl ?_
                    unfold OpSteps
                    simp [go_sem, evS, fr2, fr3, fr5, g6, k6, z6]
                    exact ⟨fun h => by simpa [sput] using h0 (by simpa [did] using h), fun h => by simpa [sput] using h1 (by simpa [did] using h), fun h => by simpa [sput] using h2 (by simpa [did] using h), fun h => by simpa [sput] using h3 (by simpa [did] using h), fun h => by simpa [sput] using h4 (by simpa [did] using h), fun h => by simpa [sput] using h5 (by simpa [did] using h), fun h => by simpa [sput] using h6 (by simpa [did] using h), fun h => by have := y0 (by simpa [did] using h); simp [did, this], fun _ => by simp [did, hdep], by simpa [did] using hT.set6 (.bool false) (Nat.le_succ _)⟩
                intro d s W hJ hd
                obtain ⟨h0, h1, h2, h3, h4, h5, h6, y0, y1, hT⟩ := hJ
                have hT' := hT
                rw [hd 7 (by decide), hd 8 (by decide)] at hT'
                simp only [if_true] at hT'
                have HT' := Lib.hid hT'
                clear h0 h1 h2 h3 h4 h5 h6 y0 y1 hT hd hT'
                simp [setAll]
                gi_wp2
                have hK' := HT'.out.keeps.same D _ HK'.out rfl
                refine ⟨by simp, .inl ⟨_, _, rfl, run_takeDeferred hK', ?_⟩⟩
                have c0 := cell_kept HT'.out.c5 (grownBy_putObj' _ D (.deferred none)) (fun r e => by cases e; exact ⟨_, hK', rfl⟩)
                have c1 := cell_kept HT'.out.c6 (grownBy_putObj' _ D (.deferred none)) (fun r e => by cases e; exact ⟨_, hK', rfl⟩)
                refine ⟨.tuple #[.int .i64 z, .bool false], ?_, ⟨z, false, rfl, HRes.out.1, HRes.out.2, (HB'.out.trans HT'.out.below).trans (belowK_b (w := w) (Nat.le_refl _) _ D _ _ HDs.out hK' rfl rfl)⟩⟩
                simp [results, Tryz.results74, go_sem, c0, c1]
            · have hzw : wrap64 (-(N : Int)) = -(N : Int) := (wr50 (neg_le10 HNb.out)).2
              have hzi : IntKind.i64.wrap (-(N : Int)) = -(N : Int) := (wr50 (neg_le10 HNb.out)).1
              gi_wp2
              refine wpIn_wide.2 ?_
              try rw [hzw]
              obtain ⟨z, hz⟩ : ∃ z : Int, -(N : Int) = z := ⟨_, rfl⟩
              rw [hz]
              obtain ⟨W1, hW1⟩ : ∃ W1, W.setCell ⟨w.heap.size + 1 + 1, 0, none⟩ (.int .i64 z) = W1 := ⟨_, rfl⟩
              rw [hW1]
              have X1 : W1.cell? ⟨w.heap.size + 1 + 1, 0, none⟩ = some (.int .i64 z) := by rw [← hW1]; exact World.cell?_setCell_same' _ _ _ (by rw [x1]; rfl)
              have X5 : W1.cell? ⟨w.heap.size, 0, none⟩ = some (.int .i64 0) := by rw [← hW1, cell_set (show w.heap.size ≠ w.heap.size + 1 + 1 by omega)]; exact x5
              have X7 : W1.cell? ⟨w.heap.size + 1, 0, none⟩ = some (.bool false) := by rw [← hW1, cell_set (show w.heap.size + 1 ≠ w.heap.size + 1 + 1 by omega)]; exact x7
              have X6 : W1.frozen? ⟨w.heap.size, 0, none⟩ = false := by rw [← hW1, World.frozen?_setCell]; exact x6
              have X8 : W1.frozen? ⟨w.heap.size + 1, 0, none⟩ = false := by rw [← hW1, World.frozen?_setCell]; exact x8
              have HK' := Lib.hid (show W1.heap[D]? = some (.deferred (some [])) from by rw [← hW1]; exact (KeepsOthers.setCell W _ _).same D _ HK.out rfl)
              have HB' := Lib.hid (show Below w.heap.size w W1 from by rw [← hW1]; exact HB.out.setCell (p := ⟨w.heap.size + 1 + 1, 0, none⟩) (Nat.le_trans (Nat.le_succ _) (Nat.le_succ _)) _)
              clear x1 x2 x3 x4 x5 x6 x7 x8 hW1 hzw hzi
              by_cases hb : N ≤ 1048576
              · have hb' := hb
                have tp : decide (-1048576 ≤ z) = true := by rw [← hz]; exact tp_neg hb
                have tq : decide (z ≤ 1048576) = true := by rw [← hz]; exact tq_neg hb
                have HRes := Lib.hid (show ERes s.data.toList z true ∧ z.natAbs ≤ 100000000 from by
                  rw [← hz, ← HN.out]
                  refine ⟨⟨fun _ => ?_, fun e => by cases e⟩, exp_small_neg (by rw [HN.out]; exact HNb.out)⟩
                  have h := eok_of (neg := true) (show s.data.toList = sg true ++ F.data.toList from by rw [hFl, ← hbl]; exact sg_unsg _) HDe.out HFe.out.1 HFe.out.2 (by rw [HN.out]; exact hb)
                  simpa [sgd] using h)
                clear hb hb' hz
                refine wp_region_invG [48, 49, 50, 51, 52, 53, 54] (fun d s W => (d 0 = true → s 48 = .int .i64 z) ∧ (d 1 = true → s 49 = .int .i64 z) ∧ (d 2 = true → s 50 = .bool true) ∧ (d 3 = true → s 51 = .bool true) ∧ (d 4 = true → s 52 = .int .i64 z) ∧ (d 5 = true → s 53 = .bool true) ∧ (d 6 = true → s 54 = .bool true) ∧ (d 7 = true → d 0 = true) ∧ (d 8 = true → d 6 = true ∧ d 7 = true) ∧ StepW w.heap.size W1 W w.heap.size (w.heap.size + 1) (.int .i64 (if d 7 = true then z else 0)) (.bool (if d 8 = true then true else false)))
                  rfl (by kernel_rfl) ?_ ?_ ?_
                · exact ⟨by simp, by simp, by simp, by simp, by simp, by simp, by simp, by simp, by simp, by simpa using StepW.start X5 X7 (show w.heap.size ≠ w.heap.size + 1 by omega)⟩
                · refine ⟨?_, ?_, ?_, ?_, ?_, ?_, ?_, ?_, ?_, trivial⟩
                  all_goals
                    intro d s W hJ hfr hd hdep
                    simp only [List.mem_cons, forall_eq_or_imp, List.not_mem_nil, false_implies, implies_true, and_true, Region.binds] at hdep
                    have fr2 := hfr 2 (by decide)
                    have fr3 := hfr 3 (by decide)
                    have fr5 := hfr 5 (by decide)
                    simp at fr2 fr3 fr5 hdep
                    obtain ⟨h0, h1, h2, h3, h4, h5, h6, y0, y1, hT⟩ := hJ
                  · have c5 := hT.other (w.heap.size + 1 + 1) (by omega) (by omega)
                    rw [X1] at c5
                    refine stepG_plain rfl ?_
                    unfold OpSteps
                    simp [go_sem, evS, fr2, fr3, fr5, c5]
                    exact ⟨fun _ => by simp [sput], fun h => by simpa [sput] using h1 (by simpa [did] using h), fun h => by simpa [sput] using h2 (by simpa [did] using h), fun h => by simpa [sput] using h3 (by simpa [did] using h), fun h => by simpa [sput] using h4 (by simpa [did] using h), fun h => by simpa [sput] using h5 (by simpa [did] using h), fun h => by simpa [sput] using h6 (by simpa [did] using h), fun h => by have := y0 (by simpa [did] using h); simp [did, this], fun h => by have := y1 (by simpa [did] using h); simp [did, this], by simpa [did] using hT⟩
                  · have c5 := hT.other (w.heap.size + 1 + 1) (by omega) (by omega)
                    rw [X1] at c5
                    refine stepG_plain rfl ?_
                    unfold OpSteps
                    simp [go_sem, evS, fr2, fr3, fr5, c5]
                    exact ⟨fun h => by simpa [sput] using h0 (by simpa [did] using h), fun _ => by simp [sput], fun h => by simpa [sput] using h2 (by simpa [did] using h), fun h => by simpa [sput] using h3 (by simpa [did] using h), fun h => by simpa [sput] using h4 (by simpa [did] using h), fun h => by simpa [sput] using h5 (by simpa [did] using h), fun h => by simpa [sput] using h6 (by simpa [did] using h), fun h => by have := y0 (by simpa [did] using h); simp [did, this], fun h => by have := y1 (by simpa [did] using h); simp [did, this], by simpa [did] using hT⟩
                  · have g1 := h1 (by simp [hdep])
                    refine stepG_plain rfl ?_
                    unfold OpSteps
                    simp [go_sem, evS, fr2, fr3, fr5, g1, tp]
                    exact ⟨fun h => by simpa [sput] using h0 (by simpa [did] using h), fun h => by simpa [sput] using h1 (by simpa [did] using h), fun _ => by simp [sput], fun h => by simpa [sput] using h3 (by simpa [did] using h), fun h => by simpa [sput] using h4 (by simpa [did] using h), fun h => by simpa [sput] using h5 (by simpa [did] using h), fun h => by simpa [sput] using h6 (by simpa [did] using h), fun h => by have := y0 (by simpa [did] using h); simp [did, this], fun h => by have := y1 (by simpa [did] using h); simp [did, this], by simpa [did] using hT⟩
                  · have g2 := h2 (by simp [hdep])
                    refine stepG_plain rfl ?_
                    unfold OpSteps
                    simp [go_sem, evS, fr2, fr3, fr5, g2]
                    exact ⟨fun h => by simpa [sput] using h0 (by simpa [did] using h), fun h => by simpa [sput] using h1 (by simpa [did] using h), fun h => by simpa [sput] using h2 (by simpa [did] using h), fun _ => by simp [sput], fun h => by simpa [sput] using h4 (by simpa [did] using h), fun h => by simpa [sput] using h5 (by simpa [did] using h), fun h => by simpa [sput] using h6 (by simpa [did] using h), fun h => by have := y0 (by simpa [did] using h); simp [did, this], fun h => by have := y1 (by simpa [did] using h); simp [did, this], by simpa [did] using hT⟩
                  · have g3 := h3 (by simp [hdep])
                    have c5 := hT.other (w.heap.size + 1 + 1) (by omega) (by omega)
                    rw [X1] at c5
                    refine stepG_on 3 51 true rfl rfl g3 ?_
                    unfold OpSteps
                    simp [go_sem, evS, fr2, fr3, fr5, g3, c5]
                    exact ⟨fun h => by simpa [sput] using h0 (by simpa [did] using h), fun h => by simpa [sput] using h1 (by simpa [did] using h), fun h => by simpa [sput] using h2 (by simpa [did] using h), fun h => by simpa [sput] using h3 (by simpa [did] using h), fun _ => by simp [sput], fun h => by simpa [sput] using h5 (by simpa [did] using h), fun h => by simpa [sput] using h6 (by simpa [did] using h), fun h => by have := y0 (by simpa [did] using h); simp [did, this], fun h => by have := y1 (by simpa [did] using h); simp [did, this], by simpa [did] using hT⟩
                  · have g3 := h3 (by simp [hdep])
                    have g4 := h4 (by simp [hdep])
                    refine stepG_on 3 51 true rfl rfl g3 ?_
                    unfold OpSteps
                    simp [go_sem, evS, fr2, fr3, fr5, g3, g4, tq]
                    exact ⟨fun h => by simpa [sput] using h0 (by simpa [did] using h), fun h => by simpa [sput] using h1 (by simpa [did] using h), fun h => by simpa [sput] using h2 (by simpa [did] using h), fun h => by simpa [sput] using h3 (by simpa [did] using h), fun h => by simpa [sput] using h4 (by simpa [did] using h), fun _ => by simp [sput], fun h => by simpa [sput] using h6 (by simpa [did] using h), fun h => by have := y0 (by simpa [did] using h); simp [did, this], fun h => by have := y1 (by simpa [did] using h); simp [did, this], by simpa [did] using hT⟩
                  · have g3 := h3 (by simp [hdep])
                    have g5 := h5 (by simp [hdep])
                    refine stepG_plain rfl ?_
                    unfold OpSteps
                    simp [go_sem, evS, fr2, fr3, fr5, g3, g5]
                    exact ⟨fun h => by simpa [sput] using h0 (by simpa [did] using h), fun h => by simpa [sput] using h1 (by simpa [did] using h), fun h => by simpa [sput] using h2 (by simpa [did] using h), fun h => by simpa [sput] using h3 (by simpa [did] using h), fun h => by simpa [sput] using h4 (by simpa [did] using h), fun h => by simpa [sput] using h5 (by simpa [did] using h), fun _ => by simp [sput], fun h => by have := y0 (by simpa [did] using h); simp [did, this], fun h => by have := y1 (by simpa [did] using h); simp [did, this], by simpa [did] using hT⟩
                  · have g0 := h0 (by simp [hdep])
                    have l7 := hd
                    have k5 := hT.c5
                    have z5 := hT.froz ⟨w.heap.size, 0, none⟩
                    rw [X6] at z5
                    refine stepG_plain rfl ?_
                    unfold OpSteps
                    simp [go_sem, evS, fr2, fr3, fr5, g0, k5, z5]
                    exact ⟨fun h => by simpa [sput] using h0 (by simpa [did] using h), fun h => by simpa [sput] using h1 (by simpa [did] using h), fun h => by simpa [sput] using h2 (by simpa [did] using h), fun h => by simpa [sput] using h3 (by simpa [did] using h), fun h => by simpa [sput] using h4 (by simpa [did] using h), fun h => by simpa [sput] using h5 (by simpa [did] using h), fun h => by simpa [sput] using h6 (by simpa [did] using h), fun _ => by simp [did, hdep], fun h => by have := y1 (by simpa [did] using h); simp [did, this], by simpa [did] using hT.set5 (.int .i64 z) (Nat.le_refl _)⟩
                  · have g6 := h6 (by simp [hdep])
                    have l8 := hd
                    have k6 := hT.c6
                    have z6 := hT.froz ⟨w.heap.size + 1, 0, none⟩
                    rw [X8] at z6
                    refine stepG_plain rfl ?_
                    unfold OpSteps
                    simp [go_sem, evS, fr2, fr3, fr5, g6, k6, z6]
                    exact ⟨fun h => by simpa [sput] using h0 (by simpa [did] using h), fun h => by simpa [sput] using h1 (by simpa [did] using h), fun h => by simpa [sput] using h2 (by simpa [did] using h), fun h => by simpa [sput] using h3 (by simpa [did] using h), fun h => by simpa [sput] using h4 (by simpa [did] using h), fun h => by simpa [sput] using h5 (by simpa [did] using h), fun h => by simpa [sput] using h6 (by simpa [did] using h), fun h => by have := y0 (by simpa [did] using h); simp [did, this], fun _ => by simp [did, hdep], by simpa [did] using hT.set6 (.bool true) (Nat.le_succ _)⟩
                intro d s W hJ hd
                obtain ⟨h0, h1, h2, h3, h4, h5, h6, y0, y1, hT⟩ := hJ
                have hT' := hT
                rw [hd 7 (by decide), hd 8 (by decide)] at hT'
                simp only [if_true] at hT'
                have HT' := Lib.hid hT'
                clear h0 h1 h2 h3 h4 h5 h6 y0 y1 hT hd hT'
                simp [setAll]
                gi_wp2
                have hK' := HT'.out.keeps.same D _ HK'.out rfl
                refine ⟨by simp, .inl ⟨_, _, rfl, run_takeDeferred hK', ?_⟩⟩
                have c0 := cell_kept HT'.out.c5 (grownBy_putObj' _ D (.deferred none)) (fun r e => by cases e; exact ⟨_, hK', rfl⟩)
                have c1 := cell_kept HT'.out.c6 (grownBy_putObj' _ D (.deferred none)) (fun r e => by cases e; exact ⟨_, hK', rfl⟩)
                refine ⟨.tuple #[.int .i64 z, .bool true], ?_, ⟨z, true, rfl, HRes.out.1, HRes.out.2, (HB'.out.trans HT'.out.below).trans (belowK_b (w := w) (Nat.le_refl _) _ D _ _ HDs.out hK' rfl rfl)⟩⟩
                simp [results, Tryz.results74, go_sem, c0, c1]
              · have tp : decide (-1048576 ≤ z) = false := by rw [← hz]; exact tp_far hb
                have HRes := Lib.hid (show ERes s.data.toList z false ∧ z.natAbs ≤ 100000000 from by
                  refine ⟨⟨fun e => (by cases e), fun _ E hE => ?_⟩, by rw [← hz]; exact exp_small_neg HNb.out⟩
                  have h := (eok_val hE).2.1
                  rw [← hFl, HN.out] at h
                  exact hb h)
                clear hb hz
                refine wp_region_invG [48, 49, 50, 51, 52, 53, 54] (fun d s W => (d 0 = true → s 48 = .int .i64 z) ∧ (d 1 = true → s 49 = .int .i64 z) ∧ (d 2 = true → s 50 = .bool false) ∧ (d 3 = true → s 51 = .bool false) ∧ (d 4 = true → s 52 = undef) ∧ (d 5 = true → s 53 = undef) ∧ (d 6 = true → s 54 = .bool false) ∧ (d 7 = true → d 0 = true) ∧ (d 8 = true → d 6 = true ∧ d 7 = true) ∧ StepW w.heap.size W1 W w.heap.size (w.heap.size + 1) (.int .i64 (if d 7 = true then z else 0)) (.bool (if d 8 = true then false else false)))
                  rfl (by kernel_rfl) ?_ ?_ ?_
                · exact ⟨by simp, by simp, by simp, by simp, by simp, by simp, by simp, by simp, by simp, by simpa using StepW.start X5 X7 (show w.heap.size ≠ w.heap.size + 1 by omega)⟩
                · refine ⟨?_, ?_, ?_, ?_, ?_, ?_, ?_, ?_, ?_, trivial⟩
                  all_goals
                    intro d s W hJ hfr hd hdep
                    simp only [List.mem_cons, forall_eq_or_imp, List.not_mem_nil, false_implies, implies_true, and_true, Region.binds] at hdep
                    have fr2 := hfr 2 (by decide)
                    have fr3 := hfr 3 (by decide)
                    have fr5 := hfr 5 (by decide)
                    simp at fr2 fr3 fr5 hdep
                    obtain ⟨h0, h1, h2, h3, h4, h5, h6, y0, y1, hT⟩ := hJ
                  · have c5 := hT.other (w.heap.size + 1 + 1) (by omega) (by omega)
                    rw [X1] at c5
                    refine stepG_plain rfl ?_
                    unfold OpSteps
                    simp [go_sem, evS, fr2, fr3, fr5, c5]
                    exact ⟨fun _ => by simp [sput], fun h => by simpa [sput] using h1 (by simpa [did] using h), fun h => by simpa [sput] using h2 (by simpa [did] using h), fun h => by simpa [sput] using h3 (by simpa [did] using h), fun h => by simpa [sput] using h4 (by simpa [did] using h), fun h => by simpa [sput] using h5 (by simpa [did] using h), fun h => by simpa [sput] using h6 (by simpa [did] using h), fun h => by have := y0 (by simpa [did] using h); simp [did, this], fun h => by have := y1 (by simpa [did] using h); simp [did, this], by simpa [did] using hT⟩
                  · have c5 := hT.other (w.heap.size + 1 + 1) (by omega) (by omega)
                    rw [X1] at c5
                    refine stepG_plain rfl ?_
                    unfold OpSteps
                    simp [go_sem, evS, fr2, fr3, fr5, c5]
                    exact ⟨fun h => by simpa [sput] using h0 (by simpa [did] using h), fun _ => by simp [sput], fun h => by simpa [sput] using h2 (by simpa [did] using h), fun h => by simpa [sput] using h3 (by simpa [did] using h), fun h => by simpa [sput] using h4 (by simpa [did] using h), fun h => by simpa [sput] using h5 (by simpa [did] using h), fun h => by simpa [sput] using h6 (by simpa [did] using h), fun h => by have := y0 (by simpa [did] using h); simp [did, this], fun h => by have := y1 (by simpa [did] using h); simp [did, this], by simpa [did] using hT⟩
                  · have g1 := h1 (by simp [hdep])
                    refine stepG_plain rfl ?_
                    unfold OpSteps
                    simp [go_sem, evS, fr2, fr3, fr5, g1, tp]
                    exact ⟨fun h => by simpa [sput] using h0 (by simpa [did] using h), fun h => by simpa [sput] using h1 (by simpa [did] using h), fun _ => by simp [sput], fun h => by simpa [sput] using h3 (by simpa [did] using h), fun h => by simpa [sput] using h4 (by simpa [did] using h), fun h => by simpa [sput] using h5 (by simpa [did] using h), fun h => by simpa [sput] using h6 (by simpa [did] using h), fun h => by have := y0 (by simpa [did] using h); simp [did, this], fun h => by have := y1 (by simpa [did] using h); simp [did, this], by simpa [did] using hT⟩
                  · have g2 := h2 (by simp [hdep])
                    refine stepG_plain rfl ?_
                    unfold OpSteps
                    simp [go_sem, evS, fr2, fr3, fr5, g2]
                    exact ⟨fun h => by simpa [sput] using h0 (by simpa [did] using h), fun h => by simpa [sput] using h1 (by simpa [did] using h), fun h => by simpa [sput] using h2 (by simpa [did] using h), fun _ => by simp [sput], fun h => by simpa [sput] using h4 (by simpa [did] using h), fun h => by simpa [sput] using h5 (by simpa [did] using h), fun h => by simpa [sput] using h6 (by simpa [did] using h), fun h => by have := y0 (by simpa [did] using h); simp [did, this], fun h => by have := y1 (by simpa [did] using h); simp [did, this], by simpa [did] using hT⟩
                  · have g3 := h3 (by simp [hdep])
                    refine stepG_off 3 51 true rfl rfl (by rw [g3]; rfl) ?_
                    exact ⟨fun h => by simpa [sput] using h0 (by simpa [did] using h), fun h => by simpa [sput] using h1 (by simpa [did] using h), fun h => by simpa [sput] using h2 (by simpa [did] using h), fun h => by simpa [sput] using h3 (by simpa [did] using h), fun _ => by simp [sput], fun h => by simpa [sput] using h5 (by simpa [did] using h), fun h => by simpa [sput] using h6 (by simpa [did] using h), fun h => by have := y0 (by simpa [did] using h); simp [did, this], fun h => by have := y1 (by simpa [did] using h); simp [did, this], by simpa [did] using hT⟩
                  · have g3 := h3 (by simp [hdep])
                    refine stepG_off 3 51 true rfl rfl (by rw [g3]; rfl) ?_
                    exact ⟨fun h => by simpa [sput] using h0 (by simpa [did] using h), fun h => by simpa [sput] using h1 (by simpa [did] using h), fun h => by simpa [sput] using h2 (by simpa [did] using h), fun h => by simpa [sput] using h3 (by simpa [did] using h), fun h => by simpa [sput] using h4 (by simpa [did] using h), fun _ => by simp [sput], fun h => by simpa [sput] using h6 (by simpa [did] using h), fun h => by have := y0 (by simpa [did] using h); simp [did, this], fun h => by have := y1 (by simpa [did] using h); simp [did, this], by simpa [did] using hT⟩
                  · have g3 := h3 (by simp [hdep])
                    have g5 := h5 (by simp [hdep])
                    refine stepG_plain rfl ?_
                    unfold OpSteps
                    simp [go_sem, evS, fr2, fr3, fr5, g3, g5]
                    exact ⟨fun h => by simpa [sput] using h0 (by simpa [did] using h), fun h => by simpa [sput] using h1 (by simpa [did] using h), fun h => by simpa [sput] using h2 (by simpa [did] using h), fun h => by simpa [sput] using h3 (by simpa [did] using h), fun h => by simpa [sput] using h4 (by simpa [did] using h), fun h => by simpa [sput] using h5 (by simpa [did] using h), fun _ => by simp [sput], fun h => by have := y0 (by simpa [did] using h); simp [did, this], fun h => by have := y1 (by simpa [did] using h); simp [did, this], by simpa [did] using hT⟩
                  · have g0 := h0 (by simp [hdep])
                    have l7 := hd
                    have k5 := hT.c5
                    have z5 := hT.froz ⟨w.heap.size, 0, none⟩
                    rw [X6] at z5
                    refine stepG_plain rfl ?_
                    unfold OpSteps
                    simp [go_sem, evS, fr2, fr3, fr5, g0, k5, z5]
                    exact ⟨fun h => by simpa [sput] using h0 (by simpa [did] using h), fun h => by simpa [sput] using h1 (by simpa [did] using h), fun h => by simpa [sput] using h2 (by simpa [did] using h), fun h => by simpa [sput] using h3 (by simpa [did] using h), fun h => by simpa [sput] using h4 (by simpa [did] using h), fun h => by simpa [sput] using h5 (by simpa [did] using h), fun h => by simpa [sput] using h6 (by simpa [did] using h), fun _ => by simp [did, hdep], fun h => by have := y1 (by simpa [did] using h); simp [did, this], by simpa [did] using hT.set5 (.int .i64 z) (Nat.le_refl _)⟩
                  · have g6 := h6 (by simp [hdep])
                    have l8 := hd
                    have k6 := hT.c6
                    have z6 := hT.froz ⟨w.heap.size + 1, 0, none⟩
                    rw [X8] at z6
                    refine stepG_plain rfl ?_
                    unfold OpSteps
                    simp [go_sem, evS, fr2, fr3, fr5, g6, k6, z6]
                    exact ⟨fun h => by simpa [sput] using h0 (by simpa [did] using h), fun h => by simpa [sput] using h1 (by simpa [did] using h), fun h => by simpa [sput] using h2 (by simpa [did] using h), fun h => by simpa [sput] using h3 (by simpa [did] using h), fun h => by simpa [sput] using h4 (by simpa [did] using h), fun h => by simpa [sput] using h5 (by simpa [did] using h), fun h => by simpa [sput] using h6 (by simpa [did] using h), fun h => by have := y0 (by simpa [did] using h); simp [did, this], fun _ => by simp [did, hdep], by simpa [did] using hT.set6 (.bool false) (Nat.le_succ _)⟩
                intro d s W hJ hd
                obtain ⟨h0, h1, h2, h3, h4, h5, h6, y0, y1, hT⟩ := hJ
                have hT' := hT
                rw [hd 7 (by decide), hd 8 (by decide)] at hT'
                simp only [if_true] at hT'
                have HT' := Lib.hid hT'
                clear h0 h1 h2 h3 h4 h5 h6 y0 y1 hT hd hT'
                simp [setAll]
                gi_wp2
                have hK' := HT'.out.keeps.same D _ HK'.out rfl
                refine ⟨by simp, .inl ⟨_, _, rfl, run_takeDeferred hK', ?_⟩⟩
                have c0 := cell_kept HT'.out.c5 (grownBy_putObj' _ D (.deferred none)) (fun r e => by cases e; exact ⟨_, hK', rfl⟩)
                have c1 := cell_kept HT'.out.c6 (grownBy_putObj' _ D (.deferred none)) (fun r e => by cases e; exact ⟨_, hK', rfl⟩)
                refine ⟨.tuple #[.int .i64 z, .bool false], ?_, ⟨z, false, rfl, HRes.out.1, HRes.out.2, (HB'.out.trans HT'.out.below).trans (belowK_b (w := w) (Nat.le_refl _) _ D _ _ HDs.out hK' rfl rfl)⟩⟩
                simp [results, Tryz.results74, go_sem, c0, c1]
          case stop =>
            rintro D c pre W hD ⟨k, hk, rfl⟩ ⟨⟨rfl, ⟨x, hx, hxd⟩, x5, x7⟩, hB⟩ hK
            have HW := Lib.hid (show ∀ E, ¬ EOk s.data.toList E from fun E hE => by
              have h := (eok_val hE).2.2.1
              rw [← hFl] at h
              refine decs_not ?_ hxd h
              obtain ⟨j, hj, rfl⟩ := List.mem_map.1 hx
              have hj := List.mem_range.1 hj
              have hl : F.size - 1 - j < F.data.toList.length := by rw [bytes_len]; omega
              show F.data.toList.getD (F.size - 1 - j) 0 ∈ _
              rw [List.getD, List.getElem?_eq_getElem hl]
              exact List.getElem_mem hl)
            have HB := Lib.hid hB
            have HDs := Lib.hid (show w.heap.size ≤ D by simp at hD; omega)
            clear hB hD hx hxd b0 b1 b2 b3 b4 hB0 hF300
            gi_wp2
            refine ⟨by simp, .inl ⟨_, _, rfl, run_takeDeferred hK, ?_⟩⟩
            have c0 := cell_kept x5 (grownBy_putObj' _ D (.deferred none)) (fun r e => by cases e; exact ⟨_, hK, rfl⟩)
            have c1 := cell_kept x7 (grownBy_putObj' _ D (.deferred none)) (fun r e => by cases e; exact ⟨_, hK, rfl⟩)
            refine ⟨.tuple #[.int .i64 0, .bool false], ?_, ⟨0, false, rfl, ⟨(fun e => by cases e), fun _ => HW.out⟩, by decide, HB.out.trans (belowK_b (w := w) (Nat.le_refl _) W D _ _ HDs.out hK rfl rfl)⟩⟩
            simp [results, Tryz.results74, go_sem, c0, c1]
end Go.Proofs.YtdokpnfmmbkjfaaGreatDoor
