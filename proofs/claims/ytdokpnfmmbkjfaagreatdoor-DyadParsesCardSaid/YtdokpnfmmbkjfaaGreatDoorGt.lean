/-
The program's odd. Conditions: the text isn't too long.
-/
import Derived.Test.YtdokpnfmmbkjfaaGreatDoorGs
import Derived.Test.YtdokpnfmmbkjfaaGreatDoorGx
set_option linter.unusedVariables false
set_option linter.unusedSimpArgs false
namespace Go.Proofs.YtdokpnfmmbkjfaaGreatDoor
open Go.RowKit Go.Shelf
attribute [local go_sem] Oper.semAt_some
attribute [local go_sem ↓] ib_or ib_and_1

theorem ix_nonneg (k : Nat) : decide ((k : Int) < 0) = false := by simp <;> omega
theorem lt_cast {a b : Nat} (h : a < b) : (a : Int) < (b : Int) := by omega
theorem lt64 {a : Nat} (h : a < 64) : (a : Int) < 64 := by omega
/-- Behind part of a region: two boxes of one cell may have been written. -/
structure StepH (n₀ : Nat) (w1 W : World) (b5 b6 : Nat) (t5 t6 : TypeId) (v5 v6 : Value) : Prop where
  keeps : KeepsOthers w1 W
  below : Below n₀ w1 W
  other : ∀ b, b ≠ b5 → b ≠ b6 → W.heap[b]? = w1.heap[b]?
  blk5 : Blk W b5 t5 #[v5]
  blk6 : Blk W b6 t6 #[v6]
  ne : b5 ≠ b6
theorem StepH.start {n₀ : Nat} {w1 : World} {b5 b6 : Nat} {t5 t6 : TypeId} {v5 v6 : Value} (h5 : Blk w1 b5 t5 #[v5]) (h6 : Blk w1 b6 t6 #[v6]) (hne : b5 ≠ b6) : StepH n₀ w1 w1.drew b5 b6 t5 t6 v5 v6 :=
  ⟨KeepsOthers.drew _, (Below.refl _ _).drew, fun _ _ _ => rfl, h5, h6, hne⟩
theorem StepH.set5 {n₀ : Nat} {w1 W : World} {b5 b6 : Nat} {t5 t6 : TypeId} {v5 v6 : Value} (h : StepH n₀ w1 W b5 b6 t5 t6 v5 v6) (u : Value) (hle : n₀ ≤ b5) : StepH n₀ w1 (W.setCell ⟨b5, 0, none⟩ u) b5 b6 t5 t6 u v6 :=
  ⟨h.keeps.trans (KeepsOthers.setCell _ _ _), h.below.setCell (p := ⟨b5, 0, none⟩) hle _, fun b h1 h2 => (Below.heap_setCell W ⟨b5, 0, none⟩ u b h1).trans (h.other b h1 h2), h.blk5.set_ 0 u, h.blk6.other (p := ⟨b5, 0, none⟩) (fun e => h.ne e.symm) u, h.ne⟩
theorem StepH.set6 {n₀ : Nat} {w1 W : World} {b5 b6 : Nat} {t5 t6 : TypeId} {v5 v6 : Value} (h : StepH n₀ w1 W b5 b6 t5 t6 v5 v6) (u : Value) (hle : n₀ ≤ b6) : StepH n₀ w1 (W.setCell ⟨b6, 0, none⟩ u) b5 b6 t5 t6 v5 u :=
  ⟨h.keeps.trans (KeepsOthers.setCell _ _ _), h.below.setCell (p := ⟨b6, 0, none⟩) hle _, fun b h1 h2 => (Below.heap_setCell W ⟨b6, 0, none⟩ u b h2).trans (h.other b h1 h2), h.blk5.other (p := ⟨b6, 0, none⟩) h.ne u, h.blk6.set_ 0 u, h.ne⟩
theorem StepH.blk_ {n₀ : Nat} {w1 W : World} {b5 b6 g : Nat} {t5 t6 t : TypeId} {v5 v6 : Value} {cs : Array Value} (h : StepH n₀ w1 W b5 b6 t5 t6 v5 v6) (hB : Blk w1 g t cs) (h5 : g ≠ b5) (h6 : g ≠ b6) : Blk W g t cs := (h.other g h5 h6).trans hB
theorem encF_eq (s : ByteArray) (x : Fin s.size) : encF s x = #[.int .i64 (x.val : Int), .int .u8 ((byF s x).toNat : Int)] := rfl
theorem u64_small {d : Nat} (h : d < 16) : IntKind.u64.wrap (d : Int) = (d : Int) := by
  have := (odd_shl (sh := 0) h (by omega) (by omega)).1
  simpa using this
theorem ix_cast {k : Nat} (h : k ≤ 4096) : wrap64 (k : Int) = (k : Int) := by unfold wrap64; omega
/-- Odd's outcome. -/
def ORes (l : List UInt8) (w' : World) (A : Option Addr) (n c : Nat) (b : Bool) : Prop := (b = true → MOk l ∧ Wh w' A n c (hexV l : Int)) ∧ (b = false → ¬ MOk l)

set_option maxRecDepth 100000 in
set_option maxHeartbeats 4000000 in
theorem odd_any (s : ByteArray) (w : World) (hs : s.size ≤ 300) :
    Calls Tryz.prog 73 #[.string s] w fun e w' => ∃ A n c b, e = .returned (.tuple #[.slice A n c, .bool b]) ∧ ORes s.data.toList w' A n c b ∧ n ≤ 1000 ∧ Below w.heap.size w w' := by
  have b2 := (Blk.new w 33 #[.slice none 0 0]).alloc (.cells #[.bool false] 4)
  have b3 := Blk.new_ (w.alloc (.cells #[.slice none 0 0] 33)) 4 #[.bool false] (w.heap.size + 1) (by simp)
  by_cases hF0 : s.size = 0
  · have tf0 := hF0
    have HW := Lib.hid (show ¬ MOk s.data.toList from fun h => h.2.1 (List.length_eq_zero_iff.1 (by rw [bytes_len]; exact hF0)))
    clear hF0
    go_enter Tryz.func73, Tryz.ntmps73
    go_wp2_with fail
    have c2 := b2.cell 0
    have c3 := b3.cell 0
    exact bodyPost_ret (v := .tuple #[.slice none 0 0, .bool false]) (by simp [results, Tryz.results73, go_sem, c2, c3]) rfl
      ⟨none, 0, 0, false, rfl, ⟨(fun e => by cases e), fun _ => HW.out⟩, by omega, below_al below_one⟩
  · have tf0 := nz_f hF0
    have hz : 0 < s.size := Nat.pos_of_ne_zero hF0
    have tz : decide (0 < s.size) = true := decide_eq_true hz
    have t4 : decide (4096 < (s.size : Int)) = false := by simp; omega
    by_cases h0 : s[0] = 48
    · have t48 : (((s[0].toNat : Nat) : Int) == 48) = true := by rw [h0]; rfl
      have HW := Lib.hid (show ¬ MOk s.data.toList from fun h => h.2.2.1 (by rw [List.head?_eq_getElem?, bytes_at s 0 hz, h0]))
      clear hF0 h0
      go_enter Tryz.func73, Tryz.ntmps73
      go_wp2_with fail
      have c2 := b2.cell 0
      have c3 := b3.cell 0
      exact bodyPost_ret (v := .tuple #[.slice none 0 0, .bool false]) (by simp [results, Tryz.results73, go_sem, c2, c3]) rfl
        ⟨none, 0, 0, false, rfl, ⟨(fun e => by cases e), fun _ => HW.out⟩, by omega, below_al below_one⟩
    · have t48 : (((s[0].toNat : Nat) : Int) == 48) = false := byte_ne h0
      obtain ⟨q, hq⟩ : ∃ q, s.size / 16 = q := ⟨_, rfl⟩
      have q1 : (s.size : Int) / 16 = (q : Int) := by omega
      have q2 : (s.size : Int).tdiv 16 = (q : Int) := by rw [Int.tdiv_eq_ediv_of_nonneg (by omega)]; exact q1
      have q3 : (q : Int) + 1 = ((q + 1 : Nat) : Int) := by omega
      obtain ⟨L, hL⟩ : ∃ L, q + 1 = L := ⟨_, rfl⟩
      rw [hL] at q3
      have q4 : wrap64 (q : Int) = (q : Int) := by unfold wrap64; omega
      have q5 : wrap64 (L : Int) = (L : Int) := by unfold wrap64; omega
      have hLb : L ≤ 1099511627776 := by omega
      have hmk := fun V => run_make L hLb V
      have HL := Lib.hid (show s.size < 16 * L ∧ L ≤ 20 by omega)
      have HH := Lib.hid (show s.data.toList ≠ [] ∧ s.data.toList.head? ≠ some 48 from ⟨fun e => hF0 (by rw [← bytes_len, e]; rfl), by rw [List.head?_eq_getElem?, bytes_at s 0 hz]; intro e; exact h0 (Option.some.inj e)⟩)
      clear hF0 h0 hq hL
      refine (callsIn_wide (n := 5)).1 ?_
      refine callsIn_of_wp_marks Tryz.func73 rfl trivial ?_ rfl
      simp only [Tryz.ntmps73, List.size_toArray, List.length_cons, List.length_nil, Nat.reduceAdd, Nat.reduceSub, Array.replicate_succ, Array.replicate_zero, List.push_toArray, List.append_toArray, List.nil_append, List.cons_append]
      gi_wp2
      refine ⟨trivial, (callsIn_wide.2 (fromEnd_any _ _)).mono ?_⟩
      rintro e w1 ⟨rfl, rfl⟩
      gi_wp2
      have k0 := ((((Blk.new w 33 #[.slice none 0 0]).alloc (.cells #[.bool false] 4)).alloc (.cells (u64s (List.replicate L 0)).toArray 62)).alloc (.cells #[.slice (some ⟨w.heap.size + 1 + 1, 0, none⟩) L L] 33)).alloc (.cells #[.string s] 9)
      have k1 := (((Blk.new_ (w.alloc (.cells #[.slice none 0 0] 33)) 4 #[.bool false] (w.heap.size + 1) (by simp)).alloc (.cells (u64s (List.replicate L 0)).toArray 62)).alloc (.cells #[.slice (some ⟨w.heap.size + 1 + 1, 0, none⟩) L L] 33)).alloc (.cells #[.string s] 9)
      have k2 := ((Blk.new_ ((w.alloc (.cells #[.slice none 0 0] 33)).alloc (.cells #[.bool false] 4)) 62 (u64s (List.replicate L 0)).toArray (w.heap.size + 1 + 1) (by simp)).alloc (.cells #[.slice (some ⟨w.heap.size + 1 + 1, 0, none⟩) L L] 33)).alloc (.cells #[.string s] 9)
      have k3 := (Blk.new_ (((w.alloc (.cells #[.slice none 0 0] 33)).alloc (.cells #[.bool false] 4)).alloc (.cells (u64s (List.replicate L 0)).toArray 62)) 33 #[.slice (some ⟨w.heap.size + 1 + 1, 0, none⟩) L L] (w.heap.size + 1 + 1 + 1) (by simp)).alloc (.cells #[.string s] 9)
      have k4 := Blk.new_ ((((w.alloc (.cells #[.slice none 0 0] 33)).alloc (.cells #[.bool false] 4)).alloc (.cells (u64s (List.replicate L 0)).toArray 62)).alloc (.cells #[.slice (some ⟨w.heap.size + 1 + 1, 0, none⟩) L L] 33)) 9 #[.string s] (w.heap.size + 1 + 1 + 1 + 1) (by simp)
      have hB0 : Below w.heap.size w (((((w.alloc (.cells #[.slice none 0 0] 33)).alloc (.cells #[.bool false] 4)).alloc (.cells (u64s (List.replicate L 0)).toArray 62)).alloc (.cells #[.slice (some ⟨w.heap.size + 1 + 1, 0, none⟩) L L] 33)).alloc (.cells #[.string s] 9)) := below_al (below_al (below_al (below_al below_one)))
      have hF300 : s.size ≤ 4096 := by omega
      refine wpIn_rangeFunc_ownF rfl (by omega) (gf := 130) (lb := #[.pointer (some ⟨w.heap.size + 1 + 1 + 1 + 1, 0, none⟩)]) rfl trivial (enters_of Tryz.func130 (by kernel_rfl) rfl)
        (fromEndF_stops Fence.wide (5 - 1) trivial rfl (by omega) (w.heap.size + 1 + 1 + 1 + 1) w.heap.size s hF300 _ (by simp) (k4.cell 0)) KpB.trans (KpB.put (by simp; omega)) (Below.refl _ _) (fun _ => rfl)
        (fun pre W => ((∃ M, OddAt s L pre M ∧ Blk W (w.heap.size + 1 + 1) 62 (u64s M).toArray) ∧ Blk W (w.heap.size + 1 + 1 + 1) 33 #[.slice (some ⟨w.heap.size + 1 + 1, 0, none⟩) L L] ∧ Blk W w.heap.size 33 #[.slice none 0 0] ∧ Blk W (w.heap.size + 1) 4 #[.bool false]) ∧ Below w.heap.size w W)
        (fun c pre W => (c = .ret ∧ (∃ x ∈ pre, ¬ hexv (byF s x) < 16) ∧ W.cell? ⟨w.heap.size, 0, none⟩ = some (.slice none 0 0) ∧ W.cell? ⟨w.heap.size + 1, 0, none⟩ = some (.bool false)) ∧ Below w.heap.size w W)
        (OwnFrom.and (Own.from (fun s A B row hs hg hr => ⟨⟨hs.1.choose, hs.1.choose_spec.1, blk_kept hs.1.choose_spec.2 hg hr⟩, blk_kept hs.2.1 hg hr, blk_kept hs.2.2.1 hg hr, blk_kept hs.2.2.2 hg hr⟩) _) (ownFrom_below (Nat.le_refl _) (by simp; omega)))
        (fun c => OwnFrom.and (Own.from (fun s A B row hs hg hr => ⟨hs.1, hs.2.1, cell_kept hs.2.2.1 hg hr, cell_kept hs.2.2.2 hg hr⟩) _) (ownFrom_below (Nat.le_refl _) (by simp; omega)))
        ⟨⟨⟨_, odd_start s L, k2⟩, k3, k0, k1⟩, hB0⟩
        ?a1 ?assign ?body ?done ?stop
      case assign =>
        intro l x W K hK
        gi_wp2
        exact hK
      case body =>
        rintro l pre x W ⟨⟨⟨M, hO, y2⟩, y3, Y0, Y1⟩, hB⟩ hlen
        have HIx := Lib.hid (fun W => show Calls Tryz.prog 105 #[.string ⟨#[48, 49, 50, 51, 52, 53, 54, 55, 56, 57, 97, 98, 99, 100, 101, 102]⟩, .int .u8 ((byF s x).toNat : Int)] W fun e w' => e = .returned (.int .i64 (if hexv (byF s x) < 16 then (hexv (byF s x) : Int) else -1)) ∧ w' = W from by
          have h := Tryz.strings_IndexByte ⟨#[48, 49, 50, 51, 52, 53, 54, 55, 56, 57, 97, 98, 99, 100, 101, 102]⟩ ((byF s x).toNat : Int) W
          rw [Lib.byte_back] at h
          rw [← hex_index]
          exact h)
        have HB := Lib.hid hB
        by_cases hx : hexv (byF s x) < 16
        · simp only [if_pos hx] at HIx
          obtain ⟨d0, hd⟩ : ∃ d0, hexv (byF s x) = d0 := ⟨_, rfl⟩
          obtain ⟨k, hk⟩ : ∃ k, x.val = k := ⟨_, rfl⟩
          rw [hd] at HIx hx
          obtain ⟨q', r, sh, e1, e2, e3, e4, e5, e6, e7, e8, e9, hq', hsh, h4⟩ := odd_idx (show k < s.size from by rw [← hk]; exact x.isLt) HL.out.1 HL.out.2
          have hqM : q' < M.length := by rw [hO.1]; exact hq'
          obtain ⟨o, ho, hob⟩ := orU_lt (hO.2.1.get q' hqM) (odd_shl hx hsh (by omega)).2
          have HR := Lib.hid (odd_step hO hd hx hqM hsh (by rw [hk]; exact h4) ho hob)
          have c2 := u64s_arr M q' hqM
          have z2 := u64s_set M q' o
          obtain ⟨m, hm⟩ : ∃ m : Int, (M[q'] : Int) = m := ⟨_, rfl⟩
          obtain ⟨v, hv⟩ : ∃ v : Int, ((d0 * 2 ^ sh : Nat) : Int) = v := ⟨_, rfl⟩
          have f1 := (odd_shl hx hsh (by omega)).1
          have f2 := u64_small hx
          rw [hm, hv] at ho
          rw [hm] at c2
          rw [hv] at f1
          obtain ⟨cs, hcs⟩ : ∃ cs, (u64s M).toArray = cs := ⟨_, rfl⟩
          obtain ⟨cs', hcs'⟩ : ∃ cs', (u64s (M.set q' o)).toArray = cs' := ⟨_, rfl⟩
          rw [hcs] at y2 c2 z2
          rw [hcs'] at z2
          have HC := Lib.hid hcs'
          have tn := ix_nonneg d0
          have hqL := lt_cast hq'
          have hsn := ix_nonneg sh
          have hs64 := lt64 hsh
          clear hB hlen hd hm hv hcs hcs' hob h4 hO b2 b3 k0 k1 k2 k3 k4 hB0 hF300 hqM
          simp only [encF_eq, hk]
          clear hk
          gi_wp2
          refine ⟨trivial, (CallsIn.inRound l (callsIn_wide.2 (HIx.out _))).mono ?_⟩
          rintro e w1 ⟨rfl, rfl⟩
          gi_wp2
          refine wp_region_invR [34, 35, 36, 37, 38, 39, 40, 41, 42, 43, 44, 45, 46] (fun d s W => (d 0 = true → s 34 = .slice (some ⟨w.heap.size + 1 + 1, 0, none⟩) L L) ∧ (d 1 = true → s 35 = .int .i64 (k : Int)) ∧ (d 2 = true → s 36 = .int .i64 (q' : Int)) ∧ (d 3 = true → s 37 = .pointer (some ⟨w.heap.size + 1 + 1, q', none⟩)) ∧ (d 4 = true → s 38 = .int .u64 m) ∧ (d 5 = true → s 39 = .int .i64 (d0 : Int)) ∧ (d 6 = true → s 40 = .int .u64 (d0 : Int)) ∧ (d 7 = true → s 41 = .int .i64 (k : Int)) ∧ (d 8 = true → s 42 = .int .i64 (r : Int)) ∧ (d 9 = true → s 43 = .int .i64 (sh : Int)) ∧ (d 10 = true → s 44 = .int .u64 v) ∧ (d 11 = true → s 45 = .int .u64 (o : Int)) ∧ (d 12 = true → s 46 = .pointer (some ⟨w.heap.size + 1 + 1, q', none⟩)) ∧ (d 13 = true → d 4 = true) ∧ StepB w.heap.size w1 W (w.heap.size + 1 + 1) 62 (if d 13 = true then cs' else cs))
            (by kernel_rfl) (by kernel_rfl) (by kernel_rfl) ?_ ?_ ?_
          · exact ⟨by simp, by simp, by simp, by simp, by simp, by simp, by simp, by simp, by simp, by simp, by simp, by simp, by simp, by simp, by simpa using StepB.start y2⟩
          · refine ⟨?_, ?_, ?_, ?_, ?_, ?_, ?_, ?_, ?_, ?_, ?_, ?_, ?_, ?_, trivial⟩
            all_goals
              intro d s W hJ hfr hd hdep
              simp only [List.mem_cons, forall_eq_or_imp, List.not_mem_nil, false_implies, implies_true, and_true, Region.binds] at hdep
              have fr4 := hfr 4 (by decide)
              have fr5 := hfr 5 (by decide)
              have fr7 := hfr 7 (by decide)
              simp at fr4 fr5 fr7 hdep
              obtain ⟨h0, h1, h2, h3, h4, h5, h6, h7, h8, h9, h10, h11, h12, y0, hT⟩ := hJ
            · have k3 := (hT.blk_ y3 (by omega)).cell 0
              unfold OpSteps
              simp [go_sem, evS, fr4, fr5, fr7, k3]
              exact ⟨fun _ => by simp [sput], fun h => by simpa [sput] using h1 (by simpa [did] using h), fun h => by simpa [sput] using h2 (by simpa [did] using h), fun h => by simpa [sput] using h3 (by simpa [did] using h), fun h => by simpa [sput] using h4 (by simpa [did] using h), fun h => by simpa [sput] using h5 (by simpa [did] using h), fun h => by simpa [sput] using h6 (by simpa [did] using h), fun h => by simpa [sput] using h7 (by simpa [did] using h), fun h => by simpa [sput] using h8 (by simpa [did] using h), fun h => by simpa [sput] using h9 (by simpa [did] using h), fun h => by simpa [sput] using h10 (by simpa [did] using h), fun h => by simpa [sput] using h11 (by simpa [did] using h), fun h => by simpa [sput] using h12 (by simpa [did] using h), fun h => by have := y0 (by simpa [did] using h); simp [did, this], by simpa [did] using hT⟩
            · unfold OpSteps
              simp [go_sem, evS, fr4, fr5, fr7]
              exact ⟨fun h => by simpa [sput] using h0 (by simpa [did] using h), fun _ => by simp [sput], fun h => by simpa [sput] using h2 (by simpa [did] using h), fun h => by simpa [sput] using h3 (by simpa [did] using h), fun h => by simpa [sput] using h4 (by simpa [did] using h), fun h => by simpa [sput] using h5 (by simpa [did] using h), fun h => by simpa [sput] using h6 (by simpa [did] using h), fun h => by simpa [sput] using h7 (by simpa [did] using h), fun h => by simpa [sput] using h8 (by simpa [did] using h), fun h => by simpa [sput] using h9 (by simpa [did] using h), fun h => by simpa [sput] using h10 (by simpa [did] using h), fun h => by simpa [sput] using h11 (by simpa [did] using h), fun h => by simpa [sput] using h12 (by simpa [did] using h), fun h => by have := y0 (by simpa [did] using h); simp [did, this], by simpa [did] using hT⟩
            · have g1 := h1 (by simp [hdep])
              unfold OpSteps
              simp [go_sem, evS, fr4, fr5, fr7, g1, e1, e2, e6, e8]
              exact ⟨fun h => by simpa [sput] using h0 (by simpa [did] using h), fun h => by simpa [sput] using h1 (by simpa [did] using h), fun _ => by simp [sput], fun h => by simpa [sput] using h3 (by simpa [did] using h), fun h => by simpa [sput] using h4 (by simpa [did] using h), fun h => by simpa [sput] using h5 (by simpa [did] using h), fun h => by simpa [sput] using h6 (by simpa [did] using h), fun h => by simpa [sput] using h7 (by simpa [did] using h), fun h => by simpa [sput] using h8 (by simpa [did] using h), fun h => by simpa [sput] using h9 (by simpa [did] using h), fun h => by simpa [sput] using h10 (by simpa [did] using h), fun h => by simpa [sput] using h11 (by simpa [did] using h), fun h => by simpa [sput] using h12 (by simpa [did] using h), fun h => by have := y0 (by simpa [did] using h); simp [did, this], by simpa [did] using hT⟩
            · have g0 := h0 (by simp [hdep])
              have g2 := h2 (by simp [hdep])
              have hqn := ix_nonneg q'
              unfold OpSteps
              simp [go_sem, evS, fr4, fr5, fr7, g0, g2, hqL, hq', hqn]
              exact ⟨fun h => by simpa [sput] using h0 (by simpa [did] using h), fun h => by simpa [sput] using h1 (by simpa [did] using h), fun h => by simpa [sput] using h2 (by simpa [did] using h), fun _ => by simp [sput], fun h => by simpa [sput] using h4 (by simpa [did] using h), fun h => by simpa [sput] using h5 (by simpa [did] using h), fun h => by simpa [sput] using h6 (by simpa [did] using h), fun h => by simpa [sput] using h7 (by simpa [did] using h), fun h => by simpa [sput] using h8 (by simpa [did] using h), fun h => by simpa [sput] using h9 (by simpa [did] using h), fun h => by simpa [sput] using h10 (by simpa [did] using h), fun h => by simpa [sput] using h11 (by simpa [did] using h), fun h => by simpa [sput] using h12 (by simpa [did] using h), fun h => by have := y0 (by simpa [did] using h); simp [did, this], by simpa [did] using hT⟩
            · have g3 := h3 (by simp [hdep])
              have l13 : d 13 = false := by
                cases h : d 13
                · rfl
                · have := y0 h; simp [hd] at this
              have k2 := hT.blk.cell q'
              simp only [l13, Bool.false_eq_true, if_false] at k2
              rw [c2] at k2
              unfold OpSteps
              simp [go_sem, evS, fr4, fr5, fr7, g3, k2]
              exact ⟨fun h => by simpa [sput] using h0 (by simpa [did] using h), fun h => by simpa [sput] using h1 (by simpa [did] using h), fun h => by simpa [sput] using h2 (by simpa [did] using h), fun h => by simpa [sput] using h3 (by simpa [did] using h), fun _ => by simp [sput], fun h => by simpa [sput] using h5 (by simpa [did] using h), fun h => by simpa [sput] using h6 (by simpa [did] using h), fun h => by simpa [sput] using h7 (by simpa [did] using h), fun h => by simpa [sput] using h8 (by simpa [did] using h), fun h => by simpa [sput] using h9 (by simpa [did] using h), fun h => by simpa [sput] using h10 (by simpa [did] using h), fun h => by simpa [sput] using h11 (by simpa [did] using h), fun h => by simpa [sput] using h12 (by simpa [did] using h), fun h => by have := y0 (by simpa [did] using h); simp [did, this], by simpa [did] using hT⟩
            · unfold OpSteps
              simp [go_sem, evS, fr4, fr5, fr7]
              exact ⟨fun h => by simpa [sput] using h0 (by simpa [did] using h), fun h => by simpa [sput] using h1 (by simpa [did] using h), fun h => by simpa [sput] using h2 (by simpa [did] using h), fun h => by simpa [sput] using h3 (by simpa [did] using h), fun h => by simpa [sput] using h4 (by simpa [did] using h), fun _ => by simp [sput], fun h => by simpa [sput] using h6 (by simpa [did] using h), fun h => by simpa [sput] using h7 (by simpa [did] using h), fun h => by simpa [sput] using h8 (by simpa [did] using h), fun h => by simpa [sput] using h9 (by simpa [did] using h), fun h => by simpa [sput] using h10 (by simpa [did] using h), fun h => by simpa [sput] using h11 (by simpa [did] using h), fun h => by simpa [sput] using h12 (by simpa [did] using h), fun h => by have := y0 (by simpa [did] using h); simp [did, this], by simpa [did] using hT⟩
            · have g5 := h5 (by simp [hdep])
              unfold OpSteps
              simp [go_sem, evS, fr4, fr5, fr7, g5, f2]
              exact ⟨fun h => by simpa [sput] using h0 (by simpa [did] using h), fun h => by simpa [sput] using h1 (by simpa [did] using h), fun h => by simpa [sput] using h2 (by simpa [did] using h), fun h => by simpa [sput] using h3 (by simpa [did] using h), fun h => by simpa [sput] using h4 (by simpa [did] using h), fun h => by simpa [sput] using h5 (by simpa [did] using h), fun _ => by simp [sput], fun h => by simpa [sput] using h7 (by simpa [did] using h), fun h => by simpa [sput] using h8 (by simpa [did] using h), fun h => by simpa [sput] using h9 (by simpa [did] using h), fun h => by simpa [sput] using h10 (by simpa [did] using h), fun h => by simpa [sput] using h11 (by simpa [did] using h), fun h => by simpa [sput] using h12 (by simpa [did] using h), fun h => by have := y0 (by simpa [did] using h); simp [did, this], by simpa [did] using hT⟩
            · unfold OpSteps
              simp [go_sem, evS, fr4, fr5, fr7]
              exact ⟨fun h => by simpa [sput] using h0 (by simpa [did] using h), fun h => by simpa [sput] using h1 (by simpa [did] using h), fun h => by simpa [sput] using h2 (by simpa [did] using h), fun h => by simpa [sput] using h3 (by simpa [did] using h), fun h => by simpa [sput] using h4 (by simpa [did] using h), fun h => by simpa [sput] using h5 (by simpa [did] using h), fun h => by simpa [sput] using h6 (by simpa [did] using h), fun _ => by simp [sput], fun h => by simpa [sput] using h8 (by simpa [did] using h), fun h => by simpa [sput] using h9 (by simpa [did] using h), fun h => by simpa [sput] using h10 (by simpa [did] using h), fun h => by simpa [sput] using h11 (by simpa [did] using h), fun h => by simpa [sput] using h12 (by simpa [did] using h), fun h => by have := y0 (by simpa [did] using h); simp [did, this], by simpa [did] using hT⟩
            · have g7 := h7 (by simp [hdep])
              unfold OpSteps
              simp [go_sem, evS, fr4, fr5, fr7, g7, e3, e4]
              exact ⟨fun h => by simpa [sput] using h0 (by simpa [did] using h), fun h => by simpa [sput] using h1 (by simpa [did] using h), fun h => by simpa [sput] using h2 (by simpa [did] using h), fun h => by simpa [sput] using h3 (by simpa [did] using h), fun h => by simpa [sput] using h4 (by simpa [did] using h), fun h => by simpa [sput] using h5 (by simpa [did] using h), fun h => by simpa [sput] using h6 (by simpa [did] using h), fun h => by simpa [sput] using h7 (by simpa [did] using h), fun _ => by simp [sput], fun h => by simpa [sput] using h9 (by simpa [did] using h), fun h => by simpa [sput] using h10 (by simpa [did] using h), fun h => by simpa [sput] using h11 (by simpa [did] using h), fun h => by simpa [sput] using h12 (by simpa [did] using h), fun h => by have := y0 (by simpa [did] using h); simp [did, this], by simpa [did] using hT⟩
            · have g8 := h8 (by simp [hdep])
              unfold OpSteps
              simp [go_sem, evS, fr4, fr5, fr7, g8, e5, e7, e9]
              exact ⟨fun h => by simpa [sput] using h0 (by simpa [did] using h), fun h => by simpa [sput] using h1 (by simpa [did] using h), fun h => by simpa [sput] using h2 (by simpa [did] using h), fun h => by simpa [sput] using h3 (by simpa [did] using h), fun h => by simpa [sput] using h4 (by simpa [did] using h), fun h => by simpa [sput] using h5 (by simpa [did] using h), fun h => by simpa [sput] using h6 (by simpa [did] using h), fun h => by simpa [sput] using h7 (by simpa [did] using h), fun h => by simpa [sput] using h8 (by simpa [did] using h), fun _ => by simp [sput], fun h => by simpa [sput] using h10 (by simpa [did] using h), fun h => by simpa [sput] using h11 (by simpa [did] using h), fun h => by simpa [sput] using h12 (by simpa [did] using h), fun h => by have := y0 (by simpa [did] using h); simp [did, this], by simpa [did] using hT⟩
            · have g6 := h6 (by simp [hdep])
              have g9 := h9 (by simp [hdep])
              unfold OpSteps
              simp [go_sem, evS, fr4, fr5, fr7, g6, g9, f1, hsn, hs64, hsh]
              exact ⟨fun h => by simpa [sput] using h0 (by simpa [did] using h), fun h => by simpa [sput] using h1 (by simpa [did] using h), fun h => by simpa [sput] using h2 (by simpa [did] using h), fun h => by simpa [sput] using h3 (by simpa [did] using h), fun h => by simpa [sput] using h4 (by simpa [did] using h), fun h => by simpa [sput] using h5 (by simpa [did] using h), fun h => by simpa [sput] using h6 (by simpa [did] using h), fun h => by simpa [sput] using h7 (by simpa [did] using h), fun h => by simpa [sput] using h8 (by simpa [did] using h), fun h => by simpa [sput] using h9 (by simpa [did] using h), fun _ => by simp [sput], fun h => by simpa [sput] using h11 (by simpa [did] using h), fun h => by simpa [sput] using h12 (by simpa [did] using h), fun h => by have := y0 (by simpa [did] using h); simp [did, this], by simpa [did] using hT⟩
            · have g4 := h4 (by simp [hdep])
              have g10 := h10 (by simp [hdep])
              unfold OpSteps
              simp [go_sem, evS, fr4, fr5, fr7, g4, g10, ho]
              exact ⟨fun h => by simpa [sput] using h0 (by simpa [did] using h), fun h => by simpa [sput] using h1 (by simpa [did] using h), fun h => by simpa [sput] using h2 (by simpa [did] using h), fun h => by simpa [sput] using h3 (by simpa [did] using h), fun h => by simpa [sput] using h4 (by simpa [did] using h), fun h => by simpa [sput] using h5 (by simpa [did] using h), fun h => by simpa [sput] using h6 (by simpa [did] using h), fun h => by simpa [sput] using h7 (by simpa [did] using h), fun h => by simpa [sput] using h8 (by simpa [did] using h), fun h => by simpa [sput] using h9 (by simpa [did] using h), fun h => by simpa [sput] using h10 (by simpa [did] using h), fun _ => by simp [sput], fun h => by simpa [sput] using h12 (by simpa [did] using h), fun h => by have := y0 (by simpa [did] using h); simp [did, this], by simpa [did] using hT⟩
            · have g0 := h0 (by simp [hdep])
              have g2 := h2 (by simp [hdep])
              have hqn := ix_nonneg q'
              unfold OpSteps
              simp [go_sem, evS, fr4, fr5, fr7, g0, g2, hqL, hq', hqn]
              exact ⟨fun h => by simpa [sput] using h0 (by simpa [did] using h), fun h => by simpa [sput] using h1 (by simpa [did] using h), fun h => by simpa [sput] using h2 (by simpa [did] using h), fun h => by simpa [sput] using h3 (by simpa [did] using h), fun h => by simpa [sput] using h4 (by simpa [did] using h), fun h => by simpa [sput] using h5 (by simpa [did] using h), fun h => by simpa [sput] using h6 (by simpa [did] using h), fun h => by simpa [sput] using h7 (by simpa [did] using h), fun h => by simpa [sput] using h8 (by simpa [did] using h), fun h => by simpa [sput] using h9 (by simpa [did] using h), fun h => by simpa [sput] using h10 (by simpa [did] using h), fun h => by simpa [sput] using h11 (by simpa [did] using h), fun _ => by simp [sput], fun h => by have := y0 (by simpa [did] using h); simp [did, this], by simpa [did] using hT⟩
            · have g11 := h11 (by simp [hdep])
              have g12 := h12 (by simp [hdep])
              have l13 := hd
              have k2 := hT.blk.cell q'
              have k2f := hT.blk.frozen q'
              simp only [l13, Bool.false_eq_true, if_false] at k2
              rw [c2] at k2
              unfold OpSteps
              simp [go_sem, evS, fr4, fr5, fr7, g11, g12, k2, k2f]
              exact ⟨fun h => by simpa [sput] using h0 (by simpa [did] using h), fun h => by simpa [sput] using h1 (by simpa [did] using h), fun h => by simpa [sput] using h2 (by simpa [did] using h), fun h => by simpa [sput] using h3 (by simpa [did] using h), fun h => by simpa [sput] using h4 (by simpa [did] using h), fun h => by simpa [sput] using h5 (by simpa [did] using h), fun h => by simpa [sput] using h6 (by simpa [did] using h), fun h => by simpa [sput] using h7 (by simpa [did] using h), fun h => by simpa [sput] using h8 (by simpa [did] using h), fun h => by simpa [sput] using h9 (by simpa [did] using h), fun h => by simpa [sput] using h10 (by simpa [did] using h), fun h => by simpa [sput] using h11 (by simpa [did] using h), fun h => by simpa [sput] using h12 (by simpa [did] using h), fun _ => by simp [did, hdep], by have h := hT.set_ q' (.int .u64 (o : Int)) (show w.heap.size ≤ w.heap.size + 1 + 1 by omega); simp only [l13, Bool.false_eq_true, if_false, z2] at h; simpa [did] using h⟩
          intro d s W hJ hd
          obtain ⟨h0, h1, h2, h3, h4, h5, h6, h7, h8, h9, h10, h11, h12, y0, hT⟩ := hJ
          have hT' := hT
          rw [hd 13 (by decide)] at hT'
          simp only [if_true] at hT'
          have HT' := Lib.hid hT'
          clear h0 h1 h2 h3 h4 h5 h6 h7 h8 h9 h10 h11 h12 y0 hT hd hT'
          refine ⟨HT'.out.keeps, ⟨HT'.out.below, fun v hv => (World.cell?_of_block (a := ⟨w.heap.size + 1 + 1 + 1 + 1, 0, none⟩) (HT'.out.other (w.heap.size + 1 + 1 + 1 + 1) (by omega))).trans hv⟩, ⟨⟨⟨_, HR.out, by rw [HC.out]; exact HT'.out.blk⟩, HT'.out.blk_ y3 (by omega), HT'.out.blk_ Y0 (by omega), HT'.out.blk_ Y1 (by omega)⟩, HB.out.trans HT'.out.below⟩⟩
        · simp only [if_neg hx] at HIx
          have HX := Lib.hid hx
          clear hB hlen hO b2 b3 k0 k1 k2 k3 k4 hB0 hF300 hx
          have x5 := Y0.cell 0
          have x6 := Y0.frozen 0
          have x7 := Y1.cell 0
          have x8 := Y1.frozen 0
          simp only [encF_eq]
          gi_wp2
          refine ⟨trivial, (CallsIn.inRound l (callsIn_wide.2 (HIx.out _))).mono ?_⟩
          rintro e w1 ⟨rfl, rfl⟩
          gi_wp2
          exact ⟨(KeepsOthers.setCell w1 _ _).trans (KeepsOthers.setCell _ _ _), ⟨⟨rfl, ⟨x, by simp, HX.out⟩, by rw [cell_set (show w.heap.size ≠ w.heap.size + 1 by omega)]; exact World.cell?_setCell_same' _ _ _ (by rw [x5]; rfl),
            World.cell?_setCell_same' _ _ _ (by rw [cell_set (show w.heap.size + 1 ≠ w.heap.size by omega), x7]; rfl)⟩, (HB.out.setCell (p := ⟨w.heap.size, 0, none⟩) (Nat.le_refl _) _).setCell (p := ⟨w.heap.size + 1, 0, none⟩) (Nat.le_succ _) _⟩⟩
      case done =>
        rintro D ys W hD rfl ⟨⟨⟨M, hO, y2⟩, y3, y0, y1⟩, hB⟩ hK
        obtain ⟨hMd, hMl, hHx, hMv⟩ := odd_end hO
        have HB := Lib.hid hB
        have HK := Lib.hid hK
        have HDs := Lib.hid (show w.heap.size ≤ D by simp at hD; omega)
        have HD2 := Lib.hid (show w.heap.size + 1 + 1 ≠ D ∧ w.heap.size + 1 ≠ D by simp at hD; omega)
        clear hO hB hK b2 b3 k0 k1 k2 k3 k4 hB0 hF300 hD
        gi_wp2
        refine wpIn_wide.2 ?_
        have hM0 : 0 < M.length := by have := HL.out; omega
        have HMd := Lib.hid hMd
        have hL0 : 0 < L := by rw [← hMl]; exact hM0
        have c2 := u64s_arr M 0 hM0
        obtain ⟨m, hm⟩ : ∃ m : Int, (M[0] : Int) = m := ⟨_, rfl⟩
        rw [hm] at c2
        obtain ⟨v, hv⟩ : ∃ v : Int, ((hexV s.data.toList % 2 : Nat) : Int) = v := ⟨_, rfl⟩
        have fb : m % 2 = v := by rw [← hm, ← hv]; exact odd_bit hM0 hMv
        obtain ⟨b, fe⟩ : ∃ b : Bool, (v == 1) = b := ⟨_, rfl⟩
        have HB1 := Lib.hid (show ∀ W' : World, Row W' (some ⟨w.heap.size + 1 + 1, 0, none⟩) (u64s M) → ORes s.data.toList W' (some ⟨w.heap.size + 1 + 1, 0, none⟩) (tl M) (tl M) b from fun W' hr => by
          have hb : b = true ↔ hexV s.data.toList % 2 = 1 := by rw [← fe, ← hv]; simp <;> omega
          refine ⟨fun e => ⟨⟨hHx, HH.out.1, HH.out.2, hb.1 e⟩, Wh.trimmed hMd hr (by rw [hMv]; rfl)⟩, fun e h => ?_⟩
          rw [hb.2 h.2.2.2] at e
          cases e)
        have HT20 := Lib.hid (show tl M ≤ 1000 by
          have h1 := congrArg List.length (tl_eq hMd)
          rw [List.length_take] at h1
          have h2 : (digs Q (ofd Q M)).length = tl M := rfl
          have := HL.out.2
          omega)
        clear hMd hMv hHx hm hv hmk hM0
        refine wp_region_inv [47, 48, 49, 50, 51, 52, 53] (fun d s V => (d 0 = true → s 47 = .slice (some ⟨w.heap.size + 1 + 1, 0, none⟩) L L) ∧ (d 1 = true → s 48 = .slice (some ⟨w.heap.size + 1 + 1, 0, none⟩) (tl M) (tl M)) ∧ (d 2 = true → s 49 = .slice (some ⟨w.heap.size + 1 + 1, 0, none⟩) L L) ∧ (d 3 = true → s 50 = .pointer (some ⟨w.heap.size + 1 + 1, 0, none⟩)) ∧ (d 4 = true → s 51 = .int .u64 m) ∧ (d 5 = true → s 52 = .int .u64 v) ∧ (d 6 = true → s 53 = .bool b) ∧ StepH w.heap.size W V w.heap.size (w.heap.size + 1) 33 4 (if d 7 = true then .slice (some ⟨w.heap.size + 1 + 1, 0, none⟩) (tl M) (tl M) else .slice none 0 0) (.bool (if d 8 = true then b else false)))
          rfl (by kernel_rfl) ?_ ?_ ?_
        · exact ⟨by simp, by simp, by simp, by simp, by simp, by simp, by simp, by simpa using StepH.start y0 y1 (show w.heap.size ≠ w.heap.size + 1 by omega)⟩
        · refine ⟨?_, ?_, ?_, ?_, ?_, ?_, ?_, ?_, ?_, trivial⟩
          all_goals
            intro d s V hJ hfr hd hdep
            simp only [List.mem_cons, forall_eq_or_imp, List.not_mem_nil, false_implies, implies_true, and_true, Region.binds] at hdep
            have fr2 := hfr 2 (by decide)
            have fr3 := hfr 3 (by decide)
            have fr4 := hfr 4 (by decide)
            simp at fr2 fr3 fr4 hdep
            obtain ⟨h0, h1, h2, h3, h4, h5, h6, hT⟩ := hJ
          · have k3 := (hT.blk_ y3 (by omega) (by omega)).cell 0
            unfold OpSteps
            simp [go_sem, evS, fr2, fr3, fr4, k3]
            exact ⟨fun _ => by simp [sput], fun h => by simpa [sput] using h1 (by simpa [did] using h), fun h => by simpa [sput] using h2 (by simpa [did] using h), fun h => by simpa [sput] using h3 (by simpa [did] using h), fun h => by simpa [sput] using h4 (by simpa [did] using h), fun h => by simpa [sput] using h5 (by simpa [did] using h), fun h => by simpa [sput] using h6 (by simpa [did] using h), by simpa [did] using hT⟩
          · have g0 := h0 (by simp [hdep])
            unfold OpSteps
            simp [go_sem, evS, fr2, fr3, fr4, g0]
            refine (trim_any (w.heap.size + 1 + 1) 0 L L M _ hMl.symm (Nat.le_refl _) (by have := HL.out.2; omega) HMd.out (row_blk (hT.blk_ y2 (by omega) (by omega)))).mono ?_
            rintro e W' ⟨rfl, rfl⟩
            refine ⟨_, rfl, ?_⟩
            exact ⟨fun h => by simpa [sput] using h0 (by simpa [did] using h), fun _ => by simp [sput], fun h => by simpa [sput] using h2 (by simpa [did] using h), fun h => by simpa [sput] using h3 (by simpa [did] using h), fun h => by simpa [sput] using h4 (by simpa [did] using h), fun h => by simpa [sput] using h5 (by simpa [did] using h), fun h => by simpa [sput] using h6 (by simpa [did] using h), by simpa [did] using hT⟩
          · have k3 := (hT.blk_ y3 (by omega) (by omega)).cell 0
            unfold OpSteps
            simp [go_sem, evS, fr2, fr3, fr4, k3]
            exact ⟨fun h => by simpa [sput] using h0 (by simpa [did] using h), fun h => by simpa [sput] using h1 (by simpa [did] using h), fun _ => by simp [sput], fun h => by simpa [sput] using h3 (by simpa [did] using h), fun h => by simpa [sput] using h4 (by simpa [did] using h), fun h => by simpa [sput] using h5 (by simpa [did] using h), fun h => by simpa [sput] using h6 (by simpa [did] using h), by simpa [did] using hT⟩
          · have g2 := h2 (by simp [hdep])
            unfold OpSteps
            simp [go_sem, evS, fr2, fr3, fr4, g2, hL0]
            exact ⟨fun h => by simpa [sput] using h0 (by simpa [did] using h), fun h => by simpa [sput] using h1 (by simpa [did] using h), fun h => by simpa [sput] using h2 (by simpa [did] using h), fun _ => by simp [sput], fun h => by simpa [sput] using h4 (by simpa [did] using h), fun h => by simpa [sput] using h5 (by simpa [did] using h), fun h => by simpa [sput] using h6 (by simpa [did] using h), by simpa [did] using hT⟩
          · have g3 := h3 (by simp [hdep])
            have k2 := (hT.blk_ y2 (by omega) (by omega)).cell 0
            rw [c2] at k2
            unfold OpSteps
            simp [go_sem, evS, fr2, fr3, fr4, g3, k2]
            exact ⟨fun h => by simpa [sput] using h0 (by simpa [did] using h), fun h => by simpa [sput] using h1 (by simpa [did] using h), fun h => by simpa [sput] using h2 (by simpa [did] using h), fun h => by simpa [sput] using h3 (by simpa [did] using h), fun _ => by simp [sput], fun h => by simpa [sput] using h5 (by simpa [did] using h), fun h => by simpa [sput] using h6 (by simpa [did] using h), by simpa [did] using hT⟩
          · have g4 := h4 (by simp [hdep])
            unfold OpSteps
            simp [go_sem, evS, fr2, fr3, fr4, g4, fb]
            exact ⟨fun h => by simpa [sput] using h0 (by simpa [did] using h), fun h => by simpa [sput] using h1 (by simpa [did] using h), fun h => by simpa [sput] using h2 (by simpa [did] using h), fun h => by simpa [sput] using h3 (by simpa [did] using h), fun h => by simpa [sput] using h4 (by simpa [did] using h), fun _ => by simp [sput], fun h => by simpa [sput] using h6 (by simpa [did] using h), by simpa [did] using hT⟩
          · have g5 := h5 (by simp [hdep])
            unfold OpSteps
            simp [go_sem, evS, fr2, fr3, fr4, g5, fe]
            exact ⟨fun h => by simpa [sput] using h0 (by simpa [did] using h), fun h => by simpa [sput] using h1 (by simpa [did] using h), fun h => by simpa [sput] using h2 (by simpa [did] using h), fun h => by simpa [sput] using h3 (by simpa [did] using h), fun h => by simpa [sput] using h4 (by simpa [did] using h), fun h => by simpa [sput] using h5 (by simpa [did] using h), fun _ => by simp [sput], by simpa [did] using hT⟩
          · have g1 := h1 (by simp [hdep])
            have l7 := hd
            have b5 := hT.blk5
            have k5 := b5.cell 0
            have z5 := b5.frozen 0
            unfold OpSteps
            simp [go_sem, evS, fr2, fr3, fr4, g1, k5, z5]
            exact ⟨fun h => by simpa [sput] using h0 (by simpa [did] using h), fun h => by simpa [sput] using h1 (by simpa [did] using h), fun h => by simpa [sput] using h2 (by simpa [did] using h), fun h => by simpa [sput] using h3 (by simpa [did] using h), fun h => by simpa [sput] using h4 (by simpa [did] using h), fun h => by simpa [sput] using h5 (by simpa [did] using h), fun h => by simpa [sput] using h6 (by simpa [did] using h), by simpa [did] using hT.set5 (.slice (some ⟨w.heap.size + 1 + 1, 0, none⟩) (tl M) (tl M)) (Nat.le_refl _)⟩
          · have g6 := h6 (by simp [hdep])
            have l8 := hd
            have b6 := hT.blk6
            have k6 := b6.cell 0
            have z6 := b6.frozen 0
            unfold OpSteps
            simp [go_sem, evS, fr2, fr3, fr4, g6, k6, z6]
            exact ⟨fun h => by simpa [sput] using h0 (by simpa [did] using h), fun h => by simpa [sput] using h1 (by simpa [did] using h), fun h => by simpa [sput] using h2 (by simpa [did] using h), fun h => by simpa [sput] using h3 (by simpa [did] using h), fun h => by simpa [sput] using h4 (by simpa [did] using h), fun h => by simpa [sput] using h5 (by simpa [did] using h), fun h => by simpa [sput] using h6 (by simpa [did] using h), by simpa [did] using hT.set6 (.bool b) (Nat.le_succ _)⟩
        intro d s V hJ hd
        obtain ⟨h0, h1, h2, h3, h4, h5, h6, hT⟩ := hJ
        have hT' := hT
        rw [hd 7 (by decide), hd 8 (by decide)] at hT'
        simp only [if_true] at hT'
        have HT' := Lib.hid hT'
        clear h0 h1 h2 h3 h4 h5 h6 hT hd hT'
        simp [setAll]
        gi_wp2
        have hK' := HT'.out.keeps.same D _ HK.out rfl
        refine ⟨by simp, .inl ⟨_, _, rfl, run_takeDeferred hK', ?_⟩⟩
        have c0 := (blk_kept HT'.out.blk5 (grownBy_putObj' _ D (.deferred none)) (fun r e => by cases e; exact ⟨_, hK', rfl⟩)).cell 0
        have c1 := (blk_kept HT'.out.blk6 (grownBy_putObj' _ D (.deferred none)) (fun r e => by cases e; exact ⟨_, hK', rfl⟩)).cell 0
        have r2 := row_blk (blk_kept (HT'.out.blk_ y2 (by omega) (by omega)) (grownBy_putObj' _ D (.deferred none)) (fun r e => by cases e; exact ⟨_, hK', rfl⟩))
        refine ⟨.tuple #[.slice (some ⟨w.heap.size + 1 + 1, 0, none⟩) (tl M) (tl M), .bool b], ?_, ⟨_, _, _, b, rfl, HB1.out _ r2, HT20.out, (HB.out.trans HT'.out.below).trans (belowK_b (w := w) (Nat.le_refl _) _ D _ _ HDs.out hK' rfl rfl)⟩⟩
        simp [results, Tryz.results73, go_sem, c0, c1]
      case stop =>
        rintro D c pre W hD ⟨k, hk, rfl⟩ ⟨⟨rfl, ⟨x, hx, hxd⟩, x5, x7⟩, hB⟩ hK
        have HW := Lib.hid (show ¬ MOk s.data.toList from fun h => by
          have h1 := h.1 (byF s x) (by
            have h2 := bytesF_all s
            rw [← h2]
            unfold bytesF
            simp only [List.mem_reverse]
            refine List.mem_map.2 ⟨x, ?_, rfl⟩
            rw [List.take_of_length_le (by simp)]
            exact List.mem_finRange x)
          exact hxd h1)
        have HB := Lib.hid hB
        have HDs := Lib.hid (show w.heap.size ≤ D by simp at hD; omega)
        clear hB hD hx hxd b2 b3 k0 k1 k2 k3 k4 hB0 hF300
        gi_wp2
        refine ⟨by simp, .inl ⟨_, _, rfl, run_takeDeferred hK, ?_⟩⟩
        have c0 := cell_kept x5 (grownBy_putObj' _ D (.deferred none)) (fun r e => by cases e; exact ⟨_, hK, rfl⟩)
        have c1 := cell_kept x7 (grownBy_putObj' _ D (.deferred none)) (fun r e => by cases e; exact ⟨_, hK, rfl⟩)
        refine ⟨.tuple #[.slice none 0 0, .bool false], ?_, ⟨none, 0, 0, false, rfl, ⟨(fun e => by cases e), fun _ => HW.out⟩, by omega, HB.out.trans (belowK_b (w := w) (Nat.le_refl _) W D _ _ HDs.out hK rfl rfl)⟩⟩
        simp [results, Tryz.results73, go_sem, c0, c1]
end Go.Proofs.YtdokpnfmmbkjfaaGreatDoor
/-
The program's Parse. Conditions: the text isn't too long.
-/
set_option linter.unusedVariables false
set_option linter.unusedSimpArgs false
namespace Go.Proofs.YtdokpnfmmbkjfaaGreatDoor
open Go.RowKit Go.Shelf
attribute [local go_sem] Oper.semAt_some

theorem unsg_len (l : List UInt8) : (unsg l).length ≤ l.length := by
  unfold unsg
  split
  · simp
  · exact Nat.le_refl _
theorem cut_len (l : List UInt8) : (Lib.cut l [112]).1.length ≤ l.length ∧ (Lib.cut l [112]).2.1.length ≤ l.length := by
  rcases cut_facts l with ⟨_, h2, _⟩ | ⟨_, _, h3, h4⟩
  · have := congrArg List.length h2
    rw [List.length_append, List.length_cons] at this
    omega
  · rw [h3, h4]; simp
theorem parse_yes {l : List UInt8} (h0 : l ≠ [48]) {E : Int} (hm : MOk (Lib.cut (unsg l) [112]).1) (he : EOk (Lib.cut (unsg l) [112]).2.1 E) : Canon l (dy (sgd (hasSg l) (hexV (Lib.cut (unsg l) [112]).1)) E) := by
  rcases cut_facts (unsg l) with ⟨_, h2, _⟩ | ⟨_, _, _, h4⟩
  · exact canon_own h0 h2 hm he
  · have h := (eok_val he).2.2.2.1
    rw [h4] at h
    exact absurd (by decide) h
theorem parse_no {l : List UInt8} (h0 : l ≠ [48]) (h : ¬ MOk (Lib.cut (unsg l) [112]).1 ∨ ∀ E, ¬ EOk (Lib.cut (unsg l) [112]).2.1 E) (x : Dyadic) : ¬ Canon l x := by
  rcases cut_facts (unsg l) with ⟨_, h2, h3⟩ | ⟨_, h2, _, _⟩
  · intro hx
    obtain ⟨hm, E, he, _⟩ := canon_split h0 h3 h2 hx
    rcases h with h | h
    · exact h hm
    · exact h E he
  · exact canon_no112 h0 h2 x
theorem sgd_oddp {neg : Bool} {H : Nat} (h : H % 2 = 1) : sgd neg H % 2 = 1 := by
  unfold sgd
  split <;> omega
theorem sgd_absp (neg : Bool) (H : Nat) : (sgd neg H).natAbs = H := by
  unfold sgd
  split <;> omega
theorem wh_sgd {w : World} {A : Option Addr} {n c : Nat} {H : Nat} (neg : Bool) (h : Wh w A n c (H : Int)) : Wh w A n c (sgd neg H) := by
  unfold sgd
  cases neg
  · exact h
  · exact h.neg
theorem pv_of {W : World} {A A' : Option Addr} {n c n' c' H : Nat} {E : Int} {neg : Bool} (hH : H % 2 = 1) (h1 : Wh W A n c (H : Int)) (h2 : Wh W A' n' c' E) : PV W (.agg #[.bool neg, .slice A n c, .bool (ng E), .slice A' n' c']) (dy (sgd neg H) E) := by
  have e1 := mant_dy (sgd neg H) E (sgd_oddp hH)
  have e2 := expo_dy (sgd neg H) E (sgd_oddp hH)
  refine ⟨A, n, c, A', n', c', ?_, ?_⟩
  · rw [e1, e2, ng_sgd hH]
  · exact ⟨by rw [e1]; exact wh_sgd neg h1, by rw [e2]; exact h2⟩
theorem fitp_of {H k : Nat} {E : Int} {neg : Bool} (hH : H % 2 = 1) (hk : H < 16 ^ k) (hk3 : k ≤ 300) (hE : E.natAbs ≤ 100000000) : Fitp (dy (sgd neg H) E) := by
  have e1 := mant_dy (sgd neg H) E (sgd_oddp hH)
  have e2 := expo_dy (sgd neg H) E (sgd_oddp hH)
  refine ⟨?_, by rw [e2]; omega⟩
  rw [e1]
  refine Nat.le_trans ((wl_le _ k).2 ?_) (by omega)
  rw [sgd_absp]
  exact Nat.lt_of_lt_of_le hk (Nat.pow_le_pow_left (by unfold Q; omega) k)
theorem fitp_zero : Fitp 0 := ⟨by rw [mant_zero]; exact Nat.le_trans (Nat.le_of_eq ((wl_zero 0).2 rfl)) (Nat.zero_le _), by rw [expo_zero]; decide⟩
theorem below_four {w W : World} (h : Below w.heap.size w W) (g : Nat) (hg : w.heap.size ≤ g) (a b c d : Value) : Below w.heap.size w ((((W.setCell ⟨g, 0, none⟩ a).setCell ⟨g, 1, none⟩ b).setCell ⟨g, 2, none⟩ c).setCell ⟨g, 3, none⟩ d) :=
  (((h.setCell (p := ⟨g, 0, none⟩) hg _).setCell (p := ⟨g, 1, none⟩) hg _).setCell (p := ⟨g, 2, none⟩) hg _).setCell (p := ⟨g, 3, none⟩) hg _

set_option maxRecDepth 100000 in
set_option maxHeartbeats 4000000 in
theorem pparse_any (s : ByteArray) (w : World) (hs : s.size ≤ 300) :
    Calls Tryz.prog 31 #[.string s] w fun e w' => ∃ v d r, e = .returned (.tuple #[v, .int .i64 r]) ∧ PV w' v d ∧ Fitp d ∧ PCase s.data.toList d r ∧ Below w.heap.size w w' := by
  have HR0 := Lib.hid (Blk.new w 37 #[.bool false, .slice none 0 0, .bool false, .slice none 0 0])
  cases h48 : (s.toList == [48]) with
  | true =>
    have e48 : s.data.toList = [48] := by rw [← Lib.toList_data]; exact eq_of_beq h48
    rw [e48]
    clear e48 hs
    go_enter Tryz.func31, Tryz.ntmps31
    go_wp2_with fail
    obtain ⟨k0, k1, k2, k3, _⟩ := cells4 HR0.out
    exact bodyPost_ret (v := .tuple #[.agg #[.bool false, .slice none 0 0, .bool false, .slice none 0 0], .int .i64 0]) (by simp [results, Tryz.results31, go_sem, k0, k1, k2, k3]) rfl
      ⟨_, 0, 0, rfl, PV.zero _ _ _ _ _, fitp_zero, .inl ⟨rfl, rfl, rfl⟩, below_one⟩
  | false =>
    have H48 := Lib.hid (show s.data.toList ≠ [48] from fun e => by rw [Lib.toList_data, e] at h48; exact absurd h48 (by decide))
    obtain ⟨F, hF⟩ : ∃ F : ByteArray, (⟨(unsg s.data.toList).toArray⟩ : ByteArray) = F := ⟨_, rfl⟩
    have hFl : F.data.toList = unsg s.data.toList := by rw [← hF]
    obtain ⟨bl, hbl⟩ : ∃ bl, hasSg s.data.toList = bl := ⟨_, rfl⟩
    have HCp := fun W => Tryz.strings_CutPrefix s ⟨#[45]⟩ W
    rw [show (⟨#[45]⟩ : ByteArray).data.toList = [45] from rfl, (prefix_45 s).1, (prefix_45 s).2, hF, hbl] at HCp
    have HC := Lib.hid HCp
    have hFs : F.size ≤ 300 := by
      have := unsg_len s.data.toList
      rw [← hFl, bytes_len, bytes_len] at this
      omega
    have HKp := fun W => scut_any F W (by omega)
    obtain ⟨mB, hm⟩ : ∃ mB : ByteArray, (⟨(Lib.cut F.data.toList [112]).1.toArray⟩ : ByteArray) = mB := ⟨_, rfl⟩
    obtain ⟨eB, he⟩ : ∃ eB : ByteArray, (⟨(Lib.cut F.data.toList [112]).2.1.toArray⟩ : ByteArray) = eB := ⟨_, rfl⟩
    have hml : mB.data.toList = (Lib.cut (unsg s.data.toList) [112]).1 := by rw [← hm, hFl]
    have hel : eB.data.toList = (Lib.cut (unsg s.data.toList) [112]).2.1 := by rw [← he, hFl]
    rw [hm, he] at HKp
    have HK := Lib.hid HKp
    have hlen := cut_len F.data.toList
    have hms : mB.size ≤ 300 := by
      have := hlen.1
      rw [hFl, ← hml, ← hFl, bytes_len, bytes_len] at this
      omega
    have hes : eB.size ≤ 300 := by
      have := hlen.2
      rw [hFl, ← hel, ← hFl, bytes_len, bytes_len] at this
      omega
    have HO := Lib.hid (fun W => odd_any mB W hms)
    have HE := Lib.hid (fun W => exponent_any eB W hes)
    have HY := Lib.hid (fun (E : Int) (h1 : MOk mB.data.toList) (h2 : EOk eB.data.toList E) => show Canon s.data.toList (dy (sgd bl (hexV mB.data.toList)) E) from by
      rw [← hbl, hml]
      exact parse_yes H48.out (by rw [← hml]; exact h1) (by rw [← hel]; exact h2))
    have HN := Lib.hid (fun (h : ¬ MOk mB.data.toList ∨ ∀ E, ¬ EOk eB.data.toList E) => parse_no H48.out (by rw [← hml, ← hel]; exact h))
    have HV := Lib.hid (fun (h : MOk mB.data.toList) => show hexV mB.data.toList % 2 = 1 ∧ hexV mB.data.toList < 16 ^ mB.size from ⟨h.2.2.2, by rw [← bytes_len]; exact hexV_lt h.1⟩)
    have HMs := Lib.hid hms
    clear hF hFl hbl HCp hFs HKp hm he hml hel hlen hms hes hs
    generalize (Lib.cut F.data.toList [112]).2.2 = fb at HK
    obtain ⟨L, hL⟩ : ∃ L, mB.data.toList = L := ⟨_, rfl⟩
    obtain ⟨L2, hL2⟩ : ∃ L2, eB.data.toList = L2 := ⟨_, rfl⟩
    rw [hL] at HO HY HN HV
    rw [hL2] at HE HY HN
    clear hL hL2
    go_enter Tryz.func31, Tryz.ntmps31
    go_wp2_with fail
    refine (HC.out _).mono ?_
    rintro e w1 ⟨rfl, rfl⟩
    go_wp2_with fail
    refine (HK.out _).mono ?_
    rintro e w2 ⟨rfl, hb⟩
    have HR2 := Lib.hid (HR0.out.below hb HR0.out.lt)
    have HB2 := Lib.hid (below_nx below_one hb)
    clear hb
    go_wp2_with fail
    refine (HO.out _).mono ?_
    rintro e w3 ⟨A, n, c, b, rfl, hO, hn, hb⟩
    have HR3 := Lib.hid (HR2.out.below hb HR2.out.lt)
    have HB3 := Lib.hid (below_nx HB2.out hb)
    have HO3 := Lib.hid hO
    clear hb hO
    go_wp2_with fail
    refine (HE.out _).mono ?_
    rintro e w4 ⟨E, b', rfl, hE, hEn, hb⟩
    have hB := HR3.out.below hb HR3.out.lt
    have HR4 := Lib.hid hB
    have HB4 := Lib.hid (below_nx HB3.out hb)
    have HE4 := Lib.hid hE
    have HEn := Lib.hid hEn
    have HW4 := Lib.hid (fun (h : b = true) => show MOk L ∧ Wh w4 A n c (hexV L : Int) from ⟨((HO3.out).1 h).1, ((HO3.out).1 h).2.below hb⟩)
    have HF4 := Lib.hid (HO3.out.2)
    obtain ⟨r0, r1, r2, r3, f0, f1, f2, f3⟩ := cells4 hB
    clear hb hE hEn hB HO3
    cases b
    · have HX := Lib.hid (HN.out (.inl (HF4.out rfl)))
      go_wp2_with fail
      obtain ⟨k0, k1, k2, k3, _⟩ := cells4 (Blk.store4 HR4.out (.bool false) (.slice none 0 0) (.bool false) (.slice none 0 0))
      exact bodyPost_ret (v := .tuple #[.agg #[.bool false, .slice none 0 0, .bool false, .slice none 0 0], .int .i64 5]) (by simp [results, Tryz.results31, go_sem, k0, k1, k2, k3]) rfl
        ⟨_, 0, 5, rfl, PV.zero _ _ _ _ _, fitp_zero, .inr (.inr ⟨H48.out, HX.out, rfl, rfl⟩), below_four HB4.out _ (Nat.le_refl _) _ _ _ _⟩
    · cases b'
      · have HX := Lib.hid (HN.out (.inr (HE4.out.2 rfl)))
        go_wp2_with fail
        obtain ⟨k0, k1, k2, k3, _⟩ := cells4 (Blk.store4 HR4.out (.bool false) (.slice none 0 0) (.bool false) (.slice none 0 0))
        exact bodyPost_ret (v := .tuple #[.agg #[.bool false, .slice none 0 0, .bool false, .slice none 0 0], .int .i64 5]) (by simp [results, Tryz.results31, go_sem, k0, k1, k2, k3]) rfl
          ⟨_, 0, 5, rfl, PV.zero _ _ _ _ _, fitp_zero, .inr (.inr ⟨H48.out, HX.out, rfl, rfl⟩), below_four HB4.out _ (Nat.le_refl _) _ _ _ _⟩
      · have HX := Lib.hid (HY.out E (HW4.out rfl).1 (HE4.out.1 rfl))
        have HWE := Lib.hid (fun W => wholeOf_any E W (by have := HEn.out; omega) (by have := HEn.out; omega))
        clear r0 r1 r2 r3 f0 f1 f2 f3
        go_wp2_with fail
        refine (HWE.out _).mono ?_
        rintro e w5 ⟨A', n', c', rfl, hW, hb⟩
        have hB := HR4.out.below hb HR4.out.lt
        have HR5 := Lib.hid hB
        have HB5 := Lib.hid (below_nx HB4.out hb)
        have HW5 := Lib.hid ((HW4.out (by trivial)).2.below hb)
        have HW6 := Lib.hid hW
        obtain ⟨r0, r1, r2, r3, f0, f1, f2, f3⟩ := cells4 hB
        clear hb hW hB
        go_wp2_with fail
        clear r0 r1 r2 r3 f0 f1 f2 f3
        obtain ⟨k0, k1, k2, k3, _⟩ := cells4 (Blk.store4 HR5.out (.bool bl) (.slice A n c) (.bool (ng E)) (.slice A' n' c'))
        exact bodyPost_ret (v := .tuple #[.agg #[.bool bl, .slice A n c, .bool (ng E), .slice A' n' c'], .int .i64 0]) (by simp [results, Tryz.results31, go_sem, k0, k1, k2, k3]) rfl
          ⟨_, dy (sgd bl (hexV L)) E, 0, rfl, pv_of (HV.out (HW4.out (by trivial)).1).1 (Wh.store4 HW5.out HR5.out _ _ _ _) (Wh.store4 HW6.out HR5.out _ _ _ _), fitp_of (HV.out (HW4.out (by trivial)).1).1 (HV.out (HW4.out (by trivial)).1).2 HMs.out HEn.out, .inr (.inl ⟨H48.out, HX.out, rfl⟩), below_four HB5.out _ (Nat.le_refl _) _ _ _ _⟩
end Go.Proofs.YtdokpnfmmbkjfaaGreatDoor
