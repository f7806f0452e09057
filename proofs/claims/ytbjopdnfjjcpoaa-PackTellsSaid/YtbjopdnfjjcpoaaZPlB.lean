/-
Where places are cut: the program's list. Conditions: 1 to 4096 places, blocks of at least 1, at most 50 more.
-/
import Derived.Test.YtbjopdnfjjcpoaaPlA
import Derived.Test.YtbjopdnfjjcpoaaShelf
import Derived.Test.YtbjopdnfjjcpoaaVad
import Derived.Test.YtbjopdnfjjcpoaaZVwB
import Derived.Test.YtbjopdnfjjcpoaaZVwH
import Derived.Laws.AppendOwn
set_option linter.unusedVariables false
set_option linter.unusedSimpArgs false
namespace Go.Proofs.Ytbjopdnfjjcpoaa
open Go.RowKit Go.Sort
attribute [local go_sem ↓] Go.wp_at_zero Go.wp_at_succ

theorem i64s_length (l : List Int) : (i64s l).length = l.length := by simp [i64s]
theorem i64s_snoc (l : List Int) (x : Int) : i64s (l ++ [x]) = i64s l ++ [.int .i64 x] := by simp [i64s]
theorem info_i64 : (Try.prog.info? 3).map (fun i => (i.zero, i.size, i.bytes)) = some (some (.int .i64 0), 1, 8) := by kernel_rfl
theorem ii0 : ∃ i, Try.prog.info? 3 = some i ∧ i.zero = some (.int .i64 0) ∧ i.size = 1 ∧ i.bytes = 8 := by
  obtain ⟨i, hi, h⟩ := Option.map_eq_some_iff.1 info_i64
  simp only [Prod.mk.injEq] at h
  exact ⟨i, hi, h.1, h.2.1, h.2.2⟩
theorem own_one (w : World) (t : TypeId) (v : Value) : (w.alloc (.cells #[v] t)).ownsRow w.heap.size t 1 (.slice (some ⟨w.heap.size, 0, none⟩) 1 1) 1 [v] :=
  ⟨rfl, .inr ⟨w.heap.size, 1, #[v], rfl, Nat.le_refl _, heap_alloc_new w _, Nat.le_refl _, by unfold maxLen; omega, rfl, rfl⟩⟩
theorem below_put {α : Type} [Inhabited α] (enc : α → Value) (w : World) (g m : Nat) (d : Array α) (os : Array Obj) (hb : g < w.heap.size) : Below g w (grow (putRow enc (Sort.ahead w m) g 0 d) os) := by
  refine ⟨rfl, rfl, rfl, ?_, fun q hq => ?_⟩
  · show w.heap.size ≤ (grow (putRow enc (Sort.ahead w m) g 0 d) os).heap.size
    unfold grow
    rw [Array.size_append, size_putRow]
    exact Nat.le_add_right _ _
  · show ((putRow enc (Sort.ahead w m) g 0 d).heap ++ os)[q]? = _
    have hs : (putRow enc (Sort.ahead w m) g 0 d).heap.size = w.heap.size := by rw [size_putRow]; rfl
    rw [Array.getElem?_append_left (by omega)]
    show (w.heap.modify g _)[q]? = _
    rw [Array.getElem?_modify, if_neg (by omega)]
theorem blk_put {α : Type} [Inhabited α] {w : World} {g : Nat} {t : TypeId} {cur : Array Value} (h : Blk w g t cur) (enc : α → Value) (m : Nat) (d : Array α) (os : Array Obj) : Blk (grow (putRow enc (Sort.ahead w m) g 0 d) os) g t (putCells enc 0 d cur) := by
  have hl := h.lt
  unfold Blk at *
  show ((putRow enc (Sort.ahead w m) g 0 d).heap ++ os)[g]? = _
  have hs : (putRow enc (Sort.ahead w m) g 0 d).heap.size = w.heap.size := by rw [size_putRow]; rfl
  rw [Array.getElem?_append_left (by omega)]
  show (w.heap.modify g _)[g]? = _
  rw [Array.getElem?_modify, if_pos rfl, h]
  rfl
theorem put_take (d : List Int) (cur : Array Value) (h : d.length ≤ cur.size) : (putCells (Value.int .i64) 0 d.toArray cur).toList.take d.length = i64s d := by
  apply List.ext_getElem?
  intro j
  rw [List.getElem?_take]
  by_cases hj : j < d.length
  · rw [if_pos hj, Array.getElem?_toList]
    unfold putCells
    rw [Array.getElem?_mapIdx, Array.getElem?_eq_getElem (by omega), i64s_get d j hj]
    simp [hj]
  · rw [if_neg hj, List.getElem?_eq_none (by rw [i64s_length]; omega)]
theorem holds_of {w : World} {g : Nat} {t : TypeId} {cs : Array Value} {zs : List Int} (hB : Blk w g t cs) (ht : cs.toList.take zs.length = i64s zs) : Go.Sort.Holds (Value.int .i64) w g 0 zs.toArray := fun j hj => by
  have hj' : j < zs.length := by simpa using hj
  refine ⟨?_, hB.frozen _⟩
  have e := congrArg (fun l => l[j]?) ht
  simp only [List.getElem?_take, if_pos hj', Array.getElem?_toList] at e
  rw [Nat.zero_add, hB.cell j, e, i64s_get zs j hj', getElem!_pos zs.toArray j hj]
  simp
/-- slices.Sort at a list of the call's own. -/
theorem sort_own {w : World} {g cap : Nat} {t : TypeId} {cs : Array Value} {zs : List Int} (hB : Blk w g t cs) (ht : cs.toList.take zs.length = i64s zs) (hz : zs.length < 1048576) (hc : zs.length ≤ cs.size) :
    Calls Try.prog 39 #[.slice (some ⟨g, 0, none⟩) zs.length cap] w fun e w' => e = .returned (.tuple #[]) ∧ ∃ cs', Blk w' g t cs' ∧ cs'.size = cs.size ∧ cs'.toList.take zs.length = i64s (zs.mergeSort fun x y => decide (x ≤ y)) ∧ Below g w w' := by
  have hl : (zs.mergeSort fun x y => decide (x ≤ y)).length = zs.length := List.length_mergeSort zs
  refine (Try.slices_Sort_int g 0 cap zs w (holds_of hB ht) hB.lt (by omega)).mono ?_
  rintro e w' ⟨rfl, n, os, rfl⟩
  refine ⟨rfl, _, blk_put hB _ n _ os, by simp [putCells], ?_, below_put _ w g n _ os hB.lt⟩
  rw [← hl]
  exact put_take _ cs (by omega)
theorem compact_len (zs : List Int) : (Lib.compact zs).length ≤ zs.length := by
  unfold Lib.compact Lib.compactUpTo
  rw [List.length_map]
  exact Nat.le_trans (List.length_filter_le _ _) (by simp)
/-- slices.Compact at a list of the call's own. -/
theorem compact_own {w : World} {g cap : Nat} {t : TypeId} {cs : Array Value} {zs : List Int} (hB : Blk w g t cs) (ht : cs.toList.take zs.length = i64s zs) (hz : zs.length < 1048576) (hc : zs.length ≤ cs.size) (hcap : zs.length ≤ cap) :
    Calls Try.prog 40 #[.slice (some ⟨g, 0, none⟩) zs.length cap] w fun e w' => e = .returned (.slice (some ⟨g, 0, none⟩) (Lib.compact zs).length cap) ∧ Row w' (some ⟨g, 0, none⟩) (i64s (Lib.compact zs)) ∧ Below g w w' := by
  have hl := compact_len zs
  refine (Try.slices_Compact_int g 0 cap zs w (holds_of hB ht) (by omega) hcap).mono ?_
  rintro e w' ⟨rfl, q, rfl⟩
  have hb := below_put (Value.int .i64) w g q (Lib.compact zs ++ List.replicate (zs.length - (Lib.compact zs).length) 0).toArray #[] hB.lt
  have hk := blk_put hB (Value.int .i64) q (Lib.compact zs ++ List.replicate (zs.length - (Lib.compact zs).length) 0).toArray #[]
  rw [grow_empty] at hb hk
  refine ⟨rfl, .inr ⟨g, 0, rfl, fun i v hi => ?_⟩, hb⟩
  have hp := put_take (Lib.compact zs ++ List.replicate (zs.length - (Lib.compact zs).length) 0) cs (by simp; omega)
  have hi2 : i < (Lib.compact zs).length := by
    have := (List.getElem?_eq_some_iff.1 hi).1
    rwa [i64s_length] at this
  have e := congrArg (fun l => l[i]?) hp
  simp only [List.getElem?_take, if_pos (show i < (Lib.compact zs ++ List.replicate (zs.length - (Lib.compact zs).length) 0).length by simp; omega), Array.getElem?_toList] at e
  rw [Nat.zero_add, hk.cell i, e, ← hi]
  unfold i64s
  rw [List.map_append, List.getElem?_append_left (by simpa using hi2)]
end Go.Proofs.Ytbjopdnfjjcpoaa
