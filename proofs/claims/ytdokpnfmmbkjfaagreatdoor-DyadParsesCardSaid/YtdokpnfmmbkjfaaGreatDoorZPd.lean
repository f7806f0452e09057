/-
strings.Cut at p; a text's bytes from its end. Conditions: the text isn't too long.
-/
import Derived.Test.YtdokpnfmmbkjfaaGreatDoorGq
import Derived.Test.YtdokpnfmmbkjfaaGreatDoorShelf
import Derived.Test.YtdokpnfmmbkjfaaGreatDoorZW5
import Derived.RangeFuncNested
import Derived.RangeFuncBound
import Derived.RangeFuncCalls
import Derived.RangeFuncLeaves
import Derived.Shelf.Abstract
import Derived.Shelf.RegionOpen
import Derived.OwnWalkIn
import Derived.TacticsInMore
import Derived.LoopNIn
import Derived.LoopIn
set_option linter.unusedVariables false
set_option linter.unusedSimpArgs false
namespace Go.Proofs.YtdokpnfmmbkjfaaGreatDoor
open Go.RowKit Go.Shelf
attribute [local go_sem ↓] Go.wp_at_zero Go.wp_at_succ

theorem wi_in {z : Int} (h : z.natAbs ≤ 1125899906842624) : IntKind.i64.wrap z = z := IntWalk.i64_in _ (by omega)
theorem idxp_any (s : ByteArray) (w : World) :
    Calls Tryz.prog 129 #[.string s, .string ⟨#[112]⟩] w fun e w' => e = .returned (.int .i64 (Lib.indexByte s.data.toList 112)) ∧ w' = w := by
  cases h : ([112] == s.toList) with
  | true =>
    have hs : s.data.toList = [112] := by rw [← Lib.toList_data]; exact (eq_of_beq h).symm
    rw [hs]
    clear hs
    go_enter Tryz.func129, Tryz.ntmps129
    go_wp2_with fail
    go_ret
    exact ⟨rfl, rfl⟩
  | false =>
    go_enter Tryz.func129, Tryz.ntmps129
    go_wp2_with fail
    refine (Tryz.stringslite_IndexByte s _ _).mono ?_
    rintro e w1 ⟨rfl, rfl⟩
    go_wp2_with fail
    go_ret
    exact ⟨rfl, rfl⟩
theorem slcut_any (s : ByteArray) (w : World) (hs : s.size ≤ 4096) :
    Calls Tryz.prog 103 #[.string s, .string ⟨#[112]⟩] w fun e w' => e = .returned (.tuple #[.string ⟨(Lib.cut s.data.toList [112]).1.toArray⟩, .string ⟨(Lib.cut s.data.toList [112]).2.1.toArray⟩, .bool (Lib.cut s.data.toList [112]).2.2]) ∧ Below w.heap.size w w' := by
  have hge := Lib.indexByte_ge s.data.toList 112
  by_cases h : 0 ≤ Lib.indexByte s.data.toList 112
  · obtain ⟨i, hi⟩ : ∃ i : Nat, Lib.indexByte s.data.toList 112 = i := ⟨(Lib.indexByte s.data.toList 112).toNat, by omega⟩
    obtain ⟨h1, h2⟩ := Lib.indexByte_some hi
    have hl : i < s.size := by
      have := (List.getElem?_eq_some_iff.1 h1).1
      simpa using this
    obtain ⟨c1, c2, c3⟩ := Lib.cutB_hit s ⟨#[112]⟩ i (by show Lib.index _ [112] = _; rw [Lib.index_one]; exact hi)
    have d1 : (⟨(Lib.cut s.data.toList [112]).1.toArray⟩ : ByteArray) = s.extract 0 i := c1
    have d2 : (⟨(Lib.cut s.data.toList [112]).2.1.toArray⟩ : ByteArray) = s.extract (i + 1) s.size := c2
    have d3 : (Lib.cut s.data.toList [112]).2.2 = true := c3
    rw [d1, d2, d3]
    have HI := Lib.hid (fun W => idxp_any s W)
    rw [hi] at HI
    have ht : decide ((0 : Int) ≤ (i : Int)) = true := by simp
    have hi1 : i ≤ s.size := by omega
    obtain ⟨j, hj⟩ : ∃ j, i + 1 = j := ⟨_, rfl⟩
    rw [hj]
    have e1 : (i : Int) + 1 = (j : Int) := by omega
    have e2 : wrap64 (j : Int) = (j : Int) := by unfold wrap64; omega
    have e3 : IntKind.i64.wrap (j : Int) = (j : Int) := wi_in (by omega)
    have hj1 : j ≤ s.size := by omega
    have HJ := Lib.hid hj
    clear hge h hi h1 h2 hl hs hj c1 c2 c3 d1 d2 d3
    go_enter Tryz.func103, Tryz.ntmps103
    go_wp2_with fail
    refine (HI.out _).mono ?_
    rintro e w1 ⟨rfl, rfl⟩
    go_wp2_with fail
    go_quiet (fail)
    go_wp2_with fail
    exact bodyPost_ret (v := .tuple #[.string (s.extract 0 i), .string (s.extract j s.size), .bool true]) (by simp [results, Tryz.results103, go_sem]) rfl ⟨rfl, below_drewN (Below.refl _ _) _⟩
  · have hi : Lib.indexByte s.data.toList 112 = -1 := by omega
    obtain ⟨c1, c2, c3⟩ := Lib.cutB_miss s ⟨#[112]⟩ (by show Lib.index _ [112] = _; rw [Lib.index_one]; exact hi)
    have d1 : (⟨(Lib.cut s.data.toList [112]).1.toArray⟩ : ByteArray) = s := c1
    have d2 : (⟨(Lib.cut s.data.toList [112]).2.1.toArray⟩ : ByteArray) = ByteArray.empty := c2
    have d3 : (Lib.cut s.data.toList [112]).2.2 = false := c3
    rw [d1, d2, d3]
    have HI := Lib.hid (fun W => idxp_any s W)
    rw [hi] at HI
    clear hge h hi hs c1 c2 c3 d1 d2 d3
    go_enter Tryz.func103, Tryz.ntmps103
    go_wp2_with fail
    refine (HI.out _).mono ?_
    rintro e w1 ⟨rfl, rfl⟩
    go_wp2_with fail
    exact bodyPost_ret (v := .tuple #[.string s, .string ByteArray.empty, .bool false]) (by simp [results, Tryz.results103, go_sem]; rfl) rfl ⟨rfl, Below.refl _ _⟩
theorem scut_any (s : ByteArray) (w : World) (hs : s.size ≤ 4096) :
    Calls Tryz.prog 72 #[.string s, .string ⟨#[112]⟩] w fun e w' => e = .returned (.tuple #[.string ⟨(Lib.cut s.data.toList [112]).1.toArray⟩, .string ⟨(Lib.cut s.data.toList [112]).2.1.toArray⟩, .bool (Lib.cut s.data.toList [112]).2.2]) ∧ Below w.heap.size w w' := by
  have HI := Lib.hid (fun W => slcut_any s W hs)
  clear hs
  go_enter Tryz.func72, Tryz.ntmps72
  go_wp2_with fail
  refine (HI.out _).mono ?_
  rintro e w1 ⟨rfl, hb⟩
  have HB := Lib.hid hb
  clear hb
  go_wp2_with fail
  exact bodyPost_ret (v := .tuple #[.string ⟨(Lib.cut s.data.toList [112]).1.toArray⟩, .string ⟨(Lib.cut s.data.toList [112]).2.1.toArray⟩, .bool (Lib.cut s.data.toList [112]).2.2]) (by simp [results, Tryz.results72, go_sem]) rfl ⟨rfl, HB.out⟩
end Go.Proofs.YtdokpnfmmbkjfaaGreatDoor
