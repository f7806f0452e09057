/-
What the listed tables give the walks. Conditions: the tables are listed.
-/
import Derived.Test.YtbkbeglmfhaleaaGreatDoorW5
import Derived.Lib.LaidU8
set_option linter.unusedVariables false
namespace Go.Proofs.YtbkbeglmfhaleaaGreatDoor
open Go.RowKit

theorem tab_of_reads {P : Program} {W : World} {name : String} {k : IntKind} {zs : List Int} {g : Nat} {t e : TypeId} {n : Nat}
    (hg : P.globalNamed name = some g) (hty : (P.globals[g]?).map (·.type) = some t) (ht : P.underlying t = some (.array n e)) (he : P.underlying e = some (.int k)) (hce : P.cellsOf e = 1) (hct : P.cellsOf t = n)
    (h : Lib.VarReads P W name (Lib.tabData k zs)) : Lib.TabIs P W name k zs := by
  obtain ⟨g', t', cs, fuel, p, hg', ht', hvar, hd⟩ := h
  obtain rfl := Option.some.inj (hg.symm.trans hg')
  obtain rfl := Option.some.inj (hty.symm.trans ht')
  unfold Lib.TabIs
  rw [hvar, ← Lib.cells_of_tab ht he hce hct hd]
theorem Glob.of_reads {W : World} (h1 : Lib.VarReads Tryz.prog W "math/bits.deBruijn64tab" (Lib.tabData .u8 (Lib.deBruijn64tab.map fun n : Nat => (n : Int))))
    (h2 : Lib.VarReads Tryz.prog W "internal/strconv.uint64pow10" (Lib.tabData .u64 Lib.pow10Tab)) : Glob W := by
  have t1 := tab_of_reads (P := Tryz.prog) (g := 3) (t := 163) (e := 5) (n := 64) (by kernel_rfl) (by kernel_rfl) Tryz.underlying163 Tryz.underlying5 (by kernel_rfl) (by kernel_rfl) h1
  have t2 := tab_of_reads (P := Tryz.prog) (g := 4) (t := 165) (e := 58) (n := 20) (by kernel_rfl) (by kernel_rfl) Tryz.underlying165 Tryz.underlying58 (by kernel_rfl) (by kernel_rfl) h2
  refine ⟨fun j hj => ?_, ?_⟩
  · have := t1.cell (g := 3) (by kernel_rfl) j (by simpa using hj)
    rw [this]
    congr 2
    simp [List.getD, hj]
  · have hg : Tryz.prog.globalNamed "internal/strconv.uint64pow10" = some 4 := by kernel_rfl
    unfold Lib.TabIs World.var? at t2
    rw [hg] at t2
    simp only [Option.bind_some] at t2
    cases hw : W.heap[(4 : Nat)]? with
    | none => rw [hw] at t2; cases t2
    | some o =>
      rw [hw] at t2
      cases o with
      | cells cs t r => exact ⟨t, r, by rw [← Option.some.inj t2]⟩
      | _ => cases t2
end Go.Proofs.YtbkbeglmfhaleaaGreatDoor
