/-
Block: what is right, what fits, parts. Conditions: as each says.
-/
import Derived.Test.YtcdhpoikppfjkaaZAMvF
import Derived.Test.YtcdhpoikppfjkaaWbah
import Derived.Test.YtcdhpoikppfjkaaWbai
import Derived.Test.YtcdhpoikppfjkaaWbag
import Derived.Deep.MidRow
set_option linter.unusedVariables false
set_option linter.unusedSimpArgs false
set_option linter.unnecessarySimpa false
namespace Go.Proofs.Ytcdhpoikppfjkaa
open Go.RowKit
attribute [local go_sem ↓] Go.wp_at_zero Go.wp_at_succ

theorem cells2j {w : World} {g : Nat} {t : TypeId} {v0 v1 : Value} (h : Blk w g t #[v0, v1]) : w.cell? ⟨g, 0, none⟩ = some v0 ∧ w.cell? ⟨g, 1, none⟩ = some v1 := ⟨h.cell 0, h.cell 1⟩
theorem blk_there {w : World} {g : Nat} {t : TypeId} {cs : Array Value} (h : Blk w g t cs) : w.there g 0 cs.size := fun j hj => by
  have h1 := h.cell j
  rw [Array.getElem?_eq_getElem hj] at h1
  rw [Nat.zero_add]
  exact ⟨by rw [h1]; rfl, h.frozen j⟩
theorem blk_setRow {g : Nat} {t : TypeId} : ∀ (zs cur pre : List Value) (w : World), cur.length = zs.length → Blk w g t (pre ++ cur).toArray → Blk (w.setCells g pre.length zs) g t (pre ++ zs).toArray
  | [], cur, pre, w, hl, h => by
    obtain rfl : cur = [] := List.length_eq_zero_iff.1 (by simpa using hl)
    exact h
  | z :: zs, [], pre, w, hl, h => by simp at hl
  | z :: zs, c :: cur, pre, w, hl, h => by
    have h1 := h.set_ pre.length z
    have h2 : Blk (w.setCell ⟨g, pre.length, none⟩ z) g t ((pre ++ [z]) ++ cur).toArray := by simpa using h1
    have h3 := blk_setRow zs cur (pre ++ [z]) _ (by simpa using hl) h2
    rw [World.setCells]
    simpa using h3
theorem blk_setElse {g b : Nat} {t : TypeId} {cs : Array Value} (hne : b ≠ g) : ∀ (zs : List Value) (o : Nat) (w : World), Blk w b t cs → Blk (w.setCells g o zs) b t cs
  | [], _, _, h => h
  | z :: zs, o, w, h => blk_setElse hne zs (o + 1) _ (h.other (p := ⟨g, o, none⟩) (by simpa using hne) z)
theorem below_setRow {g B : Nat} {w0 : World} (hB : B ≤ g) : ∀ (zs : List Value) (o : Nat) (w : World), Below B w0 w → Below B w0 (w.setCells g o zs)
  | [], _, _, h => h
  | z :: zs, o, w, h => below_setRow hB zs (o + 1) _ (h.setCell (p := ⟨g, o, none⟩) hB z)
/-- A struct is stored where one of as many cells lies. -/
theorem wpList_store_new {P : Program} {ops : Array Oper} {rest : List Oper} {op : Oper} {a : Act} {w : World} {Q : Exit → Act → World → Prop} (hgd : op.guard = none) (ty : TypeId) (x y : Operand) (ho : op.op = .store ty x y) (b : Nat) (cells : Array Value) (hx : a.eval x = .pointer (some ⟨b, 0, none⟩)) (hy : a.eval y = .agg cells)
    {t : TypeId} {cur : Array Value} (hB : Blk w b t cur) (hs : cur.size = cells.size) (hi : (P.info? ty).map (·.size) = some cells.size) (h1 : cells.all (·.oneCell') = true)
    (h : ∀ w', Blk w' b t cells → (∀ g t' cs, g ≠ b → Blk w g t' cs → Blk w' g t' cs) → (∀ B w0, B ≤ b → Below B w0 w → Below B w0 w') → wpList P ops Q rest (a.put op.dst undef) w') : wpList P ops Q (op :: rest) a w :=
  wpList_store_mid hgd ty x y ho b 0 cells hx hy (hs ▸ blk_there hB) hi h1 (h _ (by
    have h2 := blk_setRow cells.toList cur.toList [] w (by simpa using hs) (by simpa using hB)
    simpa using h2) (fun g t' cs hne hb => blk_setElse hne _ _ _ hb) (fun B w0 hle hb => below_setRow hle _ _ _ hb))
end Go.Proofs.Ytcdhpoikppfjkaa
