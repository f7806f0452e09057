/-
What the proof rests on: laws of floats, lists, memory and the walks of the functions. Conditions: as each says.
-/
import Derived.Below
import Derived.ChangeSame
import Derived.Laws.Cover2
import Derived.Test.YtjjneiidggcfdaaRows
import Derived.KernelRfl
import Derived.WalkKit
import Derived.Laws.Rows
import Derived.Deep.Draws
import Derived.Laws.OwnMore
import Derived.Lib.Hide
import Derived.Laws.FloatBits
import GoSem.Core.Float
import Derived.WalkLawsBesides
import Derived.Laws.BitsAllLaws
import Derived.WalkSpells
import Derived.LoopTactic
import Derived.Outline
import Derived.Laws.Externs
import Derived.Deep.QuietTactic
import Derived.BigQuiet
import Derived.RegionTactic
import Derived.Deep.Slices
import Derived.Deep.Fields
import Derived.Laws.FloatArith
import Derived.Deep.RegionHeld3
import Derived.Deep.DrawnRows
import Derived.Deep.DeepCutAuto
import Derived.Deep.CutBlock
import Derived.Deep.OwnRows
import Derived.IntWalk
import Derived.Deep.RegionWith
import Derived.Laws.AppendOwn
import Derived.LaidEqlPtr
import Derived.BigRegion
import Derived.Orders
import Derived.RowKit3
import Derived.Lib.BitFns
set_option linter.unusedVariables false
namespace Go.Proofs.Ytjjneiidggcfdaa
open Go.RowKit Go.WideShapes Go.ChangeShapes

section
variable {H : Type} {enc : TypeId × Value → H} {P : Program}
theorem post_of_below {f : Func} {s : ChangeSpec} {apart fresh handsOn again : Bool} {W W' : World} {args : Array Value} {v : Value} {ds gs : List (DataW H)} {before pa pv : List MemPlace}
    (hW : DataW.Whole enc P f.params.toList s.vars apart W args.toList ds gs before)
    (hres : ∀ (b : Nat) (sp : Nat → Bool) (hd : Bool), DataW.TrodAll enc P W' b sp hd f.resultTypes.toList (v.resultList f.resultTypes.size) (s.fn H (ds ++ gs)).results [])
    (hargs : ∀ sp : Nat → Bool, (∀ p ∈ before, sp p.block = true) → DataW.TrodAll enc P W' 0 sp true f.params.toList args.toList (s.fn H (ds ++ gs)).args pa)
    (hvars : ∀ sp : Nat → Bool, (∀ p ∈ before, sp p.block = true) → DataW.TrodVars enc P W' sp s.vars (s.fn H (ds ++ gs)).vars pv)
    (hps : before = pa ++ pv) (hb : Below W.heap.size W W')
    (hok : ∀ (j : Nat) (t : TypeId) (r : Value), f.resultTypes[j]? = some t → (v.resultList f.resultTypes.size)[j]? = some r → Value.okWide P W' .any 0 t r) :
    s.post enc P f apart fresh handsOn again W args v W' := by
  have hlt : ∀ p ∈ before, p.block < W.heap.size := fun p hp => hW.lt p hp
  have hold : ∀ p ∈ before, (fun b => decide (b < W.heap.size)) p.block = true := fun p hp => by simpa using hlt p hp
  refine ⟨ds, gs, before, [], pa, pv, hW, hres _ _ _, hargs _ hold, hvars _ hold, World.keptBut_mono (fun p hp => ⟨hp, ?_⟩) (hb.frame (· ∈ before)), fun _ => ?_⟩
  · rw [hps, List.mem_append] at hp
    exact Or.inr hp
  · obtain ⟨_, _, _, _, _, hz, hn⟩ := hW
    refine ⟨hok, _, _, ([] ++ pa) ++ pv, ⟨[] ++ pa, pv, trodAll_append (hargs _ (fun _ _ => rfl)) (hres _ _ _), hvars _ (fun _ _ => rfl), rfl, ?_, ?_⟩, ?_⟩
    · intro b off hp
      have hin : MemPlace.cell b off ∈ before := by rw [hps]; simpa using hp
      rw [hb.frozen (hlt _ hin)]
      exact hz b off hin
    · intro ha
      have := hn ha
      rw [hps] at this
      simpa using this
    · intro p hp _
      rw [hps]
      simpa using hp
end
end Go.Proofs.Ytjjneiidggcfdaa
set_option linter.unusedVariables false
namespace Go.Proofs.Ytjjneiidggcfdaa
open Go.RowKit Go.WideShapes Go.ChangeShapes

/-- The types lead to each other alone, and each slice's elements take room. -/
def fineAt (P : Program) (L : List TypeId) (t : TypeId) : Bool := match P.underlying t with
  | some (.slice e) => decide (0 < P.cellsOf e) && L.contains e
  | some (.pointer e) => L.contains e
  | some (.struct fs) => fs.toList.all fun f => L.contains f.type
  | some (.array _ e) => L.contains e
  | some (.map _ e) => L.contains e
  | _ => true
def Fine (P : Program) (L : List TypeId) : Prop := L.all (fineAt P L) = true
theorem Fine.at_ {P : Program} {L : List TypeId} (h : Fine P L) {t : TypeId} (ht : t ∈ L) : fineAt P L t = true := List.all_eq_true.1 h t ht

section
variable {H : Type} {enc : TypeId × Value → H} {P : Program}
theorem trod_spare {L : List TypeId} (hz : Fine P L) {w : World} {sp : Nat → Bool} : ∀ (n : Nat) (t : TypeId) (cs : List Value) (x : DataW H × List MemPlace), t ∈ L →
    DataW.trod enc P w 0 (fun _ => true) true n t cs = some x → (∀ p ∈ x.2, sp p.block = true) → DataW.trod enc P w 0 sp true n t cs = some x := by
  intro n
  induction n with
  | zero => intro t cs x _ h; simp [DataW.trod] at h
  | succ n ih =>
    intro t cs x htL h hs
    have hat := hz.at_ htL
    unfold fineAt at hat
    rw [DataW.trod_step] at h ⊢
    unfold DataW.trodStep at h ⊢
    split at h
    case h_6 e a ht =>
      rw [ht] at hat
      have hin : e ∈ L := by simpa using hat
      simp only [Option.map_eq_some_iff, Option.bind_eq_some_iff] at h ⊢
      obtain ⟨y, ⟨cs', hc, hy⟩, rfl⟩ := h
      exact ⟨y, ⟨cs', hc, ih _ _ _ hin hy fun p hp => hs p (by simp [hp])⟩, rfl⟩
    case h_8 e a len cap ht =>
      rw [ht] at hat
      have hin : e ∈ L := by simp at hat; exact hat.2
      have hpe : 0 < P.cellsOf e := by simp at hat; exact hat.1
      simp only at h ⊢
      split at h
      · rename_i hc
        rw [if_pos hc]
        simp only [Option.map_eq_some_iff, Option.bind_eq_some_iff] at h ⊢
        obtain ⟨elems, he, rest, hrest, rfl⟩ := h
        rw [if_pos trivial] at hrest
        have hlen : elems.length = len := by simpa using mapM_some_length he
        have hrl : rest.length = cap - len := by simpa using mapM_some_length hrest
        refine ⟨elems, mapM_carry he (fun i y hi hy hv => ?_), rest, ?_, rfl⟩
        · simp only [Option.bind_eq_some_iff] at hv ⊢
          obtain ⟨cs', h1, h2⟩ := hv
          exact ⟨cs', h1, ih _ _ _ hin h2 fun p hp => hs p (List.mem_append_right _ (List.mem_flatMap.2 ⟨y, List.mem_append_left _ hy, hp⟩))⟩
        · by_cases hcap : cap = 0
          · have : rest = [] := List.length_eq_zero_iff.1 (by omega)
            subst this
            split
            · have e0 : cap - len = 0 := by omega
              rw [e0]; rfl
            · rfl
          · have hsp : sp a.block = true := by
              have hm : MemPlace.cell a.block (a.off + 0) ∈ MemPlace.row a ((elems.length + rest.length) * P.cellsOf e) :=
                MemPlace.mem_row.2 ⟨0, Nat.mul_pos (by omega) hpe, rfl⟩
              exact hs _ (List.mem_append_left _ hm)
            rw [if_pos hsp]
            refine mapM_carry hrest (fun i y hi hy hv => ?_)
            simp only [Option.bind_eq_some_iff] at hv ⊢
            obtain ⟨cs', h1, h2⟩ := hv
            exact ⟨cs', h1, ih _ _ _ hin h2 fun p hp => hs p (List.mem_append_right _ (List.mem_flatMap.2 ⟨y, List.mem_append_right _ hy, hp⟩))⟩
      · cases h
    case h_9 fs ht =>
      rw [ht] at hat
      split at h
      · rename_i hc
        rw [if_pos hc]
        simp only [Option.map_eq_some_iff] at h ⊢
        obtain ⟨xs, hx, rfl⟩ := h
        exact ⟨xs, mapM_carry hx (fun f y hf hy hv => ih _ _ _ (by simpa using List.all_eq_true.1 hat f hf) hv (fun p hp => hs p (List.mem_flatMap.2 ⟨y, hy, hp⟩))), rfl⟩
      · cases h
    case h_10 m e ht =>
      rw [ht] at hat
      have hin : e ∈ L := by simpa using hat
      split at h
      · rename_i hc
        rw [if_pos hc]
        simp only [Option.map_eq_some_iff] at h ⊢
        obtain ⟨xs, hx, rfl⟩ := h
        exact ⟨xs, mapM_carry hx (fun f y hf hy hv => ih _ _ _ hin hv (fun p hp => hs p (List.mem_flatMap.2 ⟨y, hy, hp⟩))), rfl⟩
      · cases h
    case h_14 k e b ht =>
      rw [ht] at hat
      have hin : e ∈ L := by simpa using hat
      split at h
      · rename_i es clock hb
        split at h
        · rename_i hc
          rw [if_pos hc]
          simp only [Option.bind_eq_some_iff] at h ⊢
          obtain ⟨entries, he, hd⟩ := h
          split at hd
          · rename_i hris
            have hx := Option.some.inj hd
            subst hx
            refine ⟨entries, mapM_carry he (fun x y _ hy hv => ?_), by simp [hris]⟩
            simp only [Option.bind_eq_some_iff] at hv ⊢
            obtain ⟨key, hk, hq⟩ := hv
            refine ⟨key, hk, ?_⟩
            split at hq
            · rename_i hf
              rw [if_pos hf]
              simp only [Option.map_eq_some_iff] at hq ⊢
              obtain ⟨q, hq, rfl⟩ := hq
              exact ⟨q, ih _ _ _ hin hq (fun p hp => hs p (by simp only [List.mem_cons, List.mem_flatMap]; right; exact ⟨_, hy, hp⟩)), rfl⟩
            · cases hq
          · cases hd
        · cases h
      · cases h
    all_goals exact h

/-- The arguments read as they did, where nothing below changed. -/
theorem trodAll_again {L : List TypeId} (hz : Fine P L) {W W' : World} {sp : Nat → Bool} : ∀ {ts : List TypeId} {vs : List Value} {ds : List (DataW H)} {ps : List MemPlace}, (∀ t ∈ ts, t ∈ L) →
    DataW.TrodAll enc P W 0 (fun _ => true) true ts vs ds ps → (∀ p ∈ ps, p.block < W.heap.size) → Below W.heap.size W W' → (∀ p ∈ ps, sp p.block = true) →
    DataW.TrodAll enc P W' 0 sp true ts vs ds ps
  | [], [], [], _, _, h, _, _, _ => h
  | t :: _, _ :: _, _ :: _, _, hin, ⟨p, q, ⟨n, h1⟩, h2, e⟩, hlt, hb, hs => by
    subst e
    refine ⟨p, q, ⟨n, ?_⟩, trodAll_again hz (fun y hy => hin y (List.mem_cons_of_mem _ hy)) h2 (fun x hx => hlt x (List.mem_append_right _ hx)) hb (fun x hx => hs x (List.mem_append_right _ hx)), rfl⟩
    refine trod_spare hz n _ _ _ (hin t (List.mem_cons_self ..)) (DataW.trod_carry n _ _ _ h1 fun x hx => ?_) (fun x hx => hs x (List.mem_append_left _ hx))
    have hx' := hlt x (List.mem_append_left _ hx)
    cases x with
    | cell b off => exact hb.cell (p := ⟨b, off, none⟩) hx'
    | map b => exact hb.block b hx'

theorem post_again {L : List TypeId} (hz : Fine P L) {f : Func} {s : ChangeSpec} {apart fresh handsOn again : Bool} {W W' : World} {args : Array Value} {v : Value} {ds gs : List (DataW H)} {before : List MemPlace}
    (hW : DataW.Whole enc P f.params.toList s.vars apart W args.toList ds gs before) (hn : s.vars = []) (hin : ∀ t ∈ f.params.toList, t ∈ L)
    (hres : ∀ (b : Nat) (sp : Nat → Bool) (hd : Bool), DataW.TrodAll enc P W' b sp hd f.resultTypes.toList (v.resultList f.resultTypes.size) (s.fn H (ds ++ gs)).results [])
    (ha : (s.fn H (ds ++ gs)).args = ds) (hv : (s.fn H (ds ++ gs)).vars = []) (hb : Below W.heap.size W W')
    (hok : ∀ (j : Nat) (t : TypeId) (r : Value), f.resultTypes[j]? = some t → (v.resultList f.resultTypes.size)[j]? = some r → Value.okWide P W' .any 0 t r) :
    s.post enc P f apart fresh handsOn again W args v W' := by
  have hlt := hW.lt
  have hW' := hW
  obtain ⟨p, q, hA, hV, rfl, hfz, hnd⟩ := hW
  have hq : q = [] := by
    rw [hn] at hV
    cases gs with
    | nil => exact hV
    | cons a b => cases hV
  subst hq
  have hvs : ∀ sp, DataW.TrodVars enc P W' sp s.vars (s.fn H (ds ++ gs)).vars [] := fun sp => by rw [hv, hn]; rfl
  refine post_of_below (pa := p) (pv := []) hW' hres (fun sp hsp => ?_) (fun sp _ => hvs sp) rfl hb hok
  rw [ha]
  exact trodAll_again hz hin hA (fun x hx => hlt x (by simpa using hx)) hb (fun x hx => hsp x (by simpa using hx))
end
end Go.Proofs.Ytjjneiidggcfdaa
set_option linter.unusedVariables false
namespace Go.Proofs.Ytjjneiidggcfdaa

/-- The m and the e of the canonical form. -/
def mant : Dyadic → Int | .zero => 0 | .ofOdd n _ _ => n
def expo : Dyadic → Int | .zero => 0 | .ofOdd _ k _ => -k
end Go.Proofs.Ytjjneiidggcfdaa
set_option linter.unusedVariables false
namespace Go.Proofs.Ytjjneiidggcfdaa

/-- The number of digits to base B, the lowest first. -/
def ofd (B : Nat) : List Nat → Nat
  | [] => 0
  | d :: l => d + B * ofd B l
/-- The digits, none at the end that is 0. -/
def digs (B n : Nat) : List Nat := if _h : n = 0 ∨ B < 2 then [] else n % B :: digs B (n / B)
  termination_by n
  decreasing_by exact Nat.div_lt_self (by omega) (by omega)

theorem ofd_cons (B d : Nat) (l : List Nat) : ofd B (d :: l) = d + B * ofd B l := rfl
theorem digs_zero (B : Nat) : digs B 0 = [] := by rw [digs]; simp
theorem digs_pos {B n : Nat} (hB : 2 ≤ B) (h : n ≠ 0) : digs B n = n % B :: digs B (n / B) := by rw [digs, dif_neg (by omega)]
theorem ofd_digs {B : Nat} (hB : 2 ≤ B) (n : Nat) : ofd B (digs B n) = n := by
  induction n using Nat.strongRecOn with
  | ind n ih =>
    by_cases h : n = 0
    · subst h; rw [digs_zero]; rfl
    · rw [digs_pos hB h, ofd_cons, ih _ (Nat.div_lt_self (by omega) (by omega))]
      exact Nat.mod_add_div n B
/-- All digits are below B. -/
def Digs (B : Nat) (l : List Nat) : Prop := ∀ d ∈ l, d < B
theorem Digs.nil (B : Nat) : Digs B [] := fun _ h => by cases h
theorem Digs.cons {B d : Nat} {l : List Nat} (h : d < B) (hl : Digs B l) : Digs B (d :: l) := fun x hx => by
  rcases List.mem_cons.1 hx with rfl | hx
  · exact h
  · exact hl x hx
theorem Digs.take {B : Nat} {l : List Nat} (h : Digs B l) (n : Nat) : Digs B (l.take n) := fun x hx => h x (List.mem_of_mem_take hx)
theorem Digs.set {B : Nat} {l : List Nat} (h : Digs B l) (i : Nat) {d : Nat} (hd : d < B) : Digs B (l.set i d) := fun x hx => by
  rcases List.mem_or_eq_of_mem_set hx with hx | rfl
  · exact h x hx
  · exact hd
theorem Digs.replicate {B : Nat} (hB : 0 < B) (n : Nat) : Digs B (List.replicate n 0) := fun x hx => by
  rw [List.mem_replicate] at hx; omega
theorem Digs.get {B : Nat} {l : List Nat} (h : Digs B l) (i : Nat) (hi : i < l.length) : l[i] < B := h _ (List.getElem_mem hi)
theorem digs_eq_nil {B : Nat} (hB : 2 ≤ B) (n : Nat) : digs B n = [] ↔ n = 0 := by
  constructor
  · intro h
    have := ofd_digs hB n
    rw [h] at this; exact this.symm
  · rintro rfl; exact digs_zero B
end Go.Proofs.Ytjjneiidggcfdaa
set_option linter.unusedVariables false
namespace Go.Proofs.Ytjjneiidggcfdaa
open Go.RowKit

theorem below_drewN {B : Nat} {a w : World} (h : Below B a w) (n : Nat) : Below B a (w.drewN n) := ⟨h.os, h.tape, h.output, h.size, h.block⟩
theorem block_lt {w : World} {b o : Nat} {v : Value} (h : w.cell? ⟨b, o, none⟩ = some v) : b < w.heap.size := by
  rcases Nat.lt_or_ge b w.heap.size with hl | hl
  · exact hl
  · simp [World.cell?, Array.getElem?_eq_none hl] at h
/-- The slice's cells are the list. -/
def Row (w : World) (A : Option Addr) (xs : List Value) : Prop := xs = [] ∨ ∃ b o, A = some ⟨b, o, none⟩ ∧ ∀ i v, xs[i]? = some v → w.cell? ⟨b, o + i, none⟩ = some v
theorem Row.nil (w : World) (A : Option Addr) : Row w A [] := .inl rfl
theorem Row.at_ {w : World} {A : Option Addr} {xs : List Value} {i : Nat} {v : Value} (h : Row w A xs) (hi : xs[i]? = some v) :
    ∃ b o, A = some ⟨b, o, none⟩ ∧ b < w.heap.size ∧ w.cell? ⟨b, o + i, none⟩ = some v := by
  rcases h with rfl | ⟨b, o, e, hc⟩
  · simp at hi
  · exact ⟨b, o, e, block_lt (hc i v hi), hc i v hi⟩
theorem Row.below {w w' : World} {A : Option Addr} {xs : List Value} (h : Row w A xs) (hb : Below w.heap.size w w') : Row w' A xs := by
  rcases h with rfl | ⟨b, o, e, hc⟩
  · exact .inl rfl
  · exact .inr ⟨b, o, e, fun i v hi => (hb.cell (p := ⟨b, o + i, none⟩) (block_lt (hc i v hi))).trans (hc i v hi)⟩
theorem Row.drewN {w : World} {A : Option Addr} {xs : List Value} (h : Row w A xs) (n : Nat) : Row (w.drewN n) A xs := h
/-- A cell below the block is as it was. -/
theorem cell_below {w w' : World} {b o : Nat} {v : Value} (h : w.cell? ⟨b, o, none⟩ = some v) (hb : Below w.heap.size w w') : w'.cell? ⟨b, o, none⟩ = some v := (hb.cell (p := ⟨b, o, none⟩) (block_lt h)).trans h

/-- Block g of the world is just these cells, none of them frozen. -/
def Blk (w : World) (g : Nat) (t : TypeId) (cs : Array Value) : Prop := w.heap[g]? = some (.cells cs t (0, 0))
section
variable {w w' : World} {g : Nat} {t : TypeId} {cs : Array Value}
theorem Blk.lt (h : Blk w g t cs) : g < w.heap.size := by
  rcases Nat.lt_or_ge g w.heap.size with hl | hl
  · exact hl
  · unfold Blk at h; rw [Array.getElem?_eq_none hl] at h; cases h
theorem Blk.cell (h : Blk w g t cs) (i : Nat) : w.cell? ⟨g, i, none⟩ = cs[i]? := cell_of_row w g i cs t (0, 0) h
theorem Blk.frozen (h : Blk w g t cs) (i : Nat) : w.frozen? ⟨g, i, none⟩ = false := by
  unfold Blk at h
  simp [World.frozen?, h]
theorem Blk.new (w : World) (t : TypeId) (cs : Array Value) : Blk (w.alloc (.cells cs t)) w.heap.size t cs := heap_alloc_new w _
theorem Blk.alloc (h : Blk w g t cs) (o : Obj) : Blk (w.alloc o) g t cs := (Below.heap_alloc w o g h.lt).trans h
theorem Blk.set_ (h : Blk w g t cs) (i : Nat) (u : Value) : Blk (w.setCell ⟨g, i, none⟩ u) g t (cs.setIfInBounds i u) := by
  unfold Blk at h ⊢
  simp [World.setCell, Array.getElem?_modify, h]
theorem Blk.other (h : Blk w g t cs) {p : Addr} (hp : g ≠ p.block) (u : Value) : Blk (w.setCell p u) g t cs := (Below.heap_setCell w p u g hp).trans h
theorem Blk.below {B : Nat} (h : Blk w g t cs) (hb : Below B w w') (hg : g < B) : Blk w' g t cs := (hb.block g hg).trans h
theorem Blk.drewN (h : Blk w g t cs) (n : Nat) : Blk (w.drewN n) g t cs := h
theorem Blk.drew (h : Blk w g t cs) : Blk w.drew g t cs := h
theorem Blk.new_ (w : World) (t : TypeId) (cs : Array Value) (n : Nat) (hn : w.heap.size = n) : Blk (w.alloc (.cells cs t)) n t cs := by subst hn; exact heap_alloc_new w _
end

/-- 2^64. -/
def Q : Nat := 18446744073709551616
theorem Q_two : 2 ≤ Q := by unfold Q; omega
/-- The words of a list of digits. -/
def u64s (l : List Nat) : List Value := l.map fun (d : Nat) => Value.int .u64 (d : Int)
/-- The words of a number's size. -/
def dig (z : Int) : List Nat := digs Q z.natAbs
/-- How many they are. -/
def wl (z : Int) : Nat := (dig z).length
theorem dig_zero : dig 0 = [] := digs_zero Q
theorem wl_zero (z : Int) : wl z = 0 ↔ z = 0 := by
  unfold wl dig
  rw [List.length_eq_zero_iff, digs_eq_nil Q_two]; omega
theorem dig_neg (z : Int) : dig (-z) = dig z := by unfold dig; rw [Int.natAbs_neg]
theorem wl_neg (z : Int) : wl (-z) = wl z := by unfold wl; rw [dig_neg]
theorem cell_set {w : World} {b o g i : Nat} (h : b ≠ g) (u : Value) : (w.setCell ⟨g, i, none⟩ u).cell? ⟨b, o, none⟩ = w.cell? ⟨b, o, none⟩ :=
  World.cell?_setCell_other w ⟨g, i, none⟩ ⟨b, o, none⟩ u (fun e => h (by injection e with e1; exact e1.symm))
/-- The slice of n words, with room for c, is the size of the whole number z. -/
def Wh (w : World) (A : Option Addr) (n c : Nat) (z : Int) : Prop := n = wl z ∧ n ≤ c ∧ Row w A (u64s (dig z))
theorem Wh.below {w w' : World} {A : Option Addr} {n c : Nat} {z : Int} (h : Wh w A n c z) (hb : Below w.heap.size w w') : Wh w' A n c z := ⟨h.1, h.2.1, h.2.2.below hb⟩
theorem Wh.neg {w : World} {A : Option Addr} {n c : Nat} {z : Int} (h : Wh w A n c z) : Wh w A n c (-z) := ⟨by rw [wl_neg]; exact h.1, h.2.1, by rw [dig_neg]; exact h.2.2⟩
theorem Wh.zero (w : World) (A : Option Addr) (c : Nat) : Wh w A 0 c 0 := ⟨((wl_zero 0).2 rfl).symm, Nat.zero_le _, by rw [dig_zero]; exact .inl rfl⟩
/-- The two slices are the m and the e of the dyadic number d. -/
def Dr (w : World) (A : Option Addr) (n c : Nat) (A' : Option Addr) (n' c' : Nat) (d : Dyadic) : Prop := Wh w A n c (mant d) ∧ Wh w A' n' c' (expo d)
theorem Dr.below {w w' : World} {A : Option Addr} {n c : Nat} {A' : Option Addr} {n' c' : Nat} {d : Dyadic} (h : Dr w A n c A' n' c' d) (hb : Below w.heap.size w w') : Dr w' A n c A' n' c' d := ⟨h.1.below hb, h.2.below hb⟩
/-- Only block g has changed. -/
def Only (g : Nat) (w w' : World) : Prop := w.grownBy w' (some g)
theorem Only.refl (g : Nat) (w : World) : Only g w w := World.grownBy.refl w _
theorem Only.set_ {g : Nat} {w w' : World} (h : Only g w w') (i : Nat) (u : Value) : Only g w (w'.setCell ⟨g, i, none⟩ u) :=
  ⟨h.os, h.tape, h.output, by simpa [World.setCell] using h.size, fun k hk hne => (Below.heap_setCell w' _ u k (fun e => hne (by rw [e]))).trans (h.block k hk hne)⟩
theorem Only.drew {g : Nat} {w w' : World} (h : Only g w w') : Only g w w'.drew := ⟨h.os, h.tape, h.output, h.size, h.block⟩
theorem Only.drewN {g : Nat} {w w' : World} (h : Only g w w') (n : Nat) : Only g w (w'.drewN n) := ⟨h.os, h.tape, h.output, h.size, h.block⟩
theorem Only.trans {g : Nat} {a b c : World} (h : Only g a b) (k : Only g b c) : Only g a c :=
  ⟨k.os.trans h.os, k.tape.trans h.tape, k.output.trans h.output, Nat.le_trans h.size k.size, fun i hi hne => (k.block i (Nat.lt_of_lt_of_le hi h.size) hne).trans (h.block i hi hne)⟩
theorem Only.cell {g : Nat} {w w' : World} (h : Only g w w') {b o : Nat} {v : Value} (hb : b ≠ g) (hc : w.cell? ⟨b, o, none⟩ = some v) : w'.cell? ⟨b, o, none⟩ = some v :=
  (World.cell?_of_block (a := ⟨b, o, none⟩) (h.block b (block_lt hc) (fun e => hb (by injection e)))).trans hc
theorem Only.row {g : Nat} {w w' : World} (h : Only g w w') {A : Option Addr} {xs : List Value} (hA : ∀ b o, A = some ⟨b, o, none⟩ → b ≠ g) (hr : Row w A xs) : Row w' A xs := by
  rcases hr with rfl | ⟨b, o, e, hc⟩
  · exact .inl rfl
  · exact .inr ⟨b, o, e, fun i v hi => h.cell (hA b o e) (hc i v hi)⟩
theorem Only.blk {g : Nat} {w w' : World} (h : Only g w w') {b : Nat} {t : TypeId} {cs : Array Value} (hb : b ≠ g) (hB : Blk w b t cs) : Blk w' b t cs :=
  (h.block b hB.lt (fun e => hb (by injection e))).trans hB
theorem Only.below {g : Nat} {w0 w w' : World} (h : Only g w w') {B : Nat} (hb : Below B w0 w) (hB : B ≤ w.heap.size) (hg : B ≤ g) : Below B w0 w' :=
  hb.grown h hB (fun k hk => by injection hk with hk; omega)
end Go.Proofs.Ytjjneiidggcfdaa
namespace Go.Proofs.Ytjjneiidggcfdaa.Fl
open Ieee

/-- A word's lower 63 bits. -/
def rung (b : Nat) : Nat := b % 9223372036854775808
/-- A word's sign. -/
def sg (b : Nat) : Bool := b / 9223372036854775808 % 2 == 1
/-- The rung of infinity. -/
def INF : Nat := 9218868437227405312
/-- How great a rung is, in units of 2^-1074. -/
def mag (r : Nat) : Nat := if r < 4503599627370496 then r else (4503599627370496 + r % 4503599627370496) * 2 ^ (r / 4503599627370496 - 1)
/-- A word's number, in units of 2^-1074 (infinity as if it were one). -/
def val (b : Nat) : Int := if sg b then -(mag (rung b) : Int) else (mag (rung b) : Int)
/-- A word's place among all. -/
def key (b : Nat) : Int := if sg b then -(rung b : Int) else (rung b : Int)
def nan (b : Nat) : Bool := decide (INF < rung b)
def fin (b : Nat) : Bool := decide (rung b < INF)

theorem mag_zero : mag 0 = 0 := by simp [mag]
theorem mag_succ (r : Nat) : mag r < mag (r + 1) := by
  unfold mag
  by_cases h1 : r + 1 < 4503599627370496
  · rw [if_pos (by omega), if_pos h1]; omega
  · by_cases h2 : r + 1 = 4503599627370496
    · obtain rfl : r = 4503599627370495 := by omega
      decide
    · rw [if_neg (by omega), if_neg h1]
      have hq : r / 4503599627370496 - 1 + 1 = r / 4503599627370496 := by omega
      generalize hQ : r / 4503599627370496 - 1 = q at *
      have hp : 0 < 2 ^ q := Nat.two_pow_pos q
      by_cases h3 : r % 4503599627370496 + 1 < 4503599627370496
      · have e1 : (r + 1) / 4503599627370496 - 1 = q := by omega
        have e2 : (r + 1) % 4503599627370496 = r % 4503599627370496 + 1 := by omega
        rw [e1, e2]
        exact Nat.mul_lt_mul_of_pos_right (by omega) hp
      · have e1 : (r + 1) / 4503599627370496 - 1 = q + 1 := by omega
        have e2 : (r + 1) % 4503599627370496 = 0 := by omega
        have e3 : r % 4503599627370496 = 4503599627370495 := by omega
        rw [e1, e2, e3, Nat.pow_succ]
        omega
theorem mag_lt {r s : Nat} (h : r < s) : mag r < mag s := by
  induction s with
  | zero => omega
  | succ s ih =>
    by_cases e : r = s
    · subst e; exact mag_succ r
    · exact Nat.lt_trans (ih (by omega)) (mag_succ s)
theorem mag_lt_iff (r s : Nat) : mag r < mag s ↔ r < s := by
  constructor
  · intro h
    rcases Nat.lt_trichotomy r s with h1 | h1 | h1
    · exact h1
    · subst h1; omega
    · have := mag_lt h1; omega
  · exact mag_lt
theorem read_eq (b : Nat) : double.read b =
    if rung b < 4503599627370496 then .number (sg b) (rung b) (-1074)
    else if rung b < INF then .number (sg b) (4503599627370496 + rung b % 4503599627370496) (-1074 + (rung b / 4503599627370496 - 1 : Nat))
    else if rung b = INF then .infinity (sg b) else .nan (sg b) (rung b - INF) := rfl

/-- A finite word stands for a number whose digits and place make its value. -/
theorem read_fin {b : Nat} (h : rung b < INF) : ∃ m : Nat, ∃ u : Nat, double.read b = .number (sg b) m (-1074 + (u : Int)) ∧ m * 2 ^ u = mag (rung b) := by
  rw [read_eq]
  unfold mag
  by_cases h1 : rung b < 4503599627370496
  · rw [if_pos h1, if_pos h1]; exact ⟨rung b, 0, rfl, by simp⟩
  · rw [if_neg h1, if_pos h, if_neg h1]; exact ⟨_, _, rfl, rfl⟩
theorem read_inf {b : Nat} (h : rung b = INF) : double.read b = .infinity (sg b) := by
  rw [read_eq, h]; rfl
theorem read_nan {b : Nat} (h : INF < rung b) : double.read b = .nan (sg b) (rung b - INF) := by
  have : INF = 9218868437227405312 := rfl
  rw [read_eq, if_neg (by omega), if_neg (by omega), if_neg (by omega)]

theorem compare_scale (a b c : Int) (hc : 0 < c) : compare (a * c) (b * c) = compare a b := by
  simp only [compare, compareOfLessAndEq, Int.mul_lt_mul_right hc]
  have : a * c = b * c ↔ a = b := ⟨fun h => Int.eq_of_mul_eq_mul_right (by omega) h, fun h => by rw [h]⟩
  simp only [this]
theorem signed_pow (s : Bool) (m u v : Nat) : signed s m u * (2 ^ v : Nat) = signed s m (u + v) := by
  unfold signed
  have : m <<< (u + v) = m <<< u * 2 ^ v := by simp only [Nat.shiftLeft_eq]; rw [Nat.pow_add, Nat.mul_assoc]
  split
  · rw [this, Int.natCast_mul, Int.neg_mul]
  · rw [this, Int.natCast_mul]
theorem order_number (s t : Bool) (m n u v : Nat) : Datum.order (.number s m (-1074 + (u : Int))) (.number t n (-1074 + (v : Int))) = some (compare (signed s m u) (signed t n v)) := by
  simp only [Datum.order]
  congr 1
  have h : 0 < ((2 ^ min u v : Nat) : Int) := by have := Nat.two_pow_pos (min u v); omega
  rw [← compare_scale _ _ _ h, signed_pow, signed_pow]
  have e1 : (-1074 + (u : Int) - min (-1074 + (u : Int)) (-1074 + (v : Int))).toNat + min u v = u := by omega
  have e2 : (-1074 + (v : Int) - min (-1074 + (u : Int)) (-1074 + (v : Int))).toNat + min u v = v := by omega
  rw [e1, e2]
theorem signed_val {s : Bool} {m u M : Nat} (h : m * 2 ^ u = M) : signed s m u = if s then -(M : Int) else (M : Int) := by
  unfold signed
  rw [Nat.shiftLeft_eq, h]

theorem order_val {x y : Nat} (hx : rung x ≤ INF) (hy : rung y ≤ INF) : double.order x y = some (compare (val x) (val y)) := by
  unfold Format.order val
  by_cases h1 : rung x = INF
  · rw [read_inf h1]
    by_cases h2 : rung y = INF
    · rw [read_inf h2, h1, h2]
      cases sg x <;> cases sg y <;> decide +kernel
    · obtain ⟨n, v, e, hm⟩ := read_fin (b := y) (by omega)
      have hl : mag (rung y) < mag (rung x) := mag_lt (by omega)
      rw [e]
      cases sg x <;> cases sg y <;> simp only [Datum.order, compare, compareOfLessAndEq] <;> simp <;> (repeat' split) <;> first | rfl | omega
  · obtain ⟨m, u, e, hm⟩ := read_fin (b := x) (by omega)
    rw [e]
    by_cases h2 : rung y = INF
    · rw [read_inf h2]
      have hl : mag (rung x) < mag (rung y) := mag_lt (by omega)
      cases sg x <;> cases sg y <;> simp only [Datum.order, compare, compareOfLessAndEq] <;> simp <;> (repeat' split) <;> first | rfl | omega
    · obtain ⟨n, v, e2, hn⟩ := read_fin (b := y) (by omega)
      rw [e2, order_number, signed_val hm, signed_val hn]
theorem order_nan_left {x y : Nat} (hx : INF < rung x) : double.order x y = none := by
  unfold Format.order; rw [read_nan hx]; cases double.read y <;> rfl
theorem order_nan_right {x y : Nat} (hy : INF < rung y) : double.order x y = none := by
  unfold Format.order; rw [read_nan hy]; cases double.read x <;> rfl

theorem val_lt_iff (x y : Nat) : val x < val y ↔ key x < key y := by
  unfold val key
  have h1 := mag_lt_iff (rung x) (rung y)
  have h2 := mag_lt_iff (rung y) (rung x)
  have h3 := mag_lt_iff 0 (rung x)
  have h4 := mag_lt_iff 0 (rung y)
  rw [mag_zero] at h3 h4
  cases sg x <;> cases sg y <;> simp <;> omega
theorem val_eq_iff (x y : Nat) : val x = val y ↔ key x = key y := by
  have := val_lt_iff x y; have := val_lt_iff y x; omega
theorem order_key {x y : Nat} (hx : rung x ≤ INF) (hy : rung y ≤ INF) : double.order x y = some (compare (key x) (key y)) := by
  rw [order_val hx hy]
  simp only [compare, compareOfLessAndEq, val_lt_iff, val_eq_iff]

/-! The comparisons of two words, as the walk spells them. -/
theorem eql_of {x y : Nat} (hx : rung x ≤ INF) (hy : rung y ≤ INF) : (FloatKind.f64.format.order x y == some .eq) = decide (key x = key y) := by
  show (double.order x y == some .eq) = _
  rw [order_key hx hy, Bool.eq_iff_iff]; simp
theorem cmp_nan {x y : Nat} (h : INF < rung x ∨ INF < rung y) (o : Ordering) : (FloatKind.f64.format.order x y == some o) = false := by
  show (double.order x y == some o) = _
  rcases h with h | h
  · rw [order_nan_left h]; rfl
  · rw [order_nan_right h]; rfl
end Go.Proofs.Ytjjneiidggcfdaa.Fl
namespace Go.Proofs.Ytjjneiidggcfdaa.Fl

theorem INF_val : INF = 9218868437227405312 := rfl
/-- n / 2^d to the nearest whole number, between two the even one. -/
def rne (n d : Nat) : Nat := n / 2 ^ d + (if 2 ^ d < 2 * (n % 2 ^ d) ∨ (2 ^ d = 2 * (n % 2 ^ d) ∧ n / 2 ^ d % 2 = 1) then 1 else 0)
/-- The rung that is nearest to N / 2^d units of 2^-1074, as if there were no greatest one. -/
def rnd (N d : Nat) : Nat := (N.log2 - (d + 52)) * 4503599627370496 + rne N (d + (N.log2 - (d + 52)))
def cap (r : Nat) : Nat := min r INF
/-- The rung that is nearest to M * 2^k units of 2^-1074. -/
def scl (M : Nat) (k : Int) : Nat := cap (if 0 ≤ k then rnd (M * 2 ^ k.toNat) 0 else rnd M (-k).toNat)
/-- The bits of a sign and a rung. -/
def wd (s : Bool) (r : Nat) : Nat := if s then 9223372036854775808 + r else r

theorem rne_zero (d : Nat) : rne 0 d = 0 := by
  unfold rne
  have : 0 < 2 ^ d := Nat.two_pow_pos d
  simp
theorem rne_d0 (n : Nat) : rne n 0 = n := by unfold rne; simp [Nat.mod_one]
theorem rne_shift (n d j : Nat) : rne (n * 2 ^ j) (d + j) = rne n d := by
  have hj : 0 < 2 ^ j := Nat.two_pow_pos j
  have e1 : n * 2 ^ j / 2 ^ (d + j) = n / 2 ^ d := by rw [Nat.pow_add]; exact Nat.mul_div_mul_right _ _ hj
  have e2 : n * 2 ^ j % 2 ^ (d + j) = n % 2 ^ d * 2 ^ j := by rw [Nat.pow_add]; exact Nat.mul_mod_mul_right _ _ _
  unfold rne
  rw [e1, e2, Nat.pow_add]
  have e3 : 2 * (n % 2 ^ d * 2 ^ j) = 2 * (n % 2 ^ d) * 2 ^ j := by rw [Nat.mul_assoc]
  rw [e3]
  have a : (2 ^ d * 2 ^ j < 2 * (n % 2 ^ d) * 2 ^ j) ↔ (2 ^ d < 2 * (n % 2 ^ d)) := Nat.mul_lt_mul_right hj
  have b : (2 ^ d * 2 ^ j = 2 * (n % 2 ^ d) * 2 ^ j) ↔ (2 ^ d = 2 * (n % 2 ^ d)) := ⟨fun h => Nat.eq_of_mul_eq_mul_right hj h, fun h => congrArg (· * 2 ^ j) h⟩
  simp only [a, b]
theorem log2_mul (n j : Nat) (h : n ≠ 0) : (n * 2 ^ j).log2 = n.log2 + j := by
  have hp : 0 < 2 ^ j := Nat.two_pow_pos j
  have hn : n * 2 ^ j ≠ 0 := Nat.mul_ne_zero h (by omega)
  refine (Nat.log2_eq_iff hn).2 ⟨?_, ?_⟩
  · rw [Nat.pow_add]; exact Nat.mul_le_mul_right _ (Nat.log2_self_le h)
  · rw [show n.log2 + j + 1 = n.log2 + 1 + j by omega, Nat.pow_add]; exact Nat.mul_lt_mul_of_pos_right Nat.lt_log2_self hp
theorem rnd_zero (d : Nat) : rnd 0 d = 0 := by unfold rnd; rw [rne_zero]; simp
theorem rnd_shift (n d j : Nat) : rnd (n * 2 ^ j) (d + j) = rnd n d := by
  by_cases h : n = 0
  · subst h; rw [Nat.zero_mul, rnd_zero, rnd_zero]
  · unfold rnd
    rw [log2_mul n j h]
    have e : n.log2 + j - (d + j + 52) = n.log2 - (d + 52) := by omega
    rw [e]
    have e2 : d + j + (n.log2 - (d + 52)) = d + (n.log2 - (d + 52)) + j := by omega
    rw [e2, rne_shift]
theorem scl_zero (k : Int) : scl 0 k = 0 := by unfold scl; simp only [Nat.zero_mul, rnd_zero]; split <;> rfl
theorem scl_shift (m u : Nat) (k : Int) : scl (m * 2 ^ u) k = scl m (u + k) := by
  unfold scl
  by_cases h1 : 0 ≤ k
  · rw [if_pos h1, if_pos (by omega), Nat.mul_assoc, ← Nat.pow_add]
    congr 4; omega
  · rw [if_neg h1]
    by_cases h2 : 0 ≤ (u : Int) + k
    · rw [if_pos h2]
      have e := rnd_shift (m * 2 ^ ((u : Int) + k).toNat) 0 (-k).toNat
      rw [Nat.mul_assoc, ← Nat.pow_add] at e
      rw [← e]
      congr 4 <;> omega
    · rw [if_neg h2]
      have e := rnd_shift m (-((u : Int) + k)).toNat u
      rw [← e]
      congr 2; omega
/-- What is rounded in the place q of a rung whose digits are m1 / 2^i. -/
theorem scl_place (m1 i q : Nat) (h1 : m1 / 2 ^ i < 9007199254740992) (h2 : 4503599627370496 ≤ m1 / 2 ^ i ∨ q = 0) : scl m1 ((q : Int) - i) = cap (q * 4503599627370496 + rne m1 i) := by
  by_cases h0 : m1 = 0
  · subst h0
    have : q = 0 := by rcases h2 with h2 | h2; · simp at h2
                       · exact h2
    subst this
    rw [scl_zero, rne_zero]; rfl
  have hb : m1.log2 < 53 + i := by
    refine (Nat.log2_lt h0).2 ?_
    rw [Nat.pow_add]
    have hp : 0 < 2 ^ i := Nat.two_pow_pos i
    exact (Nat.div_lt_iff_lt_mul hp).1 (by simpa using h1)
  have e : scl m1 ((q : Int) - i) = cap (rnd (m1 * 2 ^ q) i) := by
    have := scl_shift m1 q (-(i : Int))
    rw [show (q : Int) + -(i : Int) = q - i by omega] at this
    rw [← this]
    unfold scl
    by_cases hi : i = 0
    · subst hi; simp
    · rw [if_neg (by omega)]; congr 2; omega
  rw [e]
  refine congrArg cap ?_
  unfold rnd
  rw [log2_mul _ _ h0]
  have ht : m1.log2 + q - (i + 52) = q := by
    rcases h2 with h2 | h2
    · have hlo : 52 + i ≤ m1.log2 := by
        refine (Nat.le_log2 h0).2 ?_
        rw [Nat.pow_add]
        have hp : 0 < 2 ^ i := Nat.two_pow_pos i
        exact (Nat.le_div_iff_mul_le hp).1 (by simpa using h2)
      omega
    · omega
  rw [ht, rne_shift]
theorem scl_exact (m q : Nat) (h1 : m < 9007199254740992) (h2 : 4503599627370496 ≤ m ∨ q = 0) : scl m q = cap (q * 4503599627370496 + m) := by
  have := scl_place m 0 q (by simpa using h1) (by simpa using h2)
  rw [rne_d0] at this
  simpa using this
theorem rne_small (n d : Nat) (h : 2 * n < 2 ^ d) : rne n d = 0 := by
  unfold rne
  have hlt : n < 2 ^ d := by omega
  rw [Nat.div_eq_of_lt hlt, Nat.mod_eq_of_lt hlt, if_neg (by omega)]
theorem scl_low (m : Nat) (k : Int) (h : 2 * m < 2 ^ (-k).toNat) (hk : k < 0) : scl m k = 0 := by
  by_cases h0 : m = 0
  · subst h0; exact scl_zero k
  unfold scl
  rw [if_neg (by omega)]
  unfold rnd
  have : m.log2 < (-k).toNat := by
    refine (Nat.log2_lt h0).2 (by omega)
  rw [show m.log2 - ((-k).toNat + 52) = 0 by omega, Nat.add_zero, rne_small _ _ h]
  rfl
theorem cap_le (r : Nat) : cap r ≤ INF := Nat.min_le_right _ _
theorem scl_le (m : Nat) (k : Int) : scl m k ≤ INF := cap_le _

/-! ### A word's parts. -/
/-- The digits and the place of what a word stands for, as they are kept. -/
def pm (b : Nat) : Nat := if rung b < 4503599627370496 then rung b else 4503599627370496 + rung b % 4503599627370496
def pe (b : Nat) : Nat := if rung b < 4503599627370496 then 0 else rung b / 4503599627370496 - 1
theorem mag_parts (b : Nat) : mag (rung b) = pm b * 2 ^ pe b := by
  unfold mag pm pe; split <;> simp
theorem pm_lt (b : Nat) : pm b < 9007199254740992 := by unfold pm; split <;> omega
theorem pm_pe (b : Nat) : 4503599627370496 ≤ pm b ∨ pe b = 0 := by unfold pm pe; split <;> omega
theorem rung_parts (b : Nat) : rung b = pe b * 4503599627370496 + pm b := by unfold pm pe; split <;> omega
theorem pe_lt {b : Nat} (h : rung b < INF) : pe b ≤ 2045 := by
  have := INF_val; unfold pe; split <;> omega
theorem wd_parts {b : Nat} (h : b < 18446744073709551616) : wd (sg b) (rung b) = b := by
  unfold wd sg rung
  by_cases h1 : b / 9223372036854775808 % 2 = 1
  · simp [h1]; omega
  · simp [h1]; omega
theorem sg_wd (s : Bool) {r : Nat} (h : r < 9223372036854775808) : sg (wd s r) = s := by
  unfold sg wd; cases s <;> simp <;> omega
theorem rung_wd (s : Bool) {r : Nat} (h : r < 9223372036854775808) : rung (wd s r) = r := by
  unfold rung wd; cases s <;> simp <;> omega
theorem wd_lt (s : Bool) {r : Nat} (h : r < 9223372036854775808) : wd s r < 18446744073709551616 := by
  unfold wd; cases s <;> simp <;> omega

/-- What Scale comes to. -/
def scale (b : Nat) (k : Int) : Nat := if rung b = 0 ∨ INF ≤ rung b then b else wd (sg b) (scl (mag (rung b)) k)
theorem scale_parts (b : Nat) (k : Int) : scl (mag (rung b)) k = scl (pm b) (pe b + k) := by rw [mag_parts, scl_shift]
theorem scale_lt {b : Nat} (h : b < 18446744073709551616) (k : Int) : scale b k < 18446744073709551616 := by
  unfold scale
  split
  · exact h
  · exact wd_lt _ (Nat.lt_of_le_of_lt (scl_le _ _) (by decide))

/-- The 53 digits of a number other than 0, and their place. -/
def dm (b : Nat) : Nat := if rung b < 4503599627370496 then rung b * 2 ^ (52 - (rung b).log2) else pm b
def de (b : Nat) : Int := if rung b < 4503599627370496 then -1074 - ((52 - (rung b).log2 : Nat) : Int) else -1074 + (pe b : Int)
theorem log_lt {r : Nat} (h0 : r ≠ 0) (h : r < 4503599627370496) : r.log2 < 52 := (Nat.log2_lt h0).2 h
theorem dm_bounds {b : Nat} (h0 : rung b ≠ 0) : 4503599627370496 ≤ dm b ∧ dm b < 9007199254740992 := by
  unfold dm
  split
  · rename_i h
    have hl := log_lt h0 h
    have h1 := Nat.log2_self_le h0
    have h2 : rung b < 2 ^ ((rung b).log2 + 1) := Nat.lt_log2_self
    have hp : 0 < 2 ^ (52 - (rung b).log2) := Nat.two_pow_pos _
    have e1 : 2 ^ (rung b).log2 * 2 ^ (52 - (rung b).log2) = 4503599627370496 := by rw [← Nat.pow_add, show (rung b).log2 + (52 - (rung b).log2) = 52 by omega]
    have e2 : 2 ^ ((rung b).log2 + 1) * 2 ^ (52 - (rung b).log2) = 9007199254740992 := by rw [← Nat.pow_add, show (rung b).log2 + 1 + (52 - (rung b).log2) = 53 by omega]
    have := Nat.mul_le_mul_right (2 ^ (52 - (rung b).log2)) h1
    have := Nat.mul_lt_mul_of_pos_right h2 hp
    omega
  · rename_i h
    have := pm_lt b
    have e : pm b = 4503599627370496 + rung b % 4503599627370496 := by unfold pm; rw [if_neg h]
    omega
theorem de_bounds {b : Nat} (h : rung b < INF) : -1126 ≤ de b ∧ de b ≤ 971 := by
  have := pe_lt h
  unfold de; split <;> omega
theorem scl_digits (b : Nat) (k : Int) : scl (mag (rung b)) k = scl (dm b) (de b + 1074 + k) := by
  unfold dm de
  split
  · rename_i h
    rw [scl_shift]
    unfold mag
    rw [if_pos h]
    congr 1; omega
  · rw [scale_parts]; congr 1; omega
end Go.Proofs.Ytjjneiidggcfdaa.Fl
set_option linter.unusedVariables false
namespace Go.Proofs.Ytjjneiidggcfdaa
open Go.RowKit

theorem and_mask (a n : Nat) : a &&& (2 ^ n - 1) = a % 2 ^ n := Nat.and_two_pow_sub_one_eq_mod a n
theorem or_add (a b n : Nat) (hb : b < 2 ^ n) (ha : a % 2 ^ n = 0) : a ||| b = a + b := by
  have e : a = a / 2 ^ n * 2 ^ n := by have := Nat.div_add_mod a (2 ^ n); rw [ha, Nat.mul_comm] at this; omega
  rw [e]
  have := Nat.shiftLeft_add_eq_or_of_lt hb (a / 2 ^ n)
  rw [Nat.shiftLeft_eq] at this
  exact this.symm
theorem bits_andNot_sign {b : Nat} (hb : b < 18446744073709551616) : bits .andNot .u64 (b : Int) 9223372036854775808 = ((b % 9223372036854775808 : Nat) : Int) := by
  have := u64_andNot_nat b 9223372036854775808 hb (by omega)
  rw [show ((9223372036854775808 : Nat) : Int) = 9223372036854775808 from rfl] at this
  rw [this, show (18446744073709551615 - 9223372036854775808 : Nat) = 2 ^ 63 - 1 from rfl, and_mask]
theorem bits_and_frac {b : Nat} (hb : b < 18446744073709551616) : bits .and .u64 (b : Int) 4503599627370495 = ((b % 4503599627370496 : Nat) : Int) := by
  have := u64_and_nat b 4503599627370495 hb (by omega)
  rw [show ((4503599627370495 : Nat) : Int) = 4503599627370495 from rfl] at this
  rw [this, show (4503599627370495 : Nat) = 2 ^ 52 - 1 from rfl, and_mask]
theorem bits_and_15 {b : Nat} (hb : b < 18446744073709551616) : bits .and .u64 (b : Int) 15 = ((b % 16 : Nat) : Int) := by
  have := u64_and_nat b 15 hb (by omega)
  rw [show ((15 : Nat) : Int) = 15 from rfl] at this
  rw [this, show (15 : Nat) = 2 ^ 4 - 1 from rfl, and_mask]
theorem bits_and_1 {b : Nat} (hb : b < 18446744073709551616) : bits .and .u64 (b : Int) 1 = ((b % 2 : Nat) : Int) := by
  have := u64_and_nat b 1 hb (by omega)
  rw [show ((1 : Nat) : Int) = 1 from rfl] at this
  rw [this, show (1 : Nat) = 2 ^ 1 - 1 from rfl, and_mask]
theorem bits_and_sign {b : Nat} (hb : b < 18446744073709551616) : bits .and .u64 (b : Int) 9223372036854775808 = ((Fl.wd (Fl.sg b) 0 : Nat) : Int) := by
  have := u64_and_nat b 9223372036854775808 hb (by omega)
  rw [show ((9223372036854775808 : Nat) : Int) = 9223372036854775808 from rfl] at this
  rw [this]
  have h : b &&& 9223372036854775808 = b / 9223372036854775808 % 2 * 9223372036854775808 := nat_bit 63 b
  rw [h]
  unfold Fl.wd Fl.sg
  by_cases h1 : b / 9223372036854775808 % 2 = 1
  · simp [h1]
  · have h2 : b / 9223372036854775808 % 2 = 0 := by omega
    simp [h2]
theorem bits_and_inf {b : Nat} (hb : b < 18446744073709551616) : bits .and .u64 (b : Int) 9218868437227405312 = ((b / 4503599627370496 % 2048 * 4503599627370496 : Nat) : Int) := by
  have := u64_and_nat b 9218868437227405312 hb (by omega)
  rw [show ((9218868437227405312 : Nat) : Int) = 9218868437227405312 from rfl] at this
  rw [this]
  have e : b &&& 9218868437227405312 = ((b >>> 52) &&& 2047) <<< 52 := by
    refine Nat.eq_of_testBit_eq fun i => ?_
    rw [Nat.testBit_and, Nat.testBit_shiftLeft, Nat.testBit_and, Nat.testBit_shiftRight]
    rw [show (9218868437227405312 : Nat) = 2047 <<< 52 from rfl, Nat.testBit_shiftLeft]
    by_cases h : 52 ≤ i
    · simp only [h, decide_true, Bool.true_and]; rw [show 52 + (i - 52) = i by omega]
    · simp [h]
  rw [e, Nat.shiftLeft_eq, Nat.shiftRight_eq_div_pow, show (2047 : Nat) = 2 ^ 11 - 1 from rfl, and_mask]
theorem bits_or_nat {a b : Nat} (n : Nat) (ha : a < 18446744073709551616) (hb : b < 18446744073709551616) (h1 : b < 2 ^ n) (h2 : a % 2 ^ n = 0) : bits .or .u64 (a : Int) (b : Int) = ((a + b : Nat) : Int) := by
  rw [u64_or_nat a b ha hb, or_add a b n h1 h2]


theorem ofInt_emod (x : Int) : BitVec.ofInt 64 x = BitVec.ofInt 64 ((x % 18446744073709551616).toNat : Int) := by
  apply BitVec.eq_of_toInt_eq
  rw [BitVec.toInt_ofInt, BitVec.toInt_ofInt, Int.toNat_of_nonneg (Int.emod_nonneg _ (by decide))]
  rw [Int.bmod_def, Int.bmod_def]
  have : x % 18446744073709551616 % ((2 ^ 64 : Nat) : Int) = x % ((2 ^ 64 : Nat) : Int) := by
    rw [show ((2 ^ 64 : Nat) : Int) = 18446744073709551616 from rfl]; omega
  rw [this]
theorem bits_wrap_left (op : BinOp) (x c : Int) : bits op .u64 x c = bits op .u64 ((x % 18446744073709551616).toNat : Int) c := by
  have h := ofInt_emod x
  unfold bits
  simp only [IntKind.bits]
  rw [h]
theorem wrap_nat (x : Int) : ((x % 18446744073709551616).toNat : Int) = x % 18446744073709551616 ∧ (x % 18446744073709551616).toNat < 18446744073709551616 := by omega
theorem ib_andNot_sign (x : Int) : Op.intBits .andNot .u64 x 9223372036854775808 = pure (.int .u64 (x % 9223372036854775808)) := by
  have := wrap_nat x
  rw [intBits_andNot, bits_wrap_left, bits_andNot_sign this.2]
  congr 2; omega
theorem ib_and_frac (x : Int) : Op.intBits .and .u64 x 4503599627370495 = pure (.int .u64 (x % 4503599627370496)) := by
  have := wrap_nat x
  rw [intBits_and, bits_wrap_left, bits_and_frac this.2]
  congr 2; omega
theorem ib_and_15 (x : Int) : Op.intBits .and .u64 x 15 = pure (.int .u64 (x % 16)) := by
  have := wrap_nat x
  rw [intBits_and, bits_wrap_left, bits_and_15 this.2]
  congr 2; omega
theorem ib_and_1 (x : Int) : Op.intBits .and .u64 x 1 = pure (.int .u64 (x % 2)) := by
  have := wrap_nat x
  rw [intBits_and, bits_wrap_left, bits_and_1 this.2]
  congr 2; omega
theorem ib_and_inf (x : Int) : Op.intBits .and .u64 x 9218868437227405312 = pure (.int .u64 (x / 4503599627370496 % 2048 * 4503599627370496)) := by
  have := wrap_nat x
  rw [intBits_and, bits_wrap_left, bits_and_inf this.2]
  congr 2; omega
/-- The bit of the sign alone. -/
def signOf (x : Int) : Int := x / 9223372036854775808 % 2 * 9223372036854775808
theorem ib_and_sign (x : Int) : Op.intBits .and .u64 x 9223372036854775808 = pure (.int .u64 (signOf x)) := by
  have h := wrap_nat x
  rw [intBits_and, bits_wrap_left, bits_and_sign h.2]
  congr 2
  unfold signOf Fl.wd Fl.sg
  by_cases h1 : (x % 18446744073709551616).toNat / 9223372036854775808 % 2 = 1
  · simp [h1]; omega
  · simp [h1]; omega
/-- The bits of either. -/
def orU (a b : Int) : Int := bits .or .u64 a b
theorem ib_or (a b : Int) : Op.intBits .or .u64 a b = pure (.int .u64 (orU a b)) := by rw [intBits_or]; rfl
theorem orU_nat {a b : Nat} (n : Nat) (ha : a < 18446744073709551616) (hb : b < 18446744073709551616) (h1 : b < 2 ^ n) (h2 : a % 2 ^ n = 0) : orU (a : Int) (b : Int) = ((a + b : Nat) : Int) := by
  unfold orU; rw [bits_or_nat n ha hb h1 h2]
/-- The bits of both. -/
def andU (a b : Int) : Int := bits .and .u64 a b
theorem ib_and (a b : Int) : Op.intBits .and .u64 a b = pure (.int .u64 (andU a b)) := by rw [intBits_and]; rfl
end Go.Proofs.Ytjjneiidggcfdaa
set_option linter.unusedVariables false
namespace Go.Proofs.Ytjjneiidggcfdaa
open Go.RowKit

theorem run_bits (b : Nat) (w : World) : (callFunc 43 #[.float .f64 b]).run Try.prog w = .ok (.value (.int .u64 (b : Int))) w := by kernel_rfl
theorem run_frombits (n : Int) (w : World) : (callFunc 42 #[.int .u64 n]).run Try.prog w = .ok (.value (.float .f64 n.toNat)) w := by kernel_rfl
attribute [go_sem] run_bits
attribute [go_sem] run_frombits

theorem ret_float {a b : Nat} (h : a = b) : Ending.returned (.float .f64 a) = .returned (.float .f64 b) := by rw [h]
theorem ret_bool {a b : Bool} (h : a = b) : Ending.returned (.bool a) = .returned (.bool b) := by rw [h]
theorem ret_int {k : IntKind} {a b : Int} (h : a = b) : Ending.returned (.int k a) = .returned (.int k b) := by rw [h]

theorem key_zero : Fl.key 0 = 0 := by decide
theorem rung_zero : Fl.rung 0 = 0 := by decide
theorem eql_zero (b : Nat) : (FloatKind.f64.format.order b 0 == some .eq) = decide (Fl.rung b = 0) := by
  by_cases h : Fl.INF < Fl.rung b
  · rw [Fl.cmp_nan (.inl h)]
    have := Fl.INF_val
    exact (decide_eq_false (by omega)).symm
  · rw [Fl.eql_of (by omega) (by rw [rung_zero]; decide), key_zero, Bool.eq_iff_iff]
    simp only [decide_eq_true_eq]
    unfold Fl.key; split <;> omega
/-- The two are the same number: by their bits, or both no number. -/
def sameB (a b : Nat) : Bool := decide (a = b) || Fl.nan a && Fl.nan b

/-- The kind of a word: 0 finite, 1 infinite, 2 no number. -/
def kindOf (b : Nat) : Int := if Fl.rung b < Fl.INF then 0 else if Fl.rung b = Fl.INF then 1 else 2
def partM (b : Nat) : Int := if Fl.rung b < Fl.INF then (Fl.pm b : Int) else 0
def partE (b : Nat) : Int := if Fl.rung b < Fl.INF then (Fl.pe b : Int) - 1074 else 0

theorem results_tmp4 {fn : Func} {t u v x : Tmp} (h : fn.results = #[.tmp t, .tmp u, .tmp v, .tmp x]) (tmps : Array Value) (P : Program) (w : World) :
    (results fn tmps).run P w = .ok (.tuple #[tmps.getD t undef, tmps.getD u undef, tmps.getD v undef, tmps.getD x undef]) w := by simp [results, h]
theorem ret_parts {s s' : Bool} {m m' e e' k k' : Int} (h1 : s = s') (h2 : m = m') (h3 : e = e') (h4 : k = k') :
    Ending.returned (.tuple #[.bool s, .int .u64 m, .int .i64 e, .int .i64 k]) = .returned (.tuple #[.bool s', .int .u64 m', .int .i64 e', .int .i64 k']) := by rw [h1, h2, h3, h4]
theorem sg_walk {b : Nat} (hb : b < 18446744073709551616) : ((b : Int) / 9223372036854775808 == 1) = Fl.sg b := by
  unfold Fl.sg
  rw [Bool.eq_iff_iff, beq_iff_eq, beq_iff_eq]; omega

theorem rung_def (b : Nat) : Fl.rung b = b % 9223372036854775808 := rfl
theorem pm_def (b : Nat) : Fl.pm b = if Fl.rung b < 4503599627370496 then Fl.rung b else 4503599627370496 + Fl.rung b % 4503599627370496 := rfl
theorem pe_def (b : Nat) : Fl.pe b = if Fl.rung b < 4503599627370496 then 0 else Fl.rung b / 4503599627370496 - 1 := rfl

theorem parts_any (b : Nat) (w : World) (hb : b < 18446744073709551616) :
    Calls Try.prog 39 #[.float .f64 b] w fun e w' => e = .returned (.tuple #[.bool (Fl.sg b), .int .u64 (partM b), .int .i64 (partE b), .int .i64 (kindOf b)]) ∧ w = w' := by
  go_enter Try.func39, Try.ntmps39
  go_wp2
  all_goals
    refine bodyPost_ret (results_tmp4 rfl _ _ _) rfl ?_
    have h1 := rung_def b
    have h2 := Fl.INF_val
    have h3 := pm_def b
    have h4 := pe_def b
    refine ⟨ret_parts (sg_walk hb) ?_ ?_ ?_, rfl⟩
    all_goals simp only [beq_iff_eq, beq_eq_false_iff_ne, ne_eq] at *
    · simp only [partM]
      split
      · rw [h3]; split <;> omega
      · first | rfl | omega
    · simp only [partE]; split
      · rw [h4]; split <;> omega
      · first | rfl | omega
    · simp only [kindOf]; (repeat' split) <;> first | rfl | omega
end Go.Proofs.Ytjjneiidggcfdaa
set_option linter.unusedVariables false
namespace Go.Proofs.Ytjjneiidggcfdaa
open Go.RowKit

/-- An int's range. -/
def I64 (z : Int) : Prop := -9223372036854775808 ≤ z ∧ z < 9223372036854775808

theorem Blk.nxt {w w' : World} {g : Nat} {t : TypeId} {cs : Array Value} (h : Blk w g t cs) (hb : Below w.heap.size w w') : Blk w' g t cs := h.below hb h.lt
theorem cells5 {w : World} {g : Nat} {t : TypeId} {v0 v1 v2 v3 v4 : Value} (h : Blk w g t #[v0, v1, v2, v3, v4]) :
    w.cell? ⟨g, 0, none⟩ = some v0 ∧ w.cell? ⟨g, 1, none⟩ = some v1 ∧ w.cell? ⟨g, 2, none⟩ = some v2 ∧ w.cell? ⟨g, 3, none⟩ = some v3 ∧ w.cell? ⟨g, 4, none⟩ = some v4 :=
  ⟨h.cell 0, h.cell 1, h.cell 2, h.cell 3, h.cell 4⟩
/-- A matrix. -/
def mat (A : Option Addr) (n c : Nat) (off r k ld : Int) : Value := .agg #[.slice A n c, .int .i64 off, .int .i64 r, .int .i64 k, .int .i64 ld]
/-- Is the last of n numbers, from off on and inc apart, below L? -/
def reachB (L off n inc : Int) : Bool := decide (off + (n - 1) * inc < L)
theorem reach_iff {L off n inc : Int} (hinc : 1 ≤ inc) (hl : off < L) : (n - 1 ≤ (L - 1 - off) / inc) ↔ off + (n - 1) * inc < L := by
  rw [Int.le_ediv_iff_mul_le (by omega)]; omega

theorem wrap_id {z : Int} (h : I64 z) : wrap64 z = z := by unfold I64 at h; unfold wrap64; omega

theorem reaches_any (L off n inc : Int) (w : World) (hL : L < 9223372036854775808) (ho : 0 ≤ off ∧ off < 9223372036854775808) (hn : 1 ≤ n ∧ n < 9223372036854775808) (hi : 1 ≤ inc ∧ inc < 9223372036854775808) :
    Calls Try.prog 67 #[.int .i64 L, .int .i64 off, .int .i64 n, .int .i64 inc] w fun e w' => e = .returned (.bool (reachB L off n inc)) ∧ w = w' := by
  go_enter Try.func67, Try.ntmps67
  by_cases h1 : off < L
  · have d1 : decide (off < L) = true := by simp [h1]
    have e0 : (inc == 0) = false := by simp; omega
    have e1 : wrap64 (n - 1) = n - 1 := by unfold wrap64; omega
    have e2 : wrap64 (L - 1) = L - 1 := by unfold wrap64; omega
    have e3 : wrap64 (L - 1 - off) = L - 1 - off := by unfold wrap64; omega
    go_wp2
    all_goals
      go_ret
      exact ⟨ret_bool (decide_eq_decide.2 (reach_iff hi.1 h1)), rfl⟩
  · have d1 : decide (off < L) = false := by simp; omega
    have hle : 0 ≤ (n - 1) * inc := Int.mul_nonneg (by omega) (by omega)
    go_wp2
    all_goals
      go_ret
      exact ⟨ret_bool (decide_eq_false (by omega)).symm, rfl⟩

/-- Is a vector of k numbers in a list of n right? -/
def vecB (n : Nat) (off k inc : Int) : Bool := decide (0 ≤ k ∧ 1 ≤ inc ∧ 0 ≤ off ∧ (k = 0 ∨ off + (k - 1) * inc < n))
/-- Is a matrix of r rows and k columns in a list of n right? -/
def matB (n : Nat) (off r k ld : Int) : Bool := decide (0 ≤ r ∧ 0 ≤ k ∧ 1 ≤ ld ∧ r ≤ ld ∧ 0 ≤ off ∧ (r = 0 ∨ k = 0 ∨ off + (k - 1) * ld + (r - 1) < n))

theorem right_any (A : Option Addr) (n c : Nat) (off k inc : Int) (w : World) (hn : n < 9223372036854775808) (ho : I64 off) (hk : I64 k) (hi : I64 inc) :
    Calls Try.prog 40 #[.agg #[.slice A n c, .int .i64 off, .int .i64 k, .int .i64 inc]] w fun e w' => e = .returned (.bool (vecB n off k inc)) ∧ Below w.heap.size w w' := by
  unfold I64 at ho hk hi
  go_enter Try.func40, Try.ntmps40
  have hbel := fun (o : Obj) => (Below.refl w.heap.size w).alloc (Nat.le_refl _) o
  by_cases h1 : k < 0 ∨ inc < 1 ∨ off < 0
  · have hv : vecB n off k inc = false := decide_eq_false (by omega)
    go_wp2
    all_goals
      go_ret
      first | exact ⟨rfl, hbel _⟩ | exact ⟨ret_bool hv.symm, hbel _⟩
  · have d1 : decide (k < 0) = false := by simp; omega
    have d2 : decide (inc < 1) = false := by simp; omega
    have d3 : decide (off < 0) = false := by simp; omega
    by_cases h2 : k = 0
    · subst h2
      have hv : vecB n off 0 inc = true := decide_eq_true (by omega)
      go_wp2
      all_goals
        go_ret
        first | exact ⟨rfl, hbel _⟩ | exact ⟨ret_bool hv.symm, hbel _⟩
    · have d4 : (k == 0) = false := by simp [h2]
      have hv : reachB n off k inc = vecB n off k inc := decide_eq_decide.2 (by omega)
      go_wp2_with fail
      refine (reaches_any n off k inc _ (by omega) (by omega) (by omega) (by omega)).mono ?_
      rintro e w' ⟨rfl, rfl⟩
      go_wp2_with fail
      go_ret
      first | exact ⟨rfl, hbel _⟩ | exact ⟨ret_bool hv.symm, hbel _⟩

theorem none_any (A : Option Addr) (n c : Nat) (off r k ld : Int) (w : World) :
    Calls Try.prog 80 #[.agg #[.slice A n c, .int .i64 off, .int .i64 r, .int .i64 k, .int .i64 ld]] w fun e w' => e = .returned (.bool (r == 0 || k == 0)) ∧ Below w.heap.size w w' := by
  go_enter Try.func80, Try.ntmps80
  have hbel := fun (o : Obj) => (Below.refl w.heap.size w).alloc (Nat.le_refl _) o
  go_wp2
  all_goals
    go_ret
    exact ⟨ret_bool (by simp_all), hbel _⟩

theorem good_any (A : Option Addr) (n c : Nat) (off r k ld : Int) (w : World) (hn : n < 9223372036854775808) (ho : I64 off) (hr : I64 r) (hk : I64 k) (hi : I64 ld) :
    Calls Try.prog 79 #[.agg #[.slice A n c, .int .i64 off, .int .i64 r, .int .i64 k, .int .i64 ld]] w fun e w' => e = .returned (.bool (matB n off r k ld)) ∧ Below w.heap.size w w' := by
  unfold I64 at ho hr hk hi
  go_enter Try.func79, Try.ntmps79
  have hbel := fun (o : Obj) => (Below.refl w.heap.size w).alloc (Nat.le_refl _) o
  by_cases h1 : r < 0 ∨ k < 0 ∨ ld < max 1 r ∨ off < 0
  · have hv : matB n off r k ld = false := decide_eq_false (by omega)
    go_wp2
    all_goals
      go_ret
      first | exact ⟨rfl, hbel _⟩ | exact ⟨ret_bool hv.symm, hbel _⟩
  · have d1 : decide (r < 0) = false := by simp; omega
    have d2 : decide (k < 0) = false := by simp; omega
    have d3 : decide (ld < 1) = false := by simp; omega
    have d3' : decide (ld < r) = false := by simp; omega
    have d4 : decide (off < 0) = false := by simp; omega
    by_cases h2 : r = 0 ∨ k = 0
    · have d5 : (r == 0 || k == 0) = true := by simpa using h2
      have hv : matB n off r k ld = true := decide_eq_true (by omega)
      go_wp2_with fail
      all_goals
        refine (none_any A n c off r k ld _).mono ?_
        rintro e w' ⟨rfl, b1⟩
        go_wp2_with fail
        go_ret
        first | exact ⟨rfl, (hbel _).trans (b1.mono (by simp))⟩ | exact ⟨ret_bool hv.symm, (hbel _).trans (b1.mono (by simp))⟩
    · have d5 : (r == 0 || k == 0) = false := by simpa using h2
      have e1 : wrap64 (r - 1) = r - 1 := by unfold wrap64; omega
      have e2 : wrap64 ((n : Int) - (r - 1)) = (n : Int) - (r - 1) := by unfold wrap64; omega
      have hv : reachB ((n : Int) - (r - 1)) off k ld = matB n off r k ld := decide_eq_decide.2 (by omega)
      go_wp2_with fail
      all_goals
        refine (none_any A n c off r k ld _).mono ?_
        rintro e w' ⟨rfl, b1⟩
        obtain ⟨c0, c1, c2, c3, c4⟩ := cells5 ((Blk.new w 95 _).nxt b1)
        go_wp2_with fail
        refine (reaches_any _ off k ld _ (by omega) (by omega) (by omega) (by omega)).mono ?_
        rintro e w' ⟨rfl, rfl⟩
        go_wp2_with fail
        go_ret
        first | exact ⟨rfl, (hbel _).trans (b1.mono (by simp))⟩ | exact ⟨ret_bool hv.symm, (hbel _).trans (b1.mono (by simp))⟩

end Go.Proofs.Ytjjneiidggcfdaa
set_option linter.unusedVariables false
namespace Go.Proofs.Ytjjneiidggcfdaa
open Go.RowKit Go.WideShapes Go.ChangeShapes Go.Deep

/-- The cells of a list of floats. -/
def f64s (l : List Nat) : List Value := l.map fun (b : Nat) => Value.float .f64 b
theorem f64s_get? {l : List Nat} {i : Nat} {v : Value} (h : (f64s l)[i]? = some v) : ∃ hi : i < l.length, v = .float .f64 l[i] := by
  unfold f64s at h
  rw [List.getElem?_map] at h
  rcases Nat.lt_or_ge i l.length with hl | hl
  · rw [List.getElem?_eq_getElem hl] at h
    exact ⟨hl, by simpa using h.symm⟩
  · rw [List.getElem?_eq_none hl] at h; cases h
theorem f64s_get (l : List Nat) (i : Nat) (h : i < l.length) : (f64s l)[i]? = some (.float .f64 l[i]) := by simp [f64s, h]
/-- Each is a word. -/
def Wds (l : List Nat) : Prop := ∀ b ∈ l, b < 18446744073709551616
theorem Wds.at_ {l : List Nat} (h : Wds l) (i : Nat) (hi : i < l.length) : l[i] < 18446744073709551616 := h _ (List.getElem_mem hi)

section
variable {H : Type} {enc : TypeId × Value → H} {P : Program} {w : World} {base : Nat} {spare : Nat → Bool} {held : Bool}
theorem trod_float {e : TypeId} {n : Nat} {v : Value} {y : DataW H × List MemPlace} (he : P.underlying e = some (.float .f64)) (h : DataW.trod enc P w base spare held n e [v] = some y) : ∃ b : Nat, v = .float .f64 b ∧ b < 18446744073709551616 := by
  cases n with
  | zero => simp [DataW.trod] at h
  | succ n =>
    rw [DataW.trod_step] at h
    unfold DataW.trodStep at h
    rw [he] at h
    split at h
    case h_3 k k' b h1 h2 =>
      injection h1 with h1; injection h1 with h1
      subst h1
      split at h
      · rename_i hw
        obtain ⟨rfl, hw⟩ := hw
        exact ⟨b, by simpa using h2, by simpa [Lit.wf] using hw⟩
      · cases h
    all_goals first | cases h; done | (exfalso; rename_i h1 h2; simp at h1; done) | (exfalso; rename_i h1; simp at h1; done) | (exfalso; rename_i h1 h2 h3; simp at h1; done) | skip
    all_goals done

theorem open_flo {t e : TypeId} {n : Nat} {v : Value} {y : DataW H × List MemPlace} (ht : P.underlying t = some (.slice e)) (hc : P.cellsOf e = 1) (he : P.underlying e = some (.float .f64))
    (h : DataW.trod enc P w base spare held n t [v] = some y) : ∃ A c l, v = .slice A l.length c ∧ l.length ≤ c ∧ c < 9223372036854775808 ∧ Wds l ∧ Row w A (f64s l) := by
  rcases open_slice1 ht hc h with ⟨h0, _⟩ | ⟨a, len, cap, m, n, V, D, Pl, hcs, hb, hl, hm, hmm, hx, hi⟩
  · refine ⟨none, 0, [], ?_, by simp, by decide, (fun b hb => by cases hb), .inl rfl⟩
    simpa using h0
  · have hle : len ≤ m := by rw [hmm]; split <;> omega
    have hb' : ∀ i, i < len → ∃ b : Nat, V i = .float .f64 b ∧ b < 18446744073709551616 := fun i h => trod_float he (hi i (by omega)).2
    obtain ⟨B, hB⟩ := choose_lt (α := Nat) (p := fun i b => V i = .float .f64 b ∧ b < 18446744073709551616) hb'
    have hcap : cap < 9223372036854775808 := by unfold maxLen at hm; omega
    refine ⟨some a, cap, (List.range len).map B, by simpa using hcs, by simpa using hl, hcap, ?_, ?_⟩
    · intro b hb
      obtain ⟨i, hi1, rfl⟩ := List.mem_map.1 hb
      exact (hB i (List.mem_range.1 hi1)).2
    · by_cases hz : len = 0
      · subst hz; exact .inl rfl
      · have h0 := (hi 0 (by omega)).1
        obtain ⟨b, o, s⟩ := a
        have hs : s = none := by
          cases s with
          | none => rfl
          | some s => exfalso; simp [Addr.add, World.cell?] at h0; split at h0 <;> cases h0
        subst hs
        refine .inr ⟨b, o, rfl, fun i v hv => ?_⟩
        obtain ⟨hi1, rfl⟩ := f64s_get? hv
        have hil : i < len := by simpa using hi1
        have := (hi i (by omega)).1
        rw [(hB i hil).1] at this
        rw [add_plain] at this
        rw [this]; simp
/-- A vector. -/
def vec (A : Option Addr) (n c : Nat) (off k inc : Int) : Value := .agg #[.slice A n c, .int .i64 off, .int .i64 k, .int .i64 inc]

theorem open_flos {t e : TypeId} {v : Value} {d : DataW H} {p : List MemPlace} {r : Reach} {b0 : Nat} (ht : P.underlying t = some (.slice e)) (hc : P.cellsOf e = 1) (he : P.underlying e = some (.float .f64))
    (hv : Value.okWide P w r b0 t v) (h : DataW.Trod enc P w base spare held t v d p) : ∃ A c l, v = .slice A l.length c ∧ l.length ≤ c ∧ c < 9223372036854775808 ∧ Wds l ∧ Row w A (f64s l) := by
  obtain ⟨a, len, cap, rfl⟩ := okWide_slice ht hv
  obtain ⟨fuel, hf⟩ := h
  exact open_flo ht hc he (by simpa [Value.cells] using hf)
end
end Go.Proofs.Ytjjneiidggcfdaa
set_option linter.unusedVariables false
namespace Go.Proofs.Ytjjneiidggcfdaa
open Go.RowKit Go.WideShapes Go.ChangeShapes Go.Deep

/-- The cells of a list of ints. -/
def i64s (l : List Int) : List Value := l.map fun (z : Int) => Value.int .i64 z
theorem i64s_get (l : List Int) (i : Nat) (h : i < l.length) : (i64s l)[i]? = some (.int .i64 l[i]) := by simp [i64s, h]
section
variable {H : Type} {enc : TypeId × Value → H} {P : Program} {w : World} {base : Nat} {spare : Nat → Bool} {held : Bool}
end
end Go.Proofs.Ytjjneiidggcfdaa
set_option linter.unusedVariables false
namespace Go.Proofs.Ytjjneiidggcfdaa
open Go.RowKit Go.WideShapes Go.ChangeShapes Go.Deep

/-- The cells of a list of bytes. -/
def u8s (l : List Nat) : List Value := l.map fun (b : Nat) => Value.int .u8 (b : Int)
theorem u8s_get (l : List Nat) (i : Nat) (h : i < l.length) : (u8s l)[i]? = some (.int .u8 (l[i] : Int)) := by simp [u8s, h]
theorem u8s_get? {l : List Nat} {i : Nat} {v : Value} (h : (u8s l)[i]? = some v) : ∃ hi : i < l.length, v = .int .u8 (l[i] : Int) := by
  unfold u8s at h
  rw [List.getElem?_map] at h
  rcases Nat.lt_or_ge i l.length with hl | hl
  · rw [List.getElem?_eq_getElem hl] at h
    exact ⟨hl, by simpa using h.symm⟩
  · rw [List.getElem?_eq_none hl] at h; cases h
section
variable {H : Type} {enc : TypeId × Value → H} {P : Program} {w : World} {base : Nat} {spare : Nat → Bool} {held : Bool}
theorem trod_u8 {e : TypeId} {n : Nat} {v : Value} {y : DataW H × List MemPlace} (he : P.underlying e = some (.int .u8)) (h : DataW.trod enc P w base spare held n e [v] = some y) : ∃ z : Nat, v = .int .u8 (z : Int) ∧ z < 256 := by
  obtain ⟨m, hv, _, hw⟩ := DataW.trod_int he h
  simp [Lit.wf, IntKind.min, IntKind.max, IntKind.signed, IntKind.bits] at hw
  refine ⟨m.toNat, ?_, by omega⟩
  rw [Int.toNat_of_nonneg (by omega)]
  simpa using hv
theorem open_u8c {t e : TypeId} {n : Nat} {v : Value} {y : DataW H × List MemPlace} (ht : P.underlying t = some (.slice e)) (hc : P.cellsOf e = 1) (he : P.underlying e = some (.int .u8))
    (h : DataW.trod enc P w base spare held n t [v] = some y) : ∃ A c l, v = .slice A l.length c ∧ l.length ≤ c ∧ c < 9223372036854775808 ∧ (∀ z ∈ l, z < 256) ∧ Row w A (u8s l) := by
  rcases open_slice1 ht hc h with ⟨h0, _⟩ | ⟨a, len, cap, m, n, V, D, Pl, hcs, hb, hl, hm, hmm, hx, hi⟩
  · refine ⟨none, 0, [], ?_, by simp, by decide, (fun b hb => by cases hb), .inl rfl⟩
    simpa using h0
  · have hle : len ≤ m := by rw [hmm]; split <;> omega
    have hb' : ∀ i, i < len → ∃ b : Nat, V i = .int .u8 (b : Int) ∧ b < 256 := fun i h => trod_u8 he (hi i (by omega)).2
    obtain ⟨B, hB⟩ := choose_lt (α := Nat) (p := fun i b => V i = .int .u8 (b : Int) ∧ b < 256) hb'
    have hcap : cap < 9223372036854775808 := by unfold maxLen at hm; omega
    refine ⟨some a, cap, (List.range len).map B, by simpa using hcs, by simpa using hl, hcap, ?_, ?_⟩
    · intro b hb
      obtain ⟨i, hi1, rfl⟩ := List.mem_map.1 hb
      exact (hB i (List.mem_range.1 hi1)).2
    · by_cases hz : len = 0
      · subst hz; exact .inl rfl
      · have h0 := (hi 0 (by omega)).1
        obtain ⟨b, o, s⟩ := a
        have hs : s = none := by
          cases s with
          | none => rfl
          | some s => exfalso; simp [Addr.add, World.cell?] at h0; split at h0 <;> cases h0
        subst hs
        refine .inr ⟨b, o, rfl, fun i v hv => ?_⟩
        obtain ⟨hi1, rfl⟩ := u8s_get? hv
        have hil : i < len := by simpa using hi1
        have := (hi i (by omega)).1
        rw [(hB i hil).1] at this
        rw [add_plain] at this
        rw [this]; simp
theorem open_u8l {t e : TypeId} {v : Value} {d : DataW H} {p : List MemPlace} {r : Reach} {b0 : Nat} (ht : P.underlying t = some (.slice e)) (hc : P.cellsOf e = 1) (he : P.underlying e = some (.int .u8))
    (hv : Value.okWide P w r b0 t v) (h : DataW.Trod enc P w base spare held t v d p) : ∃ A c l, v = .slice A l.length c ∧ l.length ≤ c ∧ c < 9223372036854775808 ∧ (∀ z ∈ l, z < 256) ∧ Row w A (u8s l) := by
  obtain ⟨a, len, cap, rfl⟩ := okWide_slice ht hv
  obtain ⟨fuel, hf⟩ := h
  exact open_u8c ht hc he (by simpa [Value.cells] using hf)
end
end Go.Proofs.Ytjjneiidggcfdaa
set_option linter.unusedVariables false
namespace Go.Proofs.Ytjjneiidggcfdaa
open Go.RowKit

/-- r is the number z: the same word, or both are NaN. -/
def Is (r z : Nat) : Prop := r < 18446744073709551616 ∧ (r = z ∨ (Fl.nan r = true ∧ Fl.nan z = true))
theorem Is.lt {r z : Nat} (h : Is r z) : r < 18446744073709551616 := h.1
theorem Is.refl {r : Nat} (h : r < 18446744073709551616) : Is r r := ⟨h, .inl rfl⟩
theorem Is.same {r s z : Nat} (h : Is r z) (k : Is s z) : sameB r s = true := by
  unfold sameB
  rcases h with ⟨_, rfl | ⟨h1, h2⟩⟩ <;> rcases k with ⟨_, rfl | ⟨k1, k2⟩⟩ <;> simp_all
theorem Is.nan {r z : Nat} (h : Is r z) : Fl.nan r = Fl.nan z := by
  rcases h with ⟨_, rfl | ⟨h1, h2⟩⟩
  · rfl
  · rw [h1, h2]
theorem Is.trans {r s z : Nat} (h : Is r s) (k : Is s z) : Is r z := by
  refine ⟨h.1, ?_⟩
  rcases h with ⟨_, rfl | ⟨h1, h2⟩⟩
  · exact k.2
  · exact .inr ⟨h1, by rw [← k.nan]; exact h2⟩
theorem nan_rung {b : Nat} : Fl.nan b = true ↔ Fl.INF < Fl.rung b := by unfold Fl.nan; simp
/-- Is it a sum, a difference, a product, a quotient? -/
def isAr : BinOp → Bool | .add => true | .sub => true | .mul => true | .quo => true | _ => false
theorem fbits_lt {op : BinOp} {x y r : Nat} (h : floatBits op .f64 x y = some r) : r < 18446744073709551616 := by
  have := floatBits_wf h
  simpa [Lit.wf] using this
/-- r is what the operation comes to. -/
def Comes (op : BinOp) (x y r : Nat) : Prop := r < 18446744073709551616 ∧ (floatBits op .f64 x y = some r ∨ (floatBits op .f64 x y = none ∧ Fl.nan r = true))
/-! ### As the walk has them. -/
/-- The NaN that the tape gives. -/
def tapeNan (w : World) (x y : Nat) : Nat := Question.cut (.nanBits .f64 x y) (w.tape w.drawn (.nanBits .f64 x y))
theorem tapeNan_lt (w : World) (x y : Nat) : tapeNan w x y < 18446744073709551616 ∧ Fl.nan (tapeNan w x y) = true := by
  unfold tapeNan
  generalize w.tape w.drawn (.nanBits .f64 x y) = t
  have e : Question.cut (.nanBits .f64 x y) t = (t % 2) * 9223372036854775808 + (9218868437227405312 + 1 + t / 2 % 4503599627370495) := by
    show (t % 2) * 2 ^ 63 + 0x7ff0000000000000 + 1 + (t / 2) % (2 ^ 52 - 1) = _
    omega
  rw [e]
  have h1 : t % 2 < 2 := Nat.mod_lt _ (by omega)
  have h2 : t / 2 % 4503599627370495 < 4503599627370495 := Nat.mod_lt _ (by omega)
  generalize t / 2 % 4503599627370495 = q at *
  generalize t % 2 = s at *
  refine ⟨by omega, ?_⟩
  rw [nan_rung]
  unfold Fl.rung
  rw [Fl.INF_val]
  omega
/-- What the operation gives in a world. -/
def fres (op : BinOp) (w : World) (x y : Nat) : Nat := (floatBits op .f64 x y).getD (tapeNan w x y)
/-- How often it asks the tape. -/
def fdrw (op : BinOp) (x y : Nat) : Nat := if (floatBits op .f64 x y).isSome then 0 else 1
theorem fres_comes (op : BinOp) (w : World) (x y : Nat) : Comes op x y (fres op w x y) := by
  unfold fres Comes
  cases h : floatBits op .f64 x y with
  | some r => exact ⟨fbits_lt h, .inl rfl⟩
  | none => exact ⟨(tapeNan_lt w x y).1, .inr ⟨rfl, (tapeNan_lt w x y).2⟩⟩
theorem run_far (P : Program) (op : BinOp) (hop : isAr op = true) (t : TypeId) (x y : Nat) (w : World) : (binOp op t (.float .f64 x) (.float .f64 y)).run P w = .ok (.float .f64 (fres op w x y)) (w.drewN (fdrw op x y)) := by
  unfold fres fdrw
  cases h : floatBits op .f64 x y with
  | some r => exact run_float_arith w op t .f64 x y r h
  | none =>
    unfold floatBits at h
    cases op <;> simp only [isAr] at hop <;> first | (cases hop; done) | skip
    all_goals
      simp only at h
      simp only [binOp, Op.floatArith, h, tapeNan]
      rfl
theorem run_fadd (P : Program) (t : TypeId) (x y : Nat) (w : World) : (binOp .add t (.float .f64 x) (.float .f64 y)).run P w = .ok (.float .f64 (fres .add w x y)) (w.drewN (fdrw .add x y)) := run_far P .add rfl t x y w
theorem run_fsub (P : Program) (t : TypeId) (x y : Nat) (w : World) : (binOp .sub t (.float .f64 x) (.float .f64 y)).run P w = .ok (.float .f64 (fres .sub w x y)) (w.drewN (fdrw .sub x y)) := run_far P .sub rfl t x y w
theorem run_fmul (P : Program) (t : TypeId) (x y : Nat) (w : World) : (binOp .mul t (.float .f64 x) (.float .f64 y)).run P w = .ok (.float .f64 (fres .mul w x y)) (w.drewN (fdrw .mul x y)) := run_far P .mul rfl t x y w
theorem run_fquo (P : Program) (t : TypeId) (x y : Nat) (w : World) : (binOp .quo t (.float .f64 x) (.float .f64 y)).run P w = .ok (.float .f64 (fres .quo w x y)) (w.drewN (fdrw .quo x y)) := run_far P .quo rfl t x y w
attribute [go_sem] run_fadd run_fsub run_fmul run_fquo
end Go.Proofs.Ytjjneiidggcfdaa
set_option linter.unusedVariables false
namespace Go.Proofs.Ytjjneiidggcfdaa
open Go.RowKit
attribute [local go_sem ↓] Go.wp_at_zero Go.wp_at_succ

@[go_sem] theorem run_store_float (P : Program) (w : World) (a : Addr) (m : Mode) (k : FloatKind) (b : Nat) : (store a (.float k b) m).run P w = stored P w a (.float k b) m := run_store P w a _ m rfl

theorem kind_two (x : Nat) : (kindOf x == 2) = Fl.nan x := by
  unfold kindOf Fl.nan
  rw [Bool.eq_iff_iff, beq_iff_eq, decide_eq_true_eq]
  split
  · omega
  · split <;> omega

theorem rsame_v (a b : Nat) (w : World) (ha : a < 18446744073709551616) (hb : b < 18446744073709551616) :
    Calls Try.prog 57 #[.float .f64 a, .float .f64 b] w fun e w' => e = .returned (.bool (sameB a b)) ∧ w = w' := by
  have ka := kind_two a
  have kb := kind_two b
  have hc : (((a : Int) == (b : Int)) = true ∧ sameB a b = true) ∨ (((a : Int) == (b : Int)) = false ∧ ((Fl.nan a = true ∧ sameB a b = Fl.nan b) ∨ (Fl.nan a = false ∧ sameB a b = false))) := by
    by_cases h : a = b
    · exact .inl ⟨by simp [h], by simp [sameB, h]⟩
    · refine .inr ⟨by simp; omega, ?_⟩
      cases hn : Fl.nan a
      · exact .inr ⟨rfl, by simp [sameB, h, hn]⟩
      · exact .inl ⟨rfl, by simp [sameB, h, hn]⟩
  rcases hc with ⟨h1, h2⟩ | ⟨h1, ⟨h3, h2⟩ | ⟨h3, h2⟩⟩
  all_goals
    rw [h2]
    try rw [h3] at ka
    clear h2
    try clear h3
    go_enter Try.func57, Try.ntmps57
    go_wp2_with fail
    refine (parts_any a _ ha).mono ?_
    rintro e w' ⟨rfl, rfl⟩
    go_wp2_with fail
    refine (parts_any b _ hb).mono ?_
    rintro e w' ⟨rfl, rfl⟩
    go_wp2
    go_ret
    exact ⟨rfl, rfl⟩
theorem sameB_refl (a : Nat) : sameB a a = true := by simp [sameB]

/-- Two lists of the same numbers. -/
def Alike (x y : List Nat) : Prop := x.length = y.length ∧ ∀ (i : Nat) (h : i < x.length) (h' : i < y.length), sameB x[i] y[i] = true
theorem Alike.refl (x : List Nat) : Alike x x := ⟨rfl, fun i _ _ => sameB_refl _⟩

theorem rall_any (A B : Option Addr) (c d : Nat) (x y : List Nat) (w : World) (hx : Wds x) (hy : Wds y) (hA : Row w A (f64s x)) (hB : Row w B (f64s y)) (hl : x.length < 9223372036854775808) (h : Alike x y) :
    Calls Try.prog 26 #[.slice A x.length c, .slice B y.length d] w fun e w' => e = .returned (.bool true) ∧ Below w.heap.size w w' := by
  have hxy := h.1
  generalize hn : x.length = n at *
  have hn' : y.length = n := hxy.symm
  rw [hn']
  have HN := Lib.hid hn
  have HN' := Lib.hid hn'
  have HA := Lib.hid hA
  have HB := Lib.hid hB
  have HX := Lib.hid hx
  have HY := Lib.hid hy
  have HL := Lib.hid h
  clear hn hn' hA hB hx hy h hxy
  go_enter Try.func26, Try.ntmps26
  go_wp2
  go_loopw [5] (fun i wr => ∃ k : Nat, k ≤ n ∧ i = .int .i64 k ∧ Below w.heap.size w wr) (fun i _ => n - (intOf i).toNat)
  case atStart => exact ⟨0, Nat.zero_le _, rfl, Below.refl _ _⟩
  case round =>
    obtain ⟨k, hk, rfl, hbl⟩ := hrel
    have HBl := Lib.hid hbl
    clear hbl
    by_cases hlt : k < n
    · have hx1 : k < x.length := by rw [HN.out]; exact hlt
      have hy1 : k < y.length := by rw [HN'.out]; exact hlt
      obtain ⟨b, o, rfl, _, hcell⟩ := HA.out.at_ (f64s_get x k hx1)
      obtain ⟨b', o', rfl, _, hcell'⟩ := HB.out.at_ (f64s_get y k hy1)
      have HW := Lib.hid (HX.out.at_ k hx1)
      have HW' := Lib.hid (HY.out.at_ k hy1)
      have HS := Lib.hid (HL.out.2 k hx1 hy1)
      generalize x[k] = u at *
      generalize y[k] = v at *
      have hc1 := cell_below hcell HBl.out
      have hc2 := cell_below hcell' HBl.out
      clear hcell hcell'
      go_wp2_with fail
      go_region_held3 (fun w' => w'.cell? ⟨b, o + k, none⟩ = some (.float .f64 u) ∧ w'.cell? ⟨b', o' + k, none⟩ = some (.float .f64 v))
        (first | go_keep | exact ⟨hc1, hc2⟩)
        ((go_at_call 57; refine (rsame_v u v _ HW.out HW'.out).mono ?_; rw [HS.out]; rintro e w1 ⟨rfl, rfl⟩; skip))
      go_wp2_with fail
      go_roundw
      case rel => exact ⟨k + 1, by omega, by go_num, HBl.out.drew⟩
      case measure => simp [intOf]; omega
    · go_wp2
      go_ret
      exact ⟨rfl, HBl.out⟩
end Go.Proofs.Ytjjneiidggcfdaa
set_option linter.unusedVariables false
namespace Go.Proofs.Ytjjneiidggcfdaa
open Go.RowKit
attribute [local go_sem ↓] Go.wp_at_zero Go.wp_at_succ

theorem info_f64 : (Try.prog.info? 25).map (fun i => (i.zero, i.size, i.bytes)) = some (some (.float .f64 0), 1, 8) := by kernel_rfl
theorem wrapi {z : Int} (h0 : -9223372036854775808 ≤ z) (h1 : z < 9223372036854775808) : IntKind.i64.wrap z = z := by
  simp [IntKind.wrap, IntKind.bits, IntKind.signed]; omega
/-- The place of the q-th number, row by row, of a matrix of r rows and k columns. -/
def spot (r k q : Nat) : Nat := q / k + q % k * r
theorem spot_lt {r k q : Nat} (h : q < r * k) : spot r k q < r * k := by
  unfold spot
  have hk : 0 < k := by rcases Nat.eq_zero_or_pos k with rfl | h0 <;> omega
  have h1 : q / k < r := Nat.div_lt_of_lt_mul (by rwa [Nat.mul_comm])
  have h2 : q % k < k := Nat.mod_lt _ hk
  calc q / k + q % k * r < r + q % k * r := by omega
    _ = (q % k + 1) * r := by rw [Nat.add_mul, Nat.one_mul, Nat.add_comm]
    _ ≤ k * r := Nat.mul_le_mul_right _ h2
    _ = r * k := Nat.mul_comm _ _
/-- The matrix' list when the first q numbers stand in it. -/
def Dens (l : List Nat) (r k q : Nat) (M : List Nat) : Prop := M.length = r * k ∧ ∀ p, p < r * k → M.getD (spot r k p) 0 = if p < q then l.getD p 0 else 0
theorem Dens.zero (l : List Nat) (r k : Nat) : Dens l r k 0 (List.replicate (r * k) 0) := by
  refine ⟨by simp, fun p hp => ?_⟩
  have := spot_lt hp
  simp [List.getD, this]
/-- The matrix' list in the end. -/
def Dense (l : List Nat) (r k : Nat) (M : List Nat) : Prop := M.length = r * k ∧ ∀ p, p < r * k → M.getD (spot r k p) 0 = l.getD p 0
theorem Dens.done {l : List Nat} {r k q : Nat} {M : List Nat} (h : Dens l r k q M) (hq : q = min l.length (r * k)) : Dense l r k M := by
  refine ⟨h.1, fun p hp => ?_⟩
  rw [h.2 p hp]
  by_cases hpq : p < q
  · rw [if_pos hpq]
  · rw [if_neg hpq]
    have : l.length ≤ p := by omega
    simp [List.getD, List.getElem?_eq_none this]

end Go.Proofs.Ytjjneiidggcfdaa
set_option linter.unusedVariables false
namespace Go.Proofs.Ytjjneiidggcfdaa
open Go.RowKit
attribute [local go_sem ↓] Go.wp_at_zero Go.wp_at_succ

theorem run_field_D (A : Option Addr) (n c : Nat) (off r k ld : Int) (w : World) :
    (Instr.field 95 (.agg #[.slice A n c, .int .i64 off, .int .i64 r, .int .i64 k, .int .i64 ld]) 0).run Try.prog w = .ok (.slice A n c) w := by kernel_rfl
attribute [go_sem] run_field_D
end Go.Proofs.Ytjjneiidggcfdaa
set_option linter.unusedVariables false
namespace Go.Proofs.Ytjjneiidggcfdaa
open Go.RowKit
attribute [local go_sem ↓] Go.wp_at_zero Go.wp_at_succ

/-- The first q numbers of the table stand there. -/
def Tab (l : List Nat) (off r k ld q : Nat) (T : List Nat) : Prop := T.length = r * k ∧ ∀ i j, i < r → j < k → i * k + j < q → T.getD (i * k + j) 0 = l.getD (off + i + j * ld) 0
theorem Tab.zero (l : List Nat) (off r k ld : Nat) : Tab l off r k ld 0 (List.replicate (r * k) 0) := ⟨by simp, fun i j _ _ h => by omega⟩
end Go.Proofs.Ytjjneiidggcfdaa
set_option linter.unusedVariables false
namespace Go.Proofs.Ytjjneiidggcfdaa
open Go.RowKit
attribute [local go_sem ↓] Go.wp_at_zero Go.wp_at_succ

/-- Block g is the call's own, and the list lies at its beginning. -/
def Own (w : World) (g : Nat) (l : List Nat) : Prop := ∃ cs : Array Value, Blk w g 25 cs ∧ cs.toList.take l.length = f64s l
section
variable {w w' : World} {g : Nat} {l : List Nat}
theorem Own.get (h : Own w g l) (i : Nat) (hi : i < l.length) : w.cell? ⟨g, i, none⟩ = some (.float .f64 l[i]) := by
  obtain ⟨cs, hB, ht⟩ := h
  rw [hB.cell i]
  have h1 : (cs.toList.take l.length)[i]? = some (.float .f64 l[i]) := by rw [ht]; exact f64s_get l i hi
  rw [List.getElem?_take_of_lt hi] at h1
  simpa using h1
theorem Own.row (h : Own w g l) : Row w (some ⟨g, 0, none⟩) (f64s l) :=
  .inr ⟨g, 0, rfl, fun i v hv => by
    obtain ⟨hi, rfl⟩ := f64s_get? hv
    rw [Nat.zero_add]; exact h.get i hi⟩
theorem Own.lt (h : Own w g l) : g < w.heap.size := by
  obtain ⟨cs, hB, _⟩ := h; exact hB.lt
theorem Own.frozen (h : Own w g l) (i : Nat) : w.frozen? ⟨g, i, none⟩ = false := by
  obtain ⟨cs, hB, _⟩ := h; exact hB.frozen i
theorem Own.nxt (h : Own w g l) (hb : Below w.heap.size w w') : Own w' g l := by
  obtain ⟨cs, hB, ht⟩ := h; exact ⟨cs, hB.nxt hb, ht⟩
theorem Own.only {k : Nat} (h : Own w g l) (hO : Only k w w') (hne : g ≠ k) : Own w' g l := by
  obtain ⟨cs, hB, ht⟩ := h; exact ⟨cs, hO.blk hne hB, ht⟩
theorem Own.set_ (h : Own w g l) (i v : Nat) (hi : i < l.length) : Own (w.setCell ⟨g, i, none⟩ (.float .f64 v)) g (l.set i v) := by
  obtain ⟨cs, hB, ht⟩ := h
  refine ⟨_, hB.set_ i _, ?_⟩
  rw [List.length_set, Array.toList_setIfInBounds, List.take_set, ht]
  simp [f64s, List.map_set]
theorem Own.drew (h : Own w g l) : Own w.drew g l := by
  obtain ⟨cs, hB, ht⟩ := h; exact ⟨cs, hB.drew, ht⟩
theorem Own.other (h : Own w g l) {p : Addr} (hp : g ≠ p.block) (u : Value) : Own (w.setCell p u) g l := by
  obtain ⟨cs, hB, ht⟩ := h; exact ⟨cs, hB.other hp u, ht⟩
theorem own_of {v : Value} {n : Nat} {B : Nat} (h : w.ownsRow B 25 1 v n (f64s l)) (hv : v ≠ .slice none 0 0) (hn : n = l.length) : ∃ g c, v = .slice (some ⟨g, 0, none⟩) n c ∧ B ≤ g ∧ n ≤ c ∧ c < 9223372036854775808 ∧ Own w g l := by
  obtain ⟨hl, ⟨h1, _⟩ | ⟨g, cap, cur, h1, h2, h3, h4, h5, h6, h7⟩⟩ := h
  · exact absurd h1 hv
  · exact ⟨g, cap, h1, h2, h4, by unfold maxLen at h5; omega, cur, h3, by rw [← hn]; simpa using h7⟩
end

theorem fi0 : ∃ i, Try.prog.info? 25 = some i ∧ i.zero = some (.float .f64 0) ∧ i.size = 1 ∧ i.bytes = 8 := by
  obtain ⟨i, hi, h⟩ := Option.map_eq_some_iff.1 info_f64
  simp only [Prod.mk.injEq] at h
  exact ⟨i, hi, h.1, h.2.1, h.2.2⟩
theorem row_add {w : World} {a : Addr} {l : List Nat} (h : Row w (some a) (f64s l)) : ∀ j u, (f64s l)[j]? = some u → w.cell? (a.add j) = some u := by
  intro j u hj
  rcases h with h | ⟨b, o, e, hc⟩
  · rw [h] at hj; cases hj
  · injection e with e
    subst e
    rw [Go.WideShapes.add_plain]
    exact hc j u hj
theorem one_cells (l : List Nat) : ∀ u ∈ f64s l, u.oneCell' = true := by
  intro u hu
  obtain ⟨b, _, rfl⟩ := List.mem_map.1 hu
  rfl
theorem own_empty (w : World) : (w.alloc (.cells #[] 25)).ownsRow w.heap.size 25 1 (.slice (some ⟨w.heap.size, 0, none⟩) 0 0) 0 [] :=
  ⟨rfl, .inr ⟨w.heap.size, 0, #[], rfl, Nat.le_refl _, heap_alloc_new w _, Nat.le_refl _, Nat.zero_le _, rfl, rfl⟩⟩

theorem rcopy_some (a : Addr) (c : Nat) (l : List Nat) (w : World) (hA : Row w (some a) (f64s l)) (hl : l.length ≤ 1048576) :
    Calls Try.prog 37 #[.slice (some a) l.length c] w fun e w' => ∃ g c', e = .returned (.slice (some ⟨g, 0, none⟩) l.length c') ∧ Own w' g l ∧ w.heap.size ≤ g ∧ l.length ≤ c' ∧ c' < 9223372036854775808 ∧ Below w.heap.size w w' := by
  obtain ⟨i0, hi, hz0, hz1, hz2⟩ := fi0
  have HA := Lib.hid hA
  clear hA
  go_enter Try.func37, Try.ntmps37
  go_wp2_with (at_builtin; refine wpList_append_own _ rfl _ _ 22 rfl w.heap.size 25 i0 (.float .f64 0) 1 8 Try.underlying22 hi hz0 hz1 hz2 rfl (by decide) _ _ _ rfl (own_empty w) a l.length c (f64s l) rfl (by simp [f64s]) ?c1 (one_cells l) ?c3 ?c4 ?c5 ?_)
  case c1 => exact row_add (HA.out.below ((Below.refl _ _).alloc (Nat.le_refl _) _))
  case c3 => unfold maxLen; omega
  case c4 => omega
  case c5 => simp
  intro v' w' hown hgrow hne
  obtain ⟨g, c', rfl, hg, hc, hm, ho⟩ := own_of hown hne rfl
  have HO := Lib.hid ho
  have HB := Lib.hid (((Below.refl w.heap.size w).alloc (Nat.le_refl _) (.cells #[] 25)).grown hgrow (by simp) (fun k hk => by simp [Value.ownBlock] at hk; omega))
  clear ho hgrow hown
  go_wp2_with fail
  go_ret
  exact ⟨g, c', rfl, HO.out, hg, hc, hm, HB.out⟩

theorem run_append_nil (B c : Nat) (w : World) : (Builtin.append_ #[22, 22] 22 #[.slice (some ⟨B, 0, none⟩) 0 0, .slice none 0 c]).run Try.prog w = .ok (.slice (some ⟨B, 0, none⟩) 0 0) w := by kernel_rfl
attribute [go_sem] run_append_nil

theorem rcopy_nil (c : Nat) (w : World) :
    Calls Try.prog 37 #[.slice none 0 c] w fun e w' => ∃ g c', e = .returned (.slice (some ⟨g, 0, none⟩) 0 c') ∧ Own w' g [] ∧ w.heap.size ≤ g ∧ 0 ≤ c' ∧ c' < 9223372036854775808 ∧ Below w.heap.size w w' := by
  go_enter Try.func37, Try.ntmps37
  go_wp2_with fail
  go_ret
  exact ⟨w.heap.size, 0, rfl, ⟨#[], Blk.new w _ _, rfl⟩, Nat.le_refl _, Nat.le_refl _, by omega, (Below.refl _ _).alloc (Nat.le_refl _) _⟩

theorem rcopy_any (A : Option Addr) (c : Nat) (l : List Nat) (w : World) (hA : Row w A (f64s l)) (hl : l.length ≤ 1048576) :
    Calls Try.prog 37 #[.slice A l.length c] w fun e w' => ∃ g c', e = .returned (.slice (some ⟨g, 0, none⟩) l.length c') ∧ Own w' g l ∧ w.heap.size ≤ g ∧ l.length ≤ c' ∧ c' < 9223372036854775808 ∧ Below w.heap.size w w' := by
  cases A with
  | some a => exact rcopy_some a c l w hA hl
  | none =>
    rcases hA with h | ⟨b, o, h, _⟩
    · obtain rfl : l = [] := by simpa [f64s] using h
      exact rcopy_nil c w
    · cases h

end Go.Proofs.Ytjjneiidggcfdaa
set_option linter.unusedVariables false
namespace Go.Proofs.Ytjjneiidggcfdaa
open Go.RowKit
attribute [local go_sem ↓] Go.wp_at_zero Go.wp_at_succ

theorem Only.of_below {g : Nat} {w w' : World} (h : Below w.heap.size w w') : Only g w w' := ⟨h.os, h.tape, h.output, h.size, fun k hk _ => h.block k hk⟩
theorem place_any (A : Option Addr) (n c : Nat) (off r k ld : Int) (i j p : Int) (w : World) (hp : off + i + j * ld = p) (h1 : I64 (off + i)) (h2 : I64 (j * ld)) (h3 : I64 p) :
    Calls Try.prog 82 #[mat A n c off r k ld, .int .i64 i, .int .i64 j] w fun e w' => e = .returned (.int .i64 p) ∧ Below w.heap.size w w' := by
  unfold I64 at h1 h2 h3
  have w1 : IntKind.i64.wrap (off + i) = off + i := wrapi (by omega) (by omega)
  have w2 : IntKind.i64.wrap (j * ld) = j * ld := wrapi (by omega) (by omega)
  have w3 : IntKind.i64.wrap p = p := wrapi (by omega) (by omega)
  have v1 : wrap64 (off + i) = off + i := by unfold wrap64; omega
  have v3 : wrap64 p = p := by unfold wrap64; omega
  unfold mat
  go_enter Try.func82, Try.ntmps82
  go_wp2_with fail
  go_ret
  exact ⟨rfl, (Below.refl w.heap.size w).alloc (Nat.le_refl _) _⟩

end Go.Proofs.Ytjjneiidggcfdaa
set_option linter.unusedVariables false
namespace Go.Proofs.Ytjjneiidggcfdaa
open Go.RowKit
attribute [local go_sem ↓] Go.wp_at_zero Go.wp_at_succ

theorem held10 {w W w' : World} {b0 o0 b1 o1 b2 o2 b3 o3 b4 o4 b5 o5 b6 o6 b7 o7 b8 o8 b9 o9 : Nat} {v0 v1 v2 v3 v4 v5 v6 v7 v8 v9 : Value} (h : W.cell? ⟨b0, o0, none⟩ = some v0 ∧ W.cell? ⟨b1, o1, none⟩ = some v1 ∧ W.cell? ⟨b2, o2, none⟩ = some v2 ∧ W.cell? ⟨b3, o3, none⟩ = some v3 ∧ W.cell? ⟨b4, o4, none⟩ = some v4 ∧ W.cell? ⟨b5, o5, none⟩ = some v5 ∧ W.cell? ⟨b6, o6, none⟩ = some v6 ∧ W.cell? ⟨b7, o7, none⟩ = some v7 ∧ W.cell? ⟨b8, o8, none⟩ = some v8 ∧ W.cell? ⟨b9, o9, none⟩ = some v9 ∧ Below w.heap.size w W) (hb : Below W.heap.size W w') :
    w'.cell? ⟨b0, o0, none⟩ = some v0 ∧ w'.cell? ⟨b1, o1, none⟩ = some v1 ∧ w'.cell? ⟨b2, o2, none⟩ = some v2 ∧ w'.cell? ⟨b3, o3, none⟩ = some v3 ∧ w'.cell? ⟨b4, o4, none⟩ = some v4 ∧ w'.cell? ⟨b5, o5, none⟩ = some v5 ∧ w'.cell? ⟨b6, o6, none⟩ = some v6 ∧ w'.cell? ⟨b7, o7, none⟩ = some v7 ∧ w'.cell? ⟨b8, o8, none⟩ = some v8 ∧ w'.cell? ⟨b9, o9, none⟩ = some v9 ∧ Below w.heap.size w w' :=
  ⟨cell_below h.1 hb, cell_below h.2.1 hb, cell_below h.2.2.1 hb, cell_below h.2.2.2.1 hb, cell_below h.2.2.2.2.1 hb, cell_below h.2.2.2.2.2.1 hb, cell_below h.2.2.2.2.2.2.1 hb, cell_below h.2.2.2.2.2.2.2.1 hb, cell_below h.2.2.2.2.2.2.2.2.1 hb, cell_below h.2.2.2.2.2.2.2.2.2.1 hb, h.2.2.2.2.2.2.2.2.2.2.trans (hb.mono h.2.2.2.2.2.2.2.2.2.2.size)⟩

theorem info_ptr : (Try.prog.info? 25).isSome = true := by kernel_rfl
@[go_sem] theorem run_eql_f64 (a : Addr) (W : World) : (binOp .eql 100 (.pointer (some a)) (.pointer (some a))).run Try.prog W = .ok (.bool true) W := by
  obtain ⟨j, hj⟩ := Option.isSome_iff_exists.1 info_ptr
  exact run_eql_ptr_same (P := Try.prog) W a Try.underlying100 hj

/-- Where a matrix' last number stands. -/
def lastI (off r k ld : Int) : Int := off + (r - 1) + (k - 1) * ld
theorem last_any (A : Option Addr) (n c : Nat) (off r k ld : Int) (w : World) (hn : n < 9223372036854775808) (hm : matB n off r k ld = true) (hr : 0 < r) (hk : 0 < k) (hr2 : I64 r) (hk2 : I64 k) :
    Calls Try.prog 81 #[mat A n c off r k ld] w fun e w' => e = .returned (.int .i64 (lastI off r k ld)) ∧ Below w.heap.size w w' := by
  have h := of_decide_eq_true hm
  have h0 : 0 ≤ (k - 1) * ld := Int.mul_nonneg (by omega) (by omega)
  obtain ⟨p, hp⟩ : ∃ p, lastI off r k ld = p := ⟨_, rfl⟩
  have hp' : off + (r - 1) + (k - 1) * ld = p := hp
  rw [hp]
  unfold I64 at hr2 hk2
  have H1 := Lib.hid (fun W => place_any A n c off r k ld (r - 1) (k - 1) p W hp' (by unfold I64; omega) (by unfold I64; omega) (by unfold I64; omega))
  have u1 : IntKind.i64.wrap (r - 1) = r - 1 := wrapi (by omega) (by omega)
  have u2 : IntKind.i64.wrap (k - 1) = k - 1 := wrapi (by omega) (by omega)
  have v1 : wrap64 (r - 1) = r - 1 := by unfold wrap64; omega
  have v2 : wrap64 (k - 1) = k - 1 := by unfold wrap64; omega
  clear hm h h0 hp hp'
  unfold mat at *
  go_enter Try.func81, Try.ntmps81
  go_wp2_with fail
  refine (H1.out _).mono ?_
  rintro e w1 ⟨rfl, hb⟩
  have HB := Lib.hid (((Below.refl w.heap.size w).alloc (Nat.le_refl _) (.cells #[.slice A n c, .int .i64 off, .int .i64 r, .int .i64 k, .int .i64 ld] 95)).trans (hb.mono (by simp)))
  clear hb
  go_wp2_with fail
  go_ret
  exact ⟨rfl, HB.out⟩

/-- Are both right and have both numbers? -/
def bothB (n : Nat) (off r k ld : Int) (n' : Nat) (off' r' k' ld' : Int) : Bool := matB n off r k ld && matB n' off' r' k' ld' && !(r == 0 || k == 0) && !(r' == 0 || k' == 0)

/-- Matrices that aren't right, or have no numbers. -/
theorem meet_none (A : Option Addr) (n c : Nat) (off r k ld : Int) (A' : Option Addr) (n' c' : Nat) (off' r' k' ld' : Int) (w : World) (hn : n < 9223372036854775808) (ho : I64 off) (hr : I64 r) (hk : I64 k) (hi : I64 ld)
    (hn' : n' < 9223372036854775808) (ho' : I64 off') (hr' : I64 r') (hk' : I64 k') (hi' : I64 ld') (h : bothB n off r k ld n' off' r' k' ld' = false) :
    Calls Try.prog 73 #[mat A n c off r k ld, mat A' n' c' off' r' k' ld'] w fun e w' => e = .returned (.bool false) ∧ Below w.heap.size w w' := by
  have H1 := Lib.hid (fun W => good_any A n c off r k ld W hn ho hr hk hi)
  have H2 := Lib.hid (fun W => good_any A' n' c' off' r' k' ld' W hn' ho' hr' hk' hi')
  have H3 := Lib.hid (fun W => none_any A n c off r k ld W)
  have H4 := Lib.hid (fun W => none_any A' n' c' off' r' k' ld' W)
  unfold bothB at h
  generalize matB n off r k ld = x at *
  generalize matB n' off' r' k' ld' = x' at *
  generalize (r == 0 || k == 0) = y at *
  generalize (r' == 0 || k' == 0) = y' at *
  clear hn ho hr hk hi hn' ho' hr' hk' hi'
  unfold mat at *
  go_enter Try.func73, Try.ntmps73
  have HZ0 := Lib.hid ((Blk.new w 95 #[.slice A n c, .int .i64 off, .int .i64 r, .int .i64 k, .int .i64 ld]).alloc (.cells #[.slice A' n' c', .int .i64 off', .int .i64 r', .int .i64 k', .int .i64 ld'] 95))
  have HZ1 := Lib.hid (Blk.new_ (w.alloc (.cells #[.slice A n c, .int .i64 off, .int .i64 r, .int .i64 k, .int .i64 ld] 95)) 95 #[.slice A' n' c', .int .i64 off', .int .i64 r', .int .i64 k', .int .i64 ld'] (w.heap.size + 1) (by simp))
  have HB0 := Lib.hid (((Below.refl w.heap.size w).alloc (Nat.le_refl _) (.cells #[.slice A n c, .int .i64 off, .int .i64 r, .int .i64 k, .int .i64 ld] 95)).alloc (by simp) (.cells #[.slice A' n' c', .int .i64 off', .int .i64 r', .int .i64 k', .int .i64 ld'] 95))
  go_wp2_with fail
  refine (H1.out _).mono ?_
  rintro e w1 ⟨rfl, hb1⟩
  have HZ2 := Lib.hid (HZ0.out.nxt hb1)
  have HZ3 := Lib.hid (HZ1.out.nxt hb1)
  have HB1 := Lib.hid (HB0.out.trans (hb1.mono HB0.out.size))
  obtain ⟨c0, c1, c2, c3, c4⟩ := cells5 HZ2.out
  obtain ⟨d0, d1, d2, d3, d4⟩ := cells5 HZ3.out
  clear hb1
  cases x
  · go_wp2_with fail
    go_ret
    exact ⟨rfl, HB1.out⟩
  go_wp2_with fail
  refine (H2.out _).mono ?_
  rintro e w2 ⟨rfl, hb1⟩
  clear c0 c1 c2 c3 c4 d0 d1 d2 d3 d4
  have HZ4 := Lib.hid (HZ2.out.nxt hb1)
  have HZ5 := Lib.hid (HZ3.out.nxt hb1)
  have HB2 := Lib.hid (HB1.out.trans (hb1.mono HB1.out.size))
  obtain ⟨c0, c1, c2, c3, c4⟩ := cells5 HZ4.out
  obtain ⟨d0, d1, d2, d3, d4⟩ := cells5 HZ5.out
  clear hb1
  cases x'
  · go_wp2_with fail
    go_ret
    exact ⟨rfl, HB2.out⟩
  go_wp2_with fail
  refine (H3.out _).mono ?_
  rintro e w3 ⟨rfl, hb1⟩
  clear c0 c1 c2 c3 c4 d0 d1 d2 d3 d4
  have HZ6 := Lib.hid (HZ4.out.nxt hb1)
  have HZ7 := Lib.hid (HZ5.out.nxt hb1)
  have HB3 := Lib.hid (HB2.out.trans (hb1.mono HB2.out.size))
  obtain ⟨c0, c1, c2, c3, c4⟩ := cells5 HZ6.out
  obtain ⟨d0, d1, d2, d3, d4⟩ := cells5 HZ7.out
  clear hb1
  cases y
  · cases y'
    · cases h
    · go_wp2_with fail
      refine (H4.out _).mono ?_
      rintro e w4 ⟨rfl, hb1⟩
      have HB4 := Lib.hid (HB3.out.trans (hb1.mono HB3.out.size))
      clear hb1
      go_wp2_with fail
      go_ret
      exact ⟨rfl, HB4.out⟩
  · go_wp2_with fail
    go_ret
    exact ⟨rfl, HB3.out⟩

set_option maxHeartbeats 2000000 in
/-- Matrices in lists that aren't one. -/
theorem meet_far (b o n c : Nat) (off r k ld : Int) (b' o' n' c' : Nat) (off' r' k' ld' : Int) (w : World) (hn : n < 9223372036854775808) (ho : I64 off) (hr : I64 r) (hk : I64 k) (hi : I64 ld)
    (hn' : n' < 9223372036854775808) (ho' : I64 off') (hr' : I64 r') (hk' : I64 k') (hi' : I64 ld') (h : bothB n off r k ld n' off' r' k' ld' = true) (hn0 : 0 < n) (hn0' : 0 < n')
    (hq : ∀ W, Below w.heap.size w W → (binOp .eql 100 (.pointer (some ⟨b, o, none⟩)) (.pointer (some ⟨b', o', none⟩))).run Try.prog W = .ok (.bool false) W) :
    Calls Try.prog 73 #[mat (some ⟨b, o, none⟩) n c off r k ld, mat (some ⟨b', o', none⟩) n' c' off' r' k' ld'] w fun e w' => e = .returned (.bool false) ∧ Below w.heap.size w w' := by
  have hb := h
  unfold bothB at hb
  simp only [Bool.and_eq_true, Bool.not_eq_true', Bool.or_eq_false_iff, beq_eq_false_iff_ne, ne_eq] at hb
  obtain ⟨⟨⟨g1, g2⟩, g3, g4⟩, g5, g6⟩ := hb
  have g1' := of_decide_eq_true g1
  have g2' := of_decide_eq_true g2
  have H1 := Lib.hid (fun W => good_any (some ⟨b, o, none⟩) n c off r k ld W hn ho hr hk hi)
  have H2 := Lib.hid (fun W => good_any (some ⟨b', o', none⟩) n' c' off' r' k' ld' W hn' ho' hr' hk' hi')
  have H3 := Lib.hid (fun W => none_any (some ⟨b, o, none⟩) n c off r k ld W)
  have H4 := Lib.hid (fun W => none_any (some ⟨b', o', none⟩) n' c' off' r' k' ld' W)
  rw [show (r == 0 || k == 0) = false by simp [g3, g4]] at H3
  rw [show (r' == 0 || k' == 0) = false by simp [g5, g6]] at H4
  rw [g1] at H1
  rw [g2] at H2
  have n1 : (0 : Int) < (n : Int) := by omega
  have n2 : (0 : Int) < (n' : Int) := by omega
  clear hn ho hr hk hi hn' ho' hr' hk' hi' g1 g2 g3 g4 g5 g6 h g1' g2'
  unfold mat at *
  go_enter Try.func73, Try.ntmps73
  have HZ0 := Lib.hid ((Blk.new w 95 #[.slice (some ⟨b, o, none⟩) n c, .int .i64 off, .int .i64 r, .int .i64 k, .int .i64 ld]).alloc (.cells #[.slice (some ⟨b', o', none⟩) n' c', .int .i64 off', .int .i64 r', .int .i64 k', .int .i64 ld'] 95))
  have HZ1 := Lib.hid (Blk.new_ (w.alloc (.cells #[.slice (some ⟨b, o, none⟩) n c, .int .i64 off, .int .i64 r, .int .i64 k, .int .i64 ld] 95)) 95 #[.slice (some ⟨b', o', none⟩) n' c', .int .i64 off', .int .i64 r', .int .i64 k', .int .i64 ld'] (w.heap.size + 1) (by simp))
  have HB0 := Lib.hid (((Below.refl w.heap.size w).alloc (Nat.le_refl _) (.cells #[.slice (some ⟨b, o, none⟩) n c, .int .i64 off, .int .i64 r, .int .i64 k, .int .i64 ld] 95)).alloc (by simp) (.cells #[.slice (some ⟨b', o', none⟩) n' c', .int .i64 off', .int .i64 r', .int .i64 k', .int .i64 ld'] 95))
  go_wp2_with fail
  refine (H1.out _).mono ?_
  rintro e w1 ⟨rfl, hb1⟩
  have HZ2 := Lib.hid (HZ0.out.nxt hb1)
  have HZ3 := Lib.hid (HZ1.out.nxt hb1)
  have HB1 := Lib.hid (HB0.out.trans (hb1.mono HB0.out.size))
  obtain ⟨c0, c1, c2, c3, c4⟩ := cells5 HZ2.out
  obtain ⟨d0, d1, d2, d3, d4⟩ := cells5 HZ3.out
  clear hb1
  go_wp2_with fail
  refine (H2.out _).mono ?_
  rintro e w2 ⟨rfl, hb1⟩
  clear c0 c1 c2 c3 c4 d0 d1 d2 d3 d4
  have HZ4 := Lib.hid (HZ2.out.nxt hb1)
  have HZ5 := Lib.hid (HZ3.out.nxt hb1)
  have HB2 := Lib.hid (HB1.out.trans (hb1.mono HB1.out.size))
  obtain ⟨c0, c1, c2, c3, c4⟩ := cells5 HZ4.out
  obtain ⟨d0, d1, d2, d3, d4⟩ := cells5 HZ5.out
  clear hb1
  go_wp2_with fail
  refine (H3.out _).mono ?_
  rintro e w3 ⟨rfl, hb1⟩
  clear c0 c1 c2 c3 c4 d0 d1 d2 d3 d4
  have HZ6 := Lib.hid (HZ4.out.nxt hb1)
  have HZ7 := Lib.hid (HZ5.out.nxt hb1)
  have HB3 := Lib.hid (HB2.out.trans (hb1.mono HB2.out.size))
  obtain ⟨c0, c1, c2, c3, c4⟩ := cells5 HZ6.out
  obtain ⟨d0, d1, d2, d3, d4⟩ := cells5 HZ7.out
  clear hb1
  go_wp2_with fail
  refine (H4.out _).mono ?_
  rintro e w4 ⟨rfl, hb1⟩
  clear c0 c1 c2 c3 c4 d0 d1 d2 d3 d4
  have HZ8 := Lib.hid (HZ6.out.nxt hb1)
  have HZ9 := Lib.hid (HZ7.out.nxt hb1)
  have HB4 := Lib.hid (HB3.out.trans (hb1.mono HB3.out.size))
  obtain ⟨c0, c1, c2, c3, c4⟩ := cells5 HZ8.out
  obtain ⟨d0, d1, d2, d3, d4⟩ := cells5 HZ9.out
  clear hb1
  go_wp2_with fail
  have hrun := hq w4 HB4.out
  have hrun0 := hq w4.drew HB4.out.drew
  have hrunN := fun m => hq (w4.drewN m) (below_drewN HB4.out m)
  have hbn := fun m => below_drewN HB4.out m
  clear hq
  go_quiet (fail)
  go_wp2_with fail
  go_ret
  exact ⟨rfl, by first | exact HB4.out | exact HB4.out.drew | exact hbn _⟩

end Go.Proofs.Ytjjneiidggcfdaa
set_option linter.unusedVariables false
namespace Go.Proofs.Ytjjneiidggcfdaa
open Go.RowKit
attribute [local go_sem ↓] Go.wp_at_zero Go.wp_at_succ

set_option maxHeartbeats 2000000 in
/-- Matrices in one list. -/
theorem meet_same (b o n c : Nat) (off r k ld : Int) (n' c' : Nat) (off' r' k' ld' : Int) (w : World) (hn : n < 9223372036854775808) (ho : I64 off) (hr : I64 r) (hk : I64 k) (hi : I64 ld)
    (hn' : n' < 9223372036854775808) (ho' : I64 off') (hr' : I64 r') (hk' : I64 k') (hi' : I64 ld') (h : bothB n off r k ld n' off' r' k' ld' = true) (hn0 : 0 < n) (hn0' : 0 < n') :
    Calls Try.prog 73 #[mat (some ⟨b, o, none⟩) n c off r k ld, mat (some ⟨b, o, none⟩) n' c' off' r' k' ld'] w fun e w' => e = .returned (.bool (decide (off ≤ lastI off' r' k' ld') && decide (off' ≤ lastI off r k ld))) ∧ Below w.heap.size w w' := by
  have hb := h
  unfold bothB at hb
  simp only [Bool.and_eq_true, Bool.not_eq_true', Bool.or_eq_false_iff, beq_eq_false_iff_ne, ne_eq] at hb
  obtain ⟨⟨⟨g1, g2⟩, g3, g4⟩, g5, g6⟩ := hb
  have g1' := of_decide_eq_true g1
  have g2' := of_decide_eq_true g2
  have H1 := Lib.hid (fun W => good_any (some ⟨b, o, none⟩) n c off r k ld W hn ho hr hk hi)
  have H2 := Lib.hid (fun W => good_any (some ⟨b, o, none⟩) n' c' off' r' k' ld' W hn' ho' hr' hk' hi')
  have H3 := Lib.hid (fun W => none_any (some ⟨b, o, none⟩) n c off r k ld W)
  have H4 := Lib.hid (fun W => none_any (some ⟨b, o, none⟩) n' c' off' r' k' ld' W)
  have HL := Lib.hid (fun W (nn cc : Nat) (x1 x2 x3 x4 : Int) (hx : (nn = n ∧ cc = c ∧ x1 = off ∧ x2 = r ∧ x3 = k ∧ x4 = ld) ∨ (nn = n' ∧ cc = c' ∧ x1 = off' ∧ x2 = r' ∧ x3 = k' ∧ x4 = ld')) =>
    show Calls Try.prog 81 #[mat (some ⟨b, o, none⟩) nn cc x1 x2 x3 x4] W fun e w' => e = .returned (.int .i64 (lastI x1 x2 x3 x4)) ∧ Below W.heap.size W w' by
      rcases hx with ⟨rfl, rfl, rfl, rfl, rfl, rfl⟩ | ⟨rfl, rfl, rfl, rfl, rfl, rfl⟩
      · exact last_any (some ⟨b, o, none⟩) _ _ _ _ _ _ W hn g1 (by omega) (by omega) hr hk
      · exact last_any (some ⟨b, o, none⟩) _ _ _ _ _ _ W hn' g2 (by omega) (by omega) hr' hk')
  rw [show (r == 0 || k == 0) = false by simp [g3, g4]] at H3
  rw [show (r' == 0 || k' == 0) = false by simp [g5, g6]] at H4
  rw [g1] at H1
  rw [g2] at H2
  have n1 : (0 : Int) < (n : Int) := by omega
  have n2 : (0 : Int) < (n' : Int) := by omega
  clear hn ho hr hk hi hn' ho' hr' hk' hi' g1 g2 g3 g4 g5 g6 h g1' g2'
  unfold mat at *
  go_enter Try.func73, Try.ntmps73
  have HZ0 := Lib.hid ((Blk.new w 95 #[.slice (some ⟨b, o, none⟩) n c, .int .i64 off, .int .i64 r, .int .i64 k, .int .i64 ld]).alloc (.cells #[.slice (some ⟨b, o, none⟩) n' c', .int .i64 off', .int .i64 r', .int .i64 k', .int .i64 ld'] 95))
  have HZ1 := Lib.hid (Blk.new_ (w.alloc (.cells #[.slice (some ⟨b, o, none⟩) n c, .int .i64 off, .int .i64 r, .int .i64 k, .int .i64 ld] 95)) 95 #[.slice (some ⟨b, o, none⟩) n' c', .int .i64 off', .int .i64 r', .int .i64 k', .int .i64 ld'] (w.heap.size + 1) (by simp))
  have HB0 := Lib.hid (((Below.refl w.heap.size w).alloc (Nat.le_refl _) (.cells #[.slice (some ⟨b, o, none⟩) n c, .int .i64 off, .int .i64 r, .int .i64 k, .int .i64 ld] 95)).alloc (by simp) (.cells #[.slice (some ⟨b, o, none⟩) n' c', .int .i64 off', .int .i64 r', .int .i64 k', .int .i64 ld'] 95))
  go_wp2_with fail
  refine (H1.out _).mono ?_
  rintro e w1 ⟨rfl, hb1⟩
  have HZ2 := Lib.hid (HZ0.out.nxt hb1)
  have HZ3 := Lib.hid (HZ1.out.nxt hb1)
  have HB1 := Lib.hid (HB0.out.trans (hb1.mono HB0.out.size))
  obtain ⟨c0, c1, c2, c3, c4⟩ := cells5 HZ2.out
  obtain ⟨d0, d1, d2, d3, d4⟩ := cells5 HZ3.out
  clear hb1
  go_wp2_with fail
  refine (H2.out _).mono ?_
  rintro e w2 ⟨rfl, hb1⟩
  clear c0 c1 c2 c3 c4 d0 d1 d2 d3 d4
  have HZ4 := Lib.hid (HZ2.out.nxt hb1)
  have HZ5 := Lib.hid (HZ3.out.nxt hb1)
  have HB2 := Lib.hid (HB1.out.trans (hb1.mono HB1.out.size))
  obtain ⟨c0, c1, c2, c3, c4⟩ := cells5 HZ4.out
  obtain ⟨d0, d1, d2, d3, d4⟩ := cells5 HZ5.out
  clear hb1
  go_wp2_with fail
  refine (H3.out _).mono ?_
  rintro e w3 ⟨rfl, hb1⟩
  clear c0 c1 c2 c3 c4 d0 d1 d2 d3 d4
  have HZ6 := Lib.hid (HZ4.out.nxt hb1)
  have HZ7 := Lib.hid (HZ5.out.nxt hb1)
  have HB3 := Lib.hid (HB2.out.trans (hb1.mono HB2.out.size))
  obtain ⟨c0, c1, c2, c3, c4⟩ := cells5 HZ6.out
  obtain ⟨d0, d1, d2, d3, d4⟩ := cells5 HZ7.out
  clear hb1
  go_wp2_with fail
  refine (H4.out _).mono ?_
  rintro e w4 ⟨rfl, hb1⟩
  clear c0 c1 c2 c3 c4 d0 d1 d2 d3 d4
  have HZ8 := Lib.hid (HZ6.out.nxt hb1)
  have HZ9 := Lib.hid (HZ7.out.nxt hb1)
  have HB4 := Lib.hid (HB3.out.trans (hb1.mono HB3.out.size))
  obtain ⟨c0, c1, c2, c3, c4⟩ := cells5 HZ8.out
  obtain ⟨d0, d1, d2, d3, d4⟩ := cells5 HZ9.out
  clear hb1
  go_wp2_with fail
  cases hd1 : decide (off ≤ lastI off' r' k' ld')
  · have HB5 := Lib.hid HB4.out.drew
    have p0 : w4.drew.cell? ⟨w.heap.size, 0, none⟩ = _ := c0
    have q0 : w4.drew.cell? ⟨w.heap.size + 1, 0, none⟩ = _ := d0
    have p1 : w4.drew.cell? ⟨w.heap.size, 1, none⟩ = _ := c1
    have q1 : w4.drew.cell? ⟨w.heap.size + 1, 1, none⟩ = _ := d1
    have p2 : w4.drew.cell? ⟨w.heap.size, 2, none⟩ = _ := c2
    have q2 : w4.drew.cell? ⟨w.heap.size + 1, 2, none⟩ = _ := d2
    have p3 : w4.drew.cell? ⟨w.heap.size, 3, none⟩ = _ := c3
    have q3 : w4.drew.cell? ⟨w.heap.size + 1, 3, none⟩ = _ := d3
    have p4 : w4.drew.cell? ⟨w.heap.size, 4, none⟩ = _ := c4
    have q4 : w4.drew.cell? ⟨w.heap.size + 1, 4, none⟩ = _ := d4
    first
    | go_region_with ((go_at_call 81; refine (HL.out _ _ _ _ _ _ _ (by first | exact .inl ⟨rfl, rfl, rfl, rfl, rfl, rfl⟩ | exact .inr ⟨rfl, rfl, rfl, rfl, rfl, rfl⟩)).mono ?_; rintro e1 wA ⟨rfl, hbA⟩; have p0' := cell_below p0 hbA; have q0' := cell_below q0 hbA; have p1' := cell_below p1 hbA; have q1' := cell_below q1 hbA; have p2' := cell_below p2 hbA; have q2' := cell_below q2 hbA; have p3' := cell_below p3 hbA; have q3' := cell_below q3 hbA; have p4' := cell_below p4 hbA; have q4' := cell_below q4 hbA; skip))
    | fail "no way"
    all_goals
      have HB6 := Lib.hid (HB5.out.trans (hbA.mono HB5.out.size))
      clear hbA
      go_wp2_with fail
      go_ret
      exact ⟨ret_bool (by simp [*]), HB6.out⟩
  cases hd2 : decide (off' ≤ lastI off r k ld)
  · go_region_held3 (fun w' => w'.cell? ⟨w.heap.size, 0, none⟩ = some (.slice (some ⟨b, o, none⟩) n c) ∧ w'.cell? ⟨w.heap.size, 1, none⟩ = some (.int .i64 off) ∧ w'.cell? ⟨w.heap.size, 2, none⟩ = some (.int .i64 r) ∧ w'.cell? ⟨w.heap.size, 3, none⟩ = some (.int .i64 k) ∧ w'.cell? ⟨w.heap.size, 4, none⟩ = some (.int .i64 ld) ∧ w'.cell? ⟨w.heap.size + 1, 0, none⟩ = some (.slice (some ⟨b, o, none⟩) n' c') ∧ w'.cell? ⟨w.heap.size + 1, 1, none⟩ = some (.int .i64 off') ∧ w'.cell? ⟨w.heap.size + 1, 2, none⟩ = some (.int .i64 r') ∧ w'.cell? ⟨w.heap.size + 1, 3, none⟩ = some (.int .i64 k') ∧ w'.cell? ⟨w.heap.size + 1, 4, none⟩ = some (.int .i64 ld') ∧ Below w.heap.size w w')
      (first | exact ⟨c0, c1, c2, c3, c4, d0, d1, d2, d3, d4, HB4.out.drew⟩ | exact held10 ‹_ ∧ _ ∧ _ ∧ _ ∧ _ ∧ _ ∧ _ ∧ _ ∧ _ ∧ _ ∧ Below w.heap.size w _› hbA)
      ((go_at_call 81; refine (HL.out _ _ _ _ _ _ _ (by first | exact .inl ⟨rfl, rfl, rfl, rfl, rfl, rfl⟩ | exact .inr ⟨rfl, rfl, rfl, rfl, rfl, rfl⟩)).mono ?_; rintro e1 wA ⟨rfl, hbA⟩; skip))
    all_goals
      go_wp2_with fail
      go_ret
      exact ⟨ret_bool (by simp [*]), (‹_ ∧ _ ∧ _ ∧ _ ∧ _ ∧ _ ∧ _ ∧ _ ∧ _ ∧ _ ∧ Below w.heap.size w _›).2.2.2.2.2.2.2.2.2.2⟩
  · go_region_held3 (fun w' => w'.cell? ⟨w.heap.size, 0, none⟩ = some (.slice (some ⟨b, o, none⟩) n c) ∧ w'.cell? ⟨w.heap.size, 1, none⟩ = some (.int .i64 off) ∧ w'.cell? ⟨w.heap.size, 2, none⟩ = some (.int .i64 r) ∧ w'.cell? ⟨w.heap.size, 3, none⟩ = some (.int .i64 k) ∧ w'.cell? ⟨w.heap.size, 4, none⟩ = some (.int .i64 ld) ∧ w'.cell? ⟨w.heap.size + 1, 0, none⟩ = some (.slice (some ⟨b, o, none⟩) n' c') ∧ w'.cell? ⟨w.heap.size + 1, 1, none⟩ = some (.int .i64 off') ∧ w'.cell? ⟨w.heap.size + 1, 2, none⟩ = some (.int .i64 r') ∧ w'.cell? ⟨w.heap.size + 1, 3, none⟩ = some (.int .i64 k') ∧ w'.cell? ⟨w.heap.size + 1, 4, none⟩ = some (.int .i64 ld') ∧ Below w.heap.size w w')
      (first | exact ⟨c0, c1, c2, c3, c4, d0, d1, d2, d3, d4, HB4.out.drew⟩ | exact held10 ‹_ ∧ _ ∧ _ ∧ _ ∧ _ ∧ _ ∧ _ ∧ _ ∧ _ ∧ _ ∧ Below w.heap.size w _› hbA)
      ((go_at_call 81; refine (HL.out _ _ _ _ _ _ _ (by first | exact .inl ⟨rfl, rfl, rfl, rfl, rfl, rfl⟩ | exact .inr ⟨rfl, rfl, rfl, rfl, rfl, rfl⟩)).mono ?_; rintro e1 wA ⟨rfl, hbA⟩; skip))
    all_goals
      go_wp2_with fail
      go_ret
      exact ⟨ret_bool (by simp [*]), (‹_ ∧ _ ∧ _ ∧ _ ∧ _ ∧ _ ∧ _ ∧ _ ∧ _ ∧ _ ∧ Below w.heap.size w _›).2.2.2.2.2.2.2.2.2.2⟩
end Go.Proofs.Ytjjneiidggcfdaa
set_option linter.unusedVariables false
namespace Go.Proofs.Ytjjneiidggcfdaa
open Go.RowKit
attribute [local go_sem ↓] Go.wp_at_zero Go.wp_at_succ

theorem run_sameAddr_far {P : Program} {w : World} {b o g : Nat} {t : TypeId} {cs : Array Value} {v : Value} (hne : b ≠ g) (hc : w.cell? ⟨b, o, none⟩ = some v) (hf : w.frozen? ⟨b, o, none⟩ = false) (hB : Blk w g t cs) (hs : 0 < cs.size) :
    (sameAddr ⟨b, o, none⟩ ⟨g, 0, none⟩).run P w = .ok false w := by
  obtain ⟨ca, ta, fr, ha, m, hm⟩ : ∃ ca ta fr, w.heap[b]? = some (.cells ca ta fr) ∧ ∃ m, ca.size = m + 1 := by
    unfold World.cell? at hc
    simp only at hc
    split at hc
    · rename_i ca ta fr h
      refine ⟨ca, ta, fr, h, ca.size - 1, ?_⟩
      have h1 := (Array.getElem?_eq_some_iff.1 hc).1
      omega
    · cases hc
  have hg := hB
  unfold Blk at hg
  have hs0 : cs.size ≠ 0 := by omega
  obtain ⟨lo, hi⟩ := fr
  have hf' : (decide (lo ≤ o) && decide (o < hi)) = false := by
    simpa [World.frozen?, ha] using hf
  have hg2 : g ≠ b := fun e => hne e.symm
  cases h1 : decide (lo ≤ m + 1) && decide (m + 1 < hi)
  all_goals simp [sameAddr, hne, World.frozen?, ha, hg, hf', noView, viewAt, World.shape?, mayBeOne, stringish, hs0, h1, hm]
theorem run_eql_far {W : World} {b o g : Nat} {t : TypeId} {cs : Array Value} {v : Value} (hne : b ≠ g) (hc : W.cell? ⟨b, o, none⟩ = some v) (hf : W.frozen? ⟨b, o, none⟩ = false) (hB : Blk W g t cs) (hs : 0 < cs.size) :
    (binOp .eql 100 (.pointer (some ⟨b, o, none⟩)) (.pointer (some ⟨g, 0, none⟩))).run Try.prog W = .ok (.bool false) W := by
  have hz : (Try.prog.info? 25).map (fun i => i.size) = some 1 := by kernel_rfl
  obtain ⟨j, hj, hsz⟩ := Option.map_eq_some_iff.1 hz
  have h0 := run_sameAddr_far (P := Try.prog) hne hc hf hB hs
  have h : ∀ d : Nat, (Op.equalIn (d + 1) 100 (.pointer (some ⟨b, o, none⟩)) (.pointer (some ⟨g, 0, none⟩))).run Try.prog W = .ok false W := fun d => by
    simp [Op.equalIn, run_underlying Try.underlying100, sizeOf, typeInfo, hj, hsz, h0]
  simp only [binOp]
  simp [Op.equal, Op.maxDepth, h 9999]

theorem both_pos {n n' : Nat} {off r k ld off' r' k' ld' : Int} (h : bothB n off r k ld n' off' r' k' ld' = true) : 0 < n := by
  unfold bothB at h
  simp only [Bool.and_eq_true, Bool.not_eq_true', Bool.or_eq_false_iff, beq_eq_false_iff_ne, ne_eq] at h
  have g1 := of_decide_eq_true h.1.1.1
  have h0 : 0 ≤ (k - 1) * ld := Int.mul_nonneg (by omega) (by omega)
  omega

end Go.Proofs.Ytjjneiidggcfdaa
set_option linter.unusedVariables false
namespace Go.Proofs.Ytjjneiidggcfdaa

/-- What lies in the blocks, where block g holds l. -/
def upd (s : Nat → List Nat) (g : Nat) (l : List Nat) : Nat → List Nat := fun h => if h = g then l else s h
theorem upd_self (s : Nat → List Nat) (g : Nat) (l : List Nat) : upd s g l g = l := by simp [upd]
theorem upd_ne {s : Nat → List Nat} {g h : Nat} {l : List Nat} (hne : h ≠ g) : upd s g l h = s h := by simp [upd, hne]
theorem upd_upd (s : Nat → List Nat) (g : Nat) (l m : List Nat) : upd (upd s g l) g m = upd s g m := by
  funext h; unfold upd; split <;> rfl
theorem upd_same (s : Nat → List Nat) (g : Nat) : upd s g (s g) = s := by
  funext h; unfold upd; split
  · rename_i e; rw [e]
  · rfl
theorem getD_of_lt {l : List Nat} {i : Nat} (h : i < l.length) : l.getD i 0 = l[i] := by simp [List.getD, h]
theorem getD_of_le {l : List Nat} {i : Nat} (h : l.length ≤ i) : l.getD i 0 = 0 := by simp [List.getD, List.getElem?_eq_none h]
theorem getD_set_self {l : List Nat} {i : Nat} (h : i < l.length) (v : Nat) : (l.set i v).getD i 0 = v := by simp [List.getD, h]
theorem getD_set_ne (l : List Nat) {i j : Nat} (h : i ≠ j) (v : Nat) : (l.set i v).getD j 0 = l.getD j 0 := by
  rw [List.getD, List.getElem?_set_ne h, List.getD]
theorem ext_getD {l m : List Nat} (hl : l.length = m.length) (h : ∀ i, i < l.length → l.getD i 0 = m.getD i 0) : l = m := by
  refine List.ext_getElem hl fun i h1 h2 => ?_
  have := h i h1
  rwa [getD_of_lt h1, getD_of_lt h2] at this

/-- The numbers are written there. -/
def wrt (l : List Nat) (off inc : Nat) (q : List Nat) : Nat → List Nat
  | 0 => l
  | k + 1 => (wrt l off inc q k).set (off + k * inc) (q.getD k 0)
theorem wrt_length (l : List Nat) (off inc : Nat) (q : List Nat) (k : Nat) : (wrt l off inc q k).length = l.length := by
  induction k with
  | zero => rfl
  | succ k ih => simp [wrt, ih]
theorem wrt_else (l : List Nat) (off inc : Nat) (q : List Nat) (k : Nat) {x : Nat} (h : ∀ i, i < k → x ≠ off + i * inc) : (wrt l off inc q k).getD x 0 = l.getD x 0 := by
  induction k with
  | zero => rfl
  | succ k ih =>
    rw [wrt, getD_set_ne _ (fun e => h k (by omega) e.symm)]
    exact ih fun i hi => h i (by omega)
theorem place_inj {off inc i j : Nat} (hi : 1 ≤ inc) (h : off + i * inc = off + j * inc) : i = j := Nat.eq_of_mul_eq_mul_right hi (by omega)
theorem place_lt {n off inc k i : Nat} (h : off + (k - 1) * inc < n) (hi : i < k) : off + i * inc < n := by
  have : i * inc ≤ (k - 1) * inc := Nat.mul_le_mul_right _ (by omega)
  omega
theorem wrt_at (l : List Nat) (off inc : Nat) (q : List Nat) (k : Nat) (hi : 1 ≤ inc) (hk : k = 0 ∨ off + (k - 1) * inc < l.length) {i : Nat} (h : i < k) : (wrt l off inc q k).getD (off + i * inc) 0 = q.getD i 0 := by
  induction k with
  | zero => omega
  | succ k ih =>
    have hlt : off + k * inc < l.length := by
      rcases hk with hk | hk
      · omega
      · simpa using hk
    by_cases e : i = k
    · subst e
      rw [wrt, getD_set_self (by rw [wrt_length]; exact hlt)]
    · rw [wrt, getD_set_ne _ (fun e' => e (place_inj hi e'.symm))]
      refine ih ?_ (by omega)
      rcases Nat.eq_zero_or_pos k with h0 | h0
      · exact .inl h0
      · refine .inr ?_
        have : (k - 1) * inc ≤ k * inc := Nat.mul_le_mul_right _ (by omega)
        omega
end Go.Proofs.Ytjjneiidggcfdaa
set_option linter.unusedVariables false
namespace Go.Proofs.Ytjjneiidggcfdaa
open Go.RowKit

/-- Of the blocks that were there those of G alone may have changed. -/
structure Chg (G : List Nat) (w w' : World) : Prop where
  os : w'.os = w.os
  tape : w'.tape = w.tape
  output : w'.output = w.output
  size : w.heap.size ≤ w'.heap.size
  block : ∀ k, k < w.heap.size → k ∉ G → w'.heap[k]? = w.heap[k]?
section
variable {G : List Nat} {w w' w'' : World} {b : Nat} {t : TypeId} {cs : Array Value}
theorem Chg.refl (G : List Nat) (w : World) : Chg G w w := ⟨rfl, rfl, rfl, Nat.le_refl _, fun _ _ _ => rfl⟩
theorem Chg.trans (h : Chg G w w') (k : Chg G w' w'') : Chg G w w'' :=
  ⟨k.os.trans h.os, k.tape.trans h.tape, k.output.trans h.output, Nat.le_trans h.size k.size, fun i hi hn => (k.block i (Nat.lt_of_lt_of_le hi h.size) hn).trans (h.block i hi hn)⟩
theorem Chg.of_below (h : Below w.heap.size w w') : Chg G w w' := ⟨h.os, h.tape, h.output, h.size, fun k hk _ => h.block k hk⟩
theorem Chg.nxt (h : Chg G w w') (hb : Below w'.heap.size w' w'') : Chg G w w'' := h.trans (.of_below hb)
theorem Chg.mono {G' : List Nat} (h : Chg G w w') (hg : ∀ g ∈ G, g ∈ G') : Chg G' w w' := ⟨h.os, h.tape, h.output, h.size, fun k hk hn => h.block k hk (fun e => hn (hg _ e))⟩
theorem Chg.drew (h : Chg G w w') : Chg G w w'.drew := ⟨h.os, h.tape, h.output, h.size, h.block⟩
theorem Chg.drewN (h : Chg G w w') (n : Nat) : Chg G w (w'.drewN n) := ⟨h.os, h.tape, h.output, h.size, h.block⟩
theorem Chg.alloc (h : Chg G w w') (o : Obj) : Chg G w (w'.alloc o) := h.nxt ((Below.refl _ _).alloc (Nat.le_refl _) o)
theorem Chg.set_in (h : Chg G w w') {p : Addr} (hp : p.block ∈ G) (u : Value) : Chg G w (w'.setCell p u) :=
  ⟨h.os, h.tape, h.output, by simpa [World.setCell] using h.size, fun k hk hn => (Below.heap_setCell w' _ u k (fun e => hn (by rw [e]; exact hp))).trans (h.block k hk hn)⟩
theorem Chg.below {B : Nat} {w0 : World} (h : Chg G w w') (hb : Below B w0 w) (hB : B ≤ w.heap.size) (hG : ∀ g ∈ G, B ≤ g) : Below B w0 w' :=
  hb.trans ⟨h.os, h.tape, h.output, h.size, fun k hk => h.block k (by omega) (fun e => by have := hG k e; omega)⟩
theorem Chg.blk (h : Chg G w w') (hb : b ∉ G) (hB : Blk w b t cs) : Blk w' b t cs := (h.block b hB.lt hb).trans hB
theorem Chg.own {l : List Nat} (h : Chg G w w') (hb : b ∉ G) (hB : Own w b l) : Own w' b l := by
  obtain ⟨cs, hB, ht⟩ := hB; exact ⟨cs, h.blk hb hB, ht⟩
theorem Chg.cell {o : Nat} {v : Value} (h : Chg G w w') (hb : b ∉ G) (hc : w.cell? ⟨b, o, none⟩ = some v) : w'.cell? ⟨b, o, none⟩ = some v :=
  (World.cell?_of_block (a := ⟨b, o, none⟩) (h.block b (block_lt hc) hb)).trans hc
theorem Chg.row {A : Option Addr} {xs : List Value} (h : Chg G w w') (hA : ∀ b o, A = some ⟨b, o, none⟩ → b ∉ G) (hr : Row w A xs) : Row w' A xs := by
  rcases hr with rfl | ⟨b, o, e, hc⟩
  · exact .inl rfl
  · exact .inr ⟨b, o, e, fun i v hi => h.cell (hA b o e) (hc i v hi)⟩
/-- The blocks of G are the call's own, or the caller's, and hold these lists. -/
def Has (w : World) (G : List Nat) (s : Nat → List Nat) : Prop := ∀ g ∈ G, Own w g (s g)
variable {s : Nat → List Nat}
theorem Has.own {g : Nat} (h : Has w G s) (hg : g ∈ G) : Own w g (s g) := h g hg
theorem Has.nxt (h : Has w G s) (hb : Below w.heap.size w w') : Has w' G s := fun g hg => (h g hg).nxt hb
theorem Has.lt {g : Nat} (h : Has w G s) (hg : g ∈ G) : g < w.heap.size := (h g hg).lt
theorem Has.set_ {g i : Nat} (h : Has w G s) (hg : g ∈ G) (v : Nat) (hi : i < (s g).length) : Has (w.setCell ⟨g, i, none⟩ (.float .f64 v)) G (upd s g ((s g).set i v)) := by
  intro k hk
  by_cases e : k = g
  · subst e
    rw [upd_self]
    exact (h k hk).set_ i v hi
  · rw [upd_ne e]
    exact (h k hk).other e _
theorem Has.other (h : Has w G s) {p : Addr} (hp : p.block ∉ G) (u : Value) : Has (w.setCell p u) G s := fun g hg => (h g hg).other (fun e => hp (by rw [← e]; exact hg)) u
theorem Has.drew (h : Has w G s) : Has w.drew G s := fun g hg => (h g hg).drew
theorem Has.alloc (h : Has w G s) (o : Obj) : Has (w.alloc o) G s := h.nxt ((Below.refl _ _).alloc (Nat.le_refl _) o)
theorem Has.mono {G' : List Nat} (h : Has w G s) (hg : ∀ g ∈ G', g ∈ G) : Has w G' s := fun g k => h g (hg g k)
theorem Has.get {g i : Nat} (h : Has w G s) (hg : g ∈ G) (hi : i < (s g).length) : w.cell? ⟨g, i, none⟩ = some (.float .f64 ((s g).getD i 0)) := by
  rw [(h g hg).get i hi, getD_of_lt hi]
theorem Has.row {g : Nat} (h : Has w G s) (hg : g ∈ G) : Row w (some ⟨g, 0, none⟩) (f64s (s g)) := (h g hg).row
theorem own_blk {g : Nat} {l : List Nat} (h : Blk w g 25 (f64s l).toArray) : Own w g l := ⟨_, h, List.take_of_length_le (by simp [f64s])⟩
theorem cells4w {v0 v1 v2 v3 : Value} (h : Blk w b t #[v0, v1, v2, v3]) : w.cell? ⟨b, 0, none⟩ = some v0 ∧ w.cell? ⟨b, 1, none⟩ = some v1 ∧ w.cell? ⟨b, 2, none⟩ = some v2 ∧ w.cell? ⟨b, 3, none⟩ = some v3 := ⟨h.cell 0, h.cell 1, h.cell 2, h.cell 3⟩
end
end Go.Proofs.Ytjjneiidggcfdaa
set_option linter.unusedVariables false
namespace Go.Proofs.Ytjjneiidggcfdaa
open Go.RowKit
attribute [local go_sem ↓] Go.wp_at_zero Go.wp_at_succ

theorem mplace_any (A : Option Addr) (n c : Nat) (off k inc i p : Int) (w : World) (hp : off + i * inc = p) (h1 : I64 (i * inc)) (h2 : I64 p) :
    Calls Try.prog 76 #[vec A n c off k inc, .int .i64 i] w fun e w' => e = .returned (.int .i64 p) ∧ Below w.heap.size w w' := by
  unfold I64 at h1 h2
  have w2 : IntKind.i64.wrap (i * inc) = i * inc := wrapi (by omega) (by omega)
  have w3 : IntKind.i64.wrap p = p := wrapi (by omega) (by omega)
  have u1 : wrap64 (i * inc) = i * inc := by unfold wrap64; omega
  have u2 : wrap64 p = p := by unfold wrap64; omega
  unfold vec
  go_enter Try.func76, Try.ntmps76
  go_wp2_with fail
  go_ret
  exact ⟨rfl, (Below.refl w.heap.size w).alloc (Nat.le_refl _) _⟩

/-- Does a number of the vector stand at place p? -/
def standsB (off k inc p : Int) : Bool := decide (off ≤ p ∧ (p - off) % inc = 0 ∧ (p - off) / inc < k)

theorem stands_any (A : Option Addr) (n c : Nat) (off k inc p : Int) (w : World) (ho : 0 ≤ off ∧ off < 9223372036854775808) (hp : 0 ≤ p ∧ p < 9223372036854775808) (hi : 1 ≤ inc ∧ inc < 9223372036854775808) :
    Calls Try.prog 75 #[vec A n c off k inc, .int .i64 p] w fun e w' => e = .returned (.bool (standsB off k inc p)) ∧ Below w.heap.size w w' := by
  have u0 : wrap64 (p - off) = p - off := by unfold wrap64; omega
  have u1 : IntKind.i64.wrap (p - off) = p - off := wrapi (by omega) (by omega)
  have e0 : (inc == 0) = false := by simp; omega
  have hbel := (Below.refl w.heap.size w).alloc (Nat.le_refl _) (.cells #[.slice A n c, .int .i64 off, .int .i64 k, .int .i64 inc] 30)
  have hbelN := fun m => below_drewN hbel m
  unfold vec
  obtain ⟨q, hq⟩ : ∃ q, p - off = q := ⟨_, rfl⟩
  by_cases h1 : 0 ≤ q
  · have hd := h1
    have q0 : Int.tmod q inc = q % inc := Int.tmod_eq_emod_of_nonneg h1
    have q1 : Int.tdiv q inc = q / inc := Int.tdiv_eq_ediv_of_nonneg h1
    have q2 : 0 ≤ q % inc ∧ q % inc < inc := ⟨Int.emod_nonneg _ (by omega), Int.emod_lt_of_pos _ (by omega)⟩
    have q3 : 0 ≤ q / inc ∧ q / inc ≤ q := ⟨Int.ediv_nonneg h1 (by omega), Int.ediv_le_self _ h1⟩
    obtain ⟨m, hm⟩ : ∃ m, q % inc = m := ⟨_, rfl⟩
    obtain ⟨d, hd⟩ : ∃ d, q / inc = d := ⟨_, rfl⟩
    rw [hm] at q0 q2
    rw [hd] at q1 q3
    have w0 : IntKind.i64.wrap m = m := wrapi (by omega) (by omega)
    have w1 : IntKind.i64.wrap d = d := wrapi (by omega) (by omega)
    have hs : standsB off k inc p = (decide (m = 0) && decide (d < k)) := by
      unfold standsB
      rw [hq, hm, hd, Bool.eq_iff_iff]
      simp
      omega
    rw [hs]
    rw [hq] at u0 u1
    clear hm hd hs
    by_cases h2 : m = 0
    · subst h2
      go_enter Try.func75, Try.ntmps75
      go_wp2_with fail
      go_quiet (fail)
      go_wp2_with fail
      go_ret
      exact ⟨by simp, by first | exact hbel | exact hbel.drew | exact hbelN _⟩
    · have h2' : (m == 0) = false := by simp [h2]
      have h2'' : decide (m = 0) = false := by simp [h2]
      go_enter Try.func75, Try.ntmps75
      go_wp2_with fail
      go_quiet (fail)
      go_wp2_with fail
      go_ret
      exact ⟨by simp [h2], by first | exact hbel | exact hbel.drew | exact hbelN _⟩
  · have hs : standsB off k inc p = false := decide_eq_false (by omega)
    rw [hs]
    rw [hq] at u0 u1
    have hd : decide (0 ≤ q) = false := by simp; omega
    go_enter Try.func75, Try.ntmps75
    go_wp2_with fail
    go_quiet (fail)
    go_wp2_with fail
    go_ret
    exact ⟨rfl, by first | exact hbel | exact hbel.drew | exact hbelN _⟩

theorem mrow_any (A : Option Addr) (n c : Nat) (off k inc : Int) (w : World) :
    Calls Try.prog 74 #[vec A n c off k inc] w fun e w' => e = .returned (mat A n c off 1 k inc) ∧ Below w.heap.size w w' := by
  unfold vec mat
  go_enter Try.func74, Try.ntmps74
  go_wp2_with fail
  exact bodyPost_ret (v := .agg #[.slice A n c, .int .i64 off, .int .i64 1, .int .i64 k, .int .i64 inc]) (by simp [results, Try.results74, go_sem]) rfl ⟨rfl, ((Below.refl w.heap.size w).alloc (Nat.le_refl _) _).alloc (by simp) _⟩
end Go.Proofs.Ytjjneiidggcfdaa
set_option linter.unusedVariables false
namespace Go.Proofs.Ytjjneiidggcfdaa
open Go.RowKit

theorem held8 {w W w' : World} {b0 o0 b1 o1 b2 o2 b3 o3 b4 o4 b5 o5 b6 o6 b7 o7 : Nat} {v0 v1 v2 v3 v4 v5 v6 v7 : Value} (h : W.cell? ⟨b0, o0, none⟩ = some v0 ∧ W.cell? ⟨b1, o1, none⟩ = some v1 ∧ W.cell? ⟨b2, o2, none⟩ = some v2 ∧ W.cell? ⟨b3, o3, none⟩ = some v3 ∧ W.cell? ⟨b4, o4, none⟩ = some v4 ∧ W.cell? ⟨b5, o5, none⟩ = some v5 ∧ W.cell? ⟨b6, o6, none⟩ = some v6 ∧ W.cell? ⟨b7, o7, none⟩ = some v7 ∧ Below w.heap.size w W) (hb : Below W.heap.size W w') :
    w'.cell? ⟨b0, o0, none⟩ = some v0 ∧ w'.cell? ⟨b1, o1, none⟩ = some v1 ∧ w'.cell? ⟨b2, o2, none⟩ = some v2 ∧ w'.cell? ⟨b3, o3, none⟩ = some v3 ∧ w'.cell? ⟨b4, o4, none⟩ = some v4 ∧ w'.cell? ⟨b5, o5, none⟩ = some v5 ∧ w'.cell? ⟨b6, o6, none⟩ = some v6 ∧ w'.cell? ⟨b7, o7, none⟩ = some v7 ∧ Below w.heap.size w w' :=
  ⟨cell_below h.1 hb, cell_below h.2.1 hb, cell_below h.2.2.1 hb, cell_below h.2.2.2.1 hb, cell_below h.2.2.2.2.1 hb, cell_below h.2.2.2.2.2.1 hb, cell_below h.2.2.2.2.2.2.1 hb, cell_below h.2.2.2.2.2.2.2.1 hb, h.2.2.2.2.2.2.2.2.trans (hb.mono h.2.2.2.2.2.2.2.2.size)⟩
theorem meet_own (g g' c c' : Nat) (l l' : List Nat) (off r k ld off' r' k' ld' : Int) (w : World) (hO : Own w g l) (hO' : Own w g' l') (hn : l.length < 9223372036854775808) (ho : I64 off) (hr : I64 r) (hk : I64 k) (hi : I64 ld)
    (hn' : l'.length < 9223372036854775808) (ho' : I64 off') (hr' : I64 r') (hk' : I64 k') (hi' : I64 ld') :
    Calls Try.prog 73 #[mat (some ⟨g, 0, none⟩) l.length c off r k ld, mat (some ⟨g', 0, none⟩) l'.length c' off' r' k' ld'] w
      fun e w' => e = .returned (.bool (bothB l.length off r k ld l'.length off' r' k' ld' && decide (g = g') && (decide (off ≤ lastI off' r' k' ld') && decide (off' ≤ lastI off r k ld)))) ∧ Below w.heap.size w w' := by
  cases hb : bothB l.length off r k ld l'.length off' r' k' ld'
  · exact meet_none _ _ c off r k ld _ _ c' off' r' k' ld' w hn ho hr hk hi hn' ho' hr' hk' hi' hb
  · have p0 : 0 < l.length := both_pos hb
    have p0' : 0 < l'.length := by
      unfold bothB at hb
      simp only [Bool.and_eq_true, Bool.not_eq_true', Bool.or_eq_false_iff, beq_eq_false_iff_ne, ne_eq] at hb
      have g1 := of_decide_eq_true hb.1.1.2
      have h0 : 0 ≤ (k' - 1) * ld' := Int.mul_nonneg (by omega) (by omega)
      omega
    by_cases e : g = g'
    · subst e
      have := meet_same g 0 l.length c off r k ld l'.length c' off' r' k' ld' w hn ho hr hk hi hn' ho' hr' hk' hi' hb p0 p0'
      simpa using this
    · have hq : ∀ W, Below w.heap.size w W → (binOp .eql 100 (.pointer (some ⟨g, 0, none⟩)) (.pointer (some ⟨g', 0, none⟩))).run Try.prog W = .ok (.bool false) W := by
        intro W hW
        obtain ⟨cs, hB, ht⟩ := hO'.nxt hW
        refine run_eql_far e ((hO.nxt hW).get 0 p0) ((hO.nxt hW).frozen 0) hB ?_
        have h1 := congrArg List.length ht
        simp [f64s] at h1
        omega
      have := meet_far g 0 l.length c off r k ld g' 0 l'.length c' off' r' k' ld' w hn ho hr hk hi hn' ho' hr' hk' hi' hb p0 p0' hq
      simpa [e] using this
end Go.Proofs.Ytjjneiidggcfdaa
set_option linter.unusedVariables false
namespace Go.Proofs.Ytjjneiidggcfdaa
open Go.RowKit
attribute [local go_sem ↓] Go.wp_at_zero Go.wp_at_succ

/-- Have vectors of K numbers a place in common? -/
def metB (off inc off' inc' K : Nat) : Bool := (List.range K).any fun i => (List.range K).any fun j => off + i * inc == off' + j * inc'
theorem metB_true {off inc off' inc' K : Nat} : metB off inc off' inc' K = true ↔ ∃ i, i < K ∧ ∃ j, j < K ∧ off + i * inc = off' + j * inc' := by
  simp [metB]
theorem metB_false {off inc off' inc' K : Nat} : metB off inc off' inc' K = false ↔ ∀ i, i < K → ∀ j, j < K → off + i * inc ≠ off' + j * inc' := by
  rw [← Bool.not_eq_true, metB_true]
  constructor
  · intro h i hi j hj e
    exact h ⟨i, hi, j, hj, e⟩
  · rintro h ⟨i, hi, j, hj, e⟩
    exact h i hi j hj e

theorem vec_mat (n : Nat) (off k inc : Int) : matB n off 1 k inc = vecB n off k inc := by
  unfold matB vecB
  exact decide_eq_decide.2 (by omega)
/-- A right vector, in plain numbers. -/
theorem vec_nat {n : Nat} {off k inc : Int} (h : vecB n off k inc = true) : ∃ o K i : Nat, off = o ∧ k = K ∧ inc = i ∧ 1 ≤ i ∧ (K = 0 ∨ o + (K - 1) * i < n) := by
  have h := of_decide_eq_true h
  refine ⟨off.toNat, k.toNat, inc.toNat, by omega, by omega, by omega, by omega, ?_⟩
  rcases h.2.2.2 with h0 | h0
  · exact .inl (by omega)
  · by_cases hk : k = 0
    · exact .inl (by omega)
    · refine .inr ?_
      have e : ((off.toNat + (k.toNat - 1) * inc.toNat : Nat) : Int) = off + (k - 1) * inc := by
        rw [Int.natCast_add, Int.natCast_mul, Int.toNat_of_nonneg (by omega), Int.toNat_of_nonneg (by omega : 0 ≤ inc)]
        congr 2
        omega
      omega
theorem vec_right {n o K i : Nat} (hi : 1 ≤ i) (h : K = 0 ∨ o + (K - 1) * i < n) : vecB n (o : Int) (K : Int) (i : Int) = true := by
  refine decide_eq_true ⟨by omega, by omega, by omega, ?_⟩
  rcases h with h | h
  · exact .inl (by omega)
  · rcases Nat.eq_zero_or_pos K with h0 | h0
    · exact .inl (by omega)
    · refine .inr ?_
      have e : ((K : Int) - 1) * (i : Int) = (((K - 1) * i : Nat) : Int) := by rw [Int.natCast_mul]; congr 1; omega
      rw [e]; omega

theorem stands_iff {off' K inc' p : Nat} (hi : 1 ≤ inc') : standsB (off' : Int) (K : Int) (inc' : Int) (p : Int) = true ↔ ∃ j, j < K ∧ p = off' + j * inc' := by
  unfold standsB
  rw [decide_eq_true_eq]
  constructor
  · rintro ⟨h1, h2, h3⟩
    obtain ⟨q, hq⟩ : ∃ q : Nat, (p : Int) - off' = q := ⟨p - off', by omega⟩
    rw [hq] at h2 h3
    have h2' : q % inc' = 0 := by exact_mod_cast h2
    have h3' : q / inc' < K := by exact_mod_cast h3
    refine ⟨q / inc', h3', ?_⟩
    have := Nat.div_add_mod q inc'
    rw [h2', Nat.mul_comm] at this
    omega
  · rintro ⟨j, hj, rfl⟩
    have e : ((off' + j * inc' : Nat) : Int) - off' = ((j * inc' : Nat) : Int) := by omega
    rw [e]
    refine ⟨by omega, ?_, ?_⟩
    · have : j * inc' % inc' = 0 := Nat.mul_mod_left _ _
      exact_mod_cast this
    · have : j * inc' / inc' = j := Nat.mul_div_cancel _ hi
      have h2 : ((j * inc' : Nat) : Int) / (inc' : Int) = ((j * inc' / inc' : Nat) : Int) := by simp
      rw [h2, this]; exact_mod_cast hj
theorem stands_not {off' K inc' p : Nat} (hi : 1 ≤ inc') (h : standsB (off' : Int) (K : Int) (inc' : Int) (p : Int) = false) : ∀ j, j < K → p ≠ off' + j * inc' := by
  intro j hj e
  rw [(stands_iff hi).2 ⟨j, hj, e⟩] at h
  cases h

/-- What Meet says of the rows that two vectors of K numbers are. -/
def spanB (n o i n' o' i' K : Nat) : Bool := bothB n o 1 K i n' o' 1 K i' && (decide ((o : Int) ≤ lastI o' 1 K i') && decide ((o' : Int) ≤ lastI o 1 K i))
theorem span_not {n o i n' o' i' K : Nat} (hi : 1 ≤ i) (hi' : 1 ≤ i') (hr : K = 0 ∨ o + (K - 1) * i < n) (hr' : K = 0 ∨ o' + (K - 1) * i' < n') (h : spanB n o i n' o' i' K = false) : metB o i o' i' K = false := by
  rw [metB_false]
  intro a ha b hb e
  have h1 : bothB n o 1 K i n' o' 1 K i' = true := by
    unfold bothB
    rw [vec_mat, vec_mat, vec_right hi hr, vec_right hi' hr']
    have : ((K : Int) == 0) = false := by simp; omega
    simp [this]
  unfold spanB at h
  rw [h1] at h
  have a1 : a * i ≤ (K - 1) * i := Nat.mul_le_mul_right _ (by omega)
  have b1 : b * i' ≤ (K - 1) * i' := Nat.mul_le_mul_right _ (by omega)
  have e1 : ((K : Int) - 1) * (i : Int) = (((K - 1) * i : Nat) : Int) := by rw [Int.natCast_mul]; congr 1; omega
  have e2 : ((K : Int) - 1) * (i' : Int) = (((K - 1) * i' : Nat) : Int) := by rw [Int.natCast_mul]; congr 1; omega
  unfold lastI at h
  rw [e1, e2] at h
  simp at h
  omega

theorem and_turn (a b c : Bool) : (a && b && c) = (b && (a && c)) := by cases a <;> cases b <;> cases c <;> rfl
theorem meet_rows (g g' c c' : Nat) (l l' : List Nat) (n n' o i o' i' K : Nat) (w : World) (hO : Own w g l) (hO' : Own w g' l') (hln : l.length = n) (hln' : l'.length = n') (hn : n < 9223372036854775808) (hn' : n' < 9223372036854775808)
    (hb : o < 9223372036854775808 ∧ i < 9223372036854775808 ∧ o' < 9223372036854775808 ∧ i' < 9223372036854775808 ∧ K < 9223372036854775808) :
    Calls Try.prog 73 #[mat (some ⟨g, 0, none⟩) n c o 1 K i, mat (some ⟨g', 0, none⟩) n' c' o' 1 K i'] w fun e w' => e = .returned (.bool (decide (g = g') && spanB n o i n' o' i' K)) ∧ Below w.heap.size w w' := by
  subst hln hln'
  have h := meet_own g g' c c' l l' (o : Int) 1 (K : Int) (i : Int) (o' : Int) 1 (K : Int) (i' : Int) w hO hO' hn (by unfold I64; omega) (by unfold I64; omega) (by unfold I64; omega) (by unfold I64; omega) hn' (by unfold I64; omega) (by unfold I64; omega) (by unfold I64; omega) (by unfold I64; omega)
  rw [and_turn] at h
  exact h

set_option maxHeartbeats 1000000 in
theorem mmeet_any (g g' c c' : Nat) (l l' : List Nat) (n n' o i o' i' K : Nat) (w : World) (hO : Own w g l) (hO' : Own w g' l') (hln : l.length = n) (hln' : l'.length = n') (hn : n < 9223372036854775808) (hn' : n' < 9223372036854775808)
    (hb : o < 9223372036854775808 ∧ i < 9223372036854775808 ∧ o' < 9223372036854775808 ∧ i' < 9223372036854775808 ∧ K < 9223372036854775808) (hi : 1 ≤ i) (hi' : 1 ≤ i') (hr : K = 0 ∨ o + (K - 1) * i < n) (hr' : K = 0 ∨ o' + (K - 1) * i' < n') :
    Calls Try.prog 68 #[vec (some ⟨g, 0, none⟩) n c o K i, vec (some ⟨g', 0, none⟩) n' c' o' K i'] w fun e w' => e = .returned (.bool (decide (g = g') && metB o i o' i' K)) ∧ Below w.heap.size w w' := by
  have HMt := Lib.hid (fun W (h : Below w.heap.size w W) => meet_rows g g' c c' l l' n n' o i o' i' K W (hO.nxt h) (hO'.nxt h) hln hln' hn hn' hb)
  obtain ⟨m, hm⟩ : ∃ m, (decide (g = g') && spanB n o i n' o' i' K) = m := ⟨_, rfl⟩
  obtain ⟨y, hy⟩ : ∃ y, (decide (g = g') && metB o i o' i' K) = y := ⟨_, rfl⟩
  have hmy : m = false → y = false := by
    intro h
    rw [h] at hm
    rw [← hy]
    cases hg : decide (g = g')
    · rfl
    · rw [hg] at hm
      rw [span_not hi hi' hr hr' (by simpa using hm)]; rfl
  have hmt : m = true → y = metB o i o' i' K := by
    intro h
    rw [h] at hm
    rw [← hy]
    cases hg : decide (g = g')
    · rw [hg] at hm; cases hm
    · rfl
  have HPl := Lib.hid (fun W (a : Nat) (h : a < K) => mplace_any (some ⟨g, 0, none⟩) n c o K i a ((o + a * i : Nat) : Int) W (by simp) (by
    have : a * i ≤ (K - 1) * i := Nat.mul_le_mul_right _ (by omega)
    have e : ((a : Int) * (i : Int)) = ((a * i : Nat) : Int) := by simp
    rw [e]; unfold I64; omega) (by
    have : a * i ≤ (K - 1) * i := Nat.mul_le_mul_right _ (by omega)
    unfold I64; omega))
  have HSt := Lib.hid (fun W (a : Nat) (h : a < K) => stands_any (some ⟨g', 0, none⟩) n' c' o' K i' ((o + a * i : Nat) : Int) W (by omega) (by
    have : a * i ≤ (K - 1) * i := Nat.mul_le_mul_right _ (by omega)
    omega) (by omega))
  have HRw := Lib.hid (fun W A n c off k inc => mrow_any A n c off k inc W)
  rw [hm] at HMt
  rw [hy]
  have HMy := Lib.hid hmy
  have HMtt := Lib.hid hmt
  have HI' := Lib.hid hi'
  have hKb : K < 9223372036854775808 := hb.2.2.2.2
  clear hmy hmt hm hy hO hO' hln hln' hn hn' hb hi hi' hr hr'
  unfold vec at *
  unfold mat at *
  go_enter Try.func68, Try.ntmps68
  have hz0 := (Blk.new w 30 #[.slice (some ⟨g, 0, none⟩) n c, .int .i64 o, .int .i64 K, .int .i64 i]).alloc (.cells #[.slice (some ⟨g', 0, none⟩) n' c', .int .i64 o', .int .i64 K, .int .i64 i'] 30)
  have hz1 := Blk.new_ (w.alloc (.cells #[.slice (some ⟨g, 0, none⟩) n c, .int .i64 o, .int .i64 K, .int .i64 i] 30)) 30 #[.slice (some ⟨g', 0, none⟩) n' c', .int .i64 o', .int .i64 K, .int .i64 i'] (w.heap.size + 1) (by simp)
  have hbl := ((Below.refl w.heap.size w).alloc (Nat.le_refl _) (.cells #[.slice (some ⟨g, 0, none⟩) n c, .int .i64 o, .int .i64 K, .int .i64 i] 30)).alloc (by simp) (.cells #[.slice (some ⟨g', 0, none⟩) n' c', .int .i64 o', .int .i64 K, .int .i64 i'] 30)
  have HBl := Lib.hid hbl
  obtain ⟨c0, c1, c2, c3⟩ := cells4w hz0
  obtain ⟨d0, d1, d2, d3⟩ := cells4w hz1
  clear hz0 hz1 hbl
  go_wp2_with fail
  go_region_held3 (fun w' => w'.cell? ⟨w.heap.size, 0, none⟩ = some (.slice (some ⟨g, 0, none⟩) n c) ∧ w'.cell? ⟨w.heap.size, 1, none⟩ = some (.int .i64 o) ∧ w'.cell? ⟨w.heap.size, 2, none⟩ = some (.int .i64 K) ∧ w'.cell? ⟨w.heap.size, 3, none⟩ = some (.int .i64 i) ∧ w'.cell? ⟨w.heap.size + 1, 0, none⟩ = some (.slice (some ⟨g', 0, none⟩) n' c') ∧ w'.cell? ⟨w.heap.size + 1, 1, none⟩ = some (.int .i64 o') ∧ w'.cell? ⟨w.heap.size + 1, 2, none⟩ = some (.int .i64 K) ∧ w'.cell? ⟨w.heap.size + 1, 3, none⟩ = some (.int .i64 i') ∧ Below w.heap.size w w')
    (first | exact ⟨c0, c1, c2, c3, d0, d1, d2, d3, HBl.out.drew⟩ | exact held8 ‹_ ∧ _ ∧ _ ∧ _ ∧ _ ∧ _ ∧ _ ∧ _ ∧ Below w.heap.size w _› hbA)
    (first
      | (go_at_call 73; refine (HMt.out _ (‹_ ∧ _ ∧ _ ∧ _ ∧ _ ∧ _ ∧ _ ∧ _ ∧ Below w.heap.size w _›).2.2.2.2.2.2.2.2).mono ?_; rintro e1 wA ⟨rfl, hbA⟩; skip)
      | (go_at_call 74; refine (HRw.out _ _ _ _ _ _ _).mono ?_; rintro e1 wA ⟨rfl, hbA⟩; skip))
  have HBl := Lib.hid (‹_ ∧ _ ∧ _ ∧ _ ∧ _ ∧ _ ∧ _ ∧ _ ∧ Below w.heap.size w _›).2.2.2.2.2.2.2.2
  obtain ⟨c0, c1, c2, c3, d0, d1, d2, d3, _⟩ := ‹_ ∧ _ ∧ _ ∧ _ ∧ _ ∧ _ ∧ _ ∧ _ ∧ Below w.heap.size w _›
  cases m
  · go_wp2_with fail
    go_ret
    rw [HMy.out (by simp)]
    exact ⟨rfl, HBl.out⟩
  · have HYm := Lib.hid (HMtt.out (by simp))
    clear HMy HMtt
    simp only [Bool.not_true]
    go_wp2_with fail
    go_loopw [14] (fun a wr => ∃ q : Nat, q ≤ K ∧ a = .int .i64 q ∧ (∀ x, x < q → ∀ j, j < K → o + x * i ≠ o' + j * i') ∧ wr.cell? ⟨w.heap.size, 0, none⟩ = some (.slice (some ⟨g, 0, none⟩) n c) ∧ wr.cell? ⟨w.heap.size, 1, none⟩ = some (.int .i64 o) ∧ wr.cell? ⟨w.heap.size, 2, none⟩ = some (.int .i64 K) ∧ wr.cell? ⟨w.heap.size, 3, none⟩ = some (.int .i64 i) ∧ wr.cell? ⟨w.heap.size + 1, 0, none⟩ = some (.slice (some ⟨g', 0, none⟩) n' c') ∧ wr.cell? ⟨w.heap.size + 1, 1, none⟩ = some (.int .i64 o') ∧ wr.cell? ⟨w.heap.size + 1, 2, none⟩ = some (.int .i64 K) ∧ wr.cell? ⟨w.heap.size + 1, 3, none⟩ = some (.int .i64 i') ∧ Below w.heap.size w wr) (fun a _ => K - (intOf a).toNat)
    case atStart => exact ⟨0, Nat.zero_le _, rfl, fun x hx => by omega, c0, c1, c2, c3, d0, d1, d2, d3, HBl.out⟩
    case round =>
      clear c0 c1 c2 c3 d0 d1 d2 d3
      obtain ⟨q, hq, rfl, hno, c0, c1, c2, c3, d0, d1, d2, d3, hbl⟩ := hrel
      have HBl3 := Lib.hid hbl
      have HNo := Lib.hid hno
      clear hbl hno
      by_cases hlt : q < K
      · have HPl1 := Lib.hid (fun W => HPl.out W q hlt)
        have HSt1 := Lib.hid (fun W => HSt.out W q hlt)
        obtain ⟨p, hp⟩ : ∃ p : Nat, o + q * i = p := ⟨_, rfl⟩
        rw [hp] at HPl1 HSt1
        have Hp := Lib.hid hp
        clear hp
        obtain ⟨s, hs⟩ : ∃ s, standsB o' K i' p = s := ⟨_, rfl⟩
        rw [hs] at HSt1
        have Hs := Lib.hid hs
        clear hs
        go_wp2_with fail
        go_region_held3 (fun w' => w'.cell? ⟨w.heap.size, 0, none⟩ = some (.slice (some ⟨g, 0, none⟩) n c) ∧ w'.cell? ⟨w.heap.size, 1, none⟩ = some (.int .i64 o) ∧ w'.cell? ⟨w.heap.size, 2, none⟩ = some (.int .i64 K) ∧ w'.cell? ⟨w.heap.size, 3, none⟩ = some (.int .i64 i) ∧ w'.cell? ⟨w.heap.size + 1, 0, none⟩ = some (.slice (some ⟨g', 0, none⟩) n' c') ∧ w'.cell? ⟨w.heap.size + 1, 1, none⟩ = some (.int .i64 o') ∧ w'.cell? ⟨w.heap.size + 1, 2, none⟩ = some (.int .i64 K) ∧ w'.cell? ⟨w.heap.size + 1, 3, none⟩ = some (.int .i64 i') ∧ Below w.heap.size w w')
          (first | exact ⟨c0, c1, c2, c3, d0, d1, d2, d3, HBl3.out.drew⟩ | exact held8 ‹_ ∧ _ ∧ _ ∧ _ ∧ _ ∧ _ ∧ _ ∧ _ ∧ Below w.heap.size w _› hbA)
          (first
            | (go_at_call 76; refine (HPl1.out _).mono ?_; rintro e1 wA ⟨rfl, hbA⟩; skip)
            | (go_at_call 75; refine (HSt1.out _).mono ?_; rintro e1 wA ⟨rfl, hbA⟩; skip))
        have HBl2 := Lib.hid (‹_ ∧ _ ∧ _ ∧ _ ∧ _ ∧ _ ∧ _ ∧ _ ∧ Below w.heap.size w _›).2.2.2.2.2.2.2.2
        obtain ⟨c0, c1, c2, c3, d0, d1, d2, d3, _⟩ := ‹_ ∧ _ ∧ _ ∧ _ ∧ _ ∧ _ ∧ _ ∧ _ ∧ Below w.heap.size w _›
        cases s
        · go_wp2_with fail
          go_roundw
          case rel => exact ⟨q + 1, by omega, by go_num, (fun x hx j hj => by
            by_cases e : x = q
            · subst e; rw [Hp.out]; exact stands_not HI'.out Hs.out j hj
            · exact HNo.out x (by omega) j hj), c0, c1, c2, c3, d0, d1, d2, d3, HBl2.out⟩
          case measure => simp [intOf]; omega
        · go_wp2_with fail
          go_ret
          have hy : y = true := by
            rw [HYm.out, metB_true]
            obtain ⟨j, hj, e⟩ := (stands_iff HI'.out).1 Hs.out
            exact ⟨q, hlt, j, hj, by rw [Hp.out]; exact e⟩
          rw [hy]
          exact ⟨rfl, HBl2.out⟩
      · obtain rfl : q = K := by omega
        go_wp2_with fail
        go_ret
        have hy : y = false := by
          rw [HYm.out, metB_false]
          exact HNo.out
        rw [hy]
        exact ⟨rfl, HBl3.out⟩
end Go.Proofs.Ytjjneiidggcfdaa
set_option linter.unusedVariables false
namespace Go.Proofs.Ytjjneiidggcfdaa
open Go.RowKit
attribute [local go_sem ↓] Go.wp_at_zero Go.wp_at_succ

/-- Which error, or 0. -/
def pairI (same : Bool) (n : Nat) (off k inc : Int) (n' : Nat) (off' k' inc' : Int) : Int :=
  if vecB n off k inc then (if vecB n' off' k' inc' then (if k = k' then (if same && metB off.toNat inc.toNat off'.toNat inc'.toNat k.toNat then 2 else 0) else 3) else 1) else 1

theorem pair_any (g g' c c' : Nat) (l l' : List Nat) (n n' : Nat) (off k inc off' k' inc' : Int) (w : World) (hO : Own w g l) (hO' : Own w g' l') (hln : l.length = n) (hln' : l'.length = n') (hn : n < 9223372036854775808) (hn' : n' < 9223372036854775808)
    (ho : I64 off) (hk : I64 k) (hi : I64 inc) (ho' : I64 off') (hk' : I64 k') (hi' : I64 inc') :
    Calls Try.prog 53 #[vec (some ⟨g, 0, none⟩) n c off k inc, vec (some ⟨g', 0, none⟩) n' c' off' k' inc'] w fun e w' => e = .returned (.int .i64 (pairI (decide (g = g')) n off k inc n' off' k' inc')) ∧ Below w.heap.size w w' := by
  have HR := Lib.hid (fun W => right_any (some ⟨g, 0, none⟩) n c off k inc W (by omega) ho hk hi)
  have HR' := Lib.hid (fun W => right_any (some ⟨g', 0, none⟩) n' c' off' k' inc' W (by omega) ho' hk' hi')
  have HMt := Lib.hid (fun (h : vecB n off k inc = true) (h' : vecB n' off' k' inc' = true) (e : k = k') W (hb : Below w.heap.size w W) =>
    show Calls Try.prog 68 #[vec (some ⟨g, 0, none⟩) n c off k inc, vec (some ⟨g', 0, none⟩) n' c' off' k' inc'] W fun e w' => e = .returned (.bool (decide (g = g') && metB off.toNat inc.toNat off'.toNat inc'.toNat k.toNat)) ∧ Below W.heap.size W w' by
      obtain ⟨o, K, i, rfl, rfl, rfl, h1, h2⟩ := vec_nat h
      obtain ⟨o', K', i', rfl, e2, rfl, h1', h2'⟩ := vec_nat h'
      subst e
      obtain rfl : K = K' := by omega
      unfold I64 at ho hk hi ho' hi'
      have := mmeet_any g g' c c' l l' n n' o i o' i' K W (hO.nxt hb) (hO'.nxt hb) hln hln' hn hn' (by omega) h1 h1' h2 h2'
      simpa only [Int.toNat_natCast] using this)
  have hp : pairI (decide (g = g')) n off k inc n' off' k' inc' = if vecB n off k inc then (if vecB n' off' k' inc' then (if k = k' then (if decide (g = g') && metB off.toNat inc.toNat off'.toNat inc'.toNat k.toNat then 2 else 0) else 3) else 1) else 1 := rfl
  obtain ⟨p, hp0⟩ : ∃ p, pairI (decide (g = g')) n off k inc n' off' k' inc' = p := ⟨_, rfl⟩
  rw [hp0] at hp
  rw [hp0]
  generalize vecB n off k inc = x at *
  generalize vecB n' off' k' inc' = x' at *
  generalize (decide (g = g') && metB off.toNat inc.toNat off'.toNat inc'.toNat k.toNat) = y at *
  have HP := Lib.hid hp
  clear hp hp0 hO hO' hln hln' hn hn' ho hk hi ho' hk' hi'
  unfold vec at *
  go_enter Try.func53, Try.ntmps53
  have hz0 := (Blk.new w 30 #[.slice (some ⟨g, 0, none⟩) n c, .int .i64 off, .int .i64 k, .int .i64 inc]).alloc (.cells #[.slice (some ⟨g', 0, none⟩) n' c', .int .i64 off', .int .i64 k', .int .i64 inc'] 30)
  have hz1 := Blk.new_ (w.alloc (.cells #[.slice (some ⟨g, 0, none⟩) n c, .int .i64 off, .int .i64 k, .int .i64 inc] 30)) 30 #[.slice (some ⟨g', 0, none⟩) n' c', .int .i64 off', .int .i64 k', .int .i64 inc'] (w.heap.size + 1) (by simp)
  have HZ0 := Lib.hid hz0
  have HZ1 := Lib.hid hz1
  have HBl := Lib.hid (((Below.refl w.heap.size w).alloc (Nat.le_refl _) (.cells #[.slice (some ⟨g, 0, none⟩) n c, .int .i64 off, .int .i64 k, .int .i64 inc] 30)).alloc (by simp) (.cells #[.slice (some ⟨g', 0, none⟩) n' c', .int .i64 off', .int .i64 k', .int .i64 inc'] 30))
  clear hz0 hz1
  go_wp2_with fail
  refine (HR.out _).mono ?_
  rintro e w1 ⟨rfl, hb1⟩
  have HB1 := Lib.hid (HBl.out.trans (hb1.mono HBl.out.size))
  have HZ2 := Lib.hid (HZ0.out.nxt hb1)
  have HZ3 := Lib.hid (HZ1.out.nxt hb1)
  clear hb1
  obtain ⟨c0, c1, c2, c3⟩ := cells4w HZ2.out
  obtain ⟨d0, d1, d2, d3⟩ := cells4w HZ3.out
  cases x
  · have hp := HP.out
    simp only [Bool.false_eq_true, if_false] at hp
    subst hp
    go_wp2_with fail
    go_ret
    exact ⟨rfl, HB1.out⟩
  go_wp2_with fail
  refine (HR'.out _).mono ?_
  rintro e w2 ⟨rfl, hb1⟩
  have HB2 := Lib.hid (HB1.out.trans (hb1.mono HB1.out.size))
  have HZ4 := Lib.hid (HZ2.out.nxt hb1)
  have HZ5 := Lib.hid (HZ3.out.nxt hb1)
  clear hb1 c0 c1 c2 c3 d0 d1 d2 d3
  obtain ⟨c0, c1, c2, c3⟩ := cells4w HZ4.out
  obtain ⟨d0, d1, d2, d3⟩ := cells4w HZ5.out
  cases x'
  · have hp := HP.out
    simp only [Bool.false_eq_true, if_false, if_true] at hp
    subst hp
    go_wp2_with fail
    go_ret
    exact ⟨rfl, HB2.out⟩
  by_cases hkk : k = k'
  · have HM := Lib.hid (HMt.out (by trivial) (by trivial) hkk)
    have hp := HP.out
    simp only [if_true, if_pos hkk] at hp
    have hkk2 : (k == k') = true := by simp [hkk]
    subst hkk
    have HP2 := Lib.hid hp
    clear hp HP HMt
    go_wp2_with fail
    refine (HM.out _ HB2.out).mono ?_
    rintro e w3 ⟨rfl, hb1⟩
    have HB3 := Lib.hid (HB2.out.trans (hb1.mono HB2.out.size))
    clear hb1 c0 c1 c2 c3 d0 d1 d2 d3
    cases y
    · have hp := HP2.out
      simp only [Bool.false_eq_true, if_false] at hp
      subst hp
      go_wp2_with fail
      go_ret
      exact ⟨rfl, HB3.out⟩
    · have hp := HP2.out
      simp only [if_true] at hp
      subst hp
      go_wp2_with fail
      go_ret
      exact ⟨rfl, HB3.out⟩
  · have hp := HP.out
    simp only [if_true, if_neg hkk] at hp
    subst hp
    have hkk2 : (k == k') = false := by simp [hkk]
    clear HMt
    go_wp2_with fail
    go_ret
    exact ⟨rfl, HB2.out⟩
end Go.Proofs.Ytjjneiidggcfdaa
set_option linter.unusedVariables false
namespace Go.Proofs.Ytjjneiidggcfdaa
open Go.RowKit
attribute [local go_sem ↓] Go.wp_at_zero Go.wp_at_succ

/-- Between: nothing has changed, or the one list has. -/
def Mid (G : List Nat) (wr : World) (s s' : Nat → List Nat) (w' : World) : Prop := Chg G wr w' ∧ (Has w' G s ∨ Has w' G s')
theorem cell_self {W : World} {g P : Nat} {x u : Value} (hc : W.cell? ⟨g, P, none⟩ = some x) : (W.setCell ⟨g, P, none⟩ u).cell? ⟨g, P, none⟩ = some u := World.cell?_setCell_same' W _ u (by rw [hc]; rfl)
section
variable {G : List Nat} {wr W w' : World} {s : Nat → List Nat} {g P v : Nat}
theorem Mid.start {s' : Nat → List Nat} (h : Has w' G s) (hc : Chg G wr w') : Mid G wr s s' w' := ⟨hc, .inl h⟩
theorem Mid.nxt {s' : Nat → List Nat} (h : Mid G wr s s' W) (hb : Below W.heap.size W w') : Mid G wr s s' w' := ⟨h.1.nxt hb, h.2.imp (fun k => k.nxt hb) (fun k => k.nxt hb)⟩
theorem Mid.store (h : Mid G wr s (upd s g ((s g).set P v)) W) (hg : g ∈ G) (hP : P < (s g).length) : Has (W.setCell ⟨g, P, none⟩ (.float .f64 v)) G (upd s g ((s g).set P v)) ∧ Chg G wr (W.setCell ⟨g, P, none⟩ (.float .f64 v)) := by
  refine ⟨?_, h.1.set_in hg _⟩
  rcases h.2 with h | h
  · exact h.set_ hg v hP
  · have := h.set_ hg v (i := P) (by rw [upd_self, List.length_set]; exact hP)
    simpa [upd_self, upd_upd] using this
theorem Mid.stored (h : Mid G wr s (upd s g ((s g).set P v)) W) (hg : g ∈ G) (hP : P < (s g).length) : Mid G wr s (upd s g ((s g).set P v)) (W.setCell ⟨g, P, none⟩ (.float .f64 v)) := ⟨(h.store hg hP).2, .inr (h.store hg hP).1⟩
theorem Mid.done {x : Value} (h : Mid G wr s (upd s g ((s g).set P v)) (W.setCell ⟨g, P, none⟩ (.float .f64 v))) (hg : g ∈ G) (hP : P < (s g).length) (hc : W.cell? ⟨g, P, none⟩ = some x) : Has (W.setCell ⟨g, P, none⟩ (.float .f64 v)) G (upd s g ((s g).set P v)) ∧ Chg G wr (W.setCell ⟨g, P, none⟩ (.float .f64 v)) := by
  refine ⟨?_, h.1⟩
  rcases h.2 with k | k
  · have h1 := k.get hg hP
    rw [cell_self hc] at h1
    have h2 : v = (s g).getD P 0 := by simpa using h1
    have h3 : (s g).set P v = s g := by
      rw [h2, getD_of_lt hP]; exact List.set_getElem_self hP
    rw [h3, upd_same]; exact k
  · exact k
end
end Go.Proofs.Ytjjneiidggcfdaa
set_option linter.unusedVariables false
namespace Go.Proofs.Ytjjneiidggcfdaa
open Go.RowKit
attribute [local go_sem ↓] Go.wp_at_zero Go.wp_at_succ

@[go_sem] theorem run_field_Off (A : Option Addr) (n c : Nat) (off r k ld : Int) (w : World) :
    (Instr.field 95 (.agg #[.slice A n c, .int .i64 off, .int .i64 r, .int .i64 k, .int .i64 ld]) 1).run Try.prog w = .ok (.int .i64 off) w := by kernel_rfl

end Go.Proofs.Ytjjneiidggcfdaa
set_option linter.unusedVariables false
namespace Go.Proofs.Ytjjneiidggcfdaa
open Go.RowKit

/-- Number i has come up, too. -/
def did (d : Nat → Bool) (i : Nat) : Nat → Bool := fun j => if j = i then true else d j
/-- What an operation is handed, by the temporaries. -/
def evS (s : Nat → Value) : Operand → Value
  | .tmp t => s t
  | .const v => v
  | .global g => .pointer (some ⟨g, 0, none⟩)
  | .func f => .func (.func f) #[] #[]
theorem evS_of (a : Act) : a.eval = evS (fun k => a.tmps.getD k undef) := by
  funext x; cases x <;> rfl
def sput (s : Nat → Value) (dst : Option Tmp) (v : Value) : Nat → Value := fun k => if dst = some k then v else s k
/-- An operation that yields a value, or a call that returns one. -/
def OpSteps (P : Program) (o : Oper) (ev : Operand → Value) (w : World) (K : Value → World → Prop) : Prop :=
  match (execOp ev o).run P w with
  | .ok (.value v) w' => K v w'
  | .ok .skip w' => K undef w'
  | .ok (.enter f args) w' => Calls P f args w' fun e w'' => ∃ v, e = .returned v ∧ K v w''
  | _ => False
/-- Each waits for earlier ones alone, is not guarded, and writes one of these temporaries. -/
def plainB (L : List Nat) (n : Nat) : Nat → List Oper → Bool
  | _, [] => true
  | i, o :: r => o.after.all (fun e => decide (e.on < i)) && o.guard.isNone && (match o.dst with | some k => L.contains k && decide (k < n) | none => true) && plainB L n (i + 1) r
theorem plainB_at {L : List Nat} {n : Nat} : ∀ {i : Nat} {ops : List Oper}, plainB L n i ops = true → ∀ {j : Nat} {o : Oper}, ops[j]? = some o → (∀ e ∈ o.after, e.on < i + j) ∧ o.guard = none ∧ ∀ k, o.dst = some k → k ∈ L ∧ k < n
  | i, [], _, j, o, h => by simp at h
  | i, x :: r, h, j, o, ho => by
    simp only [plainB, Bool.and_eq_true] at h
    obtain ⟨⟨⟨h1, h2⟩, h3⟩, h4⟩ := h
    cases j with
    | zero =>
      simp at ho
      subst ho
      refine ⟨fun e he => ?_, by simpa using h2, fun k hk => ?_⟩
      · have := Array.all_eq_true_iff_forall_mem.1 h1 e he
        simpa using this
      · rw [hk] at h3
        simpa using h3
    | succ j =>
      have := plainB_at h4 (j := j) (o := o) (by simpa using ho)
      refine ⟨fun e he => ?_, this.2⟩
      have := this.1 e he
      omega
/-- What is to be shown of each operation. -/
def AllSteps (P : Program) (t0 : Array Value) (L : List Nat) (J : (Nat → Bool) → (Nat → Value) → World → Prop) : Nat → List Oper → Prop
  | _, [] => True
  | i, o :: r => (∀ d s w, J d s w → (∀ k, k ∉ L → s k = t0.getD k undef) → d i = false → (∀ e ∈ o.after.toList, Region.binds .any e = true → d e.on = true) → OpSteps P o (evS s) w (fun v w' => J (did d i) (sput s o.dst v) w')) ∧ AllSteps P t0 L J (i + 1) r
theorem AllSteps.at_ {P : Program} {t0 : Array Value} {L : List Nat} {J : (Nat → Bool) → (Nat → Value) → World → Prop} : ∀ {i : Nat} {ops : List Oper}, AllSteps P t0 L J i ops → ∀ {j : Nat} {o : Oper}, ops[j]? = some o →
    ∀ d s w, J d s w → (∀ k, k ∉ L → s k = t0.getD k undef) → d (i + j) = false → (∀ e ∈ o.after.toList, Region.binds .any e = true → d e.on = true) → OpSteps P o (evS s) w (fun v w' => J (did d (i + j)) (sput s o.dst v) w')
  | i, [], _, j, o, h => by simp at h
  | i, x :: r, h, j, o, ho => by
    cases j with
    | zero => simp at ho; subst ho; exact h.1
    | succ j =>
      have := AllSteps.at_ h.2 (j := j) (o := o) (by simpa using ho)
      rw [show i + (j + 1) = i + 1 + j by omega]
      exact this
/-- The temporaries behind the region. -/
def setAll (t : Array Value) (s : Nat → Value) : List Nat → Array Value
  | [] => t
  | k :: L => (setAll t s L).setIfInBounds k (s k)
theorem setAll_size (t : Array Value) (s : Nat → Value) (L : List Nat) : (setAll t s L).size = t.size := by
  induction L with
  | nil => rfl
  | cons k L ih => simp [setAll, ih]
theorem setAll_getD (t : Array Value) (s : Nat → Value) (L : List Nat) (k : Nat) (hk : k < t.size) : (setAll t s L).getD k undef = if k ∈ L then s k else t.getD k undef := by
  induction L with
  | nil => simp [setAll]
  | cons x L ih =>
    have hs := setAll_size t s L
    by_cases e : x = k
    · subst e
      simp [setAll, Array.getD, hs, hk]
    · have : (setAll t s (x :: L)).getD k undef = (setAll t s L).getD k undef := by
        simp only [setAll, Array.getD_eq_getD_getElem?]
        rw [Array.getElem?_setIfInBounds_ne e]
      rw [this, ih]
      have e' : ¬ k = x := fun h => e h.symm
      simp [e']
theorem arr_getD (t : Array Value) {i : Nat} (h : i < t.size) : t.getD i undef = t[i] := by simp [Array.getD, h]
structure Fr (a0 : Act) (L : List Nat) (a : Act) : Prop where
  defers : a.defers = a0.defers
  size : a.tmps.size = a0.tmps.size
  keep : ∀ k, k ∉ L → a.tmps.getD k undef = a0.tmps.getD k undef
theorem Fr.eq_ {a0 a : Act} {L : List Nat} (h : Fr a0 L a) : a = ⟨setAll a0.tmps (fun k => a.tmps.getD k undef) L, a0.defers⟩ := by
  obtain ⟨t, df⟩ := a
  obtain ⟨h1, h2, h3⟩ := h
  simp only at h1 h2 h3
  subst h1
  congr 1
  refine Array.ext (by rw [setAll_size, h2]) fun i hi hi' => ?_
  have hi0 : i < a0.tmps.size := by rw [← h2]; exact hi
  have hg := setAll_getD a0.tmps (fun k => t.getD k undef) L i hi0
  have e1 := arr_getD (setAll a0.tmps (fun k => t.getD k undef) L) hi'
  have e2 := arr_getD t hi
  rw [e1] at hg
  refine Eq.trans e2.symm (Eq.trans ?_ hg.symm)
  by_cases hn : i ∈ L
  · rw [if_pos hn]
  · rw [if_neg hn]; exact h3 i hn
theorem Fr.put_ {a0 a : Act} {L : List Nat} (h : Fr a0 L a) {dst : Option Tmp} (hd : ∀ k, dst = some k → k ∈ L) (v : Value) : Fr a0 L (a.put dst v) := by
  cases dst with
  | none => exact h
  | some k =>
    refine ⟨h.defers, by simpa [Act.put] using h.size, fun x hx => ?_⟩
    have : k ≠ x := fun e => hx (e ▸ hd k rfl)
    have e : (a.put (some k) v).tmps.getD x undef = a.tmps.getD x undef := by
      simp only [Act.put, Array.getD_eq_getD_getElem?]
      rw [Array.getElem?_setIfInBounds_ne this]
    rw [e]; exact h.keep x hx
theorem put_slots {a : Act} {n : Nat} (hn : a.tmps.size = n) {dst : Option Tmp} (hd : ∀ k, dst = some k → k < n) (v : Value) : (fun k => (a.put dst v).tmps.getD k undef) = sput (fun k => a.tmps.getD k undef) dst v := by
  funext x
  cases dst with
  | none => simp [Act.put, sput]
  | some k =>
    have hk := hd k rfl
    unfold sput
    by_cases e : k = x
    · subst e
      simp [Act.put, Array.getD, hn, hk]
    · rw [if_neg (by simpa using e)]
      simp only [Act.put, Array.getD_eq_getD_getElem?]
      rw [Array.getElem?_setIfInBounds_ne e]

section
variable {P : Program} {ops : Array Oper} {Q : Exit → Act → World → Prop} {a0 : Act} {L : List Nat} {J : (Nat → Bool) → (Nat → Value) → World → Prop}
theorem wpOp_inv (hp : plainB L a0.tmps.size 0 ops.toList = true) (hs : AllSteps P a0.tmps L J 0 ops.toList) {d : Nat → Bool} {a : Act} {w : World} (hF : Fr a0 L a) (hJ : J d (fun k => a.tmps.getD k undef) w) {i : Nat} {o : Oper} (ho : ops[i]? = some o) (hd : d i = false)
    (hdep : ∀ e ∈ o.after, Region.binds .any e = true → d e.on = true) : wpOp P ops Q i (fun a' w' => Fr a0 L a' ∧ J (did d i) (fun k => a'.tmps.getD k undef) w') a w := by
  have ho' : ops.toList[i]? = some o := by simpa using ho
  obtain ⟨_, hg, hdst⟩ := plainB_at hp ho'
  have h := hs.at_ ho' d _ w hJ (fun k hk => hF.keep k hk) (by simpa using hd) (fun e he => hdep e (by simpa using he))
  rw [Nat.zero_add] at h
  have hput : ∀ v w', J (did d i) (sput (fun k => a.tmps.getD k undef) o.dst v) w' → Fr a0 L (a.put o.dst v) ∧ J (did d i) (fun k => (a.put o.dst v).tmps.getD k undef) w' := fun v w' hj =>
    ⟨hF.put_ (fun k hk => (hdst k hk).1) v, by rw [put_slots hF.size (fun k hk => (hdst k hk).2)]; exact hj⟩
  unfold wpOp
  simp only [ho]
  have hw : Region.wanted o (yielded ops a.tmps) = true := by unfold Region.wanted; rw [hg]
  rw [hw, if_pos rfl]
  refine .inl ?_
  unfold Oper.wp
  rw [evS_of a]
  unfold OpSteps at h
  generalize (execOp (evS fun k => a.tmps.getD k undef) o).run P w = r at *
  cases r with
  | halt x w' => exact h.elim
  | ok n w' =>
    cases n <;> simp only [Oper.upon] at h ⊢
    case value v => exact hput v w' h
    case skip => exact hput undef w' h
    case enter f args =>
      refine Calls.mono h fun e w'' he => ?_
      obtain ⟨v, rfl, hj⟩ := he
      exact hput v w'' hj

theorem wpAny_inv (hp : plainB L a0.tmps.size 0 ops.toList = true) (hs : AllSteps P a0.tmps L J 0 ops.toList)
    (done : ∀ d a w, Fr a0 L a → J d (fun k => a.tmps.getD k undef) w → (∀ i, i < ops.size → d i = true) → Q .normal a w) :
    ∀ (fuel : Nat) (listed : Array Bool) (l : List Nat) (a : Act) (w : World), listed.size = ops.size → l.Nodup → (∀ i, i ∈ l ↔ listed.getD i true = false) → l.length ≤ fuel →
      Fr a0 L a → J (fun j => listed.getD j false) (fun k => a.tmps.getD k undef) w → wpAny P .any ops Q fuel listed a w := by
  have hnone : ∀ (listed : Array Bool), listed.size = ops.size → Region.ready .any ops listed = [] → ∀ i, i < ops.size → listed.getD i false = true := by
    intro listed hsz hr i
    induction i using Nat.strongRecOn with
    | ind i ih =>
      intro hi
      cases hb : listed.getD i false
      · exfalso
        have : i ∈ Region.ready .any ops listed := mem_ready.2 ⟨by simpa [Array.getD, hsz, hi] using hb, ops[i], Array.getElem?_eq_getElem hi, fun e he _ => by
          have h1 := (plainB_at hp (j := i) (o := ops[i]) (by simp [hi])).1 e he
          exact ih e.on (by omega) (by omega)⟩
        rw [hr] at this; cases this
      · rfl
  intro fuel
  induction fuel with
  | zero =>
    intro listed l a w hsz hnd hl hlen hF hJ
    have hl0 : l = [] := List.length_eq_zero_iff.1 (by omega)
    subst hl0
    have hr : Region.ready .any ops listed = [] := by
      refine List.eq_nil_iff_forall_not_mem.2 fun i hi => ?_
      have := (hl i).2 (mem_ready.1 hi).1
      cases this
    exact ⟨hr, done _ a w hF hJ (hnone listed hsz hr)⟩
  | succ fuel ih =>
    intro listed l a w hsz hnd hl hlen hF hJ
    refine ⟨fun hr => done _ a w hF hJ (hnone listed hsz hr), fun i hi => ?_⟩
    obtain ⟨h0, o, ho, hdep⟩ := mem_ready.1 hi
    have hi2 : i < listed.size := by
      rcases Nat.lt_or_ge i listed.size with h | h
      · exact h
      · simp [Array.getD, Nat.not_lt.2 h] at h0
    have h0' : listed.getD i false = false := by simpa [Array.getD, hi2] using h0
    refine wpOp_mono (fun a' w' h => ?_) (wpOp_inv hp hs hF hJ ho h0' hdep)
    refine ih (listed.setIfInBounds i true) (l.erase i) a' w' (by simp [hsz]) (hnd.erase i) (fun j => ?_) ?_ h.1 ?_
    · rw [hnd.mem_erase_iff, hl j]
      by_cases e : j = i
      · subst e
        simp [Array.getD, hi2]
      · simp only [Array.getD_eq_getD_getElem?]
        rw [Array.getElem?_setIfInBounds_ne (fun h => e h.symm)]
        simp [e]
    · rw [List.length_erase_of_mem ((hl i).2 h0)]; omega
    · have e : (fun j => (listed.setIfInBounds i true).getD j false) = did (fun j => listed.getD j false) i := by
        funext j
        unfold did
        by_cases e : j = i
        · subst e; simp [Array.getD, hi2]
        · rw [if_neg e]
          simp only [Array.getD_eq_getD_getElem?]
          rw [Array.getElem?_setIfInBounds_ne (fun h => e h.symm)]
      rw [e]; exact h.2

/-- THE RULE. -/
theorem wp_region_inv {id : Nat} {t0 : Array Value} {df : List Deferred} {w : World} (L : List Nat) (J : (Nat → Bool) → (Nat → Value) → World → Prop) (hm : P.follows .mixedOrders = true) (hp : plainB L t0.size 0 ops.toList = true)
    (start : J (fun _ => false) (fun k => t0.getD k undef) w.drew) (hs : AllSteps P t0 L J 0 ops.toList)
    (done : ∀ d s w', J d s w' → (∀ i, i < ops.size → d i = true) → Q .normal ⟨setAll t0 s L, df⟩ w') : (Code.region id ops true).wp P Q ⟨t0, df⟩ w := by
  refine wp_region_any hm ?_
  refine wpAny_inv (a0 := ⟨t0, df⟩) (L := L) (J := J) hp hs (fun d a w' hF hJ hd => ?_) ops.size (Array.replicate ops.size false) (List.range ops.size) _ _ (by simp) List.nodup_range (fun i => ?_) (by simp) ⟨rfl, rfl, fun _ _ => rfl⟩ ?_
  · rw [hF.eq_]
    exact done d _ w' hJ hd
  · rw [List.mem_range]
    by_cases h : i < ops.size
    · simp [Array.getD, h]
    · simp [Array.getD, h]
  · have e : (fun j => (Array.replicate ops.size false).getD j false) = fun _ => false := by
      funext j
      simp only [Array.getD_eq_getD_getElem?]
      by_cases h : j < ops.size
      · simp [h]
      · simp [h]
    rw [e]; exact start
end
end Go.Proofs.Ytjjneiidggcfdaa
set_option linter.unusedVariables false
set_option linter.unusedSimpArgs false
set_option linter.unnecessarySimpa false
namespace Go.Proofs.Ytjjneiidggcfdaa
open Go.RowKit
attribute [local go_sem ↓] Go.wp_at_zero Go.wp_at_succ

theorem below_nx {w W w' : World} (h : Below w.heap.size w W) (hb : Below W.heap.size W w') : Below w.heap.size w w' := h.trans (hb.mono h.size)
theorem below_al {w W : World} (h : Below w.heap.size w W) {o : Obj} : Below w.heap.size w (W.alloc o) := h.alloc h.size o
/-- What a region has made so far: its variables p and q hold these, or their first values. -/
def Two (w0 : World) (t : TypeId) (z a b : Array Value) (da db sa sb : Bool) (va vb : Value) (W : World) : Prop :=
  Below w0.heap.size w0 W ∧ (da = true → ∃ p, va = .pointer (some ⟨p, 0, none⟩) ∧ w0.heap.size ≤ p ∧ Blk W p t (if sa then a else z)) ∧
    (db = true → ∃ p, vb = .pointer (some ⟨p, 0, none⟩) ∧ w0.heap.size ≤ p ∧ Blk W p t (if sb then b else z)) ∧ (da = true → db = true → va ≠ vb)
section
variable {w0 W W' : World} {t : TypeId} {z a b : Array Value} {da db sa sb : Bool} {va vb : Value}
theorem Two.nxt (h : Two w0 t z a b da db sa sb va vb W) (hb : Below W.heap.size W W') : Two w0 t z a b da db sa sb va vb W' :=
  ⟨below_nx h.1 hb, fun e => by
    obtain ⟨p, h1, h2, h3⟩ := h.2.1 e
    exact ⟨p, h1, h2, h3.nxt hb⟩, fun e => by
    obtain ⟨p, h1, h2, h3⟩ := h.2.2.1 e
    exact ⟨p, h1, h2, h3.nxt hb⟩, h.2.2.2⟩
end
end Go.Proofs.Ytjjneiidggcfdaa
set_option linter.unusedVariables false
namespace Go.Proofs.Ytjjneiidggcfdaa
open Go.RowKit
attribute [local go_sem ↓] Go.wp_at_zero Go.wp_at_succ

/-- The list has the table T at the matrix' places, and is else as it was. -/
def Img (l : List Nat) (o R C L : Nat) (T : Nat → Nat → Nat) (l' : List Nat) : Prop :=
  l'.length = l.length ∧ (∀ a, a < R → ∀ b, b < C → l'.getD (o + a + b * L) 0 = T a b) ∧ ∀ x, (∀ a, a < R → ∀ b, b < C → x ≠ o + a + b * L) → l'.getD x 0 = l.getD x 0
theorem Img.refl (l : List Nat) (o R C L : Nat) : Img l o R C L (fun a b => l.getD (o + a + b * L) 0) l := ⟨rfl, fun _ _ _ _ => rfl, fun _ _ => rfl⟩
theorem Img.trans {l m m' : List Nat} {o R C L : Nat} {T T' : Nat → Nat → Nat} (h : Img l o R C L T m) (h' : Img m o R C L T' m') : Img l o R C L T' m' :=
  ⟨h'.1.trans h.1, h'.2.1, fun x hx => (h'.2.2 x hx).trans (h.2.2 x hx)⟩
theorem Img.congr {l m : List Nat} {o R C L : Nat} {T T' : Nat → Nat → Nat} (h : Img l o R C L T m) (e : ∀ a, a < R → ∀ b, b < C → T a b = T' a b) : Img l o R C L T' m :=
  ⟨h.1, fun a ha b hb => (h.2.1 a ha b hb).trans (e a ha b hb), h.2.2⟩
/-- The row that stands at a when rows i and j have changed places. -/
def sw (i j a : Nat) : Nat := if a = i then j else if a = j then i else a
end Go.Proofs.Ytjjneiidggcfdaa
set_option linter.unusedVariables false
namespace Go.Proofs.Ytjjneiidggcfdaa
open Go.RowKit
attribute [local go_sem ↓] Go.wp_at_zero Go.wp_at_succ

theorem below_one {W : World} {o : Obj} : Below W.heap.size W (W.alloc o) := (Below.refl _ _).alloc (Nat.le_refl _) o
end Go.Proofs.Ytjjneiidggcfdaa
set_option linter.unusedVariables false
namespace Go.Proofs.Ytjjneiidggcfdaa
open Go.RowKit
attribute [local go_sem ↓] Go.wp_at_zero Go.wp_at_succ

theorem wrap3 {o a P : Nat} (hP : P < 1048576) (h : o + a = P) : wrap64 (a : Int) = (a : Int) ∧ wrap64 (P : Int) = (P : Int) ∧ IntKind.i64.wrap (a : Int) = (a : Int) ∧ IntKind.i64.wrap (P : Int) = (P : Int) :=
  ⟨wrap_id (by unfold I64; omega), wrap_id (by unfold I64; omega), wrapi (by omega) (by omega), wrapi (by omega) (by omega)⟩
end Go.Proofs.Ytjjneiidggcfdaa
set_option linter.unusedVariables false
namespace Go.Proofs.Ytjjneiidggcfdaa
open Go.RowKit

/-- The Bool of a guard. -/
def yieldS (ops : Array Oper) (s : Nat → Value) (j : Nat) : Option Bool :=
  match (ops[j]?).bind (·.dst) with
  | some k => (match s k with | .bool b => some b | _ => none)
  | none => none
/-- One operation: it is carried out, or passed by. -/
def StepG (P : Program) (ops : Array Oper) (o : Oper) (s : Nat → Value) (w : World) (K : Value → World → Prop) : Prop :=
  if Region.wanted o (yieldS ops s) = true then OpSteps P o (evS s) w K else K undef w
/-- What is to be shown of each operation. -/
def AllStepsG (P : Program) (ops : Array Oper) (t0 : Array Value) (L : List Nat) (J : (Nat → Bool) → (Nat → Value) → World → Prop) : Nat → List Oper → Prop
  | _, [] => True
  | i, o :: r => (∀ d s w, J d s w → (∀ k, k ∉ L → s k = t0.getD k undef) → d i = false → (∀ e ∈ o.after.toList, Region.binds .any e = true → d e.on = true) → StepG P ops o s w (fun v w' => J (did d i) (sput s o.dst v) w')) ∧ AllStepsG P ops t0 L J (i + 1) r
theorem AllStepsG.at_ {P : Program} {ops : Array Oper} {t0 : Array Value} {L : List Nat} {J : (Nat → Bool) → (Nat → Value) → World → Prop} : ∀ {i : Nat} {os : List Oper}, AllStepsG P ops t0 L J i os → ∀ {j : Nat} {o : Oper}, os[j]? = some o →
    ∀ d s w, J d s w → (∀ k, k ∉ L → s k = t0.getD k undef) → d (i + j) = false → (∀ e ∈ o.after.toList, Region.binds .any e = true → d e.on = true) → StepG P ops o s w (fun v w' => J (did d (i + j)) (sput s o.dst v) w')
  | i, [], _, j, o, h => by simp at h
  | i, x :: r, h, j, o, ho => by
    cases j with
    | zero => simp at ho; subst ho; exact h.1
    | succ j =>
      have := AllStepsG.at_ h.2 (j := j) (o := o) (by simpa using ho)
      rw [show i + (j + 1) = i + 1 + j by omega]
      exact this
section
variable {P : Program} {ops : Array Oper} {Q : Exit → Act → World → Prop} {a0 : Act} {L : List Nat} {J : (Nat → Bool) → (Nat → Value) → World → Prop}
end
end Go.Proofs.Ytjjneiidggcfdaa
namespace Go.Proofs.Ytjjneiidggcfdaa
open Go.RowKit

theorem len8_get (i : Nat) (h : i < Lib.len8tab.size) : ((Lib.len8tab[i].toNat : Nat) : Int) = (Lib.bitLen i : Int) := by
  have hs := Lib.len8tab_size
  have e := Lib.len8_eq ⟨i, by omega⟩
  unfold Lib.len8 at e
  simp only [Int.toNat_natCast] at e
  rw [← e]
  simp [h]
theorem len8_le (i : Nat) (h : i < 256) : Lib.bitLen i ≤ 8 := Lib.bitLen_le8 ⟨i, h⟩
theorem wrap_len (i : Nat) (h : i < Lib.len8tab.size) : wrap64 ((Lib.len8tab[i].toNat : Nat) : Int) = (Lib.bitLen i : Int) := by
  have hs := Lib.len8tab_size
  rw [len8_get i h]
  have := len8_le i (by omega)
  exact IntWalk.wrap64_in _ ⟨by omega, by omega⟩
theorem len_c (c : Int) (i : Nat) (h : i < Lib.len8tab.size) (X : Nat) (hc : 0 ≤ c ∧ c ≤ 56) (hX : (Lib.bitLen X : Int) = c + (Lib.bitLen i : Int)) :
    wrap64 (c + wrap64 ((Lib.len8tab[i].toNat : Nat) : Int)) = (Lib.bitLen X : Int) := by
  have hs := Lib.len8tab_size
  have := len8_le i (by omega)
  rw [wrap_len i h, hX]
  exact IntWalk.wrap64_in _ ⟨by omega, by omega⟩
theorem len_0 (i : Nat) (h : i < Lib.len8tab.size) : wrap64 (wrap64 ((Lib.len8tab[i].toNat : Nat) : Int)) = (Lib.bitLen i : Int) := by
  have hs := Lib.len8tab_size
  have := len8_le i (by omega)
  rw [wrap_len i h]
  exact IntWalk.wrap64_in _ ⟨by omega, by omega⟩

set_option maxHeartbeats 4000000 in
set_option maxRecDepth 100000 in
theorem len64_any (x : Int) (w : World) (h0 : 0 ≤ x) (h1 : x ≤ 18446744073709551615) :
    Calls Try.prog 77 #[.int .u64 x] w fun e w' => e = .returned (.int .i64 (Lib.bitLen x.toNat)) ∧ w = w' := by
  have hs : ((Lib.len8tab.size : Nat) : Int) = 256 := by rw [Lib.len8tab_size]; rfl
  go_enter Try.func77, Try.ntmps77
  go_wp2
  all_goals
    go_ret
    refine ⟨congrArg (fun z => Ending.returned (.int .i64 z)) ?_, rfl⟩
    have hz := Lib.len8tab_size
    first
      | (refine len_c 56 (x / 4294967296 / 65536 / 256).toNat (by omega) x.toNat (by omega) ?_
         have s := Lib.bitLen_shift56 x.toNat (by omega) (by omega)
         rw [show (x / 4294967296 / 65536 / 256).toNat = x.toNat / 72057594037927936 by omega]
         omega)
      | (refine len_c 48 (x / 4294967296 / 65536).toNat (by omega) x.toNat (by omega) ?_
         have s := Lib.bitLen_shift48 x.toNat (by omega) (by omega)
         rw [show (x / 4294967296 / 65536).toNat = x.toNat / 281474976710656 by omega]
         omega)
      | (refine len_c 40 (x / 4294967296 / 256).toNat (by omega) x.toNat (by omega) ?_
         have s := Lib.bitLen_shift40 x.toNat (by omega) (by omega)
         rw [show (x / 4294967296 / 256).toNat = x.toNat / 1099511627776 by omega]
         omega)
      | (refine len_c 32 (x / 4294967296).toNat (by omega) x.toNat (by omega) ?_
         have s := Lib.bitLen_shift32 x.toNat (by omega) (by omega)
         rw [show (x / 4294967296).toNat = x.toNat / 4294967296 by omega]
         omega)
      | (refine len_c 24 (x / 65536 / 256).toNat (by omega) x.toNat (by omega) ?_
         have s := Lib.bitLen_shift24 x.toNat (by omega) (by omega)
         rw [show (x / 65536 / 256).toNat = x.toNat / 16777216 by omega]
         omega)
      | (refine len_c 16 (x / 65536).toNat (by omega) x.toNat (by omega) ?_
         have s := Lib.bitLen_shift16 x.toNat (by omega) (by omega)
         rw [show (x / 65536).toNat = x.toNat / 65536 by omega]
         omega)
      | (refine len_c 8 (x / 256).toNat (by omega) x.toNat (by omega) ?_
         have s := Lib.bitLen_shift8 x.toNat (by omega) (by omega)
         rw [show (x / 256).toNat = x.toNat / 256 by omega]
         omega)
      | exact len_0 x.toNat (by omega)
end Go.Proofs.Ytjjneiidggcfdaa
set_option linter.unusedVariables false
namespace Go.Proofs.Ytjjneiidggcfdaa
open Go.RowKit
attribute [local go_sem ↓] ib_andNot_sign ib_and_frac ib_and_15 ib_and_1 ib_and_sign ib_and_inf ib_or

theorem bitLen_log (x : Nat) (h0 : x ≠ 0) (h : x < 18446744073709551616) : Lib.bitLen x = x.log2 + 1 := by
  induction x using Nat.strongRecOn with
  | ind x ih =>
    rw [Lib.bitLen_half x h0 h, Nat.log2_def]
    by_cases h2 : 2 ≤ x
    · rw [if_pos h2, ih (x / 2) (by omega) (by omega) (by omega)]; omega
    · rw [if_neg h2]
      have : x = 1 := by omega
      subst this; rfl
theorem ret2_ui {a a' b b' : Int} (h1 : a = a') (h2 : b = b') : Ending.returned (.tuple #[.int .u64 a, .int .i64 b]) = .returned (.tuple #[.int .u64 a', .int .i64 b']) := by rw [h1, h2]

theorem digits_any (b : Nat) (w : World) (hb : b < 18446744073709551616) (h0 : Fl.rung b ≠ 0) (hf : Fl.rung b < Fl.INF) :
    Calls Try.prog 70 #[.float .f64 b] w fun e w' => e = .returned (.tuple #[.int .u64 (Fl.dm b), .int .i64 (Fl.de b)]) ∧ w = w' := by
  have hr := rung_def b
  have hI := Fl.INF_val
  by_cases h : 4503599627370496 ≤ (b : Int) % 9223372036854775808
  · have hd : Fl.dm b = 4503599627370496 + b % 4503599627370496 := by
      unfold Fl.dm; rw [if_neg (by omega), pm_def, if_neg (by omega)]; omega
    have he : Fl.de b = (b : Int) % 9223372036854775808 / 4503599627370496 - 1023 - 52 := by
      unfold Fl.de; rw [if_neg (by omega), pe_def, if_neg (by omega)]; omega
    have ho : orU ((b : Int) % 4503599627370496) 4503599627370496 = ((4503599627370496 + b % 4503599627370496 : Nat) : Int) := by
      have := orU_nat (a := 4503599627370496) (b := b % 4503599627370496) 52 (by omega) (by omega) (Nat.mod_lt _ (by omega)) (by decide)
      rw [← this]
      unfold orU
      have e := u64_or_nat (b % 4503599627370496) 4503599627370496 (by omega) (by omega)
      have e2 := u64_or_nat 4503599627370496 (b % 4503599627370496) (by omega) (by omega)
      rw [show ((b : Int) % 4503599627370496) = ((b % 4503599627370496 : Nat) : Int) by omega, show (4503599627370496 : Int) = ((4503599627370496 : Nat) : Int) from rfl, e, e2, Nat.or_comm]
    rw [hd, he]
    clear hd he hr hI h0 hf
    have HO := Lib.hid ho
    clear ho
    go_enter Try.func70, Try.ntmps70
    go_wp2_with fail
    go_ret2
    exact ⟨ret2_ui HO.out rfl, rfl⟩
  · have hd : decide (4503599627370496 ≤ (b : Int) % 9223372036854775808) = false := by simp [h]
    have hl := bitLen_log (b % 9223372036854775808) (by omega) (by omega)
    have hll := Fl.log_lt (r := b % 9223372036854775808) (by omega) (by omega)
    have hn : ((b : Int) % 9223372036854775808).toNat = b % 9223372036854775808 := by omega
    have hlb : 1 ≤ Lib.bitLen (b % 9223372036854775808) ∧ Lib.bitLen (b % 9223372036854775808) ≤ 52 := by rw [hl]; omega
    have HL := Lib.hid hl
    have HN := Lib.hid hn
    have HF := Lib.hid hf
    have H0 := Lib.hid h0
    clear h hl hll hn hf h0 hr hI
    obtain ⟨l1, l2⟩ := hlb
    go_enter Try.func70, Try.ntmps70
    go_wp2_with fail
    refine (len64_any _ _ (by omega) (by omega)).mono ?_
    rintro e w' ⟨rfl, rfl⟩
    rw [HN.out]
    generalize hL : Lib.bitLen (b % 9223372036854775808) = L at *
    have HB := Lib.hid hL
    clear hL
    go_wp2_with fail
    go_ret2
    have h0 := H0.out
    have hf := HF.out
    have hL := HL.out
    have hr := rung_def b
    have hlt : Fl.rung b < 4503599627370496 := by simp at hd; omega
    refine ⟨ret2_ui ?_ ?_, rfl⟩
    · have hb2 := Fl.dm_bounds h0
      have e : Fl.dm b = b % 9223372036854775808 * 2 ^ (53 - L) := by
        unfold Fl.dm
        rw [if_pos hlt, hr, show 53 - L = 52 - (b % 9223372036854775808).log2 by omega]
      rw [show ((b : Int) % 9223372036854775808 * 2 ^ (53 - L)) = ((b % 9223372036854775808 * 2 ^ (53 - L) : Nat) : Int) by simp, ← e, IntKind.wrap_u64]
      omega
    · unfold Fl.de
      rw [if_pos hlt, hr]; omega

attribute [local go_sem ↓ low] ib_and

theorem two_pow_half (n : Nat) (hn : 1 ≤ n) : 2 ^ n = 2 * 2 ^ (n - 1) := by
  rw [show n = n - 1 + 1 by omega, Nat.pow_succ, show n - 1 + 1 - 1 = n - 1 by omega]; omega
theorem rne_half (m n : Nat) (hn : 1 ≤ n) : Fl.rne m n = m / 2 ^ n + if 2 ^ (n - 1) < m % 2 ^ n ∨ (2 ^ (n - 1) = m % 2 ^ n ∧ m / 2 ^ n % 2 = 1) then 1 else 0 := by
  unfold Fl.rne
  have h := two_pow_half n hn
  have a : 2 ^ n < 2 * (m % 2 ^ n) ↔ 2 ^ (n - 1) < m % 2 ^ n := by omega
  have b : 2 ^ n = 2 * (m % 2 ^ n) ↔ 2 ^ (n - 1) = m % 2 ^ n := by omega
  simp only [a, b]
theorem cut_eqs (m n : Nat) (hm : m < 9007199254740992) (hn : 1 ≤ n) (h : n ≤ 53) :
    andU (m : Int) (IntKind.u64.wrap (IntKind.u64.wrap (2 ^ n) - 1)) = ((m % 2 ^ n : Nat) : Int) ∧ IntKind.u64.wrap (2 ^ (n - 1)) = ((2 ^ (n - 1) : Nat) : Int) ∧ ((m : Int) / 2 ^ n) = ((m / 2 ^ n : Nat) : Int) := by
  have p1 : 2 ^ n ≤ 2 ^ 53 := Nat.pow_le_pow_right (by omega) h
  have p2 : 2 ^ (n - 1) ≤ 2 ^ 53 := Nat.pow_le_pow_right (by omega) (by omega)
  have p3 : 0 < 2 ^ n := Nat.two_pow_pos n
  have p4 : 0 < 2 ^ (n - 1) := Nat.two_pow_pos _
  have c1 : ((2 : Int) ^ n) = ((2 ^ n : Nat) : Int) := by simp
  have c2 : ((2 : Int) ^ (n - 1)) = ((2 ^ (n - 1) : Nat) : Int) := by simp
  refine ⟨?_, ?_, by rw [c1]; rfl⟩
  · rw [c1, IntKind.wrap_u64, IntKind.wrap_u64]
    rw [show (((2 ^ n : Nat) : Int) % 18446744073709551616 - 1) % 18446744073709551616 = ((2 ^ n - 1 : Nat) : Int) by omega]
    unfold andU
    rw [u64_and_nat _ _ (by omega) (by omega), and_mask]
  · rw [c2, IntKind.wrap_u64]; omega

theorem cut_any (m n : Nat) (w : World) (hm : m < 9007199254740992) (hn : 1 ≤ n) (hn2 : n < 4000) :
    Calls Try.prog 78 #[.int .u64 m, .int .i64 n] w fun e w' => e = .returned (.int .u64 (Fl.rne m n)) ∧ Below w.heap.size w w' := by
  by_cases h : 53 < n
  · have hr : Fl.rne m n = 0 := by
      refine Fl.rne_small _ _ ?_
      have : 2 ^ 54 ≤ 2 ^ n := Nat.pow_le_pow_right (by omega) (by omega)
      omega
    rw [hr]
    clear hr
    go_enter Try.func78, Try.ntmps78
    go_wp2_with fail
    go_ret
    exact ⟨rfl, Below.refl _ _⟩
  · have h' : n ≤ 53 := by omega
    clear h
    have hr : Fl.rne m n = m / 2 ^ n + if 2 ^ (n - 1) < m % 2 ^ n ∨ (2 ^ (n - 1) = m % 2 ^ n ∧ m / 2 ^ n % 2 = 1) then 1 else 0 := rne_half m n hn
    have HE := Lib.hid (cut_eqs m n hm hn h')
    have HR := Lib.hid hr
    clear hr
    go_enter Try.func78, Try.ntmps78
    go_wp2_with fail
    go_quiet (fail)
    rw [HE.out.1, HE.out.2.1, HE.out.2.2]
    clear HE
    have q1 : m / 2 ^ n < 9007199254740992 := Nat.lt_of_le_of_lt (Nat.div_le_self _ _) hm
    generalize m % 2 ^ n = R at *
    generalize m / 2 ^ n = Q at *
    generalize 2 ^ (n - 1) = G at *
    by_cases t1 : G < R
    · have b1 : decide (G < R) = true := by simp [t1]
      have hv := HR.out
      rw [if_pos (Or.inl t1)] at hv
      have HV := Lib.hid hv
      clear HR t1 hv
      go_wp2_with fail
      go_ret
      exact ⟨ret_int (by rw [HV.out]; rfl), below_drewN (Below.refl _ _) _⟩
    · have b1 : decide (G < R) = false := by simp [t1]
      by_cases t2 : R = G
      · have b2 : ((R : Int) == (G : Int)) = true := by simp [t2]
        by_cases t3 : Q % 2 = 1
        · have b3 : ((Q : Int) % 2 == 1) = true := by simp; omega
          have hv := HR.out
          rw [if_pos (Or.inr ⟨t2.symm, t3⟩)] at hv
          have HV := Lib.hid hv
          clear HR t1 t2 t3 hv
          go_wp2_with fail
          go_ret
          exact ⟨ret_int (by rw [HV.out]; rfl), below_drewN (Below.refl _ _) _⟩
        · have b3 : ((Q : Int) % 2 == 1) = false := by simp; omega
          have hv := HR.out
          rw [if_neg (by omega)] at hv
          have HV := Lib.hid hv
          clear HR t1 t2 t3 hv
          go_wp2_with fail
          go_ret
          exact ⟨ret_int (by rw [HV.out]; rfl), below_drewN (Below.refl _ _) _⟩
      · have b2 : ((R : Int) == (G : Int)) = false := by simp; omega
        have hv := HR.out
        rw [if_neg (by omega)] at hv
        have HV := Lib.hid hv
        clear HR t1 t2 hv
        go_wp2_with fail
        go_ret
        exact ⟨ret_int (by rw [HV.out]; rfl), below_drewN (Below.refl _ _) _⟩

theorem orU_shift {q r : Nat} (hq : q < 2048) (hr : r < 4503599627370496) : orU ((q : Int) * 4503599627370496) (r : Int) = ((q * 4503599627370496 + r : Nat) : Int) := by
  rw [show ((q : Int) * 4503599627370496) = ((q * 4503599627370496 : Nat) : Int) by omega]
  exact orU_nat 52 (by omega) (by omega) hr (by omega)

theorem join_any (m : Nat) (e : Int) (w : World) (h1 : 4503599627370496 ≤ m) (h2 : m < 9007199254740992) (h3 : -5000 ≤ e) (h4 : e ≤ 5000) :
    Calls Try.prog 71 #[.int .u64 m, .int .i64 e] w fun z w' => z = .returned (.int .u64 (Fl.scl m (e + 1074))) ∧ Below w.heap.size w w' := by
  have hI := Fl.INF_val
  by_cases c1 : 1023 < e + 52
  · have hs : Fl.scl m (e + 1074) = Fl.INF := by
      have := Fl.scl_exact m (e + 1074).toNat h2 (.inl h1)
      rw [Int.toNat_of_nonneg (by omega)] at this
      rw [this]; unfold Fl.cap; omega
    rw [hs, hI]
    clear hs hI
    go_enter Try.func71, Try.ntmps71
    go_wp2_with fail
    go_ret
    exact ⟨rfl, Below.refl _ _⟩
  · have c1' : decide (1023 < e + 52) = false := by simp [c1]
    by_cases c2 : -1022 ≤ e + 52
    · have hs : Fl.scl m (e + 1074) = (e + 52 + 1023).toNat * 4503599627370496 + m % 4503599627370496 := by
        have := Fl.scl_exact m (e + 1074).toNat h2 (.inl h1)
        rw [Int.toNat_of_nonneg (by omega)] at this
        rw [this]; unfold Fl.cap; omega
      have ho := orU_shift (q := (e + 52 + 1023).toNat) (r := m % 4503599627370496) (by omega) (by omega)
      have HO := Lib.hid ho
      have HS := Lib.hid hs
      clear ho hs hI c1
      go_enter Try.func71, Try.ntmps71
      go_wp2_with fail
      go_ret
      refine ⟨ret_int ?_, Below.refl _ _⟩
      have hs := HS.out
      have ho := HO.out
      have b1 : e + 52 ≤ 1023 := by simpa using c1'
      rw [hs, ← ho, IntKind.wrap_u64, show (e + 52 + 1023) * 4503599627370496 % 18446744073709551616 = ((e + 52 + 1023).toNat : Int) * 4503599627370496 by omega,
        show ((m : Int) % 4503599627370496) = ((m % 4503599627370496 : Nat) : Int) by omega]
    · have hs : Fl.scl m (e + 1074) = Fl.rne m (-1074 - e).toNat := by
        have hp : 0 < 2 ^ (-1074 - e).toNat := Nat.two_pow_pos _
        have := Fl.scl_place m (-1074 - e).toNat 0 (Nat.lt_of_le_of_lt (Nat.div_le_self _ _) h2) (.inr rfl)
        rw [show ((0 : Nat) : Int) - ((-1074 - e).toNat : Int) = e + 1074 by omega] at this
        rw [this]
        have : Fl.rne m (-1074 - e).toNat ≤ m / 2 ^ (-1074 - e).toNat + 1 := by unfold Fl.rne; split <;> omega
        have := Nat.div_le_self m (2 ^ (-1074 - e).toNat)
        unfold Fl.cap; omega
      have c2' : decide (-1022 ≤ e + 52) = false := by simp [c2]
      obtain ⟨n, hn⟩ : ∃ n : Nat, -1074 - e = n := ⟨(-1074 - e).toNat, by omega⟩
      obtain rfl : e = -1074 - n := by omega
      rw [show (-1074 - (-1074 - (n : Int))).toNat = n by omega] at hs
      rw [hs]
      clear hs hn c1 c2 hI
      go_enter Try.func71, Try.ntmps71
      go_wp2_with fail
      rw [show (-1074 - (-1074 - (n : Int))) = n by omega]
      refine (cut_any m n _ h2 (by simp at c2'; omega) (by omega)).mono ?_
      rintro e w' ⟨rfl, hw⟩
      go_wp2_with fail
      go_ret
      exact ⟨rfl, hw⟩
end Go.Proofs.Ytjjneiidggcfdaa
set_option linter.unusedVariables false
namespace Go.Proofs.Ytjjneiidggcfdaa
open Go.RowKit
attribute [local go_sem ↓] ib_andNot_sign ib_and_frac ib_and_15 ib_and_1 ib_and_sign ib_and_inf ib_or

theorem fin_bits {z : Nat} (hz : z < 18446744073709551616) : ((z : Int) / 4503599627370496 % 2048 * 4503599627370496 == 9218868437227405312) = !Fl.fin z := by
  have hr := rung_def z
  have hI := Fl.INF_val
  unfold Fl.fin
  rw [Bool.eq_iff_iff, beq_iff_eq]
  simp only [Bool.not_eq_true', decide_eq_false_iff_not]
  omega

/-- The list's floats are words. -/
def Words (zs : List Nat) : Prop := ∀ z ∈ zs, z < 18446744073709551616
/-- The cells from off on in block b are the list's floats. -/
def Holds (w : World) (b off : Nat) (zs : List Nat) : Prop := ∀ (i : Nat) (z : Nat), zs[i]? = some z → w.cell? ⟨b, off + i, none⟩ = some (.float .f64 z)

theorem all_take (zs : List Nat) (k : Nat) (h : k < zs.length) : (zs.take (k + 1)).all Fl.fin = ((zs.take k).all Fl.fin && Fl.fin zs[k]) := by
  rw [List.take_succ_eq_append_getElem h, List.all_append]; simp

theorem all_of_take {zs : List Nat} {j : Nat} (h : (zs.take j).all Fl.fin = false) : zs.all Fl.fin = false := by
  rw [← List.take_append_drop j zs, List.all_append, h]; rfl

set_option maxHeartbeats 400000 in
theorem finite_any (b off c : Nat) (zs : List Nat) (w : World) (hl : zs.length ≤ 9223372036854775807) (hw : Words zs) (hc : Holds w b off zs) :
    Calls Try.prog 69 #[.slice (some ⟨b, off, none⟩) zs.length c] w fun e w' => e = .returned (.bool (zs.all Fl.fin)) ∧ w = w' := by
  generalize hn : zs.length = n at *
  have HN := Lib.hid hn
  have HW := Lib.hid hw
  have HC := Lib.hid hc
  clear hn hw hc
  go_enter Try.func69, Try.ntmps69
  go_wp2
  go_loop [7] (fun i => ∃ k : Nat, k ≤ n ∧ i = .int .i64 k ∧ (zs.take k).all Fl.fin = true) (fun i => n - (intOf i).toNat)
  case atStart => exact ⟨0, Nat.zero_le _, rfl, by simp⟩
  case round =>
    obtain ⟨k, hk, rfl, ha⟩ := hrel
    have HA := Lib.hid ha
    clear ha
    by_cases hlt : k < n
    · have hlz : k < zs.length := by rw [HN.out]; exact hlt
      have hcell := HC.out k zs[k] (by simp [hlz])
      have hword := HW.out zs[k] (List.getElem_mem hlz)
      have hbit := fin_bits hword
      have hstep := all_take zs k hlz
      rw [HA.out] at hstep
      generalize zs[k] = z at *
      clear hword
      have HS := Lib.hid hstep
      clear hstep hlz
      by_cases hf : Fl.fin z = true
      · rw [hf] at hbit
        have HF := Lib.hid hf
        clear hf
        go_wp2
        go_round
        case rel => exact ⟨k + 1, by omega, by go_num, by rw [HS.out, HF.out]; rfl⟩
        case measure => simp [intOf]; omega
      · have hf' : Fl.fin z = false := by simpa using hf
        rw [hf'] at hbit
        have HF := Lib.hid hf'
        clear hf hf'
        go_wp2
        go_ret
        refine ⟨ret_bool ?_, rfl⟩
        have h1 := HS.out
        rw [HF.out] at h1
        exact (all_of_take h1).symm
    · go_wp2
      go_ret
      exact ⟨ret_bool (by rw [← HA.out, List.take_of_length_le (by have := HN.out; omega)]), rfl⟩

theorem finite_one (g c : Nat) (b : Nat) (w : World) (hb : b < 18446744073709551616) (hc : w.cell? ⟨g, 0, none⟩ = some (.float .f64 b)) :
    Calls Try.prog 69 #[.slice (some ⟨g, 0, none⟩) 1 c] w fun e w' => e = .returned (.bool (Fl.fin b)) ∧ w = w' := by
  have h := finite_any g 0 c [b] w (by simp) (by intro z hz; simp at hz; omega) (by
    intro i z hz
    match i, hz with
    | 0, hz => simp at hz; subst hz; simpa using hc)
  simpa using h
end Go.Proofs.Ytjjneiidggcfdaa
set_option linter.unusedVariables false
namespace Go.Proofs.Ytjjneiidggcfdaa
open Go.RowKit
attribute [local go_sem ↓] ib_andNot_sign ib_and_frac ib_and_15 ib_and_1 ib_and_sign ib_and_inf ib_or

theorem orU_sign {b r : Nat} (hr : r < 9223372036854775808) : orU (signOf (b : Int)) (r : Int) = ((Fl.wd (Fl.sg b) r : Nat) : Int) := by
  have h0 : signOf (b : Int) = ((Fl.wd (Fl.sg b) 0 : Nat) : Int) := by
    unfold signOf Fl.wd Fl.sg
    by_cases h1 : b / 9223372036854775808 % 2 = 1
    · simp [h1]; omega
    · simp [h1]; omega
  have hz : Fl.wd (Fl.sg b) 0 = 0 ∨ Fl.wd (Fl.sg b) 0 = 9223372036854775808 := by unfold Fl.wd; cases Fl.sg b <;> simp
  rw [h0, orU_nat 63 (by omega) (by omega) hr (by omega)]
  unfold Fl.wd; cases Fl.sg b <;> simp

/-- The power of 2 within the bounds beyond which nothing changes. -/
def clamp (k : Int) : Int := if k < -2099 then -2099 else if 2099 < k then 2099 else k
theorem clamp_scl {b : Nat} (h0 : Fl.rung b ≠ 0) (hf : Fl.rung b < Fl.INF) (k : Int) : Fl.scl (Fl.dm b) (Fl.de b + clamp k + 1074) = Fl.scl (Fl.mag (Fl.rung b)) k := by
  have hd := Fl.dm_bounds h0
  have he := Fl.de_bounds hf
  rw [Fl.scl_digits]
  unfold clamp
  have low : ∀ j : Int, j ≤ -54 → Fl.scl (Fl.dm b) j = 0 := by
    intro j hj
    refine Fl.scl_low _ _ ?_ (by omega)
    have : 2 ^ 54 ≤ 2 ^ (-j).toNat := Nat.pow_le_pow_right (by omega) (by omega)
    omega
  have high : ∀ j : Int, 2046 ≤ j → Fl.scl (Fl.dm b) j = Fl.INF := by
    intro j hj
    have := Fl.scl_exact (Fl.dm b) j.toNat hd.2 (.inl hd.1)
    rw [Int.toNat_of_nonneg (by omega)] at this
    have hI := Fl.INF_val
    rw [this]; unfold Fl.cap; omega
  split
  · rw [low _ (by omega), low _ (by omega)]
  · split
    · rw [high _ (by omega), high _ (by omega)]
    · congr 1; omega
theorem scale_any (b : Nat) (k : Int) (w : World) (hb : b < 18446744073709551616) :
    Calls Try.prog 62 #[.float .f64 b, .int .i64 k] w fun e w' => e = .returned (.float .f64 (Fl.scale b k)) ∧ Below w.heap.size w w' := by
  have ht := eql_zero b
  by_cases h0 : Fl.rung b = 0
  · rw [decide_eq_true h0] at ht
    have he : Fl.scale b k = b := by unfold Fl.scale; rw [if_pos (.inl h0)]
    rw [he]
    clear he h0
    go_enter Try.func62, Try.ntmps62
    go_wp2_with fail
    go_ret
    exact ⟨rfl, Below.refl _ _⟩
  · rw [decide_eq_false h0] at ht
    by_cases hf : Fl.rung b < Fl.INF
    · have hfin : Fl.fin b = true := decide_eq_true hf
      have hx := clamp_scl h0 hf k
      have he : Fl.scale b k = Fl.wd (Fl.sg b) (Fl.scl (Fl.dm b) (Fl.de b + clamp k + 1074)) := by rw [hx]; unfold Fl.scale; rw [if_neg (by omega)]
      have hd := Fl.de_bounds hf
      obtain ⟨d1, d2⟩ := hd
      have hm := Fl.dm_bounds h0
      rw [he]
      have H0 := Lib.hid h0
      have HF := Lib.hid hf
      have HI := Lib.hid hfin
      have HM := Lib.hid hm
      clear he hx h0 hf hfin hm
      have hk : (k < -2099 ∧ clamp k = -2099) ∨ (2099 < k ∧ clamp k = 2099) ∨ ((-2099 ≤ k ∧ k ≤ 2099) ∧ clamp k = k) := by
        unfold clamp; split
        · exact .inl ⟨by omega, rfl⟩
        · split
          · exact .inr (.inl ⟨by omega, rfl⟩)
          · exact .inr (.inr ⟨by omega, rfl⟩)
      rcases hk with ⟨k1, k2⟩ | ⟨k1, k2⟩ | ⟨k1, k2⟩
      all_goals
        rw [k2]
        clear k2
        go_enter Try.func62, Try.ntmps62
        go_wp2_with fail
        refine (finite_one _ _ b _ hb (by simp)).mono ?_
        rintro e w' ⟨rfl, rfl⟩
        rw [HI.out]
        go_wp2_with fail
        refine (digits_any b _ hb H0.out HF.out).mono ?_
        rintro e w' ⟨rfl, rfl⟩
        go_wp2_with fail
        refine (join_any (Fl.dm b) _ _ HM.out.1 HM.out.2 (by omega) (by omega)).mono ?_
        rintro e w' ⟨rfl, hbl⟩
        go_wp2_with fail
        go_ret
        refine ⟨ret_float ?_, ((Below.refl _ _).alloc (Nat.le_refl _) _).trans (hbl.mono (by simp))⟩
        rw [orU_sign (Nat.lt_of_le_of_lt (Fl.scl_le _ _) (by decide)), Int.toNat_natCast]
    · have hfin : Fl.fin b = false := decide_eq_false hf
      have he : Fl.scale b k = b := by unfold Fl.scale; rw [if_pos (.inr (by omega))]
      rw [he]
      have HI := Lib.hid hfin
      clear he h0 hf hfin
      go_enter Try.func62, Try.ntmps62
      go_wp2_with fail
      refine (finite_one _ _ b _ hb (by simp)).mono ?_
      rintro e w' ⟨rfl, rfl⟩
      rw [HI.out]
      go_wp2_with fail
      go_ret
      exact ⟨rfl, (Below.refl _ _).alloc (Nat.le_refl _) _⟩
end Go.Proofs.Ytjjneiidggcfdaa
set_option linter.unusedVariables false
namespace Go.Proofs.Ytjjneiidggcfdaa
open Go.RowKit
attribute [local go_sem ↓] ib_andNot_sign ib_and_frac ib_and_15 ib_and_1 ib_and_sign ib_and_inf ib_or

/-- After some doublings of m, each of which took one from e. -/
def Up1 (m : Nat) (e : Int) (M : Nat) (E : Int) : Prop := ∃ j : Nat, M = m * 2 ^ j ∧ E = e - j ∧ (j = 0 ∨ (M < 9007199254740992 ∧ -1074 ≤ E))
theorem Up1.start (m : Nat) (e : Int) : Up1 m e m e := ⟨0, by simp, by omega, .inl rfl⟩
theorem Up1.scl {m : Nat} {e : Int} {M : Nat} {E : Int} (h : Up1 m e M E) : Fl.scl m (e + 1074) = Fl.scl M (E + 1074) := by
  obtain ⟨j, rfl, rfl, _⟩ := h
  rw [Fl.scl_shift]; congr 1; omega

/-- The last digit that was cut off, and whether one behind it was 1. -/
def lostB (m i : Nat) : Bool := if i = 0 then false else decide (m % 2 ^ (i - 1) ≠ 0)
def halfB (m i : Nat) : Bool := if i = 0 then false else decide (m / 2 ^ (i - 1) % 2 = 1)
def Down2 (m : Nat) (e : Int) (M : Nat) (E : Int) (lost half : Bool) : Prop :=
  ∃ i : Nat, M = m / 2 ^ i ∧ E = e + i ∧ lost = lostB m i ∧ half = halfB m i ∧ (i = 0 ∨ 4503599627370496 ≤ M ∨ E ≤ -1074)
theorem Down2.start (m : Nat) (e : Int) : Down2 m e m e false false := ⟨0, by simp, by omega, rfl, rfl, .inl rfl⟩
/-- Rounded: one more if the last digit that was cut off was 1, and one behind it, or the last that is kept. -/
theorem rne_lost (m i : Nat) : Fl.rne m i = m / 2 ^ i + if halfB m i = true ∧ (lostB m i = true ∨ m / 2 ^ i % 2 = 1) then 1 else 0 := by
  by_cases h0 : i = 0
  · subst h0; rw [Fl.rne_d0]; simp [halfB]
  · rw [rne_half m i (by omega)]
    congr 1
    unfold halfB lostB
    rw [if_neg h0, if_neg h0]
    obtain ⟨k, rfl⟩ : ∃ k, i = k + 1 := ⟨i - 1, by omega⟩
    rw [show k + 1 - 1 = k by omega, Nat.mod_pow_succ]
    have hp : 0 < 2 ^ k := Nat.two_pow_pos k
    have hm := Nat.mod_lt m hp
    simp only [decide_eq_true_eq]
    have hb : m / 2 ^ k % 2 = 0 ∨ m / 2 ^ k % 2 = 1 := by omega
    generalize m / 2 ^ (k + 1) % 2 = z
    rcases hb with hb | hb
    · rw [hb, if_neg (by simp; omega), if_neg (by omega)]
    · rw [hb]
      by_cases h1 : m % 2 ^ k = 0
      · by_cases h2 : z = 1
        · rw [if_pos (by simp; omega), if_pos ⟨rfl, .inr h2⟩]
        · rw [if_neg (by simp; omega), if_neg (by omega)]
      · rw [if_pos (by simp; omega), if_pos ⟨rfl, .inl h1⟩]

/-- The rung that Make comes to, out of what its loops leave. -/
theorem Down2.scl {m : Nat} {e : Int} {M : Nat} {E : Int} {lost half : Bool} (h : Down2 m e M E lost half) (h1 : M < 9007199254740992) (h2 : -1074 ≤ E) (h3 : 4503599627370496 ≤ m ∨ e ≤ -1074) :
    Fl.scl m (e + 1074) = Fl.cap ((E + 1074).toNat * 4503599627370496 + (M + if half = true ∧ (lost = true ∨ M % 2 = 1) then 1 else 0)) ∧ (4503599627370496 ≤ M ∨ E = -1074) := by
  obtain ⟨i, rfl, rfl, rfl, rfl, hl⟩ := h
  have hq : 4503599627370496 ≤ m / 2 ^ i ∨ (e + i + 1074).toNat = 0 := by
    rcases hl with rfl | hl | hl
    · rcases h3 with h3 | h3
      · left; simpa using h3
      · right; omega
    · exact .inl hl
    · right; omega
  have := Fl.scl_place m i (e + i + 1074).toNat h1 hq
  rw [Int.toNat_of_nonneg (by omega), show e + (i : Int) + 1074 - (i : Int) = e + 1074 by omega, rne_lost] at this
  exact ⟨this, by omega⟩

/-- What the document's Make answers. -/
def mk (neg : Bool) (m : Nat) (e : Int) : Nat := Fl.wd neg (Fl.scl m (e + 1074))

end Go.Proofs.Ytjjneiidggcfdaa
set_option linter.unusedVariables false
namespace Go.Proofs.Ytjjneiidggcfdaa
open Go.RowKit
attribute [local go_sem ↓] ib_andNot_sign ib_and_frac ib_and_15 ib_and_1 ib_and_sign ib_and_inf ib_or

/-- A word with the other sign. -/
def negB (b : Nat) : Nat := Op.negFloat .f64 b
theorem unary_neg (b : Nat) : Op.unary .neg (.float .f64 b) = pure (.float .f64 (negB b)) := rfl
attribute [go_sem ↓] unary_neg
end Go.Proofs.Ytjjneiidggcfdaa
