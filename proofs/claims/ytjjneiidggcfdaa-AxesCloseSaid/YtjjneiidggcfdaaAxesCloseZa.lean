/-
What the proof rests on: laws of floats, lists, memory and the walks of the functions. Conditions: as each says.
-/
import Derived.Below
import Derived.ChangeSame
import Derived.Laws.Cover2
import Derived.Test.YtjjneiidggcfdaaRows
import Derived.KernelRfl
import Derived.WalkKit
import Derived.Laws.Rows
import Derived.Deep.Draws
import Derived.Laws.OwnMore
import Derived.Lib.Hide
import Derived.Laws.FloatBits
import GoSem.Core.Float
import Derived.WalkLawsBesides
import Derived.Laws.BitsAllLaws
import Derived.WalkSpells
import Derived.LoopTactic
import Derived.Outline
import Derived.Laws.Externs
import Derived.Deep.QuietTactic
import Derived.BigQuiet
import Derived.RegionTactic
import Derived.Deep.Slices
import Derived.Deep.Fields
import Derived.Lib.BitFns
import Derived.Deep.RegionHeld3
import Derived.Deep.DrawnRows
import Derived.Deep.RegionWith
import Derived.Shelf.Spec.BitsCarry
import Derived.Deep.OwnRows
import Derived.Deep.DeepCutAuto
import Derived.IntWalk
import Derived.Shelf.Spec.TrailingZeros
import Derived.Lib.LaidTab
import Derived.Lib.ItoaNum
import Derived.Deep.CutBlock
import Derived.Laws.AppendOwn
import Derived.Orders
import Derived.RowKit3
set_option linter.unusedVariables false
namespace Go.Proofs.Ytjjneiidggcfdaa
open Go.RowKit Go.WideShapes Go.ChangeShapes

section
variable {H : Type} {enc : TypeId × Value → H} {P : Program}
theorem post_of_below {f : Func} {s : ChangeSpec} {apart fresh handsOn again : Bool} {W W' : World} {args : Array Value} {v : Value} {ds gs : List (DataW H)} {before pa pv : List MemPlace}
    (hW : DataW.Whole enc P f.params.toList s.vars apart W args.toList ds gs before)
    (hres : ∀ (b : Nat) (sp : Nat → Bool) (hd : Bool), DataW.TrodAll enc P W' b sp hd f.resultTypes.toList (v.resultList f.resultTypes.size) (s.fn H (ds ++ gs)).results [])
    (hargs : ∀ sp : Nat → Bool, (∀ p ∈ before, sp p.block = true) → DataW.TrodAll enc P W' 0 sp true f.params.toList args.toList (s.fn H (ds ++ gs)).args pa)
    (hvars : ∀ sp : Nat → Bool, (∀ p ∈ before, sp p.block = true) → DataW.TrodVars enc P W' sp s.vars (s.fn H (ds ++ gs)).vars pv)
    (hps : before = pa ++ pv) (hb : Below W.heap.size W W')
    (hok : ∀ (j : Nat) (t : TypeId) (r : Value), f.resultTypes[j]? = some t → (v.resultList f.resultTypes.size)[j]? = some r → Value.okWide P W' .any 0 t r) :
    s.post enc P f apart fresh handsOn again W args v W' := by
  have hlt : ∀ p ∈ before, p.block < W.heap.size := fun p hp => hW.lt p hp
  have hold : ∀ p ∈ before, (fun b => decide (b < W.heap.size)) p.block = true := fun p hp => by simpa using hlt p hp
  refine ⟨ds, gs, before, [], pa, pv, hW, hres _ _ _, hargs _ hold, hvars _ hold, World.keptBut_mono (fun p hp => ⟨hp, ?_⟩) (hb.frame (· ∈ before)), fun _ => ?_⟩
  · rw [hps, List.mem_append] at hp
    exact Or.inr hp
  · obtain ⟨_, _, _, _, _, hz, hn⟩ := hW
    refine ⟨hok, _, _, ([] ++ pa) ++ pv, ⟨[] ++ pa, pv, trodAll_append (hargs _ (fun _ _ => rfl)) (hres _ _ _), hvars _ (fun _ _ => rfl), rfl, ?_, ?_⟩, ?_⟩
    · intro b off hp
      have hin : MemPlace.cell b off ∈ before := by rw [hps]; simpa using hp
      rw [hb.frozen (hlt _ hin)]
      exact hz b off hin
    · intro ha
      have := hn ha
      rw [hps] at this
      simpa using this
    · intro p hp _
      rw [hps]
      simpa using hp
end
end Go.Proofs.Ytjjneiidggcfdaa
set_option linter.unusedVariables false
namespace Go.Proofs.Ytjjneiidggcfdaa
open Go.RowKit Go.WideShapes Go.ChangeShapes

/-- The types lead to each other alone, and each slice's elements take room. -/
def fineAt (P : Program) (L : List TypeId) (t : TypeId) : Bool := match P.underlying t with
  | some (.slice e) => decide (0 < P.cellsOf e) && L.contains e
  | some (.pointer e) => L.contains e
  | some (.struct fs) => fs.toList.all fun f => L.contains f.type
  | some (.array _ e) => L.contains e
  | some (.map _ e) => L.contains e
  | _ => true
def Fine (P : Program) (L : List TypeId) : Prop := L.all (fineAt P L) = true
theorem Fine.at_ {P : Program} {L : List TypeId} (h : Fine P L) {t : TypeId} (ht : t ∈ L) : fineAt P L t = true := List.all_eq_true.1 h t ht

section
variable {H : Type} {enc : TypeId × Value → H} {P : Program}
theorem trod_spare {L : List TypeId} (hz : Fine P L) {w : World} {sp : Nat → Bool} : ∀ (n : Nat) (t : TypeId) (cs : List Value) (x : DataW H × List MemPlace), t ∈ L →
    DataW.trod enc P w 0 (fun _ => true) true n t cs = some x → (∀ p ∈ x.2, sp p.block = true) → DataW.trod enc P w 0 sp true n t cs = some x := by
  intro n
  induction n with
  | zero => intro t cs x _ h; simp [DataW.trod] at h
  | succ n ih =>
    intro t cs x htL h hs
    have hat := hz.at_ htL
    unfold fineAt at hat
    rw [DataW.trod_step] at h ⊢
    unfold DataW.trodStep at h ⊢
    split at h
    case h_6 e a ht =>
      rw [ht] at hat
      have hin : e ∈ L := by simpa using hat
      simp only [Option.map_eq_some_iff, Option.bind_eq_some_iff] at h ⊢
      obtain ⟨y, ⟨cs', hc, hy⟩, rfl⟩ := h
      exact ⟨y, ⟨cs', hc, ih _ _ _ hin hy fun p hp => hs p (by simp [hp])⟩, rfl⟩
    case h_8 e a len cap ht =>
      rw [ht] at hat
      have hin : e ∈ L := by simp at hat; exact hat.2
      have hpe : 0 < P.cellsOf e := by simp at hat; exact hat.1
      simp only at h ⊢
      split at h
      · rename_i hc
        rw [if_pos hc]
        simp only [Option.map_eq_some_iff, Option.bind_eq_some_iff] at h ⊢
        obtain ⟨elems, he, rest, hrest, rfl⟩ := h
        rw [if_pos trivial] at hrest
        have hlen : elems.length = len := by simpa using mapM_some_length he
        have hrl : rest.length = cap - len := by simpa using mapM_some_length hrest
        refine ⟨elems, mapM_carry he (fun i y hi hy hv => ?_), rest, ?_, rfl⟩
        · simp only [Option.bind_eq_some_iff] at hv ⊢
          obtain ⟨cs', h1, h2⟩ := hv
          exact ⟨cs', h1, ih _ _ _ hin h2 fun p hp => hs p (List.mem_append_right _ (List.mem_flatMap.2 ⟨y, List.mem_append_left _ hy, hp⟩))⟩
        · by_cases hcap : cap = 0
          · have : rest = [] := List.length_eq_zero_iff.1 (by omega)
            subst this
            split
            · have e0 : cap - len = 0 := by omega
              rw [e0]; rfl
            · rfl
          · have hsp : sp a.block = true := by
              have hm : MemPlace.cell a.block (a.off + 0) ∈ MemPlace.row a ((elems.length + rest.length) * P.cellsOf e) :=
                MemPlace.mem_row.2 ⟨0, Nat.mul_pos (by omega) hpe, rfl⟩
              exact hs _ (List.mem_append_left _ hm)
            rw [if_pos hsp]
            refine mapM_carry hrest (fun i y hi hy hv => ?_)
            simp only [Option.bind_eq_some_iff] at hv ⊢
            obtain ⟨cs', h1, h2⟩ := hv
            exact ⟨cs', h1, ih _ _ _ hin h2 fun p hp => hs p (List.mem_append_right _ (List.mem_flatMap.2 ⟨y, List.mem_append_right _ hy, hp⟩))⟩
      · cases h
    case h_9 fs ht =>
      rw [ht] at hat
      split at h
      · rename_i hc
        rw [if_pos hc]
        simp only [Option.map_eq_some_iff] at h ⊢
        obtain ⟨xs, hx, rfl⟩ := h
        exact ⟨xs, mapM_carry hx (fun f y hf hy hv => ih _ _ _ (by simpa using List.all_eq_true.1 hat f hf) hv (fun p hp => hs p (List.mem_flatMap.2 ⟨y, hy, hp⟩))), rfl⟩
      · cases h
    case h_10 m e ht =>
      rw [ht] at hat
      have hin : e ∈ L := by simpa using hat
      split at h
      · rename_i hc
        rw [if_pos hc]
        simp only [Option.map_eq_some_iff] at h ⊢
        obtain ⟨xs, hx, rfl⟩ := h
        exact ⟨xs, mapM_carry hx (fun f y hf hy hv => ih _ _ _ hin hv (fun p hp => hs p (List.mem_flatMap.2 ⟨y, hy, hp⟩))), rfl⟩
      · cases h
    case h_14 k e b ht =>
      rw [ht] at hat
      have hin : e ∈ L := by simpa using hat
      split at h
      · rename_i es clock hb
        split at h
        · rename_i hc
          rw [if_pos hc]
          simp only [Option.bind_eq_some_iff] at h ⊢
          obtain ⟨entries, he, hd⟩ := h
          split at hd
          · rename_i hris
            have hx := Option.some.inj hd
            subst hx
            refine ⟨entries, mapM_carry he (fun x y _ hy hv => ?_), by simp [hris]⟩
            simp only [Option.bind_eq_some_iff] at hv ⊢
            obtain ⟨key, hk, hq⟩ := hv
            refine ⟨key, hk, ?_⟩
            split at hq
            · rename_i hf
              rw [if_pos hf]
              simp only [Option.map_eq_some_iff] at hq ⊢
              obtain ⟨q, hq, rfl⟩ := hq
              exact ⟨q, ih _ _ _ hin hq (fun p hp => hs p (by simp only [List.mem_cons, List.mem_flatMap]; right; exact ⟨_, hy, hp⟩)), rfl⟩
            · cases hq
          · cases hd
        · cases h
      · cases h
    all_goals exact h

/-- The arguments read as they did, where nothing below changed. -/
theorem trodAll_again {L : List TypeId} (hz : Fine P L) {W W' : World} {sp : Nat → Bool} : ∀ {ts : List TypeId} {vs : List Value} {ds : List (DataW H)} {ps : List MemPlace}, (∀ t ∈ ts, t ∈ L) →
    DataW.TrodAll enc P W 0 (fun _ => true) true ts vs ds ps → (∀ p ∈ ps, p.block < W.heap.size) → Below W.heap.size W W' → (∀ p ∈ ps, sp p.block = true) →
    DataW.TrodAll enc P W' 0 sp true ts vs ds ps
  | [], [], [], _, _, h, _, _, _ => h
  | t :: _, _ :: _, _ :: _, _, hin, ⟨p, q, ⟨n, h1⟩, h2, e⟩, hlt, hb, hs => by
    subst e
    refine ⟨p, q, ⟨n, ?_⟩, trodAll_again hz (fun y hy => hin y (List.mem_cons_of_mem _ hy)) h2 (fun x hx => hlt x (List.mem_append_right _ hx)) hb (fun x hx => hs x (List.mem_append_right _ hx)), rfl⟩
    refine trod_spare hz n _ _ _ (hin t (List.mem_cons_self ..)) (DataW.trod_carry n _ _ _ h1 fun x hx => ?_) (fun x hx => hs x (List.mem_append_left _ hx))
    have hx' := hlt x (List.mem_append_left _ hx)
    cases x with
    | cell b off => exact hb.cell (p := ⟨b, off, none⟩) hx'
    | map b => exact hb.block b hx'

theorem post_again {L : List TypeId} (hz : Fine P L) {f : Func} {s : ChangeSpec} {apart fresh handsOn again : Bool} {W W' : World} {args : Array Value} {v : Value} {ds gs : List (DataW H)} {before : List MemPlace}
    (hW : DataW.Whole enc P f.params.toList s.vars apart W args.toList ds gs before) (hn : s.vars = []) (hin : ∀ t ∈ f.params.toList, t ∈ L)
    (hres : ∀ (b : Nat) (sp : Nat → Bool) (hd : Bool), DataW.TrodAll enc P W' b sp hd f.resultTypes.toList (v.resultList f.resultTypes.size) (s.fn H (ds ++ gs)).results [])
    (ha : (s.fn H (ds ++ gs)).args = ds) (hv : (s.fn H (ds ++ gs)).vars = []) (hb : Below W.heap.size W W')
    (hok : ∀ (j : Nat) (t : TypeId) (r : Value), f.resultTypes[j]? = some t → (v.resultList f.resultTypes.size)[j]? = some r → Value.okWide P W' .any 0 t r) :
    s.post enc P f apart fresh handsOn again W args v W' := by
  have hlt := hW.lt
  have hW' := hW
  obtain ⟨p, q, hA, hV, rfl, hfz, hnd⟩ := hW
  have hq : q = [] := by
    rw [hn] at hV
    cases gs with
    | nil => exact hV
    | cons a b => cases hV
  subst hq
  have hvs : ∀ sp, DataW.TrodVars enc P W' sp s.vars (s.fn H (ds ++ gs)).vars [] := fun sp => by rw [hv, hn]; rfl
  refine post_of_below (pa := p) (pv := []) hW' hres (fun sp hsp => ?_) (fun sp _ => hvs sp) rfl hb hok
  rw [ha]
  exact trodAll_again hz hin hA (fun x hx => hlt x (by simpa using hx)) hb (fun x hx => hsp x (by simpa using hx))
end
end Go.Proofs.Ytjjneiidggcfdaa
set_option linter.unusedVariables false
namespace Go.Proofs.Ytjjneiidggcfdaa

/-- m times 2^e. -/
def dy (m e : Int) : Dyadic := Dyadic.ofIntWithPrec m (-e)

theorem dy_toRat (m e : Int) : (dy m e).toRat = m * 2 ^ e := by
  unfold dy; rw [Dyadic.toRat_ofIntWithPrec_eq_mul_two_pow, Int.neg_neg]
theorem dy_zero (e : Int) : dy 0 e = 0 := rfl
theorem dy_neg (m e : Int) : -dy m e = dy (-m) e := Dyadic.neg_ofIntWithPrec
theorem two_ne : (2 : Rat) ≠ 0 := by decide
theorem dy_add (m n e : Int) : dy m e + dy n e = dy (m + n) e := by
  rw [← Dyadic.toRat_inj, Dyadic.toRat_add, dy_toRat, dy_toRat, dy_toRat, Rat.intCast_add, Rat.add_mul]
theorem dy_mul (m n e f : Int) : dy m e * dy n f = dy (m * n) (e + f) := by
  rw [← Dyadic.toRat_inj, Dyadic.toRat_mul, dy_toRat, dy_toRat, dy_toRat, Rat.intCast_mul, Rat.zpow_add two_ne]
  grind
theorem dy_pow (m e : Int) (k : Nat) : dy (m * 2 ^ k) e = dy m (e + k) := by
  rw [← Dyadic.toRat_inj, dy_toRat, dy_toRat, Rat.intCast_mul, Rat.zpow_add two_ne, Rat.zpow_natCast, Rat.intCast_pow]
  have : ((2 : Int) : Rat) = 2 := rfl
  rw [this]
  grind
theorem dy_sub (m n e : Int) : dy m e - dy n e = dy (m - n) e := by
  show dy m e + -dy n e = _
  rw [dy_neg, dy_add, Int.sub_eq_add_neg]
theorem dy_lt (m n e : Int) : dy m e < dy n e ↔ m < n := by
  rw [← Dyadic.toRat_lt_toRat_iff, dy_toRat, dy_toRat]
  have h : (0 : Rat) < 2 ^ e := Rat.zpow_pos (by decide)
  constructor
  · intro hl
    have := Rat.lt_of_mul_lt_mul_right hl (Rat.le_of_lt h)
    exact Rat.intCast_lt_intCast.1 this
  · intro hl
    exact Rat.mul_lt_mul_of_pos_right (Rat.intCast_lt_intCast.2 hl) h
theorem dy_eq (m n e : Int) : dy m e = dy n e ↔ m = n := by
  constructor
  · intro h
    have h1 := dy_lt m n e
    have h2 := dy_lt n m e
    rw [h] at h1 h2
    have i1 : ¬ dy n e < dy n e := by rw [← Dyadic.toRat_lt_toRat_iff]; exact Rat.lt_irrefl
    have j1 : ¬ m < n := fun hh => i1 (h1.2 hh)
    have j2 : ¬ n < m := fun hh => i1 (h2.2 hh)
    omega
  · rintro rfl; rfl
theorem dy_eq_zero (m e : Int) : dy m e = 0 ↔ m = 0 := by rw [← dy_zero e, dy_eq]
/-- The m and the e of the canonical form. -/
def mant : Dyadic → Int | .zero => 0 | .ofOdd n _ _ => n
def expo : Dyadic → Int | .zero => 0 | .ofOdd _ k _ => -k
end Go.Proofs.Ytjjneiidggcfdaa
set_option linter.unusedVariables false
namespace Go.Proofs.Ytjjneiidggcfdaa

/-- The number of digits to base B, the lowest first. -/
def ofd (B : Nat) : List Nat → Nat
  | [] => 0
  | d :: l => d + B * ofd B l
/-- The digits, none at the end that is 0. -/
def digs (B n : Nat) : List Nat := if _h : n = 0 ∨ B < 2 then [] else n % B :: digs B (n / B)
  termination_by n
  decreasing_by exact Nat.div_lt_self (by omega) (by omega)

theorem ofd_nil (B : Nat) : ofd B [] = 0 := rfl
theorem ofd_cons (B d : Nat) (l : List Nat) : ofd B (d :: l) = d + B * ofd B l := rfl
theorem digs_zero (B : Nat) : digs B 0 = [] := by rw [digs]; simp
theorem digs_pos {B n : Nat} (hB : 2 ≤ B) (h : n ≠ 0) : digs B n = n % B :: digs B (n / B) := by rw [digs, dif_neg (by omega)]
theorem ofd_digs {B : Nat} (hB : 2 ≤ B) (n : Nat) : ofd B (digs B n) = n := by
  induction n using Nat.strongRecOn with
  | ind n ih =>
    by_cases h : n = 0
    · subst h; rw [digs_zero]; rfl
    · rw [digs_pos hB h, ofd_cons, ih _ (Nat.div_lt_self (by omega) (by omega))]
      exact Nat.mod_add_div n B
theorem ofd_append (B : Nat) (l m : List Nat) : ofd B (l ++ m) = ofd B l + B ^ l.length * ofd B m := by
  induction l with
  | nil => simp [ofd]
  | cons d l ih => rw [List.cons_append, ofd_cons, ofd_cons, ih, List.length_cons, Nat.pow_succ]; grind
theorem ofd_replicate (B n : Nat) : ofd B (List.replicate n 0) = 0 := by
  induction n with
  | zero => rfl
  | succ n ih => rw [List.replicate_succ, ofd_cons, ih]; simp
/-- All digits are below B. -/
def Digs (B : Nat) (l : List Nat) : Prop := ∀ d ∈ l, d < B
theorem Digs.nil (B : Nat) : Digs B [] := fun _ h => by cases h
theorem Digs.cons {B d : Nat} {l : List Nat} (h : d < B) (hl : Digs B l) : Digs B (d :: l) := fun x hx => by
  rcases List.mem_cons.1 hx with rfl | hx
  · exact h
  · exact hl x hx
theorem Digs.tail {B d : Nat} {l : List Nat} (h : Digs B (d :: l)) : Digs B l := fun x hx => h x (List.mem_cons_of_mem _ hx)
theorem Digs.head {B d : Nat} {l : List Nat} (h : Digs B (d :: l)) : d < B := h d List.mem_cons_self
theorem Digs.append {B : Nat} {l m : List Nat} (h : Digs B l) (k : Digs B m) : Digs B (l ++ m) := fun x hx => by
  rcases List.mem_append.1 hx with hx | hx
  · exact h x hx
  · exact k x hx
theorem Digs.take {B : Nat} {l : List Nat} (h : Digs B l) (n : Nat) : Digs B (l.take n) := fun x hx => h x (List.mem_of_mem_take hx)
theorem Digs.drop {B : Nat} {l : List Nat} (h : Digs B l) (n : Nat) : Digs B (l.drop n) := fun x hx => h x (List.mem_of_mem_drop hx)
theorem Digs.set {B : Nat} {l : List Nat} (h : Digs B l) (i : Nat) {d : Nat} (hd : d < B) : Digs B (l.set i d) := fun x hx => by
  rcases List.mem_or_eq_of_mem_set hx with hx | rfl
  · exact h x hx
  · exact hd
theorem Digs.replicate {B : Nat} (hB : 0 < B) (n : Nat) : Digs B (List.replicate n 0) := fun x hx => by
  rw [List.mem_replicate] at hx; omega
theorem Digs.get {B : Nat} {l : List Nat} (h : Digs B l) (i : Nat) (hi : i < l.length) : l[i] < B := h _ (List.getElem_mem hi)
theorem ofd_lt {B : Nat} {l : List Nat} (h : Digs B l) : ofd B l < B ^ l.length := by
  induction l with
  | nil => simp [ofd]
  | cons d l ih =>
    have h1 := ih h.tail
    have h2 := h.head
    rw [ofd_cons, List.length_cons, Nat.pow_succ]
    have : B * (ofd B l + 1) ≤ B * B ^ l.length := Nat.mul_le_mul_left B h1
    rw [Nat.mul_comm (B ^ l.length) B]
    rw [Nat.mul_add] at this
    omega
/-- The list of digits of a number is the one without noughts at its end. -/
theorem digs_ofd {B : Nat} (hB : 2 ≤ B) {l : List Nat} (h : Digs B l) (hl : l.getLast? ≠ some 0) : digs B (ofd B l) = l := by
  induction l with
  | nil => rw [ofd_nil, digs_zero]
  | cons d l ih =>
    have hd := h.head
    have ht : l.getLast? ≠ some 0 := by
      cases l with
      | nil => simp
      | cons e l => simpa [List.getLast?_cons_cons] using hl
    have h0 : ofd B (d :: l) ≠ 0 := by
      intro e
      rw [ofd_cons] at e
      have e1 : d = 0 := by omega
      have e2 : B * ofd B l = 0 := by omega
      have e3 : ofd B l = 0 := by rcases Nat.mul_eq_zero.1 e2 with h | h <;> omega
      cases l with
      | nil => subst e1; exact hl rfl
      | cons x l =>
        have := ih h.tail ht
        rw [e3, digs_zero] at this
        cases this
    rw [digs_pos hB h0, ofd_cons]
    have m1 : (d + B * ofd B l) % B = d := by rw [Nat.add_mul_mod_self_left]; exact Nat.mod_eq_of_lt hd
    have m2 : (d + B * ofd B l) / B = ofd B l := by rw [Nat.add_mul_div_left _ _ (by omega), Nat.div_eq_of_lt hd, Nat.zero_add]
    rw [m1, m2, ih h.tail ht]
theorem digs_length_le {B : Nat} (hB : 2 ≤ B) (n k : Nat) : (digs B n).length ≤ k ↔ n < B ^ k := by
  induction k generalizing n with
  | zero =>
    by_cases h : n = 0
    · subst h; rw [digs_zero]; simp
    · rw [digs_pos hB h]; simp; omega
  | succ k ih =>
    by_cases h : n = 0
    · subst h; rw [digs_zero]; simp; exact Nat.pow_pos (by omega)
    · rw [digs_pos hB h, List.length_cons, Nat.add_le_add_iff_right, ih, Nat.div_lt_iff_lt_mul (by omega), Nat.pow_succ]
theorem digs_eq_nil {B : Nat} (hB : 2 ≤ B) (n : Nat) : digs B n = [] ↔ n = 0 := by
  constructor
  · intro h
    have := ofd_digs hB n
    rw [h] at this; exact this.symm
  · rintro rfl; exact digs_zero B
theorem ofd_snoc (B : Nat) (l : List Nat) (d : Nat) : ofd B (l ++ [d]) = ofd B l + B ^ l.length * d := by rw [ofd_append]; simp [ofd]
theorem ofd_take_succ (B : Nat) (l : List Nat) (k : Nat) (hk : k < l.length) : ofd B (l.take (k + 1)) = ofd B (l.take k) + B ^ k * l[k] := by
  rw [List.take_succ_eq_append_getElem hk, ofd_snoc, List.length_take, Nat.min_eq_left (by omega)]
theorem ofd_set (B : Nat) (l : List Nat) (i v : Nat) (hi : i < l.length) : ofd B (l.set i v) + B ^ i * l[i] = ofd B l + B ^ i * v := by
  induction l generalizing i with
  | nil => simp at hi
  | cons d l ih =>
    cases i with
    | zero => simp [List.set, ofd_cons]; omega
    | succ i =>
      have := ih i (by simpa using hi)
      simp only [List.set_cons_succ, ofd_cons, List.getElem_cons_succ, Nat.pow_succ]
      have e1 : B ^ i * B * l[i]'(by simpa using hi) = B * (B ^ i * l[i]'(by simpa using hi)) := by grind
      have e2 : B ^ i * B * v = B * (B ^ i * v) := by grind
      rw [e1, e2]
      have e3 : B * (ofd B (l.set i v) + B ^ i * l[i]'(by simpa using hi)) = B * (ofd B l + B ^ i * v) := by rw [this]
      rw [Nat.mul_add, Nat.mul_add] at e3
      omega
theorem ofd_take_set (B : Nat) (l : List Nat) (i v : Nat) (hi : i < l.length) : ofd B ((l.set i v).take (i + 1)) = ofd B (l.take i) + B ^ i * v := by
  have h : (l.set i v).take (i + 1) = l.take i ++ [v] := by
    rw [List.take_succ_eq_append_getElem (by simpa using hi), List.take_set_of_le (Nat.le_refl _)]; simp
  rw [h, ofd_snoc, List.length_take, Nat.min_eq_left (by omega)]
theorem drop_set_succ (l : List Nat) (i v : Nat) : (l.set i v).drop (i + 1) = l.drop (i + 1) := by rw [List.drop_set_of_lt (by omega)]
theorem ofd_take_all (B : Nat) (l : List Nat) (k : Nat) (h : l.length ≤ k) : ofd B (l.take k) = ofd B l := by rw [List.take_of_length_le h]
theorem digs_pow_le {B : Nat} (hB : 2 ≤ B) {n : Nat} (h : n ≠ 0) : B ^ ((digs B n).length - 1) ≤ n := by
  rcases Nat.lt_or_ge n (B ^ ((digs B n).length - 1)) with hlt | hge
  · have := (digs_length_le hB n _).2 hlt
    have h2 : (digs B n).length ≠ 0 := fun e => h ((digs_eq_nil hB n).1 (List.eq_nil_of_length_eq_zero e))
    omega
  · exact hge
end Go.Proofs.Ytjjneiidggcfdaa
set_option linter.unusedVariables false
namespace Go.Proofs.Ytjjneiidggcfdaa
open Go.RowKit

theorem below_drewN {B : Nat} {a w : World} (h : Below B a w) (n : Nat) : Below B a (w.drewN n) := ⟨h.os, h.tape, h.output, h.size, h.block⟩
theorem block_lt {w : World} {b o : Nat} {v : Value} (h : w.cell? ⟨b, o, none⟩ = some v) : b < w.heap.size := by
  rcases Nat.lt_or_ge b w.heap.size with hl | hl
  · exact hl
  · simp [World.cell?, Array.getElem?_eq_none hl] at h
/-- The slice's cells are the list. -/
def Row (w : World) (A : Option Addr) (xs : List Value) : Prop := xs = [] ∨ ∃ b o, A = some ⟨b, o, none⟩ ∧ ∀ i v, xs[i]? = some v → w.cell? ⟨b, o + i, none⟩ = some v
theorem Row.nil (w : World) (A : Option Addr) : Row w A [] := .inl rfl
theorem Row.at_ {w : World} {A : Option Addr} {xs : List Value} {i : Nat} {v : Value} (h : Row w A xs) (hi : xs[i]? = some v) :
    ∃ b o, A = some ⟨b, o, none⟩ ∧ b < w.heap.size ∧ w.cell? ⟨b, o + i, none⟩ = some v := by
  rcases h with rfl | ⟨b, o, e, hc⟩
  · simp at hi
  · exact ⟨b, o, e, block_lt (hc i v hi), hc i v hi⟩
theorem Row.below {w w' : World} {A : Option Addr} {xs : List Value} (h : Row w A xs) (hb : Below w.heap.size w w') : Row w' A xs := by
  rcases h with rfl | ⟨b, o, e, hc⟩
  · exact .inl rfl
  · exact .inr ⟨b, o, e, fun i v hi => (hb.cell (p := ⟨b, o + i, none⟩) (block_lt (hc i v hi))).trans (hc i v hi)⟩
theorem Row.drewN {w : World} {A : Option Addr} {xs : List Value} (h : Row w A xs) (n : Nat) : Row (w.drewN n) A xs := h
/-- A cell below the block is as it was. -/
theorem cell_below {w w' : World} {b o : Nat} {v : Value} (h : w.cell? ⟨b, o, none⟩ = some v) (hb : Below w.heap.size w w') : w'.cell? ⟨b, o, none⟩ = some v := (hb.cell (p := ⟨b, o, none⟩) (block_lt h)).trans h

/-- Block g of the world is just these cells, none of them frozen. -/
def Blk (w : World) (g : Nat) (t : TypeId) (cs : Array Value) : Prop := w.heap[g]? = some (.cells cs t (0, 0))
section
variable {w w' : World} {g : Nat} {t : TypeId} {cs : Array Value}
theorem Blk.lt (h : Blk w g t cs) : g < w.heap.size := by
  rcases Nat.lt_or_ge g w.heap.size with hl | hl
  · exact hl
  · unfold Blk at h; rw [Array.getElem?_eq_none hl] at h; cases h
theorem Blk.cell (h : Blk w g t cs) (i : Nat) : w.cell? ⟨g, i, none⟩ = cs[i]? := cell_of_row w g i cs t (0, 0) h
theorem Blk.frozen (h : Blk w g t cs) (i : Nat) : w.frozen? ⟨g, i, none⟩ = false := by
  unfold Blk at h
  simp [World.frozen?, h]
theorem Blk.new (w : World) (t : TypeId) (cs : Array Value) : Blk (w.alloc (.cells cs t)) w.heap.size t cs := heap_alloc_new w _
theorem Blk.alloc (h : Blk w g t cs) (o : Obj) : Blk (w.alloc o) g t cs := (Below.heap_alloc w o g h.lt).trans h
theorem Blk.set_ (h : Blk w g t cs) (i : Nat) (u : Value) : Blk (w.setCell ⟨g, i, none⟩ u) g t (cs.setIfInBounds i u) := by
  unfold Blk at h ⊢
  simp [World.setCell, Array.getElem?_modify, h]
theorem Blk.other (h : Blk w g t cs) {p : Addr} (hp : g ≠ p.block) (u : Value) : Blk (w.setCell p u) g t cs := (Below.heap_setCell w p u g hp).trans h
theorem Blk.below {B : Nat} (h : Blk w g t cs) (hb : Below B w w') (hg : g < B) : Blk w' g t cs := (hb.block g hg).trans h
theorem Blk.drewN (h : Blk w g t cs) (n : Nat) : Blk (w.drewN n) g t cs := h
theorem Blk.drew (h : Blk w g t cs) : Blk w.drew g t cs := h
theorem Blk.new_ (w : World) (t : TypeId) (cs : Array Value) (n : Nat) (hn : w.heap.size = n) : Blk (w.alloc (.cells cs t)) n t cs := by subst hn; exact heap_alloc_new w _
end

/-- 2^64. -/
def Q : Nat := 18446744073709551616
theorem Q_val : Q = 18446744073709551616 := rfl
theorem Q_two : 2 ≤ Q := by unfold Q; omega
theorem Q_pow : Q = 2 ^ 64 := rfl
/-- The words of a list of digits. -/
def u64s (l : List Nat) : List Value := l.map fun (d : Nat) => Value.int .u64 (d : Int)
/-- The words of a number's size. -/
def dig (z : Int) : List Nat := digs Q z.natAbs
/-- How many they are. -/
def wl (z : Int) : Nat := (dig z).length
/-- Is it below 0? -/
def ng (z : Int) : Bool := decide (z < 0)
theorem dig_zero : dig 0 = [] := digs_zero Q
theorem wl_zero (z : Int) : wl z = 0 ↔ z = 0 := by
  unfold wl dig
  rw [List.length_eq_zero_iff, digs_eq_nil Q_two]; omega
theorem dig_neg (z : Int) : dig (-z) = dig z := by unfold dig; rw [Int.natAbs_neg]
theorem wl_neg (z : Int) : wl (-z) = wl z := by unfold wl; rw [dig_neg]
/-- No word is among the values. -/
def NoInt (cs : Array Value) : Prop := ∀ (i : Nat) (k : IntKind) (n : Int), cs[i]? ≠ some (.int k n)
theorem Row.ne_ {w : World} {A : Option Addr} {l : List Nat} (h : Row w A (u64s l)) {g : Nat} {t : TypeId} {cs : Array Value} (hB : Blk w g t cs) (hn : NoInt cs) :
    l = [] ∨ ∃ b o, A = some ⟨b, o, none⟩ ∧ b ≠ g ∧ ∀ i v, (u64s l)[i]? = some v → w.cell? ⟨b, o + i, none⟩ = some v := by
  rcases h with h | ⟨b, o, e, hc⟩
  · exact .inl (by simpa [u64s] using h)
  · cases l with
    | nil => exact .inl rfl
    | cons d l =>
      refine .inr ⟨b, o, e, ?_, hc⟩
      rintro rfl
      have h0 := hc 0 _ rfl
      rw [Nat.add_zero, hB.cell o] at h0
      exact hn _ _ _ h0
/-- What lies in other blocks stays. -/
theorem Row.far {w w' : World} {A : Option Addr} {l : List Nat} (h : Row w A (u64s l)) {g : Nat} {t : TypeId} {cs : Array Value} (hB : Blk w g t cs) (hn : NoInt cs)
    (hk : ∀ b o, b ≠ g → b < w.heap.size → w'.cell? ⟨b, o, none⟩ = w.cell? ⟨b, o, none⟩) : Row w' A (u64s l) := by
  rcases h.ne_ hB hn with rfl | ⟨b, o, e, hne, hc⟩
  · exact .inl rfl
  · exact .inr ⟨b, o, e, fun i v hi => (hk b (o + i) hne (block_lt (hc i v hi))).trans (hc i v hi)⟩
theorem cell_set {w : World} {b o g i : Nat} (h : b ≠ g) (u : Value) : (w.setCell ⟨g, i, none⟩ u).cell? ⟨b, o, none⟩ = w.cell? ⟨b, o, none⟩ :=
  World.cell?_setCell_other w ⟨g, i, none⟩ ⟨b, o, none⟩ u (fun e => h (by injection e with e1; exact e1.symm))
/-- The slice of n words, with room for c, is the size of the whole number z. -/
def Wh (w : World) (A : Option Addr) (n c : Nat) (z : Int) : Prop := n = wl z ∧ n ≤ c ∧ Row w A (u64s (dig z))
theorem Wh.below {w w' : World} {A : Option Addr} {n c : Nat} {z : Int} (h : Wh w A n c z) (hb : Below w.heap.size w w') : Wh w' A n c z := ⟨h.1, h.2.1, h.2.2.below hb⟩
theorem Wh.neg {w : World} {A : Option Addr} {n c : Nat} {z : Int} (h : Wh w A n c z) : Wh w A n c (-z) := ⟨by rw [wl_neg]; exact h.1, h.2.1, by rw [dig_neg]; exact h.2.2⟩
theorem Wh.zero (w : World) (A : Option Addr) (c : Nat) : Wh w A 0 c 0 := ⟨((wl_zero 0).2 rfl).symm, Nat.zero_le _, by rw [dig_zero]; exact .inl rfl⟩
theorem Wh.far {w w' : World} {A : Option Addr} {n c : Nat} {z : Int} (h : Wh w A n c z) {g : Nat} {t : TypeId} {cs : Array Value} (hB : Blk w g t cs) (hn : NoInt cs)
    (hk : ∀ b o, b ≠ g → b < w.heap.size → w'.cell? ⟨b, o, none⟩ = w.cell? ⟨b, o, none⟩) : Wh w' A n c z := ⟨h.1, h.2.1, h.2.2.far hB hn hk⟩
/-- The two slices are the m and the e of the dyadic number d. -/
def Dr (w : World) (A : Option Addr) (n c : Nat) (A' : Option Addr) (n' c' : Nat) (d : Dyadic) : Prop := Wh w A n c (mant d) ∧ Wh w A' n' c' (expo d)
theorem Dr.below {w w' : World} {A : Option Addr} {n c : Nat} {A' : Option Addr} {n' c' : Nat} {d : Dyadic} (h : Dr w A n c A' n' c' d) (hb : Below w.heap.size w w') : Dr w' A n c A' n' c' d := ⟨h.1.below hb, h.2.below hb⟩
/-- Only block g has changed. -/
def Only (g : Nat) (w w' : World) : Prop := w.grownBy w' (some g)
theorem Only.refl (g : Nat) (w : World) : Only g w w := World.grownBy.refl w _
theorem Only.set_ {g : Nat} {w w' : World} (h : Only g w w') (i : Nat) (u : Value) : Only g w (w'.setCell ⟨g, i, none⟩ u) :=
  ⟨h.os, h.tape, h.output, by simpa [World.setCell] using h.size, fun k hk hne => (Below.heap_setCell w' _ u k (fun e => hne (by rw [e]))).trans (h.block k hk hne)⟩
theorem Only.drew {g : Nat} {w w' : World} (h : Only g w w') : Only g w w'.drew := ⟨h.os, h.tape, h.output, h.size, h.block⟩
theorem Only.drewN {g : Nat} {w w' : World} (h : Only g w w') (n : Nat) : Only g w (w'.drewN n) := ⟨h.os, h.tape, h.output, h.size, h.block⟩
theorem Only.trans {g : Nat} {a b c : World} (h : Only g a b) (k : Only g b c) : Only g a c :=
  ⟨k.os.trans h.os, k.tape.trans h.tape, k.output.trans h.output, Nat.le_trans h.size k.size, fun i hi hne => (k.block i (Nat.lt_of_lt_of_le hi h.size) hne).trans (h.block i hi hne)⟩
theorem Only.cell {g : Nat} {w w' : World} (h : Only g w w') {b o : Nat} {v : Value} (hb : b ≠ g) (hc : w.cell? ⟨b, o, none⟩ = some v) : w'.cell? ⟨b, o, none⟩ = some v :=
  (World.cell?_of_block (a := ⟨b, o, none⟩) (h.block b (block_lt hc) (fun e => hb (by injection e)))).trans hc
theorem Only.row {g : Nat} {w w' : World} (h : Only g w w') {A : Option Addr} {xs : List Value} (hA : ∀ b o, A = some ⟨b, o, none⟩ → b ≠ g) (hr : Row w A xs) : Row w' A xs := by
  rcases hr with rfl | ⟨b, o, e, hc⟩
  · exact .inl rfl
  · exact .inr ⟨b, o, e, fun i v hi => h.cell (hA b o e) (hc i v hi)⟩
theorem Only.blk {g : Nat} {w w' : World} (h : Only g w w') {b : Nat} {t : TypeId} {cs : Array Value} (hb : b ≠ g) (hB : Blk w b t cs) : Blk w' b t cs :=
  (h.block b hB.lt (fun e => hb (by injection e))).trans hB
theorem Only.below {g : Nat} {w0 w w' : World} (h : Only g w w') {B : Nat} (hb : Below B w0 w) (hB : B ≤ w.heap.size) (hg : B ≤ g) : Below B w0 w' :=
  hb.grown h hB (fun k hk => by injection hk with hk; omega)
theorem below_nx {w W w' : World} (h : Below w.heap.size w W) (hb : Below W.heap.size W w') : Below w.heap.size w w' := h.trans (hb.mono h.size)
theorem below_al {w W : World} (h : Below w.heap.size w W) {o : Obj} : Below w.heap.size w (W.alloc o) := h.alloc h.size o
theorem below_one {W : World} {o : Obj} : Below W.heap.size W (W.alloc o) := (Below.refl _ _).alloc (Nat.le_refl _) o
theorem ownsRow_below {Z : Nat} {w w' : World} {e : TypeId} {n k : Nat} {v : Value} {xs : List Value} (h : w.ownsRow Z e k v n xs) (hb : Below w.heap.size w w') : w'.ownsRow Z e k v n xs :=
  h.kept (row := none) ⟨hb.os, hb.tape, hb.output, hb.size, fun k hk _ => hb.block k hk⟩ (by cases v.ownBlock <;> simp)

end Go.Proofs.Ytjjneiidggcfdaa
namespace Go.Proofs.Ytjjneiidggcfdaa.Fl
open Ieee

/-- A word's lower 63 bits. -/
def rung (b : Nat) : Nat := b % 9223372036854775808
/-- A word's sign. -/
def sg (b : Nat) : Bool := b / 9223372036854775808 % 2 == 1
/-- The rung of infinity. -/
def INF : Nat := 9218868437227405312
/-- How great a rung is, in units of 2^-1074. -/
def mag (r : Nat) : Nat := if r < 4503599627370496 then r else (4503599627370496 + r % 4503599627370496) * 2 ^ (r / 4503599627370496 - 1)
/-- A word's number, in units of 2^-1074 (infinity as if it were one). -/
def val (b : Nat) : Int := if sg b then -(mag (rung b) : Int) else (mag (rung b) : Int)
/-- A word's place among all. -/
def key (b : Nat) : Int := if sg b then -(rung b : Int) else (rung b : Int)
def nan (b : Nat) : Bool := decide (INF < rung b)
def fin (b : Nat) : Bool := decide (rung b < INF)

theorem mag_zero : mag 0 = 0 := by simp [mag]
theorem mag_succ (r : Nat) : mag r < mag (r + 1) := by
  unfold mag
  by_cases h1 : r + 1 < 4503599627370496
  · rw [if_pos (by omega), if_pos h1]; omega
  · by_cases h2 : r + 1 = 4503599627370496
    · obtain rfl : r = 4503599627370495 := by omega
      decide
    · rw [if_neg (by omega), if_neg h1]
      have hq : r / 4503599627370496 - 1 + 1 = r / 4503599627370496 := by omega
      generalize hQ : r / 4503599627370496 - 1 = q at *
      have hp : 0 < 2 ^ q := Nat.two_pow_pos q
      by_cases h3 : r % 4503599627370496 + 1 < 4503599627370496
      · have e1 : (r + 1) / 4503599627370496 - 1 = q := by omega
        have e2 : (r + 1) % 4503599627370496 = r % 4503599627370496 + 1 := by omega
        rw [e1, e2]
        exact Nat.mul_lt_mul_of_pos_right (by omega) hp
      · have e1 : (r + 1) / 4503599627370496 - 1 = q + 1 := by omega
        have e2 : (r + 1) % 4503599627370496 = 0 := by omega
        have e3 : r % 4503599627370496 = 4503599627370495 := by omega
        rw [e1, e2, e3, Nat.pow_succ]
        omega
theorem mag_lt {r s : Nat} (h : r < s) : mag r < mag s := by
  induction s with
  | zero => omega
  | succ s ih =>
    by_cases e : r = s
    · subst e; exact mag_succ r
    · exact Nat.lt_trans (ih (by omega)) (mag_succ s)
theorem read_eq (b : Nat) : double.read b =
    if rung b < 4503599627370496 then .number (sg b) (rung b) (-1074)
    else if rung b < INF then .number (sg b) (4503599627370496 + rung b % 4503599627370496) (-1074 + (rung b / 4503599627370496 - 1 : Nat))
    else if rung b = INF then .infinity (sg b) else .nan (sg b) (rung b - INF) := rfl

/-- A finite word stands for a number whose digits and place make its value. -/
theorem read_fin {b : Nat} (h : rung b < INF) : ∃ m : Nat, ∃ u : Nat, double.read b = .number (sg b) m (-1074 + (u : Int)) ∧ m * 2 ^ u = mag (rung b) := by
  rw [read_eq]
  unfold mag
  by_cases h1 : rung b < 4503599627370496
  · rw [if_pos h1, if_pos h1]; exact ⟨rung b, 0, rfl, by simp⟩
  · rw [if_neg h1, if_pos h, if_neg h1]; exact ⟨_, _, rfl, rfl⟩
theorem read_inf {b : Nat} (h : rung b = INF) : double.read b = .infinity (sg b) := by
  rw [read_eq, h]; rfl
theorem read_nan {b : Nat} (h : INF < rung b) : double.read b = .nan (sg b) (rung b - INF) := by
  have : INF = 9218868437227405312 := rfl
  rw [read_eq, if_neg (by omega), if_neg (by omega), if_neg (by omega)]

theorem signed_pow (s : Bool) (m u v : Nat) : signed s m u * (2 ^ v : Nat) = signed s m (u + v) := by
  unfold signed
  have : m <<< (u + v) = m <<< u * 2 ^ v := by simp only [Nat.shiftLeft_eq]; rw [Nat.pow_add, Nat.mul_assoc]
  split
  · rw [this, Int.natCast_mul, Int.neg_mul]
  · rw [this, Int.natCast_mul]
theorem signed_val {s : Bool} {m u M : Nat} (h : m * 2 ^ u = M) : signed s m u = if s then -(M : Int) else (M : Int) := by
  unfold signed
  rw [Nat.shiftLeft_eq, h]

/-! The comparisons of two words, as the walk spells them. -/
end Go.Proofs.Ytjjneiidggcfdaa.Fl
namespace Go.Proofs.Ytjjneiidggcfdaa.Fl

theorem INF_val : INF = 9218868437227405312 := rfl
/-- n / 2^d to the nearest whole number, between two the even one. -/
def rne (n d : Nat) : Nat := n / 2 ^ d + (if 2 ^ d < 2 * (n % 2 ^ d) ∨ (2 ^ d = 2 * (n % 2 ^ d) ∧ n / 2 ^ d % 2 = 1) then 1 else 0)
/-- The rung that is nearest to N / 2^d units of 2^-1074, as if there were no greatest one. -/
def rnd (N d : Nat) : Nat := (N.log2 - (d + 52)) * 4503599627370496 + rne N (d + (N.log2 - (d + 52)))
def cap (r : Nat) : Nat := min r INF
/-- The rung that is nearest to M * 2^k units of 2^-1074. -/
def scl (M : Nat) (k : Int) : Nat := cap (if 0 ≤ k then rnd (M * 2 ^ k.toNat) 0 else rnd M (-k).toNat)
/-- The bits of a sign and a rung. -/
def wd (s : Bool) (r : Nat) : Nat := if s then 9223372036854775808 + r else r

theorem rne_zero (d : Nat) : rne 0 d = 0 := by
  unfold rne
  have : 0 < 2 ^ d := Nat.two_pow_pos d
  simp
theorem rne_d0 (n : Nat) : rne n 0 = n := by unfold rne; simp [Nat.mod_one]
theorem rne_shift (n d j : Nat) : rne (n * 2 ^ j) (d + j) = rne n d := by
  have hj : 0 < 2 ^ j := Nat.two_pow_pos j
  have e1 : n * 2 ^ j / 2 ^ (d + j) = n / 2 ^ d := by rw [Nat.pow_add]; exact Nat.mul_div_mul_right _ _ hj
  have e2 : n * 2 ^ j % 2 ^ (d + j) = n % 2 ^ d * 2 ^ j := by rw [Nat.pow_add]; exact Nat.mul_mod_mul_right _ _ _
  unfold rne
  rw [e1, e2, Nat.pow_add]
  have e3 : 2 * (n % 2 ^ d * 2 ^ j) = 2 * (n % 2 ^ d) * 2 ^ j := by rw [Nat.mul_assoc]
  rw [e3]
  have a : (2 ^ d * 2 ^ j < 2 * (n % 2 ^ d) * 2 ^ j) ↔ (2 ^ d < 2 * (n % 2 ^ d)) := Nat.mul_lt_mul_right hj
  have b : (2 ^ d * 2 ^ j = 2 * (n % 2 ^ d) * 2 ^ j) ↔ (2 ^ d = 2 * (n % 2 ^ d)) := ⟨fun h => Nat.eq_of_mul_eq_mul_right hj h, fun h => congrArg (· * 2 ^ j) h⟩
  simp only [a, b]
theorem rne_mul (n j : Nat) : rne (n * 2 ^ j) j = n := by
  have := rne_shift n 0 j
  rw [Nat.zero_add] at this
  rw [this, rne_d0]
theorem log2_mul (n j : Nat) (h : n ≠ 0) : (n * 2 ^ j).log2 = n.log2 + j := by
  have hp : 0 < 2 ^ j := Nat.two_pow_pos j
  have hn : n * 2 ^ j ≠ 0 := Nat.mul_ne_zero h (by omega)
  refine (Nat.log2_eq_iff hn).2 ⟨?_, ?_⟩
  · rw [Nat.pow_add]; exact Nat.mul_le_mul_right _ (Nat.log2_self_le h)
  · rw [show n.log2 + j + 1 = n.log2 + 1 + j by omega, Nat.pow_add]; exact Nat.mul_lt_mul_of_pos_right Nat.lt_log2_self hp
theorem rnd_zero (d : Nat) : rnd 0 d = 0 := by unfold rnd; rw [rne_zero]; simp
theorem rnd_shift (n d j : Nat) : rnd (n * 2 ^ j) (d + j) = rnd n d := by
  by_cases h : n = 0
  · subst h; rw [Nat.zero_mul, rnd_zero, rnd_zero]
  · unfold rnd
    rw [log2_mul n j h]
    have e : n.log2 + j - (d + j + 52) = n.log2 - (d + 52) := by omega
    rw [e]
    have e2 : d + j + (n.log2 - (d + 52)) = d + (n.log2 - (d + 52)) + j := by omega
    rw [e2, rne_shift]
theorem scl_zero (k : Int) : scl 0 k = 0 := by unfold scl; simp only [Nat.zero_mul, rnd_zero]; split <;> rfl
theorem scl_shift (m u : Nat) (k : Int) : scl (m * 2 ^ u) k = scl m (u + k) := by
  unfold scl
  by_cases h1 : 0 ≤ k
  · rw [if_pos h1, if_pos (by omega), Nat.mul_assoc, ← Nat.pow_add]
    congr 4; omega
  · rw [if_neg h1]
    by_cases h2 : 0 ≤ (u : Int) + k
    · rw [if_pos h2]
      have e := rnd_shift (m * 2 ^ ((u : Int) + k).toNat) 0 (-k).toNat
      rw [Nat.mul_assoc, ← Nat.pow_add] at e
      rw [← e]
      congr 4 <;> omega
    · rw [if_neg h2]
      have e := rnd_shift m (-((u : Int) + k)).toNat u
      rw [← e]
      congr 2; omega
/-- What is rounded in the place q of a rung whose digits are m1 / 2^i. -/
theorem scl_place (m1 i q : Nat) (h1 : m1 / 2 ^ i < 9007199254740992) (h2 : 4503599627370496 ≤ m1 / 2 ^ i ∨ q = 0) : scl m1 ((q : Int) - i) = cap (q * 4503599627370496 + rne m1 i) := by
  by_cases h0 : m1 = 0
  · subst h0
    have : q = 0 := by rcases h2 with h2 | h2; · simp at h2
                       · exact h2
    subst this
    rw [scl_zero, rne_zero]; rfl
  have hb : m1.log2 < 53 + i := by
    refine (Nat.log2_lt h0).2 ?_
    rw [Nat.pow_add]
    have hp : 0 < 2 ^ i := Nat.two_pow_pos i
    exact (Nat.div_lt_iff_lt_mul hp).1 (by simpa using h1)
  have e : scl m1 ((q : Int) - i) = cap (rnd (m1 * 2 ^ q) i) := by
    have := scl_shift m1 q (-(i : Int))
    rw [show (q : Int) + -(i : Int) = q - i by omega] at this
    rw [← this]
    unfold scl
    by_cases hi : i = 0
    · subst hi; simp
    · rw [if_neg (by omega)]; congr 2; omega
  rw [e]
  refine congrArg cap ?_
  unfold rnd
  rw [log2_mul _ _ h0]
  have ht : m1.log2 + q - (i + 52) = q := by
    rcases h2 with h2 | h2
    · have hlo : 52 + i ≤ m1.log2 := by
        refine (Nat.le_log2 h0).2 ?_
        rw [Nat.pow_add]
        have hp : 0 < 2 ^ i := Nat.two_pow_pos i
        exact (Nat.le_div_iff_mul_le hp).1 (by simpa using h2)
      omega
    · omega
  rw [ht, rne_shift]
theorem rne_small (n d : Nat) (h : 2 * n < 2 ^ d) : rne n d = 0 := by
  unfold rne
  have hlt : n < 2 ^ d := by omega
  rw [Nat.div_eq_of_lt hlt, Nat.mod_eq_of_lt hlt, if_neg (by omega)]
theorem cap_le (r : Nat) : cap r ≤ INF := Nat.min_le_right _ _
/-! ### A word's parts. -/
/-- The digits and the place of what a word stands for, as they are kept. -/
def pm (b : Nat) : Nat := if rung b < 4503599627370496 then rung b else 4503599627370496 + rung b % 4503599627370496
def pe (b : Nat) : Nat := if rung b < 4503599627370496 then 0 else rung b / 4503599627370496 - 1
theorem mag_parts (b : Nat) : mag (rung b) = pm b * 2 ^ pe b := by
  unfold mag pm pe; split <;> simp
theorem pm_lt (b : Nat) : pm b < 9007199254740992 := by unfold pm; split <;> omega
theorem pe_lt {b : Nat} (h : rung b < INF) : pe b ≤ 2045 := by
  have := INF_val; unfold pe; split <;> omega
theorem sg_wd (s : Bool) {r : Nat} (h : r < 9223372036854775808) : sg (wd s r) = s := by
  unfold sg wd; cases s <;> simp <;> omega
theorem rung_wd (s : Bool) {r : Nat} (h : r < 9223372036854775808) : rung (wd s r) = r := by
  unfold rung wd; cases s <;> simp <;> omega
end Go.Proofs.Ytjjneiidggcfdaa.Fl
set_option linter.unusedVariables false
namespace Go.Proofs.Ytjjneiidggcfdaa
open Go.RowKit

theorem and_mask (a n : Nat) : a &&& (2 ^ n - 1) = a % 2 ^ n := Nat.and_two_pow_sub_one_eq_mod a n
theorem bits_andNot_sign {b : Nat} (hb : b < 18446744073709551616) : bits .andNot .u64 (b : Int) 9223372036854775808 = ((b % 9223372036854775808 : Nat) : Int) := by
  have := u64_andNot_nat b 9223372036854775808 hb (by omega)
  rw [show ((9223372036854775808 : Nat) : Int) = 9223372036854775808 from rfl] at this
  rw [this, show (18446744073709551615 - 9223372036854775808 : Nat) = 2 ^ 63 - 1 from rfl, and_mask]
theorem bits_and_frac {b : Nat} (hb : b < 18446744073709551616) : bits .and .u64 (b : Int) 4503599627370495 = ((b % 4503599627370496 : Nat) : Int) := by
  have := u64_and_nat b 4503599627370495 hb (by omega)
  rw [show ((4503599627370495 : Nat) : Int) = 4503599627370495 from rfl] at this
  rw [this, show (4503599627370495 : Nat) = 2 ^ 52 - 1 from rfl, and_mask]
theorem bits_and_15 {b : Nat} (hb : b < 18446744073709551616) : bits .and .u64 (b : Int) 15 = ((b % 16 : Nat) : Int) := by
  have := u64_and_nat b 15 hb (by omega)
  rw [show ((15 : Nat) : Int) = 15 from rfl] at this
  rw [this, show (15 : Nat) = 2 ^ 4 - 1 from rfl, and_mask]
theorem bits_and_1 {b : Nat} (hb : b < 18446744073709551616) : bits .and .u64 (b : Int) 1 = ((b % 2 : Nat) : Int) := by
  have := u64_and_nat b 1 hb (by omega)
  rw [show ((1 : Nat) : Int) = 1 from rfl] at this
  rw [this, show (1 : Nat) = 2 ^ 1 - 1 from rfl, and_mask]
theorem bits_and_sign {b : Nat} (hb : b < 18446744073709551616) : bits .and .u64 (b : Int) 9223372036854775808 = ((Fl.wd (Fl.sg b) 0 : Nat) : Int) := by
  have := u64_and_nat b 9223372036854775808 hb (by omega)
  rw [show ((9223372036854775808 : Nat) : Int) = 9223372036854775808 from rfl] at this
  rw [this]
  have h : b &&& 9223372036854775808 = b / 9223372036854775808 % 2 * 9223372036854775808 := nat_bit 63 b
  rw [h]
  unfold Fl.wd Fl.sg
  by_cases h1 : b / 9223372036854775808 % 2 = 1
  · simp [h1]
  · have h2 : b / 9223372036854775808 % 2 = 0 := by omega
    simp [h2]
theorem bits_and_inf {b : Nat} (hb : b < 18446744073709551616) : bits .and .u64 (b : Int) 9218868437227405312 = ((b / 4503599627370496 % 2048 * 4503599627370496 : Nat) : Int) := by
  have := u64_and_nat b 9218868437227405312 hb (by omega)
  rw [show ((9218868437227405312 : Nat) : Int) = 9218868437227405312 from rfl] at this
  rw [this]
  have e : b &&& 9218868437227405312 = ((b >>> 52) &&& 2047) <<< 52 := by
    refine Nat.eq_of_testBit_eq fun i => ?_
    rw [Nat.testBit_and, Nat.testBit_shiftLeft, Nat.testBit_and, Nat.testBit_shiftRight]
    rw [show (9218868437227405312 : Nat) = 2047 <<< 52 from rfl, Nat.testBit_shiftLeft]
    by_cases h : 52 ≤ i
    · simp only [h, decide_true, Bool.true_and]; rw [show 52 + (i - 52) = i by omega]
    · simp [h]
  rw [e, Nat.shiftLeft_eq, Nat.shiftRight_eq_div_pow, show (2047 : Nat) = 2 ^ 11 - 1 from rfl, and_mask]
theorem ofInt_emod (x : Int) : BitVec.ofInt 64 x = BitVec.ofInt 64 ((x % 18446744073709551616).toNat : Int) := by
  apply BitVec.eq_of_toInt_eq
  rw [BitVec.toInt_ofInt, BitVec.toInt_ofInt, Int.toNat_of_nonneg (Int.emod_nonneg _ (by decide))]
  rw [Int.bmod_def, Int.bmod_def]
  have : x % 18446744073709551616 % ((2 ^ 64 : Nat) : Int) = x % ((2 ^ 64 : Nat) : Int) := by
    rw [show ((2 ^ 64 : Nat) : Int) = 18446744073709551616 from rfl]; omega
  rw [this]
theorem bits_wrap_left (op : BinOp) (x c : Int) : bits op .u64 x c = bits op .u64 ((x % 18446744073709551616).toNat : Int) c := by
  have h := ofInt_emod x
  unfold bits
  simp only [IntKind.bits]
  rw [h]
theorem wrap_nat (x : Int) : ((x % 18446744073709551616).toNat : Int) = x % 18446744073709551616 ∧ (x % 18446744073709551616).toNat < 18446744073709551616 := by omega
theorem ib_andNot_sign (x : Int) : Op.intBits .andNot .u64 x 9223372036854775808 = pure (.int .u64 (x % 9223372036854775808)) := by
  have := wrap_nat x
  rw [intBits_andNot, bits_wrap_left, bits_andNot_sign this.2]
  congr 2; omega
theorem ib_and_frac (x : Int) : Op.intBits .and .u64 x 4503599627370495 = pure (.int .u64 (x % 4503599627370496)) := by
  have := wrap_nat x
  rw [intBits_and, bits_wrap_left, bits_and_frac this.2]
  congr 2; omega
theorem ib_and_15 (x : Int) : Op.intBits .and .u64 x 15 = pure (.int .u64 (x % 16)) := by
  have := wrap_nat x
  rw [intBits_and, bits_wrap_left, bits_and_15 this.2]
  congr 2; omega
theorem ib_and_1 (x : Int) : Op.intBits .and .u64 x 1 = pure (.int .u64 (x % 2)) := by
  have := wrap_nat x
  rw [intBits_and, bits_wrap_left, bits_and_1 this.2]
  congr 2; omega
theorem ib_and_inf (x : Int) : Op.intBits .and .u64 x 9218868437227405312 = pure (.int .u64 (x / 4503599627370496 % 2048 * 4503599627370496)) := by
  have := wrap_nat x
  rw [intBits_and, bits_wrap_left, bits_and_inf this.2]
  congr 2; omega
/-- The bit of the sign alone. -/
def signOf (x : Int) : Int := x / 9223372036854775808 % 2 * 9223372036854775808
theorem ib_and_sign (x : Int) : Op.intBits .and .u64 x 9223372036854775808 = pure (.int .u64 (signOf x)) := by
  have h := wrap_nat x
  rw [intBits_and, bits_wrap_left, bits_and_sign h.2]
  congr 2
  unfold signOf Fl.wd Fl.sg
  by_cases h1 : (x % 18446744073709551616).toNat / 9223372036854775808 % 2 = 1
  · simp [h1]; omega
  · simp [h1]; omega
/-- The bits of either. -/
def orU (a b : Int) : Int := bits .or .u64 a b
theorem ib_or (a b : Int) : Op.intBits .or .u64 a b = pure (.int .u64 (orU a b)) := by rw [intBits_or]; rfl
/-- The bits of both. -/
def andU (a b : Int) : Int := bits .and .u64 a b
theorem ib_and (a b : Int) : Op.intBits .and .u64 a b = pure (.int .u64 (andU a b)) := by rw [intBits_and]; rfl
end Go.Proofs.Ytjjneiidggcfdaa
set_option linter.unusedVariables false
namespace Go.Proofs.Ytjjneiidggcfdaa
open Go.RowKit

theorem run_bits (b : Nat) (w : World) : (callFunc 43 #[.float .f64 b]).run Try.prog w = .ok (.value (.int .u64 (b : Int))) w := by kernel_rfl
theorem run_frombits (n : Int) (w : World) : (callFunc 42 #[.int .u64 n]).run Try.prog w = .ok (.value (.float .f64 n.toNat)) w := by kernel_rfl
attribute [go_sem] run_bits
attribute [go_sem] run_frombits

theorem ret_bool {a b : Bool} (h : a = b) : Ending.returned (.bool a) = .returned (.bool b) := by rw [h]
/-- The two are the same number: by their bits, or both no number. -/
def sameB (a b : Nat) : Bool := decide (a = b) || Fl.nan a && Fl.nan b

/-- The kind of a word: 0 finite, 1 infinite, 2 no number. -/
def kindOf (b : Nat) : Int := if Fl.rung b < Fl.INF then 0 else if Fl.rung b = Fl.INF then 1 else 2
def partM (b : Nat) : Int := if Fl.rung b < Fl.INF then (Fl.pm b : Int) else 0
def partE (b : Nat) : Int := if Fl.rung b < Fl.INF then (Fl.pe b : Int) - 1074 else 0

theorem results_tmp4 {fn : Func} {t u v x : Tmp} (h : fn.results = #[.tmp t, .tmp u, .tmp v, .tmp x]) (tmps : Array Value) (P : Program) (w : World) :
    (results fn tmps).run P w = .ok (.tuple #[tmps.getD t undef, tmps.getD u undef, tmps.getD v undef, tmps.getD x undef]) w := by simp [results, h]
theorem ret_parts {s s' : Bool} {m m' e e' k k' : Int} (h1 : s = s') (h2 : m = m') (h3 : e = e') (h4 : k = k') :
    Ending.returned (.tuple #[.bool s, .int .u64 m, .int .i64 e, .int .i64 k]) = .returned (.tuple #[.bool s', .int .u64 m', .int .i64 e', .int .i64 k']) := by rw [h1, h2, h3, h4]
theorem sg_walk {b : Nat} (hb : b < 18446744073709551616) : ((b : Int) / 9223372036854775808 == 1) = Fl.sg b := by
  unfold Fl.sg
  rw [Bool.eq_iff_iff, beq_iff_eq, beq_iff_eq]; omega

theorem rung_def (b : Nat) : Fl.rung b = b % 9223372036854775808 := rfl
theorem pm_def (b : Nat) : Fl.pm b = if Fl.rung b < 4503599627370496 then Fl.rung b else 4503599627370496 + Fl.rung b % 4503599627370496 := rfl
theorem pe_def (b : Nat) : Fl.pe b = if Fl.rung b < 4503599627370496 then 0 else Fl.rung b / 4503599627370496 - 1 := rfl

theorem parts_any (b : Nat) (w : World) (hb : b < 18446744073709551616) :
    Calls Try.prog 39 #[.float .f64 b] w fun e w' => e = .returned (.tuple #[.bool (Fl.sg b), .int .u64 (partM b), .int .i64 (partE b), .int .i64 (kindOf b)]) ∧ w = w' := by
  go_enter Try.func39, Try.ntmps39
  go_wp2
  all_goals
    refine bodyPost_ret (results_tmp4 rfl _ _ _) rfl ?_
    have h1 := rung_def b
    have h2 := Fl.INF_val
    have h3 := pm_def b
    have h4 := pe_def b
    refine ⟨ret_parts (sg_walk hb) ?_ ?_ ?_, rfl⟩
    all_goals simp only [beq_iff_eq, beq_eq_false_iff_ne, ne_eq] at *
    · simp only [partM]
      split
      · rw [h3]; split <;> omega
      · first | rfl | omega
    · simp only [partE]; split
      · rw [h4]; split <;> omega
      · first | rfl | omega
    · simp only [kindOf]; (repeat' split) <;> first | rfl | omega
end Go.Proofs.Ytjjneiidggcfdaa
set_option linter.unusedVariables false
namespace Go.Proofs.Ytjjneiidggcfdaa
open Go.RowKit

/-- An int's range. -/
def I64 (z : Int) : Prop := -9223372036854775808 ≤ z ∧ z < 9223372036854775808

theorem Blk.nxt {w w' : World} {g : Nat} {t : TypeId} {cs : Array Value} (h : Blk w g t cs) (hb : Below w.heap.size w w') : Blk w' g t cs := h.below hb h.lt
theorem cells5 {w : World} {g : Nat} {t : TypeId} {v0 v1 v2 v3 v4 : Value} (h : Blk w g t #[v0, v1, v2, v3, v4]) :
    w.cell? ⟨g, 0, none⟩ = some v0 ∧ w.cell? ⟨g, 1, none⟩ = some v1 ∧ w.cell? ⟨g, 2, none⟩ = some v2 ∧ w.cell? ⟨g, 3, none⟩ = some v3 ∧ w.cell? ⟨g, 4, none⟩ = some v4 :=
  ⟨h.cell 0, h.cell 1, h.cell 2, h.cell 3, h.cell 4⟩
/-- A matrix. -/
def mat (A : Option Addr) (n c : Nat) (off r k ld : Int) : Value := .agg #[.slice A n c, .int .i64 off, .int .i64 r, .int .i64 k, .int .i64 ld]
/-- Is the last of n numbers, from off on and inc apart, below L? -/
def reachB (L off n inc : Int) : Bool := decide (off + (n - 1) * inc < L)
theorem reach_iff {L off n inc : Int} (hinc : 1 ≤ inc) (hl : off < L) : (n - 1 ≤ (L - 1 - off) / inc) ↔ off + (n - 1) * inc < L := by
  rw [Int.le_ediv_iff_mul_le (by omega)]; omega

theorem wrap_id {z : Int} (h : I64 z) : wrap64 z = z := by unfold I64 at h; unfold wrap64; omega

theorem reaches_any (L off n inc : Int) (w : World) (hL : L < 9223372036854775808) (ho : 0 ≤ off ∧ off < 9223372036854775808) (hn : 1 ≤ n ∧ n < 9223372036854775808) (hi : 1 ≤ inc ∧ inc < 9223372036854775808) :
    Calls Try.prog 67 #[.int .i64 L, .int .i64 off, .int .i64 n, .int .i64 inc] w fun e w' => e = .returned (.bool (reachB L off n inc)) ∧ w = w' := by
  go_enter Try.func67, Try.ntmps67
  by_cases h1 : off < L
  · have d1 : decide (off < L) = true := by simp [h1]
    have e0 : (inc == 0) = false := by simp; omega
    have e1 : wrap64 (n - 1) = n - 1 := by unfold wrap64; omega
    have e2 : wrap64 (L - 1) = L - 1 := by unfold wrap64; omega
    have e3 : wrap64 (L - 1 - off) = L - 1 - off := by unfold wrap64; omega
    go_wp2
    all_goals
      go_ret
      exact ⟨ret_bool (decide_eq_decide.2 (reach_iff hi.1 h1)), rfl⟩
  · have d1 : decide (off < L) = false := by simp; omega
    have hle : 0 ≤ (n - 1) * inc := Int.mul_nonneg (by omega) (by omega)
    go_wp2
    all_goals
      go_ret
      exact ⟨ret_bool (decide_eq_false (by omega)).symm, rfl⟩

/-- Is a vector of k numbers in a list of n right? -/
def vecB (n : Nat) (off k inc : Int) : Bool := decide (0 ≤ k ∧ 1 ≤ inc ∧ 0 ≤ off ∧ (k = 0 ∨ off + (k - 1) * inc < n))
/-- Is a matrix of r rows and k columns in a list of n right? -/
def matB (n : Nat) (off r k ld : Int) : Bool := decide (0 ≤ r ∧ 0 ≤ k ∧ 1 ≤ ld ∧ r ≤ ld ∧ 0 ≤ off ∧ (r = 0 ∨ k = 0 ∨ off + (k - 1) * ld + (r - 1) < n))

theorem right_any (A : Option Addr) (n c : Nat) (off k inc : Int) (w : World) (hn : n < 9223372036854775808) (ho : I64 off) (hk : I64 k) (hi : I64 inc) :
    Calls Try.prog 40 #[.agg #[.slice A n c, .int .i64 off, .int .i64 k, .int .i64 inc]] w fun e w' => e = .returned (.bool (vecB n off k inc)) ∧ Below w.heap.size w w' := by
  unfold I64 at ho hk hi
  go_enter Try.func40, Try.ntmps40
  have hbel := fun (o : Obj) => (Below.refl w.heap.size w).alloc (Nat.le_refl _) o
  by_cases h1 : k < 0 ∨ inc < 1 ∨ off < 0
  · have hv : vecB n off k inc = false := decide_eq_false (by omega)
    go_wp2
    all_goals
      go_ret
      first | exact ⟨rfl, hbel _⟩ | exact ⟨ret_bool hv.symm, hbel _⟩
  · have d1 : decide (k < 0) = false := by simp; omega
    have d2 : decide (inc < 1) = false := by simp; omega
    have d3 : decide (off < 0) = false := by simp; omega
    by_cases h2 : k = 0
    · subst h2
      have hv : vecB n off 0 inc = true := decide_eq_true (by omega)
      go_wp2
      all_goals
        go_ret
        first | exact ⟨rfl, hbel _⟩ | exact ⟨ret_bool hv.symm, hbel _⟩
    · have d4 : (k == 0) = false := by simp [h2]
      have hv : reachB n off k inc = vecB n off k inc := decide_eq_decide.2 (by omega)
      go_wp2_with fail
      refine (reaches_any n off k inc _ (by omega) (by omega) (by omega) (by omega)).mono ?_
      rintro e w' ⟨rfl, rfl⟩
      go_wp2_with fail
      go_ret
      first | exact ⟨rfl, hbel _⟩ | exact ⟨ret_bool hv.symm, hbel _⟩

theorem none_any (A : Option Addr) (n c : Nat) (off r k ld : Int) (w : World) :
    Calls Try.prog 80 #[.agg #[.slice A n c, .int .i64 off, .int .i64 r, .int .i64 k, .int .i64 ld]] w fun e w' => e = .returned (.bool (r == 0 || k == 0)) ∧ Below w.heap.size w w' := by
  go_enter Try.func80, Try.ntmps80
  have hbel := fun (o : Obj) => (Below.refl w.heap.size w).alloc (Nat.le_refl _) o
  go_wp2
  all_goals
    go_ret
    exact ⟨ret_bool (by simp_all), hbel _⟩

theorem good_any (A : Option Addr) (n c : Nat) (off r k ld : Int) (w : World) (hn : n < 9223372036854775808) (ho : I64 off) (hr : I64 r) (hk : I64 k) (hi : I64 ld) :
    Calls Try.prog 79 #[.agg #[.slice A n c, .int .i64 off, .int .i64 r, .int .i64 k, .int .i64 ld]] w fun e w' => e = .returned (.bool (matB n off r k ld)) ∧ Below w.heap.size w w' := by
  unfold I64 at ho hr hk hi
  go_enter Try.func79, Try.ntmps79
  have hbel := fun (o : Obj) => (Below.refl w.heap.size w).alloc (Nat.le_refl _) o
  by_cases h1 : r < 0 ∨ k < 0 ∨ ld < max 1 r ∨ off < 0
  · have hv : matB n off r k ld = false := decide_eq_false (by omega)
    go_wp2
    all_goals
      go_ret
      first | exact ⟨rfl, hbel _⟩ | exact ⟨ret_bool hv.symm, hbel _⟩
  · have d1 : decide (r < 0) = false := by simp; omega
    have d2 : decide (k < 0) = false := by simp; omega
    have d3 : decide (ld < 1) = false := by simp; omega
    have d3' : decide (ld < r) = false := by simp; omega
    have d4 : decide (off < 0) = false := by simp; omega
    by_cases h2 : r = 0 ∨ k = 0
    · have d5 : (r == 0 || k == 0) = true := by simpa using h2
      have hv : matB n off r k ld = true := decide_eq_true (by omega)
      go_wp2_with fail
      all_goals
        refine (none_any A n c off r k ld _).mono ?_
        rintro e w' ⟨rfl, b1⟩
        go_wp2_with fail
        go_ret
        first | exact ⟨rfl, (hbel _).trans (b1.mono (by simp))⟩ | exact ⟨ret_bool hv.symm, (hbel _).trans (b1.mono (by simp))⟩
    · have d5 : (r == 0 || k == 0) = false := by simpa using h2
      have e1 : wrap64 (r - 1) = r - 1 := by unfold wrap64; omega
      have e2 : wrap64 ((n : Int) - (r - 1)) = (n : Int) - (r - 1) := by unfold wrap64; omega
      have hv : reachB ((n : Int) - (r - 1)) off k ld = matB n off r k ld := decide_eq_decide.2 (by omega)
      go_wp2_with fail
      all_goals
        refine (none_any A n c off r k ld _).mono ?_
        rintro e w' ⟨rfl, b1⟩
        obtain ⟨c0, c1, c2, c3, c4⟩ := cells5 ((Blk.new w 95 _).nxt b1)
        go_wp2_with fail
        refine (reaches_any _ off k ld _ (by omega) (by omega) (by omega) (by omega)).mono ?_
        rintro e w' ⟨rfl, rfl⟩
        go_wp2_with fail
        go_ret
        first | exact ⟨rfl, (hbel _).trans (b1.mono (by simp))⟩ | exact ⟨ret_bool hv.symm, (hbel _).trans (b1.mono (by simp))⟩

end Go.Proofs.Ytjjneiidggcfdaa
set_option linter.unusedVariables false
namespace Go.Proofs.Ytjjneiidggcfdaa
open Go.RowKit Go.WideShapes Go.ChangeShapes Go.Deep

/-- The cells of a list of floats. -/
def f64s (l : List Nat) : List Value := l.map fun (b : Nat) => Value.float .f64 b
theorem f64s_get? {l : List Nat} {i : Nat} {v : Value} (h : (f64s l)[i]? = some v) : ∃ hi : i < l.length, v = .float .f64 l[i] := by
  unfold f64s at h
  rw [List.getElem?_map] at h
  rcases Nat.lt_or_ge i l.length with hl | hl
  · rw [List.getElem?_eq_getElem hl] at h
    exact ⟨hl, by simpa using h.symm⟩
  · rw [List.getElem?_eq_none hl] at h; cases h
theorem f64s_get (l : List Nat) (i : Nat) (h : i < l.length) : (f64s l)[i]? = some (.float .f64 l[i]) := by simp [f64s, h]
/-- Each is a word. -/
def Wds (l : List Nat) : Prop := ∀ b ∈ l, b < 18446744073709551616
theorem Wds.at_ {l : List Nat} (h : Wds l) (i : Nat) (hi : i < l.length) : l[i] < 18446744073709551616 := h _ (List.getElem_mem hi)

section
variable {H : Type} {enc : TypeId × Value → H} {P : Program} {w : World} {base : Nat} {spare : Nat → Bool} {held : Bool}
/-- A vector. -/
def vec (A : Option Addr) (n c : Nat) (off k inc : Int) : Value := .agg #[.slice A n c, .int .i64 off, .int .i64 k, .int .i64 inc]

theorem open_f64 {t : TypeId} {v : Value} {d : DataW H} {p : List MemPlace} {r : Reach} {b0 : Nat} (ht : P.underlying t = some (.float .f64)) (hv : Value.okWide P w r b0 t v) (h : DataW.Trod enc P w base spare held t v d p) : ∃ b : Nat, v = .float .f64 b ∧ b < 18446744073709551616 := by
  obtain ⟨b, rfl, _, _, hw⟩ := open_float ht hv h
  exact ⟨b, rfl, by simpa [Lit.wf] using hw⟩
end
end Go.Proofs.Ytjjneiidggcfdaa
set_option linter.unusedVariables false
namespace Go.Proofs.Ytjjneiidggcfdaa

theorem add_step {L : List Nat} (hL : Digs Q L) {i x y c : Nat} (hi : i < L.length) (hx : L[i] = x) (hy : y < Q) (hc : c ≤ 1) :
    Digs Q (L.set i ((x + y + c) % Q)) ∧ (L.set i ((x + y + c) % Q)).length = L.length ∧ (x + y + c) / Q ≤ 1 ∧
      ofd Q (L.set i ((x + y + c) % Q)) + Q ^ (i + 1) * ((x + y + c) / Q) = ofd Q L + Q ^ i * (y + c) := by
  have hq := Q_val
  have hx' : x < Q := by rw [← hx]; exact hL.get i hi
  refine ⟨hL.set i (Nat.mod_lt _ (by omega)), by simp, ?_, ?_⟩
  · rw [Nat.div_le_iff_le_mul_add_pred (by omega)]; omega
  · have h1 := ofd_set Q L i ((x + y + c) % Q) hi
    rw [hx] at h1
    have h2 := Nat.mod_add_div (x + y + c) Q
    generalize (x + y + c) % Q = r at *
    generalize (x + y + c) / Q = q at *
    rw [Nat.pow_succ]
    generalize Q ^ i = P at *
    have : P * (r + Q * q) = P * (x + y + c) := by rw [h2]
    rw [Nat.mul_add, Nat.mul_add, Nat.mul_add] at this
    rw [Nat.mul_assoc, Nat.mul_add]
    omega
/-- The digits' word and what is carried behind it, shifted by s. -/
theorem shl_split {d s : Nat} (hs : s < 64) : d * 2 ^ s = d * 2 ^ s % Q + Q * (d / 2 ^ (64 - s)) := by
  have h := Nat.mod_add_div (d * 2 ^ s) Q
  have e : d * 2 ^ s / Q = d / 2 ^ (64 - s) := by
    have : Q = 2 ^ (64 - s) * 2 ^ s := by rw [← Nat.pow_add, show 64 - s + s = 64 by omega]; rfl
    rw [this, Nat.mul_div_mul_right _ _ (Nat.two_pow_pos s)]
  rw [e] at h
  exact h.symm
theorem behind_lt {d s : Nat} (hs : s < 64) (hd : d < Q) : d / 2 ^ (64 - s) < 2 ^ s := by
  rw [Nat.div_lt_iff_lt_mul (Nat.two_pow_pos _), ← Nat.pow_add, show s + (64 - s) = 64 by omega]; exact hd
theorem shl_room {d b s : Nat} (hs : s < 64) (hb : b < 2 ^ s) : d * 2 ^ s % Q + b < Q ∧ d * 2 ^ s % Q % 2 ^ s = 0 := by
  have e : Q = 2 ^ (64 - s) * 2 ^ s := by rw [← Nat.pow_add, show 64 - s + s = 64 by omega]; rfl
  have h : d * 2 ^ s % Q = d % 2 ^ (64 - s) * 2 ^ s := by rw [e, Nat.mul_mod_mul_right]
  have h2 : d % 2 ^ (64 - s) < 2 ^ (64 - s) := Nat.mod_lt _ (Nat.two_pow_pos _)
  refine ⟨?_, by rw [h]; simp⟩
  rw [h]
  have h3 : (d % 2 ^ (64 - s) + 1) * 2 ^ s ≤ 2 ^ (64 - s) * 2 ^ s := Nat.mul_le_mul_right _ h2
  rw [← e, Nat.add_mul] at h3
  omega
/-- The first loop of add: k words of D are in. -/
def Add1 (L D : List Nat) (p : Nat) (k : Nat) (M : List Nat) (c b : Nat) : Prop :=
  Digs Q M ∧ M.length = L.length ∧ c ≤ 1 ∧ b < 2 ^ (p % 64) ∧ ofd Q M + Q ^ (p / 64 + k) * (c + b) = ofd Q L + 2 ^ p * ofd Q (D.take k)
theorem Add1.start {L D : List Nat} {p : Nat} (h : Digs Q L) : Add1 L D p 0 L 0 0 := ⟨h, rfl, by omega, Nat.two_pow_pos _, by simp [ofd]⟩
theorem Add1.step (L D : List Nat) (p k : Nat) (M : List Nat) (c b d x : Nat) (h : Add1 L D p k M c b) (hk : k < D.length) (hd : D[k] = d) (hdq : d < Q) (hi : p / 64 + k < M.length) (hx : M[p / 64 + k] = x) :
    Add1 L D p (k + 1) (M.set (p / 64 + k) ((x + (d * 2 ^ (p % 64) % Q + b) + c) % Q)) ((x + (d * 2 ^ (p % 64) % Q + b) + c) / Q) (d / 2 ^ (64 - p % 64)) := by
  obtain ⟨h1, h2, h3, h4, h5⟩ := h
  have hs : p % 64 < 64 := Nat.mod_lt _ (by omega)
  obtain ⟨r1, r2⟩ := shl_room (d := d) hs h4
  obtain ⟨s1, s2, s3, s4⟩ := add_step h1 hi hx r1 h3
  refine ⟨s1, s2.trans h2, s3, behind_lt hs hdq, ?_⟩
  have e1 := shl_split (d := d) hs
  have e2 : 2 ^ p * Q ^ k = Q ^ (p / 64 + k) * 2 ^ (p % 64) := by
    rw [Q_pow, ← Nat.pow_mul, ← Nat.pow_mul, ← Nat.pow_add, ← Nat.pow_add]
    congr 1; omega
  rw [ofd_take_succ Q D k hk, hd, ← Nat.add_assoc (p / 64) k 1]
  rw [Nat.pow_succ] at s4 ⊢
  generalize d / 2 ^ (64 - p % 64) = b' at *
  generalize d * 2 ^ (p % 64) % Q = r at *
  generalize Q ^ (p / 64 + k) = P at *
  generalize (x + (r + b) + c) / Q = C at *
  generalize ofd Q (M.set (p / 64 + k) ((x + (r + b) + c) % Q)) = X at *
  generalize ofd Q (D.take k) = T at *
  generalize 2 ^ p = W at *
  generalize Q ^ k = K at *
  generalize 2 ^ (p % 64) = S at *
  have m1 : P * (d * S) = P * (r + Q * b') := by rw [← e1]
  have m2 : W * K * d = P * S * d := by rw [e2]
  clear hi hx hd hdq h1 h2 h3 h4 r1 r2 s1 s2 s3 e1 e2 hk hs
  generalize Q = q at *
  simp only [Nat.mul_add, Nat.mul_comm, Nat.mul_left_comm] at *
  omega
/-- The second loop of add. -/
def Add2 (n T : Nat) (i : Nat) (M : List Nat) (c r : Nat) : Prop := Digs Q M ∧ M.length = n ∧ c ≤ 1 ∧ r < Q ∧ ofd Q M + Q ^ i * (c + r) = T
theorem Add2.start {L D : List Nat} {p : Nat} {M : List Nat} {c b n : Nat} (h : Add1 L D p D.length M c b) (hn : L.length = n) : Add2 n (ofd Q L + 2 ^ p * ofd Q D) (p / 64 + D.length) M c b := by
  obtain ⟨h1, h2, h3, h4, h5⟩ := h
  rw [List.take_of_length_le (Nat.le_refl _)] at h5
  refine ⟨h1, h2.trans hn, h3, Nat.lt_of_lt_of_le h4 ?_, h5⟩
  rw [Q_pow]; exact Nat.pow_le_pow_right (by omega) (by omega)
theorem Add2.step {n T i : Nat} {M : List Nat} {c r x : Nat} (h : Add2 n T i M c r) (hi : i < M.length) (hx : M[i] = x) :
    Add2 n T (i + 1) (M.set i ((x + r + c) % Q)) ((x + r + c) / Q) 0 := by
  obtain ⟨h1, h2, h3, h4, h5⟩ := h
  obtain ⟨s1, s2, s3, s4⟩ := add_step h1 hi hx h4 h3
  refine ⟨s1, s2.trans h2, s3, by have := Q_val; omega, ?_⟩
  show ofd Q (M.set i ((x + r + c) % Q)) + Q ^ (i + 1) * ((x + r + c) / Q) = T
  rw [s4, ← h5, Nat.add_comm r c]
theorem Add2.done {n T i : Nat} {M : List Nat} (h : Add2 n T i M 0 0) : Digs Q M ∧ M.length = n ∧ ofd Q M = T := by
  obtain ⟨h1, h2, _, _, h5⟩ := h
  exact ⟨h1, h2, by simpa using h5⟩
end Go.Proofs.Ytjjneiidggcfdaa
set_option linter.unusedVariables false
namespace Go.Proofs.Ytjjneiidggcfdaa

/-- The first loop of difference. -/
def Dif1 (L1 L2 : List Nat) (k : Nat) (M : List Nat) (b : Nat) : Prop := Digs Q M ∧ M.length = L1.length ∧ b ≤ 1 ∧ ofd Q M + ofd Q (L2.take k) = ofd Q L1 + Q ^ k * b
theorem Dif1.start {L1 L2 : List Nat} (h : Digs Q L1) : Dif1 L1 L2 0 L1 0 := ⟨h, rfl, by omega, by simp [ofd]⟩
theorem Dif1.step (L1 L2 : List Nat) (k : Nat) (M : List Nat) (b x y : Nat) (h : Dif1 L1 L2 k M b) (hi : k < M.length) (hx : M[k] = x) (hk : k < L2.length) (hy : L2[k] = y) (hyq : y < Q) :
    Dif1 L1 L2 (k + 1) (M.set k ((x + Q - y - b) % Q)) (if x < y + b then 1 else 0) := by
  obtain ⟨h1, h2, h3, h4⟩ := h
  have hq := Q_val
  have hxq : x < Q := by rw [← hx]; exact h1.get k hi
  refine ⟨h1.set k (Nat.mod_lt _ (by omega)), by simpa using h2, by split <;> omega, ?_⟩
  have s1 := ofd_set Q M k ((x + Q - y - b) % Q) hi
  rw [hx] at s1
  have e : (x + Q - y - b) % Q + y + b = x + Q * (if x < y + b then 1 else 0) := by
    split
    · rename_i hlt; rw [Nat.mod_eq_of_lt (by omega)]; omega
    · rename_i hge
      have : x + Q - y - b = x - y - b + Q * 1 := by omega
      rw [this, Nat.add_mul_mod_self_left, Nat.mod_eq_of_lt (by omega)]; omega
  generalize (x + Q - y - b) % Q = v at *
  generalize (if x < y + b then 1 else 0) = B at *
  rw [ofd_take_succ Q L2 k hk, hy, Nat.pow_succ]
  generalize ofd Q (M.set k v) = X at *
  generalize Q ^ k = P at *
  have m : P * (v + y + b) = P * (x + Q * B) := by rw [e]
  rw [Nat.mul_add, Nat.mul_add, Nat.mul_add, ← Nat.mul_assoc] at m
  omega
/-- The second loop of difference. -/
def Dif2 (M0 : List Nat) (k : Nat) (M : List Nat) (c : Nat) : Prop :=
  Digs Q M ∧ M.length = M0.length ∧ c ≤ 1 ∧ M.drop k = M0.drop k ∧ ofd Q (M.take k) + Q ^ k * c + ofd Q (M0.take k) = Q ^ k
theorem Dif2.start {M0 : List Nat} (h : Digs Q M0) : Dif2 M0 0 M0 1 := ⟨h, rfl, by omega, rfl, by simp [ofd]⟩
theorem Dif2.step (M0 : List Nat) (k : Nat) (M : List Nat) (c x : Nat) (h : Dif2 M0 k M c) (hi : k < M.length) (hx : M[k] = x) :
    Dif2 M0 (k + 1) (M.set k ((Q - 1 - x + 0 + c) % Q)) ((Q - 1 - x + 0 + c) / Q) := by
  obtain ⟨h1, h2, h3, h4, h5⟩ := h
  have hq := Q_val
  have hxq : x < Q := by rw [← hx]; exact h1.get k hi
  have hx0 : M0[k]'(by omega) = x := by
    have : (M.drop k)[0]? = (M0.drop k)[0]? := by rw [h4]
    rw [List.getElem?_drop, List.getElem?_drop, List.getElem?_eq_getElem (by omega), List.getElem?_eq_getElem (by omega)] at this
    simpa [hx] using this.symm
  have hd : (Q - 1 - x + 0 + c) % Q + Q * ((Q - 1 - x + 0 + c) / Q) + x = Q - 1 + c := by
    have := Nat.mod_add_div (Q - 1 - x + 0 + c) Q; omega
  refine ⟨h1.set k (Nat.mod_lt _ (by omega)), by simpa using h2, ?_, ?_, ?_⟩
  · rw [Nat.div_le_iff_le_mul_add_pred (by omega)]; omega
  · rw [drop_set_succ, ← List.drop_drop, ← List.drop_drop, h4]
  · rw [ofd_take_set Q M k _ hi, ofd_take_succ Q M0 k (by omega), hx0, Nat.pow_succ]
    generalize (Q - 1 - x + 0 + c) % Q = v at *
    generalize (Q - 1 - x + 0 + c) / Q = C at *
    generalize Q ^ k = P at *
    have m : P * (v + Q * C + x) = P * (Q - 1 + c) := by rw [hd]
    have m2 : P * (Q - 1 + c) + P = P * Q + P * c := by
      rw [← Nat.mul_add_one, ← Nat.mul_add]; congr 1; omega
    rw [Nat.mul_add, Nat.mul_add, ← Nat.mul_assoc] at m
    omega
end Go.Proofs.Ytjjneiidggcfdaa
set_option linter.unusedVariables false
namespace Go.Proofs.Ytjjneiidggcfdaa
open Go.RowKit
attribute [local go_sem ↓] ib_andNot_sign ib_and_frac ib_and_15 ib_and_1 ib_and_sign ib_and_inf ib_or

attribute [local go_sem ↓ low] ib_and

theorem two_pow_half (n : Nat) (hn : 1 ≤ n) : 2 ^ n = 2 * 2 ^ (n - 1) := by
  rw [show n = n - 1 + 1 by omega, Nat.pow_succ, show n - 1 + 1 - 1 = n - 1 by omega]; omega
theorem rne_half (m n : Nat) (hn : 1 ≤ n) : Fl.rne m n = m / 2 ^ n + if 2 ^ (n - 1) < m % 2 ^ n ∨ (2 ^ (n - 1) = m % 2 ^ n ∧ m / 2 ^ n % 2 = 1) then 1 else 0 := by
  unfold Fl.rne
  have h := two_pow_half n hn
  have a : 2 ^ n < 2 * (m % 2 ^ n) ↔ 2 ^ (n - 1) < m % 2 ^ n := by omega
  have b : 2 ^ n = 2 * (m % 2 ^ n) ↔ 2 ^ (n - 1) = m % 2 ^ n := by omega
  simp only [a, b]
end Go.Proofs.Ytjjneiidggcfdaa
set_option linter.unusedVariables false
namespace Go.Proofs.Ytjjneiidggcfdaa
open Go.RowKit
attribute [local go_sem ↓] Go.wp_at_zero Go.wp_at_succ

theorem Only.alloc {g : Nat} {w w' : World} (h : Only g w w') (o : Obj) : Only g w (w'.alloc o) :=
  ⟨h.os, h.tape, h.output, Nat.le_trans h.size (by simp), fun i hi hne => (Below.heap_alloc w' o i (Nat.lt_of_lt_of_le hi h.size)).trans (h.block i hi hne)⟩
theorem Only.new_ {g : Nat} {w w' : World} (h : Only g w w') (i : Nat) (u : Value) (k : Nat) (hk : w.heap.size ≤ k) : Only g w (w'.setCell ⟨k, i, none⟩ u) :=
  ⟨h.os, h.tape, h.output, by simpa [World.setCell] using h.size, fun j hj hne => (Below.heap_setCell w' _ u j (by simp; omega)).trans (h.block j hj hne)⟩

end Go.Proofs.Ytjjneiidggcfdaa
set_option linter.unusedVariables false
namespace Go.Proofs.Ytjjneiidggcfdaa
open Go.RowKit
attribute [local go_sem ↓] Go.wp_at_zero Go.wp_at_succ

/-- The slice's elements are the whole numbers. -/
def Wholes (w : World) (b o : Nat) (zs : List Int) : Prop :=
  ∀ (i : Nat) (h : i < zs.length), ∃ A n c, w.cell? ⟨b, o + i * 2, none⟩ = some (.bool (ng zs[i])) ∧ w.cell? ⟨b, o + i * 2 + 1, none⟩ = some (.slice A n c) ∧ Wh w A n c zs[i]
theorem Wholes.below {w w' : World} {b o : Nat} {zs : List Int} (h : Wholes w b o zs) (hb : Below w.heap.size w w') : Wholes w' b o zs := fun i hi => by
  obtain ⟨A, n, c, h1, h2, h3⟩ := h i hi
  exact ⟨A, n, c, cell_below h1 hb, cell_below h2 hb, h3.below hb⟩
/-- The slice's numbers. -/
def Pows (w : World) (b o : Nat) (ps : List Nat) : Prop := ∀ (i : Nat) (h : i < ps.length), w.cell? ⟨b, o + i, none⟩ = some (.int .i64 (ps[i] : Int))
theorem Pows.below {w w' : World} {b o : Nat} {ps : List Nat} (h : Pows w b o ps) (hb : Below w.heap.size w w') : Pows w' b o ps := fun i hi => cell_below (h i hi) hb
/-- The sizes of the numbers that are below 0 (s), or aren't, each at its place. -/
def acc (s : Bool) (zs : List Int) (ps : List Nat) : Nat → Nat
  | 0 => 0
  | k + 1 => acc s zs ps k + if ng (zs.getD k 0) = s then 2 ^ ps.getD k 0 * (zs.getD k 0).natAbs else 0
/-- The two lists that are summed up, when k numbers are in. -/
def Acc2 (zs : List Int) (ps : List Nat) (W k : Nat) (M1 M2 : List Nat) : Prop :=
  Digs Q M1 ∧ Digs Q M2 ∧ M1.length = W ∧ M2.length = W ∧ ofd Q M1 = acc false zs ps k ∧ ofd Q M2 = acc true zs ps k
theorem Acc2.start (zs : List Int) (ps : List Nat) (W : Nat) : Acc2 zs ps W 0 (List.replicate W 0) (List.replicate W 0) :=
  ⟨Digs.replicate (by unfold Q; omega) _, Digs.replicate (by unfold Q; omega) _, by simp, by simp, ofd_replicate _ _, ofd_replicate _ _⟩
end Go.Proofs.Ytjjneiidggcfdaa
set_option linter.unusedVariables false
namespace Go.Proofs.Ytjjneiidggcfdaa
open Go.RowKit
attribute [local go_sem ↓] Go.wp_at_zero Go.wp_at_succ

/-- What halved has laid after k words. -/
def Half (x W k : Nat) (M : List Nat) : Prop := Digs Q M ∧ M.length = W ∧ ofd Q (M.take k) = x % Q ^ k
theorem Half.start (x W : Nat) : Half x W 0 (List.replicate W 0) := ⟨Digs.replicate (by unfold Q; omega) _, by simp, by simp [ofd, Nat.mod_one]⟩
theorem Half.step {x W k : Nat} {M : List Nat} (h : Half x W k M) (hk : k < W) : Half x W (k + 1) (M.set k (x / Q ^ k % Q)) := by
  obtain ⟨h1, h2, h3⟩ := h
  refine ⟨h1.set k (Nat.mod_lt _ (by unfold Q; omega)), by simpa using h2, ?_⟩
  rw [ofd_take_set Q M k _ (by omega), h3, Nat.mod_pow_succ]
theorem Half.done {x W : Nat} {M : List Nat} (h : Half x W W M) (hx : x < Q ^ W) : ofd Q M = x := by
  obtain ⟨h1, h2, h3⟩ := h
  rw [ofd_take_all _ _ _ (by omega), Nat.mod_eq_of_lt hx] at h3
  exact h3
end Go.Proofs.Ytjjneiidggcfdaa
set_option linter.unusedVariables false
namespace Go.Proofs.Ytjjneiidggcfdaa
open Go.RowKit
attribute [local go_sem ↓] Go.wp_at_zero Go.wp_at_succ

theorem Blk.next {w w' : World} {g : Nat} {t : TypeId} {cs : Array Value} (h : Blk w g t cs) (hb : Below w.heap.size w w') : Blk w' g t cs := h.below hb h.lt

end Go.Proofs.Ytjjneiidggcfdaa
set_option linter.unusedVariables false
namespace Go.Proofs.Ytjjneiidggcfdaa
open Go.RowKit
attribute [local go_sem ↓] Go.wp_at_zero Go.wp_at_succ

def ints (l : List Nat) : List Value := l.map fun (d : Nat) => Value.int .i64 (d : Int)
theorem ints_get (l : List Nat) (i : Nat) (h : i < l.length) : (ints l)[i]? = some (.int .i64 (l[i] : Int)) := by simp [ints, h]
/-- The number that the digits to base 65536 make. -/
def rdy (neg : Bool) (l : List Nat) (e : Int) : Dyadic := dy (if neg then -(ofd 65536 l : Int) else (ofd 65536 l : Int)) (16 * e)
/-- Neither end is a nought. -/
def Neat (neg : Bool) (l : List Nat) (e : Int) : Prop := (l = [] ∧ neg = false ∧ e = 0) ∨ (l ≠ [] ∧ l.head? ≠ some 0 ∧ l.getLast? ≠ some 0)
/-- The block is one of ints. -/
def IntB (w : World) (b : Nat) : Prop := ∃ cs fr, w.heap[b]? = some (.cells cs 3 fr)
theorem IntB.lt {w : World} {b : Nat} (h : IntB w b) : b < w.heap.size := by
  obtain ⟨cs, fr, h⟩ := h
  exact (Array.getElem?_eq_some_iff.1 h).1
theorem IntB.below {w w' : World} {b : Nat} (h : IntB w b) (hb : Below w.heap.size w w') : IntB w' b := by
  obtain ⟨cs, fr, h1⟩ := h
  exact ⟨cs, fr, (hb.block b (IntB.lt ⟨cs, fr, h1⟩)).trans h1⟩
theorem IntB.of_blk {w : World} {b : Nat} {cs : Array Value} (h : Blk w b 3 cs) : IntB w b := ⟨cs, _, h⟩
theorem IntB.ne {w : World} {b g : Nat} {t : TypeId} {cs : Array Value} (h : IntB w b) (hB : Blk w g t cs) (ht : t ≠ 3) : b ≠ g := by
  rintro rfl
  obtain ⟨cs', fr, h1⟩ := h
  unfold Blk at hB
  rw [h1] at hB
  injection hB with hB
  injection hB with _ e _
  exact ht e.symm
/-- The slice holds the digits. -/
def Rd (w : World) (A : Option Addr) (n c : Nat) (l : List Nat) : Prop := n = l.length ∧ n ≤ c ∧ Row w A (ints l) ∧ Digs 65536 l ∧ ∀ b y, A = some ⟨b, y, none⟩ → l ≠ [] → IntB w b
theorem Rd.below {w w' : World} {A : Option Addr} {n c : Nat} {l : List Nat} (h : Rd w A n c l) (hb : Below w.heap.size w w') : Rd w' A n c l := ⟨h.1, h.2.1, h.2.2.1.below hb, h.2.2.2.1, fun b y e hl => (h.2.2.2.2 b y e hl).below hb⟩
/-- The call returned the number. -/
def RetR (d : Dyadic) (w : World) (e : Ending) (w' : World) : Prop :=
  ∃ (neg : Bool) (A : Option Addr) (n c : Nat) (E : Int) (l : List Nat), e = .returned (.agg #[.bool neg, .slice A n c, .int .i64 E]) ∧ Rd w' A n c l ∧ Neat neg l E ∧ rdy neg l E = d ∧ Below w.heap.size w w'
theorem rdy_drop (neg : Bool) (l : List Nat) (e : Int) : rdy neg (0 :: l) e = rdy neg l (e + 1) := by
  unfold rdy
  have h := dy_pow (if neg then -(ofd 65536 l : Int) else (ofd 65536 l : Int)) (16 * e) 16
  rw [show 16 * (e + 1) = 16 * e + ((16 : Nat) : Int) by omega, ← h, ofd_cons]
  congr 1
  cases neg <;> simp <;> omega
theorem rdy_take (neg : Bool) (l : List Nat) (e : Int) : rdy neg (l ++ [0]) e = rdy neg l e := by
  unfold rdy
  rw [ofd_snoc, Nat.mul_zero, Nat.add_zero]
theorem rdy_nil (neg : Bool) (e : Int) : rdy neg [] e = 0 := by
  unfold rdy
  rw [ofd_nil]
  cases neg <;> rfl

theorem floor_any (k : Int) (w : World) (h0 : -1000000000000000000 ≤ k) (h1 : k ≤ 1000000000000000000) :
    Calls Try.prog 46 #[.int .i64 k] w fun e w' => e = .returned (.tuple #[.int .i64 (k / 16), .int .i64 (k % 16)]) ∧ w = w' := by
  go_enter Try.func46, Try.ntmps46
  go_wp2_with fail
  go_ret2
  refine ⟨?_, rfl⟩
  have e0 : ∃ t, k.tmod 16 = t ∧ -15 ≤ t ∧ t ≤ 15 ∧ (t + 16) % 16 = k % 16 := by
    rcases Int.le_total 0 k with h | h
    · exact ⟨k % 16, Int.tmod_eq_emod_of_nonneg h, by omega, by omega, by omega⟩
    · refine ⟨-((-k) % 16), ?_, by omega, by omega, by omega⟩
      rw [← Int.tmod_eq_emod_of_nonneg (show 0 ≤ -k by omega), Int.neg_tmod, Int.neg_neg]
  obtain ⟨t, ht, t1, t2, t3⟩ := e0
  have e1 : wrap64 (k.tmod 16 + 16) = t + 16 := by rw [ht]; unfold wrap64; omega
  have e2 : (t + 16).tmod 16 = k % 16 := by rw [Int.tmod_eq_emod_of_nonneg (by omega)]; exact t3
  have e3 : wrap64 (k - k % 16) = 16 * (k / 16) := by unfold wrap64; omega
  have e4 : (16 * (k / 16)).tdiv 16 = k / 16 := Int.mul_tdiv_cancel_left _ (by decide)
  have e5 : wrap64 (k / 16) = k / 16 := by unfold wrap64; omega
  show Ending.returned (.tuple #[.int .i64 (wrap64 ((wrap64 (k - (wrap64 (k.tmod 16 + 16)).tmod 16)).tdiv 16)), .int .i64 ((wrap64 (k.tmod 16 + 16)).tmod 16)]) = _
  rw [e1, e2, e3, e4, e5]
theorem power_any (k : Nat) (w : World) (hk : k ≤ 16) :
    Calls Try.prog 47 #[.int .i64 (k : Int)] w fun e w' => e = .returned (.int .i64 ((2 ^ k : Nat) : Int)) ∧ w = w' := by
  go_enter Try.func47, Try.ntmps47
  go_wp2_with fail
  go_loop [3, 4] (fun n i => ∃ j N : Nat, j ≤ k ∧ N ≤ 65536 ∧ n = .int .i64 (N : Int) ∧ i = .int .i64 (j : Int) ∧ Hid (N = 2 ^ j)) (fun _ i => k - (intOf i).toNat)
  case atStart => exact ⟨0, 1, Nat.zero_le _, by omega, rfl, rfl, Lib.hid rfl⟩
  case round =>
    obtain ⟨j, N, hj, hN, rfl, rfl, HN⟩ := hrel
    by_cases hlt : j < k
    · have hb : N * 2 ≤ 65536 := by
        have : 2 ^ (j + 1) ≤ 2 ^ 16 := Nat.pow_le_pow_right (by omega) (by omega)
        rw [HN.out, ← Nat.pow_succ]; exact this
      go_wp2_with fail
      go_round
      case rel => exact ⟨j + 1, N * 2, by omega, hb, by go_num, by go_num, Lib.hid (by rw [HN.out, Nat.pow_succ])⟩
      case measure => simp [intOf]; omega
    · have HJ := Lib.hid (show j = k by omega)
      go_wp2_with fail
      go_ret
      refine ⟨?_, rfl⟩
      show Ending.returned (.int .i64 (N : Int)) = _
      rw [HN.out, HJ.out, Int.natCast_pow]
      rfl
end Go.Proofs.Ytjjneiidggcfdaa
set_option linter.unusedVariables false
namespace Go.Proofs.Ytjjneiidggcfdaa
open Go.RowKit
attribute [local go_sem ↓] Go.wp_at_zero Go.wp_at_succ

theorem Rd.tail {w : World} {b o c d : Nat} {l : List Nat} (h : Rd w (some ⟨b, o, none⟩) (l.length + 1) c (d :: l)) : Rd w (some ⟨b, o + 1, none⟩) l.length (c - 1) l := by
  refine ⟨rfl, by have := h.2.1; omega, ?_, h.2.2.2.1.tail, fun b' y' e' _ => by
    injection e' with e'; injection e' with e1 e2
    subst e1
    exact h.2.2.2.2 b o rfl (by simp)⟩
  rcases h.2.2.1 with h | ⟨b', o', e, hc⟩
  · simp [ints] at h
  · injection e with e
    injection e with e1 e2
    subst e1 e2
    refine .inr ⟨b, o + 1, rfl, fun i v hi => ?_⟩
    have := hc (i + 1) v (by simpa [ints] using hi)
    rw [show o + 1 + i = o + (i + 1) by omega]
    exact this
theorem Rd.tail_ {w : World} {b o c d k : Nat} {l : List Nat} (h : Rd w (some ⟨b, o, none⟩) (k + 1) c (d :: l)) : Rd w (if c = 1 then some ⟨b, o, none⟩ else some ⟨b, o + 1, none⟩) k (c - 1) l := by
  have hk : k = l.length := by have := h.1; simpa using this
  subst hk
  by_cases hc : c = 1
  · have : l = [] := List.eq_nil_of_length_eq_zero (by have := h.2.1; omega)
    subst this
    exact ⟨rfl, Nat.zero_le _, .inl rfl, (fun x hx => by cases hx), fun _ _ _ hne => absurd rfl hne⟩
  · rw [if_neg hc]
    exact h.tail
theorem Rd.init {w : World} {A : Option Addr} {n c : Nat} {d : Nat} {l : List Nat} (h : Rd w A n c (l ++ [d])) : Rd w A l.length c l := by
  refine ⟨rfl, by have := h.2.1; have := h.1; simp at this; omega, ?_, fun x hx => h.2.2.2.1 x (List.mem_append_left _ hx), fun b y e _ => h.2.2.2.2 b y e (by simp)⟩
  rcases h.2.2.1 with h | ⟨b', o', e, hc⟩
  · simp [ints] at h
  · refine .inr ⟨b', o', e, fun i v hi => hc i v ?_⟩
    have hl : i < l.length := by
      rcases Nat.lt_or_ge i l.length with h | h
      · exact h
      · simp [ints, h] at hi
    rw [show ints (l ++ [d]) = ints l ++ [.int .i64 d] by simp [ints], List.getElem?_append_left (by simpa [ints] using hl)]
    exact hi
theorem Rd.at0 {w : World} {A : Option Addr} {n c : Nat} {d : Nat} {l : List Nat} (h : Rd w A n c (d :: l)) : ∃ b o, A = some ⟨b, o, none⟩ ∧ w.cell? ⟨b, o, none⟩ = some (.int .i64 (d : Int)) := by
  obtain ⟨b, o, e, _, hc⟩ := h.2.2.1.at_ (ints_get (d :: l) 0 (by simp))
  exact ⟨b, o, e, by simpa using hc⟩
theorem Rd.last {w : World} {A : Option Addr} {n c : Nat} {d : Nat} {l : List Nat} (h : Rd w A n c (l ++ [d])) : ∃ b o, A = some ⟨b, o, none⟩ ∧ w.cell? ⟨b, o + l.length, none⟩ = some (.int .i64 (d : Int)) := by
  obtain ⟨b, o, e, _, hc⟩ := h.2.2.1.at_ (ints_get (l ++ [d]) l.length (by simp))
  exact ⟨b, o, e, by simpa using hc⟩

theorem cells3 {w : World} {g : Nat} {t : TypeId} {x0 x1 x2 : Value} (h : Blk w g t #[x0, x1, x2]) : w.cell? ⟨g, 0, none⟩ = some x0 ∧ w.cell? ⟨g, 1, none⟩ = some x1 ∧ w.cell? ⟨g, 2, none⟩ = some x2 :=
  ⟨h.cell 0, h.cell 1, h.cell 2⟩
theorem Blk.store3 {w : World} {g : Nat} {t : TypeId} {x0 x1 x2 : Value} (h : Blk w g t #[x0, x1, x2]) (u0 u1 u2 : Value) : Blk (((w.setCell ⟨g, 0, none⟩ u0).setCell ⟨g, 1, none⟩ u1).setCell ⟨g, 2, none⟩ u2) g t #[u0, u1, u2] := by
  have := ((h.set_ 0 u0).set_ 1 u1).set_ 2 u2
  simpa using this
set_option maxHeartbeats 2000000 in
theorem made_any (neg : Bool) (A : Option Addr) (n c : Nat) (l : List Nat) (e : Int) (w : World) (h : Rd w A n c l) (hn : n ≤ 1099511627776) (he : e.natAbs ≤ 1000000000000000000) (hc : c ≤ 9223372036854775807) :
    Calls Try.prog 48 #[.bool neg, .slice A n c, .int .i64 e] w (RetR (rdy neg l e) w) := by
  obtain ⟨D, hD⟩ : ∃ D, rdy neg l e = D := ⟨_, rfl⟩
  rw [hD]
  have HD := Lib.hid hD
  have H := Lib.hid h
  clear hD h
  go_enter Try.func48, Try.ntmps48
  go_upto_block 0 with fail
  go_cut [1, 2] (fun a b wx => ∃ (A' : Option Addr) (n' c' : Nat) (l' : List Nat) (E : Int), a = .slice A' n' c' ∧ b = .int .i64 E ∧ n' ≤ n ∧ c' ≤ 9223372036854775807 ∧ E.natAbs ≤ 2000000000000000000 ∧ Rd w A' n' c' l' ∧ rdy neg l' E = D ∧ l'.head? ≠ some 0 ∧ wx = w.alloc (.cells #[.bool false, .slice none 0 0, .int .i64 0] 34))
  case first =>
    go_wp2_with fail
    go_loop [1, 2] (fun a b => ∃ (A' : Option Addr) (n' c' : Nat) (l' : List Nat) (E : Int), a = .slice A' n' c' ∧ b = .int .i64 E ∧ n' ≤ n ∧ c' ≤ 9223372036854775807 ∧ E.natAbs + n' ≤ 1000000000000000000 + n ∧ Hid (Rd w A' n' c' l' ∧ rdy neg l' E = D)) (fun a _ => match a with | .slice _ n _ => n | _ => 0)
    case atStart => exact ⟨A, n, c, l, e, rfl, rfl, Nat.le_refl _, hc, by omega, Lib.hid ⟨H.out, HD.out⟩⟩
    case round =>
      obtain ⟨A', n', c', l', E, rfl, rfl, hn', hc', hE, HR⟩ := hrel
      cases l' with
      | nil =>
        have h0 : n' = 0 := HR.out.1.1
        subst h0
        go_wp2_with fail
        go_meet
        exact ⟨A', 0, c', [], E, rfl, rfl, Nat.zero_le _, hc', by omega, HR.out.1, HR.out.2, by simp, rfl⟩
      | cons d t =>
        obtain ⟨b, o, rfl, hcell⟩ := HR.out.1.at0
        obtain ⟨k, rfl⟩ : ∃ k, n' = k + 1 := ⟨t.length, HR.out.1.1⟩
        have hcell' := (Below.refl w.heap.size w).alloc (Nat.le_refl _) (.cells #[.bool false, .slice none 0 0, .int .i64 0] 34)
        have hcell2 := cell_below hcell hcell'
        by_cases hd : d = 0
        · have ht : ((d : Int) == 0) = true := by simp [hd]
          have HD0 := Lib.hid hd
          clear hd hcell hcell'
          go_wp2_with fail
          go_round
          case rel => exact ⟨_, k, c' - 1, t, E + 1, rfl, rfl, by omega, by omega, by omega, Lib.hid ⟨HR.out.1.tail_, by have := HR.out.2; rw [HD0.out, rdy_drop] at this; exact this⟩⟩
          case measure => simp
        · have ht : ((d : Int) == 0) = false := by simp; omega
          have HD0 := Lib.hid hd
          clear hcell hcell' hd
          go_wp2_with fail
          go_meet
          exact ⟨_, k + 1, c', d :: t, E, rfl, rfl, hn', hc', by omega, HR.out.1, HR.out.2, by simpa using HD0.out, rfl⟩
  case rest =>
    obtain ⟨A', n', c', l', E, rfl, rfl, hn', hc', hE, hR, hDe, hh, rfl⟩ := hcut
    have HR := Lib.hid hR
    have HDe := Lib.hid hDe
    have HH := Lib.hid hh
    clear hR hDe hh
    go_wp2_with fail
    go_loop [1] (fun a => ∃ (A'' : Option Addr) (n'' c'' : Nat) (l'' : List Nat), a = .slice A'' n'' c'' ∧ n'' ≤ n ∧ c'' ≤ 9223372036854775807 ∧ Hid (Rd w A'' n'' c'' l'' ∧ rdy neg l'' E = D ∧ l''.head? ≠ some 0)) (fun a => match a with | .slice _ n _ => n | _ => 0)
    case atStart => exact ⟨A', n', c', l', rfl, hn', hc', Lib.hid ⟨HR.out, HDe.out, HH.out⟩⟩
    case round =>
      obtain ⟨A'', n'', c'', l'', rfl, hn'', hc'', HS⟩ := hrel
      have hB := Blk.new w 34 #[.bool false, .slice none 0 0, .int .i64 0]
      have HB := Lib.hid hB
      have f0 := hB.frozen 0
      have f1 := hB.frozen 1
      have f2 := hB.frozen 2
      clear hB
      rcases List.eq_nil_or_concat l'' with rfl | ⟨t, d, rfl⟩
      · have h0 : n'' = 0 := HS.out.1.1
        subst h0
        go_wp2_with fail
        obtain ⟨r0, r1, r2⟩ := cells3 HB.out
        refine bodyPost_ret (v := .agg #[.bool false, .slice none 0 0, .int .i64 0]) (by simp [results, Try.results48, go_sem, r0, r1, r2]) rfl
          ⟨false, none, 0, 0, 0, [], rfl, ⟨rfl, Nat.le_refl _, .inl rfl, (fun x hx => by cases hx), fun _ _ _ hne => absurd rfl hne⟩, .inl ⟨rfl, rfl, rfl⟩, ?_, (Below.refl w.heap.size w).alloc (Nat.le_refl _) _⟩
        rw [← HS.out.2.1, rdy_nil, rdy_nil]
      · rw [List.concat_eq_append] at HS
        obtain ⟨b, o, rfl, hcell⟩ := HS.out.1.last
        obtain ⟨k, hk⟩ : ∃ k, t.length = k := ⟨_, rfl⟩
        have hn2 : n'' = k + 1 := by have := HS.out.1.1; simp at this; omega
        subst hn2
        rw [hk] at hcell
        have hcell2 := cell_below hcell ((Below.refl w.heap.size w).alloc (Nat.le_refl _) (.cells #[.bool false, .slice none 0 0, .int .i64 0] 34))
        have hkc : (k : Int) ≤ (c'' : Int) := by have := HS.out.1.2.1; omega
        have hkc2 : k ≤ c'' := by omega
        clear hcell
        have HK := Lib.hid hk
        clear hk
        by_cases hd : d = 0
        · have ht : ((d : Int) == 0) = true := by simp [hd]
          have HD0 := Lib.hid hd
          clear hd
          go_wp2_with fail
          go_round
          case rel =>
            refine ⟨_, k, c'', t, rfl, by omega, hc'', Lib.hid ⟨?_, ?_, ?_⟩⟩
            · have := HS.out.1.init
              rw [HK.out] at this
              exact this
            · have := HS.out.2.1
              rw [HD0.out, rdy_take] at this
              exact this
            · have := HS.out.2.2
              cases t with
              | nil => simp
              | cons x y => simpa using this
          case measure => simp
        · have ht : ((d : Int) == 0) = false := by simp; omega
          have HD0 := Lib.hid hd
          clear hd
          go_wp2_with fail
          obtain ⟨r0, r1, r2⟩ := cells3 (Blk.new w 34 #[.bool neg, .slice (some ⟨b, o, none⟩) (k + 1) c'', .int .i64 E])
          have hbl := (Below.refl w.heap.size w).alloc (Nat.le_refl _) (.cells #[.bool neg, .slice (some ⟨b, o, none⟩) (k + 1) c'', .int .i64 E] 34)
          exact bodyPost_ret (v := .agg #[.bool neg, .slice (some ⟨b, o, none⟩) (k + 1) c'', .int .i64 E]) (by simp [results, Try.results48, go_sem, r0, r1, r2]) rfl
            ⟨neg, _, k + 1, c'', E, t ++ [d], rfl, HS.out.1.below hbl, .inr ⟨by simp, HS.out.2.2, by simpa using HD0.out⟩, HS.out.2.1, hbl⟩
end Go.Proofs.Ytjjneiidggcfdaa
set_option linter.unusedVariables false
namespace Go.Proofs.Ytjjneiidggcfdaa
open Go.RowKit
attribute [local go_sem ↓] Go.wp_at_zero Go.wp_at_succ

theorem info_i64 : (Try.prog.info? 3).map (fun i => (i.zero, i.size, i.bytes)) = some (some (.int .i64 0), 1, 8) := by kernel_rfl
theorem own_rd {w : World} {B : Nat} {v : Value} {n : Nat} {L : List Nat} (h : w.ownsRow B 3 1 v n (ints L)) (hD : Digs 65536 L) : ∃ A c, v = .slice A n c ∧ Rd w A n c L ∧ c ≤ 9223372036854775807 := by
  have hl : n = L.length := by have := h.1; simp [ints] at this; omega
  rcases h.2 with ⟨rfl, hn⟩ | ⟨g, cap, cur, rfl, hB, hg, hc, hm, hs, hx⟩
  · subst hn
    have : L = [] := List.eq_nil_of_length_eq_zero hl.symm
    subst this
    exact ⟨none, 0, rfl, ⟨rfl, Nat.le_refl _, .inl rfl, hD, fun _ _ _ hne => absurd rfl hne⟩, by omega⟩
  · refine ⟨_, cap, rfl, ⟨hl, hc, .inr ⟨g, 0, rfl, fun i v hi => ?_⟩, hD, fun b' y' e' _ => by
      injection e' with e'; injection e' with e1 e2
      subst e1
      exact ⟨_, _, hg⟩⟩, by unfold maxLen at hm; omega⟩
    have := World.ownsRow.cells h (g := g) rfl i v hi
    by_cases h0 : i = 0
    · subst h0; simpa [Addr.add] using this
    · simpa [Addr.add, h0] using this

theorem IntB.set_ {w : World} {b : Nat} (h : IntB w b) (p : Addr) (u : Value) : IntB (w.setCell p u) b := by
  obtain ⟨cs, fr, h1⟩ := h
  by_cases e : b = p.block
  · subst e
    unfold IntB World.setCell
    simp only [Array.getElem?_modify, h1]
    exact ⟨_, _, rfl⟩
  · exact ⟨cs, fr, (Below.heap_setCell w p u b e).trans h1⟩
/-- The digits don't lie where the answer does. -/
theorem Rd.store3 {w : World} {A : Option Addr} {n c : Nat} {L : List Nat} (h : Rd w A n c L) {neg : Bool} {E : Int} (hN : Neat neg L E) {g : Nat} {t : TypeId} {a : Bool} {A' : Option Addr} {n' c' : Nat} (hB : Blk w g t #[.bool a, .slice A' n' c', .int .i64 0]) (u0 u1 u2 : Value) :
    Rd (((w.setCell ⟨g, 0, none⟩ u0).setCell ⟨g, 1, none⟩ u1).setCell ⟨g, 2, none⟩ u2) A n c L := by
  refine ⟨h.1, h.2.1, ?_, h.2.2.2.1, fun b y e hl => ?_⟩
  rotate_left
  · exact IntB.set_ (IntB.set_ (IntB.set_ (h.2.2.2.2 b y e hl) _ _) _ _) _ _
  rcases h.2.2.1 with h0 | ⟨b, o, rfl, hc⟩
  · exact .inl h0
  · rcases hN with ⟨rfl, _⟩ | ⟨hne, hh, _⟩
    · exact .inl rfl
    · have hb : b ≠ g := by
        rintro rfl
        cases L with
        | nil => exact hne rfl
        | cons d l =>
          have h1 := hc 0 (.int .i64 (d : Int)) (by simp [ints])
          rw [Nat.add_zero, hB.cell o] at h1
          match o, h1 with
          | 0, h1 => simp at h1
          | 1, h1 => simp at h1
          | 2, h1 =>
            simp at h1
            exact hh (by simp; omega)
          | k + 3, h1 => simp at h1
      refine .inr ⟨b, o, rfl, fun i v hi => ?_⟩
      rw [cell_set hb, cell_set hb, cell_set hb]
      exact hc i v hi
/-- What is left of a number, and its digits so far. -/
def Part (m M : Nat) (L : List Nat) : Prop := M < 18446744073709551616 ∧ M * 65536 ^ L.length + ofd 65536 L = m ∧ Digs 65536 L ∧ L.length ≤ 4
set_option maxHeartbeats 2000000 in
set_option maxRecDepth 100000 in
theorem whole_any (neg : Bool) (m : Nat) (w : World) (hm : m < 18446744073709551616) :
    Calls Try.prog 44 #[.bool neg, .int .u64 (m : Int)] w (RetR (dy (if neg then -(m : Int) else (m : Int)) 0) w) := by
  obtain ⟨i0, hi, hz0, hz1, hz2⟩ := info_parts info_i64
  obtain ⟨D, hD⟩ : ∃ D, dy (if neg then -(m : Int) else (m : Int)) 0 = D := ⟨_, rfl⟩
  rw [hD]
  have HD := Lib.hid hD
  clear hD
  go_enter Try.func44, Try.ntmps44
  go_wp2_with fail
  have HM := Lib.hid hm
  clear hm
  go_loopw [1, 5] (fun x v wr => ∃ (M : Nat) (L : List Nat), x = .int .u64 (M : Int) ∧ Part m M L ∧ wr.ownsRow (w.heap.size + 1) 3 1 v L.length (ints L) ∧ Below (w.heap.size + 1) (w.alloc (.cells #[.bool false, .slice none 0 0, .int .i64 0] 34)) wr) (fun x _ _ => (intOf x).toNat)
  case atStart => exact ⟨m, [], rfl, ⟨HM.out, by simp [ofd_nil], Digs.nil _, by simp⟩, World.ownsRow_nil _ _ _ _, Below.refl _ _⟩
  case round =>
    obtain ⟨M, L, rfl, ⟨hM, hE, hDg, hL⟩, hown, hbl⟩ := hrel
    have HE := Lib.hid hE
    have HDg := Lib.hid hDg
    clear hE hDg
    have hB := (Blk.new w 34 #[.bool false, .slice none 0 0, .int .i64 0]).below hbl (by omega)
    have hws : w.heap.size + 1 ≤ wr.heap.size := by have := hbl.size; simpa using this
    by_cases h0 : M = 0
    · subst h0
      obtain ⟨A, c, rfl, hR, hc⟩ := own_rd hown HDg.out
      go_wp2_with fail
      refine (made_any neg A L.length c L 0 wr hR (by omega) (by omega) hc).mono ?_
      rintro e w2 ⟨ng', A', n', c', E, L', rfl, hR', hN, hd, hb⟩
      have hB2 := hB.next hb
      have HB2 := Lib.hid hB2
      have f0 := hB2.frozen 0
      have f1 := hB2.frozen 1
      have f2 := hB2.frozen 2
      obtain ⟨r0, r1, r2⟩ := cells3 hB2
      have HR := Lib.hid hR'
      have HN := Lib.hid hN
      have HDd := Lib.hid hd
      have HBl := Lib.hid ((((Below.refl w.heap.size w).alloc (Nat.le_refl _) (.cells #[.bool false, .slice none 0 0, .int .i64 0] 34)).trans (hbl.mono (by omega))).trans (hb.mono (by omega)))
      clear hb hB2 hB hR' hN hd hR hown hbl
      go_wp2_with fail
      obtain ⟨q0, q1, q2⟩ := cells3 (Blk.store3 HB2.out (.bool ng') (.slice A' n' c') (.int .i64 E))
      exact bodyPost_ret (v := .agg #[.bool ng', .slice A' n' c', .int .i64 E]) (by simp [results, Try.results44, go_sem, q0, q1, q2]) rfl
        ⟨ng', A', n', c', E, L', rfl, Rd.store3 HR.out HN.out HB2.out _ _ _, HN.out, HDd.out.trans (by
          rw [← HD.out, ← HE.out]; unfold rdy; simp), ((HBl.out.setCell (p := ⟨w.heap.size, 0, none⟩) (Nat.le_refl _) _).setCell (p := ⟨w.heap.size, 1, none⟩) (Nat.le_refl _) _).setCell (p := ⟨w.heap.size, 2, none⟩) (Nat.le_refl _) _⟩
    · have hL3 : L.length ≤ 3 := by
        rcases Nat.lt_or_ge L.length 4 with h | h
        · omega
        · have h4 : L.length = 4 := by omega
          have := HE.out
          rw [h4] at this
          rw [show 65536 ^ 4 = 18446744073709551616 by decide] at this
          have := HM.out
          omega
      go_wp2_with (at_builtin; refine wpList_append_own _ rfl _ _ 32 rfl (w.heap.size + 1) 3 i0 (.int .i64 0) 1 8 Try.underlying32 hi hz0 hz1 hz2 rfl (by decide) _ _ _ rfl (hown.alloc _) ⟨wr.heap.size, 0, none⟩ 1 1 [.int .i64 ((M : Int) % 65536)] rfl rfl ?c1 ?c2 ?c3 ?c4 ?c5 ?_)
      case c1 =>
        intro j u hj
        match j, hj with
        | 0, hj => simp at hj; subst hj; simp [Addr.add]
      case c2 => intro u hu; simp at hu; subst hu; rfl
      case c3 => unfold maxLen; omega
      case c4 => omega
      case c5 => simp; omega
      intro v' w2 hown' hgrow _
      go_wp2_with fail
      go_roundw
      case rel =>
        refine ⟨M / 65536, L ++ [M % 65536], by go_num, ⟨by omega, ?_, ?_, by simp; omega⟩, ?_, ?_⟩
        · rw [ofd_snoc, List.length_append, List.length_singleton, Nat.pow_succ, ← HE.out]
          generalize 65536 ^ L.length = P
          have := Nat.div_add_mod M 65536
          have h2 : M * P = (65536 * (M / 65536) + M % 65536) * P := by rw [this]
          rw [h2, Nat.add_mul]
          ac_rfl
        · exact Digs.append HDg.out (Digs.cons (Nat.mod_lt _ (by omega)) (Digs.nil _))
        · rw [List.length_append, List.length_singleton]
          have : ints (L ++ [M % 65536]) = ints L ++ [.int .i64 ((M : Int) % 65536)] := by simp [ints]
          rw [this]
          exact hown'
        · exact (hbl.alloc (by omega) _).grown hgrow (by simp; omega) (fun k hk => (hown.lt k hk).1)
      case measure => simp [intOf]; omega
end Go.Proofs.Ytjjneiidggcfdaa
set_option linter.unusedVariables false
namespace Go.Proofs.Ytjjneiidggcfdaa

/-- The list when i digits have been shifted by r. -/
def Sh (l : List Nat) (r i : Nat) (M : List Nat) : Prop := M.length = l.length + 1 ∧ Digs 65536 M ∧ M.getD i 0 < 2 ^ r ∧ (∀ j, i < j → M.getD j 0 = 0) ∧ ofd 65536 (M.take (i + 1)) = ofd 65536 (l.take i) * 2 ^ r
theorem Sh.zero (l : List Nat) (r : Nat) : Sh l r 0 (List.replicate (l.length + 1) 0) := by
  have hg : ∀ j, (List.replicate (l.length + 1) 0).getD j 0 = 0 := by
    intro j
    simp only [List.getD, List.getElem?_replicate]
    split <;> rfl
  refine ⟨by simp, Digs.replicate (by omega) _, by rw [hg]; exact Nat.pos_of_ne_zero (by simp), fun j _ => hg j, ?_⟩
  rw [List.take_replicate, ofd_replicate]; simp [ofd_nil]

/-- What a digit comes to, split at 65536. -/
theorem shift_room {d r c : Nat} (hd : d < 65536) (hr : r ≤ 15) (hc : c < 2 ^ r) : c + d * 2 ^ r % 65536 < 65536 ∧ d * 2 ^ r / 65536 < 2 ^ r := by
  have hp : 2 ^ r * 2 ^ (16 - r) = 65536 := by rw [← Nat.pow_add, show r + (16 - r) = 16 by omega]
  constructor
  · have h1 : d * 2 ^ r % 65536 = 2 ^ r * (d % 2 ^ (16 - r)) := by
      rw [← hp, Nat.mul_comm d, Nat.mul_mod_mul_left]
    rw [h1]
    have h2 : d % 2 ^ (16 - r) < 2 ^ (16 - r) := Nat.mod_lt _ (Nat.pos_of_ne_zero (by simp))
    have h3 : 2 ^ r * (d % 2 ^ (16 - r) + 1) ≤ 2 ^ r * 2 ^ (16 - r) := Nat.mul_le_mul_left _ h2
    rw [hp, Nat.mul_add, Nat.mul_one] at h3
    omega
  · rw [Nat.div_lt_iff_lt_mul (by omega), Nat.mul_comm (2 ^ r)]
    exact Nat.mul_lt_mul_of_pos_right hd (Nat.pos_of_ne_zero (by simp))

theorem Sh.step {l M : List Nat} {r i : Nat} (h : Sh l r i M) (hD : Digs 65536 l) (hi : i < l.length) (hr : r ≤ 15) :
    Sh l r (i + 1) ((M.set i (M.getD i 0 + l[i] * 2 ^ r % 65536)).set (i + 1) (l[i] * 2 ^ r / 65536)) := by
  obtain ⟨hl, hd, hc, hz, ho⟩ := h
  obtain ⟨r1, r2⟩ := shift_room (hD.get i hi) hr hc
  have hi1 : i + 1 < (M.set i (M.getD i 0 + l[i] * 2 ^ r % 65536)).length := by rw [List.length_set, hl]; omega
  have h3 : (2 : Nat) ^ r ≤ 2 ^ 15 := Nat.pow_le_pow_right (by omega) hr
  have h4 : l[i] * 2 ^ r / 65536 < 65536 := by omega
  refine ⟨by simp [hl], (hd.set i r1).set (i + 1) h4, ?_, ?_, ?_⟩
  · rw [List.getD, List.getElem?_set_self hi1]; exact r2
  · intro j hj
    rw [List.getD, List.getElem?_set_ne (by omega), List.getElem?_set_ne (by omega)]
    have := hz j (by omega)
    rwa [List.getD] at this
  · rw [ofd_take_set 65536 _ (i + 1) _ hi1, ofd_take_set 65536 M i _ (by omega), ofd_take_succ 65536 l i hi, Nat.add_mul, ← ho,
      ofd_take_succ 65536 M i (by omega)]
    have hg : M.getD i 0 = M[i]'(by omega) := by simp [List.getD, show i < M.length by omega]
    rw [hg]
    have hm := Nat.div_add_mod (l[i] * 2 ^ r) 65536
    generalize l[i] * 2 ^ r / 65536 = q at *
    generalize hx : l[i] * 2 ^ r % 65536 = m at *
    have hv : 65536 ^ i * l[i] * 2 ^ r = 65536 ^ i * m + 65536 ^ (i + 1) * q := by
      rw [Nat.mul_assoc, ← hm, Nat.mul_add, Nat.pow_succ, Nat.mul_assoc, Nat.add_comm]
    rw [hv, Nat.mul_add]
    omega
theorem Sh.done {l M : List Nat} {r : Nat} (h : Sh l r l.length M) : Digs 65536 M ∧ ofd 65536 M = ofd 65536 l * 2 ^ r := by
  obtain ⟨hl, hd, _, _, ho⟩ := h
  rw [List.take_of_length_le (by omega), List.take_of_length_le (Nat.le_refl _)] at ho
  exact ⟨hd, ho⟩
end Go.Proofs.Ytjjneiidggcfdaa
set_option linter.unusedVariables false
namespace Go.Proofs.Ytjjneiidggcfdaa
open Go.RowKit
attribute [local go_sem ↓] Go.wp_at_zero Go.wp_at_succ

theorem ints_arr (M : List Nat) (i : Nat) (h : i < M.length) : (ints M).toArray[i]? = some (.int .i64 (M[i] : Int)) := by
  rw [List.getElem?_toArray]; exact ints_get M i h
theorem ints_set (M : List Nat) (i v : Nat) : (ints M).toArray.setIfInBounds i (.int .i64 (v : Int)) = (ints (M.set i v)).toArray := by
  simp [ints, List.map_set]
theorem imade_zero (n : Nat) : madeCells #[.int .i64 0] n = (ints (List.replicate n 0)).toArray := by
  refine Array.ext_getElem? fun i => ?_
  rw [List.getElem?_toArray]
  unfold madeCells ints
  by_cases h : i < n
  · simp [h, Nat.mod_one]
  · simp [h]
theorem irun_make (n : Nat) (hn : n ≤ 1099511627776) (W : World) :
    (Instr.makeSlice 32 (.int .i64 (n : Int)) (.int .i64 (n : Int))).run Try.prog W = .ok (.slice (some ⟨W.heap.size, 0, none⟩) n n) (W.alloc (.cells (ints (List.replicate n 0)).toArray 3)) := by
  rw [← imade_zero]
  exact run_make_row' _ _ _ 8 Try.underlying32 info_i64 rfl _ _ n (by omega) (by omega) W
theorem pow15 {r : Nat} (h : r ≤ 15) : 2 ^ r ≤ 32768 := Nat.pow_le_pow_right (by omega) h
theorem wrap_small {y : Nat} (h : y ≤ 4294967296) : wrap64 (y : Int) = (y : Int) := by unfold wrap64; omega
theorem wrap_mid {E q : Int} (h : q.natAbs ≤ 10000000000000000) (h' : E.natAbs ≤ 100000000000000000) : wrap64 (E + q) = E + q := by unfold wrap64; omega
theorem rdy_shift {neg : Bool} {l M : List Nat} {E k : Int} {r : Nat} (hr : (r : Int) = k % 16) (h : ofd 65536 M = ofd 65536 l * 2 ^ r) :
    rdy neg M (E + k / 16) = dy (if neg then -(ofd 65536 l : Int) else (ofd 65536 l : Int)) (16 * E + k) := by
  unfold rdy
  rw [h, show 16 * E + k = 16 * (E + k / 16) + (r : Int) by omega, ← dy_pow]
  congr 1
  cases neg <;> simp [Int.neg_mul]

set_option maxHeartbeats 2000000 in
theorem rshift_any (neg : Bool) (A : Option Addr) (n c : Nat) (l : List Nat) (E k : Int) (w : World) (h : Rd w A n c l) (hn : n ≤ 1073741824) (hE : E.natAbs ≤ 100000000000000000) (hk : k.natAbs ≤ 100000000000000000) :
    Calls Try.prog 16 #[.agg #[.bool neg, .slice A n c, .int .i64 E], .int .i64 k] w (RetR (dy (if neg then -(ofd 65536 l : Int) else (ofd 65536 l : Int)) (16 * E + k)) w) := by
  obtain ⟨r, hr⟩ : ∃ r : Nat, (r : Int) = k % 16 := ⟨(k % 16).toNat, by omega⟩
  obtain ⟨q, hq⟩ : ∃ q : Int, k / 16 = q := ⟨_, rfl⟩
  have hr15 : r ≤ 15 := by omega
  obtain ⟨m, hm⟩ : ∃ m, n + 1 = m := ⟨_, rfl⟩
  have hmk := fun V => irun_make m (by omega) V
  have H := Lib.hid h
  obtain ⟨D, hD⟩ : ∃ D, dy (if neg then -(ofd 65536 l : Int) else (ofd 65536 l : Int)) (16 * E + k) = D := ⟨_, rfl⟩
  have HD := Lib.hid hD
  have HR := Lib.hid hr
  have HQ := Lib.hid hq
  have HE := Lib.hid (show q.natAbs ≤ 10000000000000000 ∧ E.natAbs ≤ 100000000000000000 by omega)
  have HF := Lib.hid (fun W => floor_any k W (by omega) (by omega))
  rw [hq, ← hr] at HF
  rw [hD]
  have en : (n : Int) + 1 = (m : Int) := by omega
  have HM := Lib.hid hm
  clear hD hE hk hr hq h hm
  go_enter Try.func16, Try.ntmps16
  go_wp2_with fail
  refine (HF.out _).mono ?_
  rintro e w' ⟨rfl, rfl⟩
  go_wp2_with fail
  have hb0 := ((Blk.new w 34 #[.bool neg, .slice A n c, .int .i64 E]).alloc (.cells #[.bool false, .slice none 0 0, .int .i64 0] 34)).alloc (.cells (ints (List.replicate m 0)).toArray 3)
  have hb1 := (Blk.new_ (w.alloc (.cells #[.bool neg, .slice A n c, .int .i64 E] 34)) 34 #[.bool false, .slice none 0 0, .int .i64 0] (w.heap.size + 1) (by simp)).alloc (.cells (ints (List.replicate m 0)).toArray 3)
  have hb2 := Blk.new_ ((w.alloc (.cells #[.bool neg, .slice A n c, .int .i64 E] 34)).alloc (.cells #[.bool false, .slice none 0 0, .int .i64 0] 34)) 3 (ints (List.replicate m 0)).toArray (w.heap.size + 1 + 1) (by simp)
  have hbl : Below w.heap.size w _ := (((Below.refl w.heap.size w).alloc (Nat.le_refl _) (.cells #[.bool neg, .slice A n c, .int .i64 E] 34)).alloc (by simp) (.cells #[.bool false, .slice none 0 0, .int .i64 0] 34)).alloc (by simp; omega) (.cells (ints (List.replicate m 0)).toArray 3)
  have HB0 := Lib.hid hb0
  have HB1 := Lib.hid hb1
  have HB2 := Lib.hid hb2
  have HBl := Lib.hid hbl
  clear hb0 hb1 hb2 hbl
  go_loopw [8] (fun i wr => ∃ (a : Nat) (M : List Nat), a ≤ n ∧ i = .int .i64 (a : Int) ∧ Hid (Sh l r a M ∧ Blk wr (w.heap.size + 1 + 1) 3 (ints M).toArray ∧ Blk wr w.heap.size 34 #[.bool neg, .slice A n c, .int .i64 E] ∧ Blk wr (w.heap.size + 1) 34 #[.bool false, .slice none 0 0, .int .i64 0] ∧ Below w.heap.size w wr)) (fun i _ => n - (intOf i).toNat)
  case atStart => exact ⟨0, List.replicate m 0, Nat.zero_le _, rfl, Lib.hid ⟨by rw [← HM.out, H.out.1]; exact Sh.zero l r, HB2.out, HB0.out, HB1.out, HBl.out⟩⟩
  case round =>
    obtain ⟨a, M, han, rfl, HS⟩ := hrel
    obtain ⟨c0, c1, c2⟩ := cells3 HS.out.2.2.1
    by_cases hlt : a < n
    · have hal : a < l.length := by rw [← H.out.1]; exact hlt
      have hlt1 : (a : Int) < (n : Int) := by omega
      obtain ⟨b, o, rfl, hbw, hcell0⟩ := H.out.2.2.1.at_ (ints_get l a hal)
      have hcell := cell_below hcell0 HS.out.2.2.2.2
      have hstep := HS.out.1.step H.out.2.2.2.1 hal hr15
      have hroom := shift_room (H.out.2.2.2.1.get a hal) hr15 HS.out.1.2.2.1
      have hMl := HS.out.1.1
      have haM : a < M.length := by omega
      have hMa : M.getD a 0 = M[a] := by simp [List.getD, haM]
      have hd := H.out.2.2.2.1.get a hal
      rw [hMa] at hstep hroom
      have x0 := HS.out.2.1.cell a
      rw [ints_arr M a haM] at x0
      have x1 := HS.out.2.1.frozen a
      generalize l[a] = d at *
      generalize hx : M[a] = x at *
      obtain ⟨p, hp⟩ : ∃ p, 2 ^ r = p := ⟨_, rfl⟩
      have HPw := Lib.hid (fun W => power_any r W (by omega))
      rw [hp] at HPw hstep hroom
      have hpb : p ≤ 32768 := by rw [← hp]; exact pow15 hr15
      obtain ⟨v, hv⟩ : ∃ v, d * p = v := ⟨_, rfl⟩
      rw [hv] at hstep hroom
      have hvb : v ≤ 2147483648 := by rw [← hv]; exact Nat.mul_le_mul (Nat.le_of_lt hd) hpb
      have e1 : (d : Int) * (p : Int) = (v : Int) := by rw [← hv]; simp
      obtain ⟨v1, hv1⟩ : ∃ v1, v % 65536 = v1 := ⟨_, rfl⟩
      obtain ⟨v2, hv2⟩ : ∃ v2, v / 65536 = v2 := ⟨_, rfl⟩
      obtain ⟨y, hy⟩ : ∃ y, x + v1 = y := ⟨_, rfl⟩
      rw [hv1, hv2] at hroom hstep
      rw [hy] at hroom hstep
      have e2 : (v : Int) % 65536 = (v1 : Int) := by omega
      have e3 : (v : Int) / 65536 = (v2 : Int) := by omega
      have e4 : (x : Int) + (v1 : Int) = (y : Int) := by omega
      have e5 : IntKind.i64.wrap (v : Int) = (v : Int) := IntWalk.i64_in _ (by omega)
      have e6 : (a : Int) + 1 = ((a + 1 : Nat) : Int) := by omega
      have e7 : a < m := by have := HM.out; omega
      have e8 : a + 1 < m := by have := HM.out; omega
      have ha1 : a + 1 < M.length := by omega
      have x2 := HS.out.2.1.cell (a + 1)
      rw [ints_arr M (a + 1) ha1] at x2
      have x3 := HS.out.2.1.frozen (a + 1)
      generalize M[a + 1] = x' at *
      have e9 : wrap64 (y : Int) = (y : Int) := wrap_small (by omega)
      have e10 : wrap64 (v2 : Int) = (v2 : Int) := wrap_small (by omega)
      have HStep := Lib.hid hstep
      have hs1 := HS.out.2.1.set_ a (.int .i64 (y : Int))
      rw [ints_set] at hs1
      have HC := Lib.hid (⟨c1, hcell⟩ : _ ∧ _)
      have HS1 := Lib.hid hs1
      have HLT := Lib.hid (And.intro hlt han)
      clear hstep hs1 hroom hv hv1 hv2 hy hp hMa hMl hcell0 hvb hpb e6
      go_wp2_with fail
      go_region_held3 (fun w' => w'.cell? ⟨w.heap.size, 1, none⟩ = some (.slice (some ⟨b, o, none⟩) n c) ∧ w'.cell? ⟨b, o + a, none⟩ = some (.int .i64 (d : Int)))
        (first | go_keep | exact ⟨c1, hcell⟩)
        ((go_at_call 47; refine (HPw.out _).mono ?_; rintro e wp ⟨rfl, rfl⟩; skip))
      go_wp2_with fail
      go_roundw
      case rel =>
        have hlt := HLT.out.1
        refine ⟨a + 1, (M.set a y).set (a + 1) v2, by omega, by go_num, Lib.hid ⟨HStep.out, ?_, ?_, ?_, ?_⟩⟩
        · have h2 := HS1.out.set_ (a + 1) (.int .i64 (v2 : Int))
          rw [ints_set] at h2
          exact h2.drew
        · exact ((HS.out.2.2.1.other (by simp; omega) _).other (by simp; omega) _).drew
        · exact ((HS.out.2.2.2.1.other (by simp) _).other (by simp) _).drew
        · exact ((HS.out.2.2.2.2.setCell (by simp; omega) _).setCell (by simp; omega) _).drew
      case measure => have := HLT.out.1; simp [intOf]; omega
    · obtain rfl : a = n := by omega
      have hbb : ¬ (a : Int) < (a : Int) := by omega
      have hE1 : wrap64 (E + q) = E + q := wrap_mid HE.out.1 HE.out.2
      have hdone := HS.out.1
      rw [H.out.1] at hdone
      obtain ⟨hDg, hof⟩ := hdone.done
      have hlm : m = M.length := by rw [HS.out.1.1, ← H.out.1, HM.out]
      have hRd : Rd wr (some ⟨w.heap.size + 1 + 1, 0, none⟩) m m M := ⟨hlm, Nat.le_refl _, .inr ⟨w.heap.size + 1 + 1, 0, rfl, fun i v hi => by
        rw [Nat.zero_add, HS.out.2.1.cell i, List.getElem?_toArray]; exact hi⟩, hDg, fun b y e _ => by
        injection e with e; injection e with e1 e2
        subst e1
        exact IntB.of_blk HS.out.2.1⟩
      have hval : rdy neg M (E + q) = D := by
        rw [← HQ.out, rdy_shift HR.out hof]; exact HD.out
      have HRd := Lib.hid hRd
      have HVal := Lib.hid hval
      have HBd := Lib.hid (show m ≤ 1099511627776 ∧ (E + q).natAbs ≤ 1000000000000000000 by have := HE.out; have := HM.out; omega)
      have HB1' := Lib.hid HS.out.2.2.2.1
      have HBl' := Lib.hid HS.out.2.2.2.2
      clear hRd hval hDg hof hdone hlm
      go_wp2_with fail
      refine (made_any neg _ m m M (E + q) wr HRd.out HBd.out.1 HBd.out.2 (by have := HBd.out.1; omega)).mono ?_
      rintro e w2 ⟨ng', A', n', c', E', L', rfl, hR', hN, hd, hb⟩
      have hB2 := HB1'.out.next hb
      have HB2 := Lib.hid hB2
      have f0 := hB2.frozen 0
      have f1 := hB2.frozen 1
      have f2 := hB2.frozen 2
      obtain ⟨r0, r1, r2⟩ := cells3 hB2
      have HR' := Lib.hid hR'
      have HN := Lib.hid hN
      have HDd := Lib.hid hd
      have HBl2 := Lib.hid (HBl'.out.trans (hb.mono HBl'.out.size))
      clear hb hB2 hR' hN hd c0 c1 c2
      go_wp2_with fail
      obtain ⟨q0, q1, q2⟩ := cells3 (Blk.store3 HB2.out (.bool ng') (.slice A' n' c') (.int .i64 E'))
      exact bodyPost_ret (v := .agg #[.bool ng', .slice A' n' c', .int .i64 E']) (by simp [results, Try.results16, go_sem, q0, q1, q2]) rfl
        ⟨ng', A', n', c', E', L', rfl, Rd.store3 HR'.out HN.out HB2.out _ _ _, HN.out, HDd.out.trans HVal.out, ((HBl2.out.setCell (p := ⟨w.heap.size + 1, 0, none⟩) (by simp) _).setCell (p := ⟨w.heap.size + 1, 1, none⟩) (by simp) _).setCell (p := ⟨w.heap.size + 1, 2, none⟩) (by simp) _⟩
end Go.Proofs.Ytjjneiidggcfdaa
set_option linter.unusedVariables false
namespace Go.Proofs.Ytjjneiidggcfdaa
open Go.RowKit

/-- The digit of a place. -/
def dat (l : List Nat) (E p : Int) : Nat := if p < E ∨ E + l.length ≤ p then 0 else l.getD (p - E).toNat 0
theorem dat_lt {l : List Nat} (h : Digs 65536 l) (E p : Int) : dat l E p < 65536 := by
  unfold dat
  split
  · omega
  · rename_i h1
    have hl : (p - E).toNat < l.length := by omega
    rw [show l.getD (p - E).toNat 0 = l[(p - E).toNat] by simp [List.getD, hl]]
    exact h.get _ hl
theorem dat_nil (E p : Int) : dat [] E p = 0 := by unfold dat; split <;> rfl
/-- The number that the digits of the places from 'fr' on make. -/
def dsum (l : List Nat) (E fr : Int) : Nat → Nat
  | 0 => 0
  | q + 1 => dsum l E fr q + 65536 ^ q * dat l E (fr + q)
theorem dsum_nil (E fr : Int) : ∀ q, dsum [] E fr q = 0
  | 0 => rfl
  | q + 1 => by rw [dsum, dsum_nil E fr q, dat_nil]; simp
theorem dsum_low {l : List Nat} {E fr : Int} {a : Nat} (ha : fr + a = E) : ∀ q, q ≤ a → dsum l E fr q = 0
  | 0, _ => rfl
  | q + 1, h => by
    rw [dsum, dsum_low ha q (by omega)]
    have : dat l E (fr + q) = 0 := by unfold dat; rw [if_pos (.inl (by omega))]
    rw [this]; simp
theorem dsum_mid {l : List Nat} {E fr : Int} {a : Nat} (ha : fr + a = E) : ∀ t, t ≤ l.length → dsum l E fr (a + t) = 65536 ^ a * ofd 65536 (l.take t)
  | 0, _ => by rw [Nat.add_zero, dsum_low ha a (Nat.le_refl _), List.take_zero]; simp [ofd]
  | t + 1, h => by
    rw [show a + (t + 1) = a + t + 1 by omega, dsum, dsum_mid ha t (by omega), ofd_take_succ _ _ _ (by omega)]
    have : dat l E (fr + ((a + t : Nat) : Int)) = l[t]'(by omega) := by
      unfold dat
      rw [if_neg (by omega), show (fr + ((a + t : Nat) : Int) - E).toNat = t by omega]
      simp [List.getD, show t < l.length by omega]
    rw [this, Nat.mul_add, Nat.pow_add, Nat.mul_assoc]
theorem dsum_all {l : List Nat} {E fr : Int} {a : Nat} (ha : fr + a = E) : ∀ t, l.length ≤ t → dsum l E fr (a + t) = 65536 ^ a * ofd 65536 l
  | t, h => by
    induction t with
    | zero =>
      have : l = [] := List.eq_nil_of_length_eq_zero (by omega)
      subst this
      rw [dsum_nil]; simp [ofd]
    | succ t ih =>
      by_cases h1 : l.length = t + 1
      · rw [dsum_mid ha (t + 1) (by omega), List.take_of_length_le (by omega)]
      · rw [show a + (t + 1) = a + t + 1 by omega, dsum, ih (by omega)]
        have : dat l E (fr + ((a + t : Nat) : Int)) = 0 := by unfold dat; rw [if_pos (.inr (by omega))]
        rw [this]; simp
theorem dsum_lt {l : List Nat} (h : Digs 65536 l) (E fr : Int) : ∀ q, dsum l E fr q < 65536 ^ q
  | 0 => by simp [dsum]
  | q + 1 => by
    have h1 := dsum_lt h E fr q
    have h2 := dat_lt h E (fr + q)
    rw [dsum, Nat.pow_succ]
    have : 65536 ^ q * (dat l E (fr + q) + 1) ≤ 65536 ^ q * 65536 := Nat.mul_le_mul_left _ h2
    rw [Nat.mul_add] at this
    omega
theorem pow16 (a : Nat) : 65536 ^ a = 2 ^ (16 * a) := by rw [show 65536 = 2 ^ 16 by decide, ← Nat.pow_mul]
/-- The sign laid on. -/
def sgd (neg : Bool) (m : Nat) : Int := if neg then -(m : Int) else (m : Int)
theorem rdy_sgd (neg : Bool) (l : List Nat) (E : Int) : rdy neg l E = dy (sgd neg (ofd 65536 l)) (16 * E) := by unfold rdy sgd; rfl
theorem rdy_from (neg : Bool) (l : List Nat) {E fr : Int} {a : Nat} (ha : fr + a = E) : rdy neg l E = dy (sgd neg (65536 ^ a * ofd 65536 l)) (16 * fr) := by
  rw [rdy_sgd, ← ha, show 16 * (fr + a) = 16 * fr + ((16 * a : Nat) : Int) by omega, ← dy_pow, pow16]
  congr 1
  unfold sgd
  have e : ((2 ^ (16 * a) : Nat) : Int) = (2 : Int) ^ (16 * a) := by simp
  cases neg
  · simp only [Bool.false_eq_true, if_false]; rw [Int.natCast_mul, e, Int.mul_comm]
  · simp only [if_true]; rw [Int.natCast_mul, e, Int.neg_mul, Int.mul_comm]
/-- From where on, up to where. -/
def endsF (n1 : Nat) (E1 : Int) (n2 : Nat) (E2 : Int) : Int × Int :=
  if n1 = 0 then (E2, E2 + n2) else if n2 = 0 then (E1, E1 + n1) else (min E1 E2, max (E1 + n1) (E2 + n2))
theorem ends_ok {n1 n2 : Nat} {E1 E2 fr tz : Int} (h : endsF n1 E1 n2 E2 = (fr, tz)) : (n1 = 0 ∨ (fr ≤ E1 ∧ E1 + n1 ≤ tz)) ∧ (n2 = 0 ∨ (fr ≤ E2 ∧ E2 + n2 ≤ tz)) ∧ fr ≤ tz := by
  unfold endsF at h
  split at h
  · injection h with h1 h2; omega
  · split at h
    · injection h with h1 h2; omega
    · injection h with h1 h2; omega
/-- All digits counted: the number itself. -/
theorem dsum_val {l : List Nat} {E fr tz : Int} {N : Nat} (h : l.length = 0 ∨ (fr ≤ E ∧ E + l.length ≤ tz)) (hN : fr + N = tz) (neg : Bool) : rdy neg l E = dy (sgd neg (dsum l E fr N)) (16 * fr) := by
  rcases h with h | ⟨h1, h2⟩
  · have : l = [] := List.eq_nil_of_length_eq_zero h
    subst this
    rw [rdy_nil, dsum_nil]
    cases neg <;> rfl
  · obtain ⟨a, ha⟩ : ∃ a : Nat, fr + a = E := ⟨(E - fr).toNat, by omega⟩
    obtain ⟨t, ht⟩ : ∃ t : Nat, a + t = N := ⟨N - a, by omega⟩
    rw [rdy_from neg l ha, ← ht, dsum_all ha t (by omega)]

/-! ### Carries. -/
theorem carry_step {q c x y s1 s2 : Nat} {L : List Nat} (hl : L.length = q) (h : ofd 65536 L + 65536 ^ q * c = s1 + s2) : ofd 65536 (L ++ [(c + x + y) % 65536]) + 65536 ^ (q + 1) * ((c + x + y) / 65536) = s1 + 65536 ^ q * x + (s2 + 65536 ^ q * y) := by
  rw [ofd_snoc, hl, Nat.pow_succ, Nat.mul_assoc]
  have e : (c + x + y) % 65536 + 65536 * ((c + x + y) / 65536) = c + x + y := Nat.mod_add_div _ _
  have : 65536 ^ q * ((c + x + y) % 65536) + 65536 ^ q * (65536 * ((c + x + y) / 65536)) = 65536 ^ q * (c + x + y) := by rw [← Nat.mul_add, e]
  rw [Nat.mul_add, Nat.mul_add] at this
  omega
theorem borrow_none {q b x y s1 s2 : Nat} {L : List Nat} (hl : L.length = q) (h : ofd 65536 L + s2 = s1 + 65536 ^ q * b) (hb : y + b ≤ x) : ofd 65536 (L ++ [x - y - b]) + (s2 + 65536 ^ q * y) = s1 + 65536 ^ q * x + 65536 ^ (q + 1) * 0 := by
  rw [ofd_snoc, hl]
  have : 65536 ^ q * (x - y - b) + 65536 ^ q * y + 65536 ^ q * b = 65536 ^ q * x := by rw [← Nat.mul_add, ← Nat.mul_add]; congr 1; omega
  omega
theorem borrow_one {q b x y s1 s2 : Nat} {L : List Nat} (hl : L.length = q) (h : ofd 65536 L + s2 = s1 + 65536 ^ q * b) (hb : x < y + b) (hy : y + b ≤ x + 65536) : ofd 65536 (L ++ [x + 65536 - y - b]) + (s2 + 65536 ^ q * y) = s1 + 65536 ^ q * x + 65536 ^ (q + 1) * 1 := by
  rw [ofd_snoc, hl, Nat.pow_succ, Nat.mul_one]
  have : 65536 ^ q * (x + 65536 - y - b) + 65536 ^ q * y + 65536 ^ q * b = 65536 ^ q * x + 65536 ^ q * 65536 := by rw [← Nat.mul_add, ← Nat.mul_add, ← Nat.mul_add]; congr 1; omega
  omega
theorem borrow_end {N b s1 s2 : Nat} {L : List Nat} (hl : L.length = N) (hD : Digs 65536 L) (h : ofd 65536 L + s2 = s1 + 65536 ^ N * b) (hs : s2 ≤ s1) : ofd 65536 L = s1 - s2 := by
  have h1 := ofd_lt hD
  rw [hl] at h1
  have hb : b = 0 := by
    cases b with
    | zero => rfl
    | succ b =>
      have : 65536 ^ N * (b + 1) ≥ 65536 ^ N := Nat.le_mul_of_pos_right _ (by omega)
      omega
  subst hb
  omega
/-- The first place from above where they differ tells which is the smaller one. -/
theorem dsum_cmp {l l' : List Nat} (h : Digs 65536 l) (h' : Digs 65536 l') (E E' fr : Int) (k : Nat) (hlt : dat l E (fr + k) < dat l' E' (fr + k)) : ∀ N, k < N → (∀ j, k < j → j < N → dat l E (fr + j) = dat l' E' (fr + j)) → dsum l E fr N < dsum l' E' fr N
  | 0, hk, _ => by omega
  | N + 1, hk, heq => by
    rw [dsum, dsum]
    by_cases e : k = N
    · subst e
      have h1 := dsum_lt h E fr k
      have : 65536 ^ k * (dat l E (fr + k) + 1) ≤ 65536 ^ k * dat l' E' (fr + k) := Nat.mul_le_mul_left _ hlt
      rw [Nat.mul_add] at this
      omega
    · have ih := dsum_cmp h h' E E' fr k hlt N (by omega) (fun j h1 h2 => heq j h1 (by omega))
      rw [heq N (by omega) (by omega)]
      omega
theorem dsum_eq {l l' : List Nat} {E E' fr : Int} : ∀ N, (∀ j : Nat, j < N → dat l E (fr + j) = dat l' E' (fr + j)) → dsum l E fr N = dsum l' E' fr N
  | 0, _ => rfl
  | N + 1, h => by rw [dsum, dsum, dsum_eq N (fun j hj => h j (by omega)), h N (by omega)]
/-! ### Signs. -/
theorem sgd_add (neg : Bool) (a b : Nat) : sgd neg a + sgd neg b = sgd neg (a + b) := by unfold sgd; cases neg <;> simp <;> omega
theorem sgd_sub (neg : Bool) {a b : Nat} (h : b ≤ a) : sgd neg a + sgd (!neg) b = sgd neg (a - b) := by unfold sgd; cases neg <;> simp <;> omega
theorem sgd_zero (neg : Bool) : sgd neg 0 = 0 := by unfold sgd; cases neg <;> rfl
theorem sgd_not (neg : Bool) (a : Nat) : sgd (!neg) a = -sgd neg a := by unfold sgd; cases neg <;> simp
theorem sgd_mul (p q : Bool) (a b : Nat) : sgd (p != q) (a * b) = sgd p a * sgd q b := by unfold sgd; cases p <;> cases q <;> simp [Int.neg_mul, Int.mul_neg]
end Go.Proofs.Ytjjneiidggcfdaa
set_option linter.unusedVariables false
set_option linter.unusedSimpArgs false
namespace Go.Proofs.Ytjjneiidggcfdaa
open Go.RowKit
attribute [local go_sem ↓] Go.wp_at_zero Go.wp_at_succ

/-- Stores into a block that isn't one of ints don't touch the digits. -/
theorem Rd.far {w : World} {A : Option Addr} {n c : Nat} {L : List Nat} (h : Rd w A n c L) {g : Nat} {t : TypeId} {cs : Array Value} (hB : Blk w g t cs) (ht : t ≠ 3) (i : Nat) (u : Value) : Rd (w.setCell ⟨g, i, none⟩ u) A n c L := by
  refine ⟨h.1, h.2.1, ?_, h.2.2.2.1, fun b y e hl => (h.2.2.2.2 b y e hl).set_ _ _⟩
  cases L with
  | nil => exact .inl rfl
  | cons x L =>
    rcases h.2.2.1 with h0 | ⟨b, o, e, hc⟩
    · simp [ints] at h0
    · exact .inr ⟨b, o, e, fun j v hj => (cell_set ((h.2.2.2.2 b o e (by simp)).ne hB ht) u).trans (hc j v hj)⟩
theorem iwrap_in {z : Int} (h : z.natAbs ≤ 8796093022208) : IntKind.i64.wrap z = z := IntWalk.i64_in _ (by omega)
theorem wrap64_in {z : Int} (h : z.natAbs ≤ 8796093022208) : wrap64 z = z := by unfold wrap64; omega
theorem rdat_any (neg : Bool) (A : Option Addr) (n c : Nat) (l : List Nat) (E p : Int) (w : World) (h : Rd w A n c l) (hn : n ≤ 1099511627776) (hE : E.natAbs ≤ 1099511627776) (hp : p.natAbs ≤ 1099511627776) :
    Calls Try.prog 50 #[.agg #[.bool neg, .slice A n c, .int .i64 E], .int .i64 p] w fun e w' => e = .returned (.int .i64 (dat l E p : Int)) ∧ Below w.heap.size w w' := by
  have HB := Lib.hid ((Below.refl w.heap.size w).alloc (Nat.le_refl _) (.cells #[.bool neg, .slice A n c, .int .i64 E] 34))
  have hs1 : wrap64 (E + (n : Int)) = E + (n : Int) := wrap64_in (by omega)
  have hs2 : wrap64 (p - E) = p - E := wrap64_in (by omega)
  have hl := h.1
  by_cases h1 : p < E
  · have hd : dat l E p = 0 := by unfold dat; rw [if_pos (.inl h1)]
    rw [hd]
    have hb1 : decide (p < E) = true := by simpa using h1
    clear hd h hn hE hp hl h1 hs2
    go_enter Try.func50, Try.ntmps50
    go_wp2_with fail
    go_ret
    exact ⟨rfl, HB.out⟩
  · by_cases h2 : E + (n : Int) ≤ p
    · have hd : dat l E p = 0 := by unfold dat; rw [if_pos (.inr (by omega))]
      rw [hd]
      have hb1 : decide (p < E) = false := by simpa using h1
      have hb2 : decide (E + (n : Int) ≤ p) = true := by simpa using h2
      clear hd h hn hE hp hl h1 h2 hs2
      go_enter Try.func50, Try.ntmps50
      go_wp2_with fail
      go_ret
      exact ⟨rfl, HB.out⟩
    · obtain ⟨k, hk⟩ : ∃ k : Nat, p - E = (k : Int) := ⟨(p - E).toNat, by omega⟩
      have hkl : k < l.length := by omega
      obtain ⟨b, o, rfl, _, hcell0⟩ := h.2.2.1.at_ (ints_get l k hkl)
      have hcell := cell_below hcell0 HB.out
      have hd : dat l E p = l[k] := by
        unfold dat
        rw [if_neg (by omega), show (p - E).toNat = k by omega]
        simp [List.getD, hkl]
      rw [hd]
      have hb1 : decide (p < E) = false := by simpa using h1
      have hb2 : decide (E + (n : Int) ≤ p) = false := by simp; omega
      rw [hk] at hs2
      have hkn : (k : Int) < (n : Int) := by omega
      have HK := Lib.hid hk
      generalize l[k] = v at *
      clear hd h hn hE hp hl h1 h2 hcell0 hkl
      go_enter Try.func50, Try.ntmps50
      go_wp2_with fail
      go_ret
      exact ⟨rfl, HB.out⟩

theorem rminus_any (neg : Bool) (A : Option Addr) (n c : Nat) (E : Int) (w : World) :
    Calls Try.prog 45 #[.agg #[.bool neg, .slice A n c, .int .i64 E]] w fun e w' => e = .returned (.agg #[.bool (if n = 0 then neg else !neg), .slice A n c, .int .i64 E]) ∧ Below w.heap.size w w' := by
  by_cases h0 : n = 0
  · subst h0
    rw [if_pos rfl]
    go_enter Try.func45, Try.ntmps45
    go_wp2_with fail
    obtain ⟨q0, q1, q2⟩ := cells3 (Blk.new_ (w.alloc (.cells #[.bool neg, .slice A 0 c, .int .i64 E] 34)) 34 #[.bool neg, .slice A 0 c, .int .i64 E] (w.heap.size + 1) (by simp))
    exact bodyPost_ret (v := .agg #[.bool neg, .slice A 0 c, .int .i64 E]) (by simp [results, Try.results45, go_sem, q0, q1, q2]) rfl ⟨rfl, ((Below.refl w.heap.size w).alloc (Nat.le_refl _) (.cells #[.bool neg, .slice A 0 c, .int .i64 E] 34)).alloc (by simp) (.cells #[.bool neg, .slice A 0 c, .int .i64 E] 34)⟩
  · rw [if_neg h0]
    have hp : decide ((0 : Int) < (n : Int)) = true := by simp; omega
    have hp2 : decide (0 < n) = true := by simp; omega
    clear h0
    go_enter Try.func45, Try.ntmps45
    go_wp2_with fail
    obtain ⟨q0, q1, q2⟩ := cells3 (Blk.new_ (w.alloc (.cells #[.bool (!neg), .slice A n c, .int .i64 E] 34)) 34 #[.bool (!neg), .slice A n c, .int .i64 E] (w.heap.size + 1) (by simp))
    exact bodyPost_ret (v := .agg #[.bool (!neg), .slice A n c, .int .i64 E]) (by simp [results, Try.results45, go_sem, q0, q1, q2]) rfl ⟨rfl, ((Below.refl w.heap.size w).alloc (Nat.le_refl _) (.cells #[.bool (!neg), .slice A n c, .int .i64 E] 34)).alloc (by simp) (.cells #[.bool (!neg), .slice A n c, .int .i64 E] 34)⟩

theorem rabsd_any (neg : Bool) (A : Option Addr) (n c : Nat) (E : Int) (w : World) :
    Calls Try.prog 15 #[.agg #[.bool neg, .slice A n c, .int .i64 E]] w fun e w' => e = .returned (.agg #[.bool false, .slice A n c, .int .i64 E]) ∧ Below w.heap.size w w' := by
    go_enter Try.func15, Try.ntmps15
    go_wp2_with fail
    obtain ⟨q0, q1, q2⟩ := cells3 (Blk.new_ (w.alloc (.cells #[.bool false, .slice A n c, .int .i64 E] 34)) 34 #[.bool false, .slice A n c, .int .i64 E] (w.heap.size + 1) (by simp))
    exact bodyPost_ret (v := .agg #[.bool false, .slice A n c, .int .i64 E]) (by simp [results, Try.results15, go_sem, q0, q1, q2]) rfl ⟨rfl, ((Below.refl w.heap.size w).alloc (Nat.le_refl _) (.cells #[.bool false, .slice A n c, .int .i64 E] 34)).alloc (by simp) (.cells #[.bool false, .slice A n c, .int .i64 E] 34)⟩

theorem rsignd_any (neg : Bool) (A : Option Addr) (n c : Nat) (E : Int) (w : World) :
    Calls Try.prog 52 #[.agg #[.bool neg, .slice A n c, .int .i64 E]] w fun e w' => e = .returned (.int .i64 (if n = 0 then 0 else if neg = true then -1 else 1)) ∧ Below w.heap.size w w' := by
  have HB := Lib.hid ((Below.refl w.heap.size w).alloc (Nat.le_refl _) (.cells #[.bool neg, .slice A n c, .int .i64 E] 34))
  by_cases h0 : n = 0
  · rw [if_pos h0]
    have ht : ((n : Int) == 0) = true := by simp [h0]
    clear h0
    go_enter Try.func52, Try.ntmps52
    go_wp2_with fail
    go_ret
    exact ⟨rfl, HB.out⟩
  · rw [if_neg h0]
    have ht : ((n : Int) == 0) = false := by simp; omega
    clear h0
    cases neg
    · go_enter Try.func52, Try.ntmps52
      go_wp2_with fail
      go_ret
      exact ⟨rfl, HB.out⟩
    · go_enter Try.func52, Try.ntmps52
      go_wp2_with fail
      go_ret
      exact ⟨rfl, HB.out⟩
end Go.Proofs.Ytjjneiidggcfdaa
set_option linter.unusedVariables false
set_option linter.unusedSimpArgs false
namespace Go.Proofs.Ytjjneiidggcfdaa
open Go.RowKit

/-- The value holds the number. -/
def DV (W : World) (v : Value) (d : Dyadic) : Prop :=
  ∃ (neg : Bool) (A : Option Addr) (n c : Nat) (E : Int) (l : List Nat), v = .agg #[.bool neg, .slice A n c, .int .i64 E] ∧ Rd W A n c l ∧ Neat neg l E ∧ rdy neg l E = d
theorem DV.below {W W' : World} {v : Value} {d : Dyadic} (h : DV W v d) (hb : Below W.heap.size W W') : DV W' v d := by
  obtain ⟨neg, A, n, c, E, l, h1, h2, h3, h4⟩ := h
  exact ⟨neg, A, n, c, E, l, h1, h2.below hb, h3, h4⟩
theorem RetR.dv {d : Dyadic} {w : World} {e : Ending} {w' : World} (h : RetR d w e w') : ∃ v, e = .returned v ∧ DV w' v d ∧ Below w.heap.size w w' := by
  obtain ⟨neg, A, n, c, E, l, h1, h2, h3, h4, h5⟩ := h
  exact ⟨_, h1, ⟨neg, A, n, c, E, l, rfl, h2, h3, h4⟩, h5⟩
/-- The number lies in few digits. -/
def Fitd (d : Dyadic) : Prop := ∃ (lo : Int) (k : Nat) (m : Int), lo.natAbs ≤ 268435456 ∧ k ≤ 268435456 ∧ d = dy m (16 * lo) ∧ m.natAbs < 65536 ^ k
theorem sgd_abs (neg : Bool) (m : Nat) : (sgd neg m).natAbs = m := by unfold sgd; cases neg <;> simp
theorem fitd_of {m e : Int} {j : Nat} (h : m.natAbs < 2 ^ j) (hj : j ≤ 268435440) (he : e.natAbs ≤ 268435456) : Fitd (dy m e) := by
  obtain ⟨r, hr⟩ : ∃ r : Nat, (r : Int) = e % 16 := ⟨(e % 16).toNat, by omega⟩
  refine ⟨e / 16, j + 1, m * 2 ^ r, by omega, by omega, ?_, ?_⟩
  · rw [dy_pow]; congr 1; omega
  · rw [Int.natAbs_mul, Int.natAbs_pow, pow16]
    have h1 : 2 ^ r ≤ 2 ^ 16 := Nat.pow_le_pow_right (by omega) (by omega)
    have h2 : m.natAbs * 2 ^ r < 2 ^ j * 2 ^ 16 := Nat.mul_lt_mul_of_lt_of_le h h1 (Nat.pow_pos (by omega))
    rw [← Nat.pow_add] at h2
    exact Nat.lt_of_lt_of_le h2 (Nat.pow_le_pow_right (by omega) (by omega))
theorem last_ge {l : List Nat} (hD : Digs 65536 l) (hl : l ≠ []) (h : l.getLast? ≠ some 0) : 65536 ^ (l.length - 1) ≤ ofd 65536 l := by
  have h1 := digs_ofd (B := 65536) (by omega) hD h
  have h2 : ofd 65536 l ≠ 0 := by
    intro e
    rw [e, digs_zero] at h1
    exact hl h1.symm
  have := digs_pow_le (B := 65536) (by omega) h2
  rw [h1] at this
  exact this
theorem head_mod {l : List Nat} (hD : Digs 65536 l) (hl : l ≠ []) (h : l.head? ≠ some 0) : ofd 65536 l % 65536 ≠ 0 := by
  cases l with
  | nil => exact absurd rfl hl
  | cons d l =>
    have hd := hD.head
    rw [ofd_cons, Nat.add_mul_mod_self_left, Nat.mod_eq_of_lt hd]
    simpa using h
/-- Where its digits lie. -/
theorem neat_in {neg : Bool} {l : List Nat} {E lo m : Int} {k : Nat} (hN : Neat neg l E) (hD : Digs 65536 l) (h : rdy neg l E = dy m (16 * lo)) (hm : m.natAbs < 65536 ^ k) : l = [] ∨ (lo ≤ E ∧ E + l.length ≤ lo + k) := by
  rcases hN with ⟨h0, _, _⟩ | ⟨hl, h1, h2⟩
  · exact .inl h0
  · right
    have hh := head_mod hD hl h1
    have hg := last_ge hD hl h2
    have hlen : 0 < l.length := List.length_pos_iff.2 hl
    rw [rdy_sgd] at h
    rcases Int.lt_or_le E lo with hlt | hge
    · exfalso
      obtain ⟨a, ha⟩ : ∃ a : Nat, E + a = lo := ⟨(lo - E).toNat, by omega⟩
      have ha1 : 1 ≤ a := by omega
      rw [← ha, show 16 * (E + a) = 16 * E + ((16 * a : Nat) : Int) by omega, ← dy_pow, dy_eq] at h
      have h3 := congrArg Int.natAbs h
      rw [sgd_abs, Int.natAbs_mul, Int.natAbs_pow] at h3
      have h4 : (2 : Int).natAbs ^ (16 * a) = 65536 * 65536 ^ (a - 1) := by
        rw [← Nat.pow_succ', show (a - 1).succ = a by omega, pow16]; rfl
      rw [h4, Nat.mul_left_comm] at h3
      rw [h3] at hh
      exact hh (Nat.mul_mod_right _ _)
    · obtain ⟨a, ha⟩ : ∃ a : Nat, lo + a = E := ⟨(E - lo).toNat, by omega⟩
      refine ⟨hge, ?_⟩
      rw [← ha, show 16 * (lo + a) = 16 * lo + ((16 * a : Nat) : Int) by omega, ← dy_pow, dy_eq] at h
      have h3 := congrArg Int.natAbs h
      rw [Int.natAbs_mul, sgd_abs, Int.natAbs_pow] at h3
      have h4 : (2 : Int).natAbs ^ (16 * a) = 65536 ^ a := by rw [pow16]; rfl
      rw [h4] at h3
      have h5 : 65536 ^ (l.length - 1 + a) ≤ ofd 65536 l * 65536 ^ a := by rw [Nat.pow_add]; exact Nat.mul_le_mul_right _ hg
      have h6 : l.length - 1 + a < k := by
        rcases Nat.lt_or_ge (l.length - 1 + a) k with h | h
        · exact h
        · have := Nat.pow_le_pow_right (show 0 < 65536 by omega) h
          omega
      omega
/-- A number that fits: how many digits, from where. -/
theorem fitd_in {neg : Bool} {l : List Nat} {E : Int} (hN : Neat neg l E) (hD : Digs 65536 l) (h : Fitd (rdy neg l E)) : l.length ≤ 268435456 ∧ E.natAbs ≤ 536870912 := by
  obtain ⟨lo, k, m, h1, h2, h3, h4⟩ := h
  rcases neat_in hN hD h3 h4 with h5 | ⟨h5, h6⟩
  · subst h5
    rcases hN with ⟨_, _, h0⟩ | ⟨h0, _⟩
    · subst h0; simp
    · exact absurd rfl h0
  · omega
theorem neat_zero {neg : Bool} {l : List Nat} {E : Int} (hN : Neat neg l E) (hD : Digs 65536 l) : l = [] ↔ rdy neg l E = 0 := by
  constructor
  · rintro rfl; exact rdy_nil _ _
  · intro h
    rcases hN with ⟨h0, _, _⟩ | ⟨hl, h1, h2⟩
    · exact h0
    · exfalso
      have hg := last_ge hD hl h2
      rw [rdy_sgd, dy_eq_zero] at h
      have := congrArg Int.natAbs h
      rw [sgd_abs] at this
      have h3 := Nat.pow_pos (n := l.length - 1) (show 0 < 65536 by omega)
      simp at this
      omega
/-- The sign of a number that isn't 0. -/
theorem neat_neg {neg : Bool} {l : List Nat} {E m e : Int} (hN : Neat neg l E) (hD : Digs 65536 l) (h : rdy neg l E = dy m e) : neg = decide (m < 0) := by
  have hz := neat_zero hN hD
  rw [h, dy_eq_zero] at hz
  rw [rdy_sgd] at h
  rcases hN with ⟨h0, h1, _⟩ | ⟨hl, _⟩
  · have := hz.1 h0
    subst this; simpa using h1
  · have hm : m ≠ 0 := fun e => hl (hz.2 e)
    -- both at the lower exponent
    rcases Int.le_total (16 * E) e with hle | hle
    · obtain ⟨a, ha⟩ : ∃ a : Nat, 16 * E + a = e := ⟨(e - 16 * E).toNat, by omega⟩
      rw [← ha, ← dy_pow, dy_eq] at h
      have hp : (0 : Int) < 2 ^ a := Int.pow_pos (by omega)
      unfold sgd at h
      cases neg
      · simp only [Bool.false_eq_true, if_false] at h
        have : 0 ≤ m * 2 ^ a := by omega
        symm; simp
        rcases Int.lt_or_le m 0 with h1 | h1
        · have := Int.mul_neg_of_neg_of_pos h1 hp; omega
        · exact h1
      · simp only [if_true] at h
        symm; simp
        rcases Int.lt_or_le m 0 with h1 | h1
        · exact h1
        · have : 0 < m * 2 ^ a := Int.mul_pos (by omega) hp
          omega
    · obtain ⟨a, ha⟩ : ∃ a : Nat, e + a = 16 * E := ⟨(16 * E - e).toNat, by omega⟩
      rw [← ha, ← dy_pow, dy_eq] at h
      have hp : (0 : Int) < 2 ^ a := Int.pow_pos (by omega)
      unfold sgd at h
      cases neg
      · simp only [Bool.false_eq_true, if_false] at h
        symm; simp
        rw [← h]
        exact Int.mul_nonneg (by omega) (by omega)
      · simp only [if_true] at h
        symm; simp
        rw [← h] at hm ⊢
        have h0 : (ofd 65536 l : Int) ≠ 0 := by intro e0; rw [e0] at hm; simp at hm
        rw [Int.neg_mul]
        have : 0 < (ofd 65536 l : Int) * 2 ^ a := Int.mul_pos (by omega) hp
        omega
/-- Stored into its place: the answer. -/
theorem retR_done {D : Dyadic} {w w2 : World} {g : Nat} {x0 x1 x2 : Value} {ng : Bool} {A : Option Addr} {n c : Nat} {E : Int} {L : List Nat} (hB : Blk w2 g 34 #[x0, x1, x2]) (hR : Rd w2 A n c L) (hN : Neat ng L E) (hd : rdy ng L E = D) (hb : Below w.heap.size w w2) (hg : w.heap.size ≤ g) :
    RetR D w (.returned (.agg #[.bool ng, .slice A n c, .int .i64 E])) (((w2.setCell ⟨g, 0, none⟩ (.bool ng)).setCell ⟨g, 1, none⟩ (.slice A n c)).setCell ⟨g, 2, none⟩ (.int .i64 E)) :=
  ⟨ng, A, n, c, E, L, rfl, ((hR.far hB (by decide) 0 _).far (hB.set_ 0 _) (by decide) 1 _).far ((hB.set_ 0 _).set_ 1 _) (by decide) 2 _, hN, hd, ((hb.setCell (p := ⟨g, 0, none⟩) hg _).setCell (p := ⟨g, 1, none⟩) hg _).setCell (p := ⟨g, 2, none⟩) hg _⟩
end Go.Proofs.Ytjjneiidggcfdaa
set_option linter.unusedVariables false
namespace Go.Proofs.Ytjjneiidggcfdaa
open Go.RowKit

/-- Number i has come up, too. -/
def did (d : Nat → Bool) (i : Nat) : Nat → Bool := fun j => if j = i then true else d j
/-- What an operation is handed, by the temporaries. -/
def evS (s : Nat → Value) : Operand → Value
  | .tmp t => s t
  | .const v => v
  | .global g => .pointer (some ⟨g, 0, none⟩)
  | .func f => .func (.func f) #[] #[]
theorem evS_of (a : Act) : a.eval = evS (fun k => a.tmps.getD k undef) := by
  funext x; cases x <;> rfl
def sput (s : Nat → Value) (dst : Option Tmp) (v : Value) : Nat → Value := fun k => if dst = some k then v else s k
/-- An operation that yields a value, or a call that returns one. -/
def OpSteps (P : Program) (o : Oper) (ev : Operand → Value) (w : World) (K : Value → World → Prop) : Prop :=
  match (execOp ev o).run P w with
  | .ok (.value v) w' => K v w'
  | .ok .skip w' => K undef w'
  | .ok (.enter f args) w' => Calls P f args w' fun e w'' => ∃ v, e = .returned v ∧ K v w''
  | _ => False
/-- Each waits for earlier ones alone, is not guarded, and writes one of these temporaries. -/
def plainB (L : List Nat) (n : Nat) : Nat → List Oper → Bool
  | _, [] => true
  | i, o :: r => o.after.all (fun e => !Region.binds .any e || decide (e.on < i)) && o.guard.isNone && (match o.dst with | some k => L.contains k && decide (k < n) | none => true) && plainB L n (i + 1) r
theorem plainB_at {L : List Nat} {n : Nat} : ∀ {i : Nat} {ops : List Oper}, plainB L n i ops = true → ∀ {j : Nat} {o : Oper}, ops[j]? = some o → (∀ e ∈ o.after, Region.binds .any e = true → e.on < i + j) ∧ o.guard = none ∧ ∀ k, o.dst = some k → k ∈ L ∧ k < n
  | i, [], _, j, o, h => by simp at h
  | i, x :: r, h, j, o, ho => by
    simp only [plainB, Bool.and_eq_true] at h
    obtain ⟨⟨⟨h1, h2⟩, h3⟩, h4⟩ := h
    cases j with
    | zero =>
      simp at ho
      subst ho
      refine ⟨fun e he hbd => ?_, by simpa using h2, fun k hk => ?_⟩
      · have := Array.all_eq_true_iff_forall_mem.1 h1 e he
        rw [hbd] at this
        simpa using this
      · rw [hk] at h3
        simpa using h3
    | succ j =>
      have := plainB_at h4 (j := j) (o := o) (by simpa using ho)
      refine ⟨fun e he hbd => ?_, this.2⟩
      have := this.1 e he hbd
      omega
/-- What is to be shown of each operation. -/
def AllSteps (P : Program) (t0 : Array Value) (L : List Nat) (J : (Nat → Bool) → (Nat → Value) → World → Prop) : Nat → List Oper → Prop
  | _, [] => True
  | i, o :: r => (∀ d s w, J d s w → (∀ k, k ∉ L → s k = t0.getD k undef) → d i = false → (∀ e ∈ o.after.toList, Region.binds .any e = true → d e.on = true) → OpSteps P o (evS s) w (fun v w' => J (did d i) (sput s o.dst v) w')) ∧ AllSteps P t0 L J (i + 1) r
theorem AllSteps.at_ {P : Program} {t0 : Array Value} {L : List Nat} {J : (Nat → Bool) → (Nat → Value) → World → Prop} : ∀ {i : Nat} {ops : List Oper}, AllSteps P t0 L J i ops → ∀ {j : Nat} {o : Oper}, ops[j]? = some o →
    ∀ d s w, J d s w → (∀ k, k ∉ L → s k = t0.getD k undef) → d (i + j) = false → (∀ e ∈ o.after.toList, Region.binds .any e = true → d e.on = true) → OpSteps P o (evS s) w (fun v w' => J (did d (i + j)) (sput s o.dst v) w')
  | i, [], _, j, o, h => by simp at h
  | i, x :: r, h, j, o, ho => by
    cases j with
    | zero => simp at ho; subst ho; exact h.1
    | succ j =>
      have := AllSteps.at_ h.2 (j := j) (o := o) (by simpa using ho)
      rw [show i + (j + 1) = i + 1 + j by omega]
      exact this
/-- The temporaries behind the region. -/
def setAll (t : Array Value) (s : Nat → Value) : List Nat → Array Value
  | [] => t
  | k :: L => (setAll t s L).setIfInBounds k (s k)
theorem setAll_size (t : Array Value) (s : Nat → Value) (L : List Nat) : (setAll t s L).size = t.size := by
  induction L with
  | nil => rfl
  | cons k L ih => simp [setAll, ih]
theorem setAll_getD (t : Array Value) (s : Nat → Value) (L : List Nat) (k : Nat) (hk : k < t.size) : (setAll t s L).getD k undef = if k ∈ L then s k else t.getD k undef := by
  induction L with
  | nil => simp [setAll]
  | cons x L ih =>
    have hs := setAll_size t s L
    by_cases e : x = k
    · subst e
      simp [setAll, Array.getD, hs, hk]
    · have : (setAll t s (x :: L)).getD k undef = (setAll t s L).getD k undef := by
        simp only [setAll, Array.getD_eq_getD_getElem?]
        rw [Array.getElem?_setIfInBounds_ne e]
      rw [this, ih]
      have e' : ¬ k = x := fun h => e h.symm
      simp [e']
theorem arr_getD (t : Array Value) {i : Nat} (h : i < t.size) : t.getD i undef = t[i] := by simp [Array.getD, h]
structure Fr (a0 : Act) (L : List Nat) (a : Act) : Prop where
  defers : a.defers = a0.defers
  size : a.tmps.size = a0.tmps.size
  keep : ∀ k, k ∉ L → a.tmps.getD k undef = a0.tmps.getD k undef
theorem Fr.eq_ {a0 a : Act} {L : List Nat} (h : Fr a0 L a) : a = ⟨setAll a0.tmps (fun k => a.tmps.getD k undef) L, a0.defers⟩ := by
  obtain ⟨t, df⟩ := a
  obtain ⟨h1, h2, h3⟩ := h
  simp only at h1 h2 h3
  subst h1
  congr 1
  refine Array.ext (by rw [setAll_size, h2]) fun i hi hi' => ?_
  have hi0 : i < a0.tmps.size := by rw [← h2]; exact hi
  have hg := setAll_getD a0.tmps (fun k => t.getD k undef) L i hi0
  have e1 := arr_getD (setAll a0.tmps (fun k => t.getD k undef) L) hi'
  have e2 := arr_getD t hi
  rw [e1] at hg
  refine Eq.trans e2.symm (Eq.trans ?_ hg.symm)
  by_cases hn : i ∈ L
  · rw [if_pos hn]
  · rw [if_neg hn]; exact h3 i hn
theorem Fr.put_ {a0 a : Act} {L : List Nat} (h : Fr a0 L a) {dst : Option Tmp} (hd : ∀ k, dst = some k → k ∈ L) (v : Value) : Fr a0 L (a.put dst v) := by
  cases dst with
  | none => exact h
  | some k =>
    refine ⟨h.defers, by simpa [Act.put] using h.size, fun x hx => ?_⟩
    have : k ≠ x := fun e => hx (e ▸ hd k rfl)
    have e : (a.put (some k) v).tmps.getD x undef = a.tmps.getD x undef := by
      simp only [Act.put, Array.getD_eq_getD_getElem?]
      rw [Array.getElem?_setIfInBounds_ne this]
    rw [e]; exact h.keep x hx
theorem put_slots {a : Act} {n : Nat} (hn : a.tmps.size = n) {dst : Option Tmp} (hd : ∀ k, dst = some k → k < n) (v : Value) : (fun k => (a.put dst v).tmps.getD k undef) = sput (fun k => a.tmps.getD k undef) dst v := by
  funext x
  cases dst with
  | none => simp [Act.put, sput]
  | some k =>
    have hk := hd k rfl
    unfold sput
    by_cases e : k = x
    · subst e
      simp [Act.put, Array.getD, hn, hk]
    · rw [if_neg (by simpa using e)]
      simp only [Act.put, Array.getD_eq_getD_getElem?]
      rw [Array.getElem?_setIfInBounds_ne e]

section
variable {P : Program} {ops : Array Oper} {Q : Exit → Act → World → Prop} {a0 : Act} {L : List Nat} {J : (Nat → Bool) → (Nat → Value) → World → Prop}
theorem wpOp_inv (hp : plainB L a0.tmps.size 0 ops.toList = true) (hs : AllSteps P a0.tmps L J 0 ops.toList) {d : Nat → Bool} {a : Act} {w : World} (hF : Fr a0 L a) (hJ : J d (fun k => a.tmps.getD k undef) w) {i : Nat} {o : Oper} (ho : ops[i]? = some o) (hd : d i = false)
    (hdep : ∀ e ∈ o.after, Region.binds .any e = true → d e.on = true) : wpOp P ops Q i (fun a' w' => Fr a0 L a' ∧ J (did d i) (fun k => a'.tmps.getD k undef) w') a w := by
  have ho' : ops.toList[i]? = some o := by simpa using ho
  obtain ⟨_, hg, hdst⟩ := plainB_at hp ho'
  have h := hs.at_ ho' d _ w hJ (fun k hk => hF.keep k hk) (by simpa using hd) (fun e he => hdep e (by simpa using he))
  rw [Nat.zero_add] at h
  have hput : ∀ v w', J (did d i) (sput (fun k => a.tmps.getD k undef) o.dst v) w' → Fr a0 L (a.put o.dst v) ∧ J (did d i) (fun k => (a.put o.dst v).tmps.getD k undef) w' := fun v w' hj =>
    ⟨hF.put_ (fun k hk => (hdst k hk).1) v, by rw [put_slots hF.size (fun k hk => (hdst k hk).2)]; exact hj⟩
  unfold wpOp
  simp only [ho]
  have hw : Region.wanted o (yielded ops a.tmps) = true := by unfold Region.wanted; rw [hg]
  rw [hw, if_pos rfl]
  refine .inl ?_
  unfold Oper.wp
  rw [evS_of a]
  unfold OpSteps at h
  generalize (execOp (evS fun k => a.tmps.getD k undef) o).run P w = r at *
  cases r with
  | halt x w' => exact h.elim
  | ok n w' =>
    cases n <;> simp only [Oper.upon] at h ⊢
    case value v => exact hput v w' h
    case skip => exact hput undef w' h
    case enter f args =>
      refine Calls.mono h fun e w'' he => ?_
      obtain ⟨v, rfl, hj⟩ := he
      exact hput v w'' hj

theorem wpAny_inv (hp : plainB L a0.tmps.size 0 ops.toList = true) (hs : AllSteps P a0.tmps L J 0 ops.toList)
    (done : ∀ d a w, Fr a0 L a → J d (fun k => a.tmps.getD k undef) w → (∀ i, i < ops.size → d i = true) → Q .normal a w) :
    ∀ (fuel : Nat) (listed : Array Bool) (l : List Nat) (a : Act) (w : World), listed.size = ops.size → l.Nodup → (∀ i, i ∈ l ↔ listed.getD i true = false) → l.length ≤ fuel →
      Fr a0 L a → J (fun j => listed.getD j false) (fun k => a.tmps.getD k undef) w → wpAny P .any ops Q fuel listed a w := by
  have hnone : ∀ (listed : Array Bool), listed.size = ops.size → Region.ready .any ops listed = [] → ∀ i, i < ops.size → listed.getD i false = true := by
    intro listed hsz hr i
    induction i using Nat.strongRecOn with
    | ind i ih =>
      intro hi
      cases hb : listed.getD i false
      · exfalso
        have : i ∈ Region.ready .any ops listed := mem_ready.2 ⟨by simpa [Array.getD, hsz, hi] using hb, ops[i], Array.getElem?_eq_getElem hi, fun e he hbd => by
          have h1 := (plainB_at hp (j := i) (o := ops[i]) (by simp [hi])).1 e he hbd
          exact ih e.on (by omega) (by omega)⟩
        rw [hr] at this; cases this
      · rfl
  intro fuel
  induction fuel with
  | zero =>
    intro listed l a w hsz hnd hl hlen hF hJ
    have hl0 : l = [] := List.length_eq_zero_iff.1 (by omega)
    subst hl0
    have hr : Region.ready .any ops listed = [] := by
      refine List.eq_nil_iff_forall_not_mem.2 fun i hi => ?_
      have := (hl i).2 (mem_ready.1 hi).1
      cases this
    exact ⟨hr, done _ a w hF hJ (hnone listed hsz hr)⟩
  | succ fuel ih =>
    intro listed l a w hsz hnd hl hlen hF hJ
    refine ⟨fun hr => done _ a w hF hJ (hnone listed hsz hr), fun i hi => ?_⟩
    obtain ⟨h0, o, ho, hdep⟩ := mem_ready.1 hi
    have hi2 : i < listed.size := by
      rcases Nat.lt_or_ge i listed.size with h | h
      · exact h
      · simp [Array.getD, Nat.not_lt.2 h] at h0
    have h0' : listed.getD i false = false := by simpa [Array.getD, hi2] using h0
    refine wpOp_mono (fun a' w' h => ?_) (wpOp_inv hp hs hF hJ ho h0' hdep)
    refine ih (listed.setIfInBounds i true) (l.erase i) a' w' (by simp [hsz]) (hnd.erase i) (fun j => ?_) ?_ h.1 ?_
    · rw [hnd.mem_erase_iff, hl j]
      by_cases e : j = i
      · subst e
        simp [Array.getD, hi2]
      · simp only [Array.getD_eq_getD_getElem?]
        rw [Array.getElem?_setIfInBounds_ne (fun h => e h.symm)]
        simp [e]
    · rw [List.length_erase_of_mem ((hl i).2 h0)]; omega
    · have e : (fun j => (listed.setIfInBounds i true).getD j false) = did (fun j => listed.getD j false) i := by
        funext j
        unfold did
        by_cases e : j = i
        · subst e; simp [Array.getD, hi2]
        · rw [if_neg e]
          simp only [Array.getD_eq_getD_getElem?]
          rw [Array.getElem?_setIfInBounds_ne (fun h => e h.symm)]
      rw [e]; exact h.2

/-- THE RULE. -/
theorem wp_region_inv {id : Nat} {t0 : Array Value} {df : List Deferred} {w : World} (L : List Nat) (J : (Nat → Bool) → (Nat → Value) → World → Prop) (hm : P.follows .mixedOrders = true) (hp : plainB L t0.size 0 ops.toList = true)
    (start : J (fun _ => false) (fun k => t0.getD k undef) w.drew) (hs : AllSteps P t0 L J 0 ops.toList)
    (done : ∀ d s w', J d s w' → (∀ i, i < ops.size → d i = true) → Q .normal ⟨setAll t0 s L, df⟩ w') : (Code.region id ops true).wp P Q ⟨t0, df⟩ w := by
  refine wp_region_any hm ?_
  refine wpAny_inv (a0 := ⟨t0, df⟩) (L := L) (J := J) hp hs (fun d a w' hF hJ hd => ?_) ops.size (Array.replicate ops.size false) (List.range ops.size) _ _ (by simp) List.nodup_range (fun i => ?_) (by simp) ⟨rfl, rfl, fun _ _ => rfl⟩ ?_
  · rw [hF.eq_]
    exact done d _ w' hJ hd
  · rw [List.mem_range]
    by_cases h : i < ops.size
    · simp [Array.getD, h]
    · simp [Array.getD, h]
  · have e : (fun j => (Array.replicate ops.size false).getD j false) = fun _ => false := by
      funext j
      simp only [Array.getD_eq_getD_getElem?]
      by_cases h : j < ops.size
      · simp [h]
      · simp [h]
    rw [e]; exact start
end
end Go.Proofs.Ytjjneiidggcfdaa
set_option linter.unusedVariables false
namespace Go.Proofs.Ytjjneiidggcfdaa
open Go.RowKit

/-- The Bool of a guard. -/
def yieldS (ops : Array Oper) (s : Nat → Value) (j : Nat) : Option Bool :=
  match (ops[j]?).bind (·.dst) with
  | some k => (match s k with | .bool b => some b | _ => none)
  | none => none
/-- One operation: it is carried out, or passed by. -/
def StepG (P : Program) (ops : Array Oper) (o : Oper) (s : Nat → Value) (w : World) (K : Value → World → Prop) : Prop :=
  if Region.wanted o (yieldS ops s) = true then OpSteps P o (evS s) w K else K undef w
/-- What is to be shown of each operation. -/
def AllStepsG (P : Program) (ops : Array Oper) (t0 : Array Value) (L : List Nat) (J : (Nat → Bool) → (Nat → Value) → World → Prop) : Nat → List Oper → Prop
  | _, [] => True
  | i, o :: r => (∀ d s w, J d s w → (∀ k, k ∉ L → s k = t0.getD k undef) → d i = false → (∀ e ∈ o.after.toList, Region.binds .any e = true → d e.on = true) → StepG P ops o s w (fun v w' => J (did d i) (sput s o.dst v) w')) ∧ AllStepsG P ops t0 L J (i + 1) r
theorem AllStepsG.at_ {P : Program} {ops : Array Oper} {t0 : Array Value} {L : List Nat} {J : (Nat → Bool) → (Nat → Value) → World → Prop} : ∀ {i : Nat} {os : List Oper}, AllStepsG P ops t0 L J i os → ∀ {j : Nat} {o : Oper}, os[j]? = some o →
    ∀ d s w, J d s w → (∀ k, k ∉ L → s k = t0.getD k undef) → d (i + j) = false → (∀ e ∈ o.after.toList, Region.binds .any e = true → d e.on = true) → StepG P ops o s w (fun v w' => J (did d (i + j)) (sput s o.dst v) w')
  | i, [], _, j, o, h => by simp at h
  | i, x :: r, h, j, o, ho => by
    cases j with
    | zero => simp at ho; subst ho; exact h.1
    | succ j =>
      have := AllStepsG.at_ h.2 (j := j) (o := o) (by simpa using ho)
      rw [show i + (j + 1) = i + 1 + j by omega]
      exact this
section
variable {P : Program} {ops : Array Oper} {Q : Exit → Act → World → Prop} {a0 : Act} {L : List Nat} {J : (Nat → Bool) → (Nat → Value) → World → Prop}
end
end Go.Proofs.Ytjjneiidggcfdaa
