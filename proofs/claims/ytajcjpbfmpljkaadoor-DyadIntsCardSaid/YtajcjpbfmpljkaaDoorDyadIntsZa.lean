/-
What the proof rests on: laws of floats, lists, memory and the walks of the functions. Conditions: as each says.
-/
import Derived.Below
import Derived.ChangeSame
import Derived.Laws.Cover2
import Derived.Test.YtajcjpbfmpljkaaDoorRows
import Derived.KernelRfl
import Derived.WalkKit
import Derived.Laws.Rows
import Derived.Deep.Draws
import Derived.Laws.OwnMore
import Derived.Lib.Hide
import Derived.WalkLawsBesides
import Derived.WalkSpells
import Derived.LoopTactic
import Derived.Outline
import Derived.Deep.QuietTactic
import Derived.BigQuiet
import Derived.RegionTactic
import Derived.Lib.BitFns
import Derived.Deep.RegionHeld3
import Derived.Deep.DrawnRows
import Derived.Laws.FloatBits
import GoSem.Core.Float
import Derived.Laws.BitsAllLaws
import Derived.Laws.Externs
import Derived.Deep.RegionWith
import Derived.Shelf.Spec.BitsCarry
import Derived.Deep.OwnRows
import Derived.Deep.DeepCutAuto
import Derived.IntWalk
import Derived.Shelf.Spec.TrailingZeros
import Derived.Lib.LaidTab
import Derived.Lib.ItoaNum
import Derived.Lib.LaidU8
set_option linter.unusedVariables false
namespace Go.Proofs.YtajcjpbfmpljkaaDoor
open Go.RowKit Go.WideShapes Go.ChangeShapes

section
variable {H : Type} {enc : TypeId × Value → H} {P : Program}
theorem post_of_below {f : Func} {s : ChangeSpec} {apart fresh handsOn again : Bool} {W W' : World} {args : Array Value} {v : Value} {ds gs : List (DataW H)} {before pa pv : List MemPlace}
    (hW : DataW.Whole enc P f.params.toList s.vars apart W args.toList ds gs before)
    (hres : ∀ (b : Nat) (sp : Nat → Bool) (hd : Bool), DataW.TrodAll enc P W' b sp hd f.resultTypes.toList (v.resultList f.resultTypes.size) (s.fn H (ds ++ gs)).results [])
    (hargs : ∀ sp : Nat → Bool, (∀ p ∈ before, sp p.block = true) → DataW.TrodAll enc P W' 0 sp true f.params.toList args.toList (s.fn H (ds ++ gs)).args pa)
    (hvars : ∀ sp : Nat → Bool, (∀ p ∈ before, sp p.block = true) → DataW.TrodVars enc P W' sp s.vars (s.fn H (ds ++ gs)).vars pv)
    (hps : before = pa ++ pv) (hb : Below W.heap.size W W')
    (hok : ∀ (j : Nat) (t : TypeId) (r : Value), f.resultTypes[j]? = some t → (v.resultList f.resultTypes.size)[j]? = some r → Value.okWide P W' .any 0 t r) :
    s.post enc P f apart fresh handsOn again W args v W' := by
  have hlt : ∀ p ∈ before, p.block < W.heap.size := fun p hp => hW.lt p hp
  have hold : ∀ p ∈ before, (fun b => decide (b < W.heap.size)) p.block = true := fun p hp => by simpa using hlt p hp
  refine ⟨ds, gs, before, [], pa, pv, hW, hres _ _ _, hargs _ hold, hvars _ hold, World.keptBut_mono (fun p hp => ⟨hp, ?_⟩) (hb.frame (· ∈ before)), fun _ => ?_⟩
  · rw [hps, List.mem_append] at hp
    exact Or.inr hp
  · obtain ⟨_, _, _, _, _, hz, hn⟩ := hW
    refine ⟨hok, _, _, ([] ++ pa) ++ pv, ⟨[] ++ pa, pv, trodAll_append (hargs _ (fun _ _ => rfl)) (hres _ _ _), hvars _ (fun _ _ => rfl), rfl, ?_, ?_⟩, ?_⟩
    · intro b off hp
      have hin : MemPlace.cell b off ∈ before := by rw [hps]; simpa using hp
      rw [hb.frozen (hlt _ hin)]
      exact hz b off hin
    · intro ha
      have := hn ha
      rw [hps] at this
      simpa using this
    · intro p hp _
      rw [hps]
      simpa using hp
end
end Go.Proofs.YtajcjpbfmpljkaaDoor
set_option linter.unusedVariables false
namespace Go.Proofs.YtajcjpbfmpljkaaDoor
open Go.RowKit Go.WideShapes Go.ChangeShapes

/-- The types lead to each other alone, and each slice's elements take room. -/
def fineAt (P : Program) (L : List TypeId) (t : TypeId) : Bool := match P.underlying t with
  | some (.slice e) => decide (0 < P.cellsOf e) && L.contains e
  | some (.pointer e) => L.contains e
  | some (.struct fs) => fs.toList.all fun f => L.contains f.type
  | some (.array _ e) => L.contains e
  | some (.map _ e) => L.contains e
  | _ => true
def Fine (P : Program) (L : List TypeId) : Prop := L.all (fineAt P L) = true
theorem Fine.at_ {P : Program} {L : List TypeId} (h : Fine P L) {t : TypeId} (ht : t ∈ L) : fineAt P L t = true := List.all_eq_true.1 h t ht

section
variable {H : Type} {enc : TypeId × Value → H} {P : Program}
theorem trod_spare {L : List TypeId} (hz : Fine P L) {w : World} {sp : Nat → Bool} : ∀ (n : Nat) (t : TypeId) (cs : List Value) (x : DataW H × List MemPlace), t ∈ L →
    DataW.trod enc P w 0 (fun _ => true) true n t cs = some x → (∀ p ∈ x.2, sp p.block = true) → DataW.trod enc P w 0 sp true n t cs = some x := by
  intro n
  induction n with
  | zero => intro t cs x _ h; simp [DataW.trod] at h
  | succ n ih =>
    intro t cs x htL h hs
    have hat := hz.at_ htL
    unfold fineAt at hat
    rw [DataW.trod_step] at h ⊢
    unfold DataW.trodStep at h ⊢
    split at h
    case h_6 e a ht =>
      rw [ht] at hat
      have hin : e ∈ L := by simpa using hat
      simp only [Option.map_eq_some_iff, Option.bind_eq_some_iff] at h ⊢
      obtain ⟨y, ⟨cs', hc, hy⟩, rfl⟩ := h
      exact ⟨y, ⟨cs', hc, ih _ _ _ hin hy fun p hp => hs p (by simp [hp])⟩, rfl⟩
    case h_8 e a len cap ht =>
      rw [ht] at hat
      have hin : e ∈ L := by simp at hat; exact hat.2
      have hpe : 0 < P.cellsOf e := by simp at hat; exact hat.1
      simp only at h ⊢
      split at h
      · rename_i hc
        rw [if_pos hc]
        simp only [Option.map_eq_some_iff, Option.bind_eq_some_iff] at h ⊢
        obtain ⟨elems, he, rest, hrest, rfl⟩ := h
        rw [if_pos trivial] at hrest
        have hlen : elems.length = len := by simpa using mapM_some_length he
        have hrl : rest.length = cap - len := by simpa using mapM_some_length hrest
        refine ⟨elems, mapM_carry he (fun i y hi hy hv => ?_), rest, ?_, rfl⟩
        · simp only [Option.bind_eq_some_iff] at hv ⊢
          obtain ⟨cs', h1, h2⟩ := hv
          exact ⟨cs', h1, ih _ _ _ hin h2 fun p hp => hs p (List.mem_append_right _ (List.mem_flatMap.2 ⟨y, List.mem_append_left _ hy, hp⟩))⟩
        · by_cases hcap : cap = 0
          · have : rest = [] := List.length_eq_zero_iff.1 (by omega)
            subst this
            split
            · have e0 : cap - len = 0 := by omega
              rw [e0]; rfl
            · rfl
          · have hsp : sp a.block = true := by
              have hm : MemPlace.cell a.block (a.off + 0) ∈ MemPlace.row a ((elems.length + rest.length) * P.cellsOf e) :=
                MemPlace.mem_row.2 ⟨0, Nat.mul_pos (by omega) hpe, rfl⟩
              exact hs _ (List.mem_append_left _ hm)
            rw [if_pos hsp]
            refine mapM_carry hrest (fun i y hi hy hv => ?_)
            simp only [Option.bind_eq_some_iff] at hv ⊢
            obtain ⟨cs', h1, h2⟩ := hv
            exact ⟨cs', h1, ih _ _ _ hin h2 fun p hp => hs p (List.mem_append_right _ (List.mem_flatMap.2 ⟨y, List.mem_append_right _ hy, hp⟩))⟩
      · cases h
    case h_9 fs ht =>
      rw [ht] at hat
      split at h
      · rename_i hc
        rw [if_pos hc]
        simp only [Option.map_eq_some_iff] at h ⊢
        obtain ⟨xs, hx, rfl⟩ := h
        exact ⟨xs, mapM_carry hx (fun f y hf hy hv => ih _ _ _ (by simpa using List.all_eq_true.1 hat f hf) hv (fun p hp => hs p (List.mem_flatMap.2 ⟨y, hy, hp⟩))), rfl⟩
      · cases h
    case h_10 m e ht =>
      rw [ht] at hat
      have hin : e ∈ L := by simpa using hat
      split at h
      · rename_i hc
        rw [if_pos hc]
        simp only [Option.map_eq_some_iff] at h ⊢
        obtain ⟨xs, hx, rfl⟩ := h
        exact ⟨xs, mapM_carry hx (fun f y hf hy hv => ih _ _ _ hin hv (fun p hp => hs p (List.mem_flatMap.2 ⟨y, hy, hp⟩))), rfl⟩
      · cases h
    case h_14 k e b ht =>
      rw [ht] at hat
      have hin : e ∈ L := by simpa using hat
      split at h
      · rename_i es clock hb
        split at h
        · rename_i hc
          rw [if_pos hc]
          simp only [Option.bind_eq_some_iff] at h ⊢
          obtain ⟨entries, he, hd⟩ := h
          split at hd
          · rename_i hris
            have hx := Option.some.inj hd
            subst hx
            refine ⟨entries, mapM_carry he (fun x y _ hy hv => ?_), by simp [hris]⟩
            simp only [Option.bind_eq_some_iff] at hv ⊢
            obtain ⟨key, hk, hq⟩ := hv
            refine ⟨key, hk, ?_⟩
            split at hq
            · rename_i hf
              rw [if_pos hf]
              simp only [Option.map_eq_some_iff] at hq ⊢
              obtain ⟨q, hq, rfl⟩ := hq
              exact ⟨q, ih _ _ _ hin hq (fun p hp => hs p (by simp only [List.mem_cons, List.mem_flatMap]; right; exact ⟨_, hy, hp⟩)), rfl⟩
            · cases hq
          · cases hd
        · cases h
      · cases h
    all_goals exact h

/-- The arguments read as they did, where nothing below changed. -/
theorem trodAll_again {L : List TypeId} (hz : Fine P L) {W W' : World} {sp : Nat → Bool} : ∀ {ts : List TypeId} {vs : List Value} {ds : List (DataW H)} {ps : List MemPlace}, (∀ t ∈ ts, t ∈ L) →
    DataW.TrodAll enc P W 0 (fun _ => true) true ts vs ds ps → (∀ p ∈ ps, p.block < W.heap.size) → Below W.heap.size W W' → (∀ p ∈ ps, sp p.block = true) →
    DataW.TrodAll enc P W' 0 sp true ts vs ds ps
  | [], [], [], _, _, h, _, _, _ => h
  | t :: _, _ :: _, _ :: _, _, hin, ⟨p, q, ⟨n, h1⟩, h2, e⟩, hlt, hb, hs => by
    subst e
    refine ⟨p, q, ⟨n, ?_⟩, trodAll_again hz (fun y hy => hin y (List.mem_cons_of_mem _ hy)) h2 (fun x hx => hlt x (List.mem_append_right _ hx)) hb (fun x hx => hs x (List.mem_append_right _ hx)), rfl⟩
    refine trod_spare hz n _ _ _ (hin t (List.mem_cons_self ..)) (DataW.trod_carry n _ _ _ h1 fun x hx => ?_) (fun x hx => hs x (List.mem_append_left _ hx))
    have hx' := hlt x (List.mem_append_left _ hx)
    cases x with
    | cell b off => exact hb.cell (p := ⟨b, off, none⟩) hx'
    | map b => exact hb.block b hx'

theorem post_again {L : List TypeId} (hz : Fine P L) {f : Func} {s : ChangeSpec} {apart fresh handsOn again : Bool} {W W' : World} {args : Array Value} {v : Value} {ds gs : List (DataW H)} {before : List MemPlace}
    (hW : DataW.Whole enc P f.params.toList s.vars apart W args.toList ds gs before) (hn : s.vars = []) (hin : ∀ t ∈ f.params.toList, t ∈ L)
    (hres : ∀ (b : Nat) (sp : Nat → Bool) (hd : Bool), DataW.TrodAll enc P W' b sp hd f.resultTypes.toList (v.resultList f.resultTypes.size) (s.fn H (ds ++ gs)).results [])
    (ha : (s.fn H (ds ++ gs)).args = ds) (hv : (s.fn H (ds ++ gs)).vars = []) (hb : Below W.heap.size W W')
    (hok : ∀ (j : Nat) (t : TypeId) (r : Value), f.resultTypes[j]? = some t → (v.resultList f.resultTypes.size)[j]? = some r → Value.okWide P W' .any 0 t r) :
    s.post enc P f apart fresh handsOn again W args v W' := by
  have hlt := hW.lt
  have hW' := hW
  obtain ⟨p, q, hA, hV, rfl, hfz, hnd⟩ := hW
  have hq : q = [] := by
    rw [hn] at hV
    cases gs with
    | nil => exact hV
    | cons a b => cases hV
  subst hq
  have hvs : ∀ sp, DataW.TrodVars enc P W' sp s.vars (s.fn H (ds ++ gs)).vars [] := fun sp => by rw [hv, hn]; rfl
  refine post_of_below (pa := p) (pv := []) hW' hres (fun sp hsp => ?_) (fun sp _ => hvs sp) rfl hb hok
  rw [ha]
  exact trodAll_again hz hin hA (fun x hx => hlt x (by simpa using hx)) hb (fun x hx => hsp x (by simpa using hx))
end
end Go.Proofs.YtajcjpbfmpljkaaDoor
set_option linter.unusedVariables false
namespace Go.Proofs.YtajcjpbfmpljkaaDoor

/-- m times 2^e. -/
def dy (m e : Int) : Dyadic := Dyadic.ofIntWithPrec m (-e)

theorem dy_toRat (m e : Int) : (dy m e).toRat = m * 2 ^ e := by
  unfold dy; rw [Dyadic.toRat_ofIntWithPrec_eq_mul_two_pow, Int.neg_neg]
theorem dy_zero (e : Int) : dy 0 e = 0 := rfl
theorem dy_neg (m e : Int) : -dy m e = dy (-m) e := Dyadic.neg_ofIntWithPrec
theorem two_ne : (2 : Rat) ≠ 0 := by decide
theorem dy_add (m n e : Int) : dy m e + dy n e = dy (m + n) e := by
  rw [← Dyadic.toRat_inj, Dyadic.toRat_add, dy_toRat, dy_toRat, dy_toRat, Rat.intCast_add, Rat.add_mul]
theorem dy_mul (m n e f : Int) : dy m e * dy n f = dy (m * n) (e + f) := by
  rw [← Dyadic.toRat_inj, Dyadic.toRat_mul, dy_toRat, dy_toRat, dy_toRat, Rat.intCast_mul, Rat.zpow_add two_ne]
  grind
theorem dy_pow (m e : Int) (k : Nat) : dy (m * 2 ^ k) e = dy m (e + k) := by
  rw [← Dyadic.toRat_inj, dy_toRat, dy_toRat, Rat.intCast_mul, Rat.zpow_add two_ne, Rat.zpow_natCast, Rat.intCast_pow]
  have : ((2 : Int) : Rat) = 2 := rfl
  rw [this]
  grind
theorem dy_lt (m n e : Int) : dy m e < dy n e ↔ m < n := by
  rw [← Dyadic.toRat_lt_toRat_iff, dy_toRat, dy_toRat]
  have h : (0 : Rat) < 2 ^ e := Rat.zpow_pos (by decide)
  constructor
  · intro hl
    have := Rat.lt_of_mul_lt_mul_right hl (Rat.le_of_lt h)
    exact Rat.intCast_lt_intCast.1 this
  · intro hl
    exact Rat.mul_lt_mul_of_pos_right (Rat.intCast_lt_intCast.2 hl) h
theorem dy_eq (m n e : Int) : dy m e = dy n e ↔ m = n := by
  constructor
  · intro h
    have h1 := dy_lt m n e
    have h2 := dy_lt n m e
    rw [h] at h1 h2
    have i1 : ¬ dy n e < dy n e := by rw [← Dyadic.toRat_lt_toRat_iff]; exact Rat.lt_irrefl
    have j1 : ¬ m < n := fun hh => i1 (h1.2 hh)
    have j2 : ¬ n < m := fun hh => i1 (h2.2 hh)
    omega
  · rintro rfl; rfl
theorem dy_eq_zero (m e : Int) : dy m e = 0 ↔ m = 0 := by rw [← dy_zero e, dy_eq]
/-- The m and the e of the canonical form. -/
def mant : Dyadic → Int | .zero => 0 | .ofOdd n _ _ => n
def expo : Dyadic → Int | .zero => 0 | .ofOdd _ k _ => -k
theorem dy_mant (d : Dyadic) : dy (mant d) (expo d) = d := by
  cases d with
  | zero => rfl
  | ofOdd n k h => simp only [mant, expo, dy, Int.neg_neg]; exact Dyadic.ofOdd_eq_ofIntWithPrec.symm
theorem mant_zero : mant 0 = 0 := rfl
theorem expo_zero : expo 0 = 0 := rfl
theorem dy_odd (m e : Int) (h : m % 2 = 1) : dy m e = .ofOdd m (-e) h := (Dyadic.ofOdd_eq_ofIntWithPrec).symm
theorem mant_dy (m e : Int) (h : m % 2 = 1) : mant (dy m e) = m := by rw [dy_odd m e h]; rfl
theorem expo_dy (m e : Int) (h : m % 2 = 1) : expo (dy m e) = e := by rw [dy_odd m e h]; simp [expo]
end Go.Proofs.YtajcjpbfmpljkaaDoor
set_option linter.unusedVariables false
namespace Go.Proofs.YtajcjpbfmpljkaaDoor

/-- The number of digits to base B, the lowest first. -/
def ofd (B : Nat) : List Nat → Nat
  | [] => 0
  | d :: l => d + B * ofd B l
/-- The digits, none at the end that is 0. -/
def digs (B n : Nat) : List Nat := if _h : n = 0 ∨ B < 2 then [] else n % B :: digs B (n / B)
  termination_by n
  decreasing_by exact Nat.div_lt_self (by omega) (by omega)

theorem ofd_nil (B : Nat) : ofd B [] = 0 := rfl
theorem ofd_cons (B d : Nat) (l : List Nat) : ofd B (d :: l) = d + B * ofd B l := rfl
theorem digs_zero (B : Nat) : digs B 0 = [] := by rw [digs]; simp
theorem digs_pos {B n : Nat} (hB : 2 ≤ B) (h : n ≠ 0) : digs B n = n % B :: digs B (n / B) := by rw [digs, dif_neg (by omega)]
theorem ofd_digs {B : Nat} (hB : 2 ≤ B) (n : Nat) : ofd B (digs B n) = n := by
  induction n using Nat.strongRecOn with
  | ind n ih =>
    by_cases h : n = 0
    · subst h; rw [digs_zero]; rfl
    · rw [digs_pos hB h, ofd_cons, ih _ (Nat.div_lt_self (by omega) (by omega))]
      exact Nat.mod_add_div n B
theorem ofd_append (B : Nat) (l m : List Nat) : ofd B (l ++ m) = ofd B l + B ^ l.length * ofd B m := by
  induction l with
  | nil => simp [ofd]
  | cons d l ih => rw [List.cons_append, ofd_cons, ofd_cons, ih, List.length_cons, Nat.pow_succ]; grind
theorem ofd_replicate (B n : Nat) : ofd B (List.replicate n 0) = 0 := by
  induction n with
  | zero => rfl
  | succ n ih => rw [List.replicate_succ, ofd_cons, ih]; simp
/-- All digits are below B. -/
def Digs (B : Nat) (l : List Nat) : Prop := ∀ d ∈ l, d < B
theorem Digs.nil (B : Nat) : Digs B [] := fun _ h => by cases h
theorem Digs.cons {B d : Nat} {l : List Nat} (h : d < B) (hl : Digs B l) : Digs B (d :: l) := fun x hx => by
  rcases List.mem_cons.1 hx with rfl | hx
  · exact h
  · exact hl x hx
theorem Digs.tail {B d : Nat} {l : List Nat} (h : Digs B (d :: l)) : Digs B l := fun x hx => h x (List.mem_cons_of_mem _ hx)
theorem Digs.head {B d : Nat} {l : List Nat} (h : Digs B (d :: l)) : d < B := h d List.mem_cons_self
theorem Digs.append {B : Nat} {l m : List Nat} (h : Digs B l) (k : Digs B m) : Digs B (l ++ m) := fun x hx => by
  rcases List.mem_append.1 hx with hx | hx
  · exact h x hx
  · exact k x hx
theorem Digs.take {B : Nat} {l : List Nat} (h : Digs B l) (n : Nat) : Digs B (l.take n) := fun x hx => h x (List.mem_of_mem_take hx)
theorem Digs.drop {B : Nat} {l : List Nat} (h : Digs B l) (n : Nat) : Digs B (l.drop n) := fun x hx => h x (List.mem_of_mem_drop hx)
theorem Digs.set {B : Nat} {l : List Nat} (h : Digs B l) (i : Nat) {d : Nat} (hd : d < B) : Digs B (l.set i d) := fun x hx => by
  rcases List.mem_or_eq_of_mem_set hx with hx | rfl
  · exact h x hx
  · exact hd
theorem Digs.replicate {B : Nat} (hB : 0 < B) (n : Nat) : Digs B (List.replicate n 0) := fun x hx => by
  rw [List.mem_replicate] at hx; omega
theorem Digs.get {B : Nat} {l : List Nat} (h : Digs B l) (i : Nat) (hi : i < l.length) : l[i] < B := h _ (List.getElem_mem hi)
theorem digs_lt {B : Nat} (hB : 2 ≤ B) (n : Nat) : Digs B (digs B n) := by
  induction n using Nat.strongRecOn with
  | ind n ih =>
    by_cases h : n = 0
    · subst h; rw [digs_zero]; exact Digs.nil B
    · rw [digs_pos hB h]; exact Digs.cons (Nat.mod_lt _ (by omega)) (ih _ (Nat.div_lt_self (by omega) (by omega)))
theorem ofd_lt {B : Nat} {l : List Nat} (h : Digs B l) : ofd B l < B ^ l.length := by
  induction l with
  | nil => simp [ofd]
  | cons d l ih =>
    have h1 := ih h.tail
    have h2 := h.head
    rw [ofd_cons, List.length_cons, Nat.pow_succ]
    have : B * (ofd B l + 1) ≤ B * B ^ l.length := Nat.mul_le_mul_left B h1
    rw [Nat.mul_comm (B ^ l.length) B]
    rw [Nat.mul_add] at this
    omega
/-- The list of digits of a number is the one without noughts at its end. -/
theorem digs_ofd {B : Nat} (hB : 2 ≤ B) {l : List Nat} (h : Digs B l) (hl : l.getLast? ≠ some 0) : digs B (ofd B l) = l := by
  induction l with
  | nil => rw [ofd_nil, digs_zero]
  | cons d l ih =>
    have hd := h.head
    have ht : l.getLast? ≠ some 0 := by
      cases l with
      | nil => simp
      | cons e l => simpa [List.getLast?_cons_cons] using hl
    have h0 : ofd B (d :: l) ≠ 0 := by
      intro e
      rw [ofd_cons] at e
      have e1 : d = 0 := by omega
      have e2 : B * ofd B l = 0 := by omega
      have e3 : ofd B l = 0 := by rcases Nat.mul_eq_zero.1 e2 with h | h <;> omega
      cases l with
      | nil => subst e1; exact hl rfl
      | cons x l =>
        have := ih h.tail ht
        rw [e3, digs_zero] at this
        cases this
    rw [digs_pos hB h0, ofd_cons]
    have m1 : (d + B * ofd B l) % B = d := by rw [Nat.add_mul_mod_self_left]; exact Nat.mod_eq_of_lt hd
    have m2 : (d + B * ofd B l) / B = ofd B l := by rw [Nat.add_mul_div_left _ _ (by omega), Nat.div_eq_of_lt hd, Nat.zero_add]
    rw [m1, m2, ih h.tail ht]
theorem digs_last {B : Nat} (hB : 2 ≤ B) (n : Nat) : (digs B n).getLast? ≠ some 0 := by
  induction n using Nat.strongRecOn with
  | ind n ih =>
    by_cases h : n = 0
    · subst h; rw [digs_zero]; simp
    · rw [digs_pos hB h]
      have := ih (n / B) (Nat.div_lt_self (by omega) (by omega))
      by_cases hq : n / B = 0
      · rw [hq, digs_zero]
        have : n % B = n := Nat.mod_eq_of_lt ((Nat.div_eq_zero_iff_lt (by omega)).1 hq)
        simp; omega
      · rw [digs_pos hB hq] at this ⊢
        rw [List.getLast?_cons_cons]; exact this
theorem digs_length_le {B : Nat} (hB : 2 ≤ B) (n k : Nat) : (digs B n).length ≤ k ↔ n < B ^ k := by
  induction k generalizing n with
  | zero =>
    by_cases h : n = 0
    · subst h; rw [digs_zero]; simp
    · rw [digs_pos hB h]; simp; omega
  | succ k ih =>
    by_cases h : n = 0
    · subst h; rw [digs_zero]; simp; exact Nat.pow_pos (by omega)
    · rw [digs_pos hB h, List.length_cons, Nat.add_le_add_iff_right, ih, Nat.div_lt_iff_lt_mul (by omega), Nat.pow_succ]
theorem digs_eq_nil {B : Nat} (hB : 2 ≤ B) (n : Nat) : digs B n = [] ↔ n = 0 := by
  constructor
  · intro h
    have := ofd_digs hB n
    rw [h] at this; exact this.symm
  · rintro rfl; exact digs_zero B
theorem ofd_take_drop (B : Nat) (l : List Nat) (k : Nat) (hk : k ≤ l.length) : ofd B l = ofd B (l.take k) + B ^ k * ofd B (l.drop k) := by
  have := ofd_append B (l.take k) (l.drop k)
  rw [List.take_append_drop, List.length_take, Nat.min_eq_left hk] at this
  exact this
theorem ofd_drop {B : Nat} (hB : 2 ≤ B) {l : List Nat} (h : Digs B l) (k : Nat) (hk : k ≤ l.length) : ofd B (l.drop k) = ofd B l / B ^ k := by
  have h1 := ofd_take_drop B l k hk
  have h2 := ofd_lt (h.take k)
  rw [List.length_take, Nat.min_eq_left hk] at h2
  rw [h1, Nat.add_mul_div_left _ _ (Nat.pow_pos (by omega)), Nat.div_eq_of_lt h2, Nat.zero_add]
theorem ofd_get {B : Nat} (hB : 2 ≤ B) {l : List Nat} (h : Digs B l) (k : Nat) : l.getD k 0 = ofd B l / B ^ k % B := by
  by_cases hk : k < l.length
  · rw [← ofd_drop hB h k (by omega), List.drop_eq_getElem_cons hk, ofd_cons, Nat.add_mul_mod_self_left, Nat.mod_eq_of_lt (h.get k hk)]
    simp [List.getD, List.getElem?_eq_getElem hk]
  · have h1 := ofd_lt h
    have h2 : B ^ l.length ≤ B ^ k := Nat.pow_le_pow_right (by omega) (by omega)
    rw [Nat.div_eq_of_lt (by omega)]
    simp [List.getD, List.getElem?_eq_none (Nat.le_of_not_lt hk)]
theorem ofd_snoc (B : Nat) (l : List Nat) (d : Nat) : ofd B (l ++ [d]) = ofd B l + B ^ l.length * d := by rw [ofd_append]; simp [ofd]
theorem ofd_take_succ (B : Nat) (l : List Nat) (k : Nat) (hk : k < l.length) : ofd B (l.take (k + 1)) = ofd B (l.take k) + B ^ k * l[k] := by
  rw [List.take_succ_eq_append_getElem hk, ofd_snoc, List.length_take, Nat.min_eq_left (by omega)]
theorem ofd_drop_succ (B : Nat) (l : List Nat) (k : Nat) (hk : k < l.length) : ofd B (l.drop k) = l[k] + B * ofd B (l.drop (k + 1)) := by
  rw [List.drop_eq_getElem_cons hk, ofd_cons]
theorem ofd_set (B : Nat) (l : List Nat) (i v : Nat) (hi : i < l.length) : ofd B (l.set i v) + B ^ i * l[i] = ofd B l + B ^ i * v := by
  induction l generalizing i with
  | nil => simp at hi
  | cons d l ih =>
    cases i with
    | zero => simp [List.set, ofd_cons]; omega
    | succ i =>
      have := ih i (by simpa using hi)
      simp only [List.set_cons_succ, ofd_cons, List.getElem_cons_succ, Nat.pow_succ]
      have e1 : B ^ i * B * l[i]'(by simpa using hi) = B * (B ^ i * l[i]'(by simpa using hi)) := by grind
      have e2 : B ^ i * B * v = B * (B ^ i * v) := by grind
      rw [e1, e2]
      have e3 : B * (ofd B (l.set i v) + B ^ i * l[i]'(by simpa using hi)) = B * (ofd B l + B ^ i * v) := by rw [this]
      rw [Nat.mul_add, Nat.mul_add] at e3
      omega
theorem ofd_take_set (B : Nat) (l : List Nat) (i v : Nat) (hi : i < l.length) : ofd B ((l.set i v).take (i + 1)) = ofd B (l.take i) + B ^ i * v := by
  have h : (l.set i v).take (i + 1) = l.take i ++ [v] := by
    rw [List.take_succ_eq_append_getElem (by simpa using hi), List.take_set_of_le (Nat.le_refl _)]; simp
  rw [h, ofd_snoc, List.length_take, Nat.min_eq_left (by omega)]
theorem drop_set_succ (l : List Nat) (i v : Nat) : (l.set i v).drop (i + 1) = l.drop (i + 1) := by rw [List.drop_set_of_lt (by omega)]
theorem ofd_take_all (B : Nat) (l : List Nat) (k : Nat) (h : l.length ≤ k) : ofd B (l.take k) = ofd B l := by rw [List.take_of_length_le h]
/-- Without the noughts at the end: the list of digits. -/
theorem take_trim {B : Nat} (hB : 2 ≤ B) {l : List Nat} (h : Digs B l) (n : Nat) (hn : n ≤ l.length) (hz : ∀ i, n ≤ i → i < l.length → l.getD i 0 = 0) (hl : n = 0 ∨ l.getD (n - 1) 0 ≠ 0) : l.take n = digs B (ofd B l) := by
  have e : ofd B l = ofd B (l.take n) := by
    rw [ofd_take_drop B l n hn]
    have : l.drop n = List.replicate (l.length - n) 0 := by
      refine List.ext_getElem? fun i => ?_
      rw [List.getElem?_drop]
      by_cases hi : i < l.length - n
      · have := hz (n + i) (by omega) (by omega)
        rw [List.getElem?_eq_getElem (by omega), List.getElem?_eq_getElem (by simpa using hi), List.getElem_replicate]
        simp [List.getD, List.getElem?_eq_getElem (show n + i < l.length by omega)] at this
        rw [this]
      · rw [List.getElem?_eq_none (by omega), List.getElem?_eq_none (by simpa using hi)]
    rw [this, ofd_replicate]; simp
  rw [e, digs_ofd hB (h.take n)]
  rw [List.getLast?_eq_getElem?, List.length_take, Nat.min_eq_left hn, List.getElem?_take]
  by_cases h0 : n = 0
  · subst h0; simp
  · rw [if_pos (by omega)]
    intro e2
    rcases hl with hl | hl
    · exact h0 hl
    · simp [List.getD, e2] at hl
theorem digs_pow_le {B : Nat} (hB : 2 ≤ B) {n : Nat} (h : n ≠ 0) : B ^ ((digs B n).length - 1) ≤ n := by
  rcases Nat.lt_or_ge n (B ^ ((digs B n).length - 1)) with hlt | hge
  · have := (digs_length_le hB n _).2 hlt
    have h2 : (digs B n).length ≠ 0 := fun e => h ((digs_eq_nil hB n).1 (List.eq_nil_of_length_eq_zero e))
    omega
  · exact hge
end Go.Proofs.YtajcjpbfmpljkaaDoor
set_option linter.unusedVariables false
namespace Go.Proofs.YtajcjpbfmpljkaaDoor
open Go.RowKit

theorem below_drewN {B : Nat} {a w : World} (h : Below B a w) (n : Nat) : Below B a (w.drewN n) := ⟨h.os, h.tape, h.output, h.size, h.block⟩
theorem block_lt {w : World} {b o : Nat} {v : Value} (h : w.cell? ⟨b, o, none⟩ = some v) : b < w.heap.size := by
  rcases Nat.lt_or_ge b w.heap.size with hl | hl
  · exact hl
  · simp [World.cell?, Array.getElem?_eq_none hl] at h
/-- The slice's cells are the list. -/
def Row (w : World) (A : Option Addr) (xs : List Value) : Prop := xs = [] ∨ ∃ b o, A = some ⟨b, o, none⟩ ∧ ∀ i v, xs[i]? = some v → w.cell? ⟨b, o + i, none⟩ = some v
theorem Row.nil (w : World) (A : Option Addr) : Row w A [] := .inl rfl
theorem Row.at_ {w : World} {A : Option Addr} {xs : List Value} {i : Nat} {v : Value} (h : Row w A xs) (hi : xs[i]? = some v) :
    ∃ b o, A = some ⟨b, o, none⟩ ∧ b < w.heap.size ∧ w.cell? ⟨b, o + i, none⟩ = some v := by
  rcases h with rfl | ⟨b, o, e, hc⟩
  · simp at hi
  · exact ⟨b, o, e, block_lt (hc i v hi), hc i v hi⟩
theorem Row.below {w w' : World} {A : Option Addr} {xs : List Value} (h : Row w A xs) (hb : Below w.heap.size w w') : Row w' A xs := by
  rcases h with rfl | ⟨b, o, e, hc⟩
  · exact .inl rfl
  · exact .inr ⟨b, o, e, fun i v hi => (hb.cell (p := ⟨b, o + i, none⟩) (block_lt (hc i v hi))).trans (hc i v hi)⟩
theorem Row.drewN {w : World} {A : Option Addr} {xs : List Value} (h : Row w A xs) (n : Nat) : Row (w.drewN n) A xs := h
/-- A cell below the block is as it was. -/
theorem cell_below {w w' : World} {b o : Nat} {v : Value} (h : w.cell? ⟨b, o, none⟩ = some v) (hb : Below w.heap.size w w') : w'.cell? ⟨b, o, none⟩ = some v := (hb.cell (p := ⟨b, o, none⟩) (block_lt h)).trans h

/-- Block g of the world is just these cells, none of them frozen. -/
def Blk (w : World) (g : Nat) (t : TypeId) (cs : Array Value) : Prop := w.heap[g]? = some (.cells cs t (0, 0))
section
variable {w w' : World} {g : Nat} {t : TypeId} {cs : Array Value}
theorem Blk.lt (h : Blk w g t cs) : g < w.heap.size := by
  rcases Nat.lt_or_ge g w.heap.size with hl | hl
  · exact hl
  · unfold Blk at h; rw [Array.getElem?_eq_none hl] at h; cases h
theorem Blk.cell (h : Blk w g t cs) (i : Nat) : w.cell? ⟨g, i, none⟩ = cs[i]? := cell_of_row w g i cs t (0, 0) h
theorem Blk.frozen (h : Blk w g t cs) (i : Nat) : w.frozen? ⟨g, i, none⟩ = false := by
  unfold Blk at h
  simp [World.frozen?, h]
theorem Blk.new (w : World) (t : TypeId) (cs : Array Value) : Blk (w.alloc (.cells cs t)) w.heap.size t cs := heap_alloc_new w _
theorem Blk.alloc (h : Blk w g t cs) (o : Obj) : Blk (w.alloc o) g t cs := (Below.heap_alloc w o g h.lt).trans h
theorem Blk.set_ (h : Blk w g t cs) (i : Nat) (u : Value) : Blk (w.setCell ⟨g, i, none⟩ u) g t (cs.setIfInBounds i u) := by
  unfold Blk at h ⊢
  simp [World.setCell, Array.getElem?_modify, h]
theorem Blk.other (h : Blk w g t cs) {p : Addr} (hp : g ≠ p.block) (u : Value) : Blk (w.setCell p u) g t cs := (Below.heap_setCell w p u g hp).trans h
theorem Blk.below {B : Nat} (h : Blk w g t cs) (hb : Below B w w') (hg : g < B) : Blk w' g t cs := (hb.block g hg).trans h
theorem Blk.drewN (h : Blk w g t cs) (n : Nat) : Blk (w.drewN n) g t cs := h
theorem Blk.drew (h : Blk w g t cs) : Blk w.drew g t cs := h
theorem Blk.store2 {x y : Value} (h : Blk w g t #[x, y]) (u v : Value) : Blk ((w.setCell ⟨g, 0, none⟩ u).setCell ⟨g, 1, none⟩ v) g t #[u, v] := by
  simpa using (h.set_ 0 u).set_ 1 v
theorem Blk.store4 {x0 x1 x2 x3 : Value} (h : Blk w g t #[x0, x1, x2, x3]) (u0 u1 u2 u3 : Value) : Blk ((((w.setCell ⟨g, 0, none⟩ u0).setCell ⟨g, 1, none⟩ u1).setCell ⟨g, 2, none⟩ u2).setCell ⟨g, 3, none⟩ u3) g t #[u0, u1, u2, u3] := by
  simpa using (((h.set_ 0 u0).set_ 1 u1).set_ 2 u2).set_ 3 u3
theorem Blk.new_ (w : World) (t : TypeId) (cs : Array Value) (n : Nat) (hn : w.heap.size = n) : Blk (w.alloc (.cells cs t)) n t cs := by subst hn; exact heap_alloc_new w _
end

/-- 2^64. -/
def Q : Nat := 18446744073709551616
theorem Q_val : Q = 18446744073709551616 := rfl
theorem Q_two : 2 ≤ Q := by unfold Q; omega
theorem Q_pow : Q = 2 ^ 64 := rfl
/-- The words of a list of digits. -/
def u64s (l : List Nat) : List Value := l.map fun (d : Nat) => Value.int .u64 (d : Int)
theorem u64s_get (l : List Nat) (i : Nat) (h : i < l.length) : (u64s l)[i]? = some (.int .u64 (l[i] : Int)) := by simp [u64s, h]
theorem u64s_get? {l : List Nat} {i : Nat} {v : Value} (h : (u64s l)[i]? = some v) : ∃ hi : i < l.length, v = .int .u64 (l[i] : Int) := by
  unfold u64s at h
  rw [List.getElem?_map] at h
  rcases Nat.lt_or_ge i l.length with hl | hl
  · rw [List.getElem?_eq_getElem hl] at h
    exact ⟨hl, by simpa using h.symm⟩
  · rw [List.getElem?_eq_none hl] at h; cases h
/-- The words of a number's size. -/
def dig (z : Int) : List Nat := digs Q z.natAbs
/-- How many they are. -/
def wl (z : Int) : Nat := (dig z).length
/-- Is it below 0? -/
def ng (z : Int) : Bool := decide (z < 0)
theorem ofd_dig (z : Int) : ofd Q (dig z) = z.natAbs := ofd_digs Q_two _
theorem dig_lt (z : Int) : Digs Q (dig z) := digs_lt Q_two _
theorem dig_zero : dig 0 = [] := digs_zero Q
theorem wl_zero (z : Int) : wl z = 0 ↔ z = 0 := by
  unfold wl dig
  rw [List.length_eq_zero_iff, digs_eq_nil Q_two]; omega
theorem dig_neg (z : Int) : dig (-z) = dig z := by unfold dig; rw [Int.natAbs_neg]
theorem wl_neg (z : Int) : wl (-z) = wl z := by unfold wl; rw [dig_neg]
theorem wl_le (z : Int) (k : Nat) : wl z ≤ k ↔ z.natAbs < Q ^ k := digs_length_le Q_two _ _

/-- No word is among the values. -/
def NoInt (cs : Array Value) : Prop := ∀ (i : Nat) (k : IntKind) (n : Int), cs[i]? ≠ some (.int k n)
theorem Row.ne_ {w : World} {A : Option Addr} {l : List Nat} (h : Row w A (u64s l)) {g : Nat} {t : TypeId} {cs : Array Value} (hB : Blk w g t cs) (hn : NoInt cs) :
    l = [] ∨ ∃ b o, A = some ⟨b, o, none⟩ ∧ b ≠ g ∧ ∀ i v, (u64s l)[i]? = some v → w.cell? ⟨b, o + i, none⟩ = some v := by
  rcases h with h | ⟨b, o, e, hc⟩
  · exact .inl (by simpa [u64s] using h)
  · cases l with
    | nil => exact .inl rfl
    | cons d l =>
      refine .inr ⟨b, o, e, ?_, hc⟩
      rintro rfl
      have h0 := hc 0 _ rfl
      rw [Nat.add_zero, hB.cell o] at h0
      exact hn _ _ _ h0
/-- What lies in other blocks stays. -/
theorem Row.far {w w' : World} {A : Option Addr} {l : List Nat} (h : Row w A (u64s l)) {g : Nat} {t : TypeId} {cs : Array Value} (hB : Blk w g t cs) (hn : NoInt cs)
    (hk : ∀ b o, b ≠ g → b < w.heap.size → w'.cell? ⟨b, o, none⟩ = w.cell? ⟨b, o, none⟩) : Row w' A (u64s l) := by
  rcases h.ne_ hB hn with rfl | ⟨b, o, e, hne, hc⟩
  · exact .inl rfl
  · exact .inr ⟨b, o, e, fun i v hi => (hk b (o + i) hne (block_lt (hc i v hi))).trans (hc i v hi)⟩
theorem cell_set {w : World} {b o g i : Nat} (h : b ≠ g) (u : Value) : (w.setCell ⟨g, i, none⟩ u).cell? ⟨b, o, none⟩ = w.cell? ⟨b, o, none⟩ :=
  World.cell?_setCell_other w ⟨g, i, none⟩ ⟨b, o, none⟩ u (fun e => h (by injection e with e1; exact e1.symm))
theorem noInt2 (a : Bool) (A : Option Addr) (n c : Nat) : NoInt #[.bool a, .slice A n c] := by
  intro i k m h
  match i with
  | 0 => simp at h
  | 1 => simp at h
  | i + 2 => simp at h
theorem noInt4 (a a' : Bool) (A A' : Option Addr) (n c n' c' : Nat) : NoInt #[.bool a, .slice A n c, .bool a', .slice A' n' c'] := by
  intro i k m h
  match i with
  | 0 => simp at h
  | 1 => simp at h
  | 2 => simp at h
  | 3 => simp at h
  | i + 4 => simp at h

/-- The slice of n words, with room for c, is the size of the whole number z. -/
def Wh (w : World) (A : Option Addr) (n c : Nat) (z : Int) : Prop := n = wl z ∧ n ≤ c ∧ Row w A (u64s (dig z))
theorem Wh.below {w w' : World} {A : Option Addr} {n c : Nat} {z : Int} (h : Wh w A n c z) (hb : Below w.heap.size w w') : Wh w' A n c z := ⟨h.1, h.2.1, h.2.2.below hb⟩
theorem Wh.neg {w : World} {A : Option Addr} {n c : Nat} {z : Int} (h : Wh w A n c z) : Wh w A n c (-z) := ⟨by rw [wl_neg]; exact h.1, h.2.1, by rw [dig_neg]; exact h.2.2⟩
theorem Wh.zero (w : World) (A : Option Addr) (c : Nat) : Wh w A 0 c 0 := ⟨((wl_zero 0).2 rfl).symm, Nat.zero_le _, by rw [dig_zero]; exact .inl rfl⟩
theorem Wh.far {w w' : World} {A : Option Addr} {n c : Nat} {z : Int} (h : Wh w A n c z) {g : Nat} {t : TypeId} {cs : Array Value} (hB : Blk w g t cs) (hn : NoInt cs)
    (hk : ∀ b o, b ≠ g → b < w.heap.size → w'.cell? ⟨b, o, none⟩ = w.cell? ⟨b, o, none⟩) : Wh w' A n c z := ⟨h.1, h.2.1, h.2.2.far hB hn hk⟩
/-- A whole number that is laid into its place. -/
theorem Wh.store2 {w : World} {A : Option Addr} {n c : Nat} {z : Int} (h : Wh w A n c z) {g : Nat} {t : TypeId} {a : Bool} {A' : Option Addr} {n' c' : Nat} (hB : Blk w g t #[.bool a, .slice A' n' c']) (u v : Value) :
    Wh ((w.setCell ⟨g, 0, none⟩ u).setCell ⟨g, 1, none⟩ v) A n c z :=
  h.far hB (noInt2 _ _ _ _) fun b o hne _ => by rw [cell_set hne, cell_set hne]
theorem Wh.store4 {w : World} {A : Option Addr} {n c : Nat} {z : Int} (h : Wh w A n c z) {g : Nat} {t : TypeId} {a a' : Bool} {A' A'' : Option Addr} {n' c' n'' c'' : Nat} (hB : Blk w g t #[.bool a, .slice A' n' c', .bool a', .slice A'' n'' c'']) (u v x y : Value) :
    Wh ((((w.setCell ⟨g, 0, none⟩ u).setCell ⟨g, 1, none⟩ v).setCell ⟨g, 2, none⟩ x).setCell ⟨g, 3, none⟩ y) A n c z :=
  h.far hB (noInt4 _ _ _ _ _ _ _ _) fun b o hne _ => by rw [cell_set hne, cell_set hne, cell_set hne, cell_set hne]
theorem RetW_def (z : Int) (w : World) (a : Bool) (A : Option Addr) (n c : Nat) (w' : World) (ha : a = ng z) (h : Wh w' A n c z) (hb : Below w.heap.size w w') :
    (∃ A' n' c', Ending.returned (.agg #[.bool a, .slice A n c]) = .returned (.agg #[.bool (ng z), .slice A' n' c']) ∧ Wh w' A' n' c' z ∧ Below w.heap.size w w') := by
  subst ha; exact ⟨A, n, c, rfl, h, hb⟩
/-- The call returned the whole number z. -/
def RetW (z : Int) (w : World) (e : Ending) (w' : World) : Prop := ∃ A n c, e = .returned (.agg #[.bool (ng z), .slice A n c]) ∧ Wh w' A n c z ∧ Below w.heap.size w w'
/-- The two slices are the m and the e of the dyadic number d. -/
def Dr (w : World) (A : Option Addr) (n c : Nat) (A' : Option Addr) (n' c' : Nat) (d : Dyadic) : Prop := Wh w A n c (mant d) ∧ Wh w A' n' c' (expo d)
theorem Dr.below {w w' : World} {A : Option Addr} {n c : Nat} {A' : Option Addr} {n' c' : Nat} {d : Dyadic} (h : Dr w A n c A' n' c' d) (hb : Below w.heap.size w w') : Dr w' A n c A' n' c' d := ⟨h.1.below hb, h.2.below hb⟩
/-- The call returned the dyadic number d. -/
def RetD (d : Dyadic) (w : World) (e : Ending) (w' : World) : Prop :=
  ∃ A n c A' n' c', e = .returned (.agg #[.bool (ng (mant d)), .slice A n c, .bool (ng (expo d)), .slice A' n' c']) ∧ Dr w' A n c A' n' c' d ∧ Below w.heap.size w w'
/-- Only block g has changed. -/
def Only (g : Nat) (w w' : World) : Prop := w.grownBy w' (some g)
theorem Only.refl (g : Nat) (w : World) : Only g w w := World.grownBy.refl w _
theorem Only.set_ {g : Nat} {w w' : World} (h : Only g w w') (i : Nat) (u : Value) : Only g w (w'.setCell ⟨g, i, none⟩ u) :=
  ⟨h.os, h.tape, h.output, by simpa [World.setCell] using h.size, fun k hk hne => (Below.heap_setCell w' _ u k (fun e => hne (by rw [e]))).trans (h.block k hk hne)⟩
theorem Only.drew {g : Nat} {w w' : World} (h : Only g w w') : Only g w w'.drew := ⟨h.os, h.tape, h.output, h.size, h.block⟩
theorem Only.drewN {g : Nat} {w w' : World} (h : Only g w w') (n : Nat) : Only g w (w'.drewN n) := ⟨h.os, h.tape, h.output, h.size, h.block⟩
theorem Only.trans {g : Nat} {a b c : World} (h : Only g a b) (k : Only g b c) : Only g a c :=
  ⟨k.os.trans h.os, k.tape.trans h.tape, k.output.trans h.output, Nat.le_trans h.size k.size, fun i hi hne => (k.block i (Nat.lt_of_lt_of_le hi h.size) hne).trans (h.block i hi hne)⟩
theorem Only.cell {g : Nat} {w w' : World} (h : Only g w w') {b o : Nat} {v : Value} (hb : b ≠ g) (hc : w.cell? ⟨b, o, none⟩ = some v) : w'.cell? ⟨b, o, none⟩ = some v :=
  (World.cell?_of_block (a := ⟨b, o, none⟩) (h.block b (block_lt hc) (fun e => hb (by injection e)))).trans hc
theorem Only.row {g : Nat} {w w' : World} (h : Only g w w') {A : Option Addr} {xs : List Value} (hA : ∀ b o, A = some ⟨b, o, none⟩ → b ≠ g) (hr : Row w A xs) : Row w' A xs := by
  rcases hr with rfl | ⟨b, o, e, hc⟩
  · exact .inl rfl
  · exact .inr ⟨b, o, e, fun i v hi => h.cell (hA b o e) (hc i v hi)⟩
theorem Only.blk {g : Nat} {w w' : World} (h : Only g w w') {b : Nat} {t : TypeId} {cs : Array Value} (hb : b ≠ g) (hB : Blk w b t cs) : Blk w' b t cs :=
  (h.block b hB.lt (fun e => hb (by injection e))).trans hB
theorem Only.below {g : Nat} {w0 w w' : World} (h : Only g w w') {B : Nat} (hb : Below B w0 w) (hB : B ≤ w.heap.size) (hg : B ≤ g) : Below B w0 w' :=
  hb.grown h hB (fun k hk => by injection hk with hk; omega)
theorem below_nx {w W w' : World} (h : Below w.heap.size w W) (hb : Below W.heap.size W w') : Below w.heap.size w w' := h.trans (hb.mono h.size)
theorem below_one {W : World} {o : Obj} : Below W.heap.size W (W.alloc o) := (Below.refl _ _).alloc (Nat.le_refl _) o
end Go.Proofs.YtajcjpbfmpljkaaDoor
set_option linter.unusedVariables false
namespace Go.Proofs.YtajcjpbfmpljkaaDoor

theorem add_step {L : List Nat} (hL : Digs Q L) {i x y c : Nat} (hi : i < L.length) (hx : L[i] = x) (hy : y < Q) (hc : c ≤ 1) :
    Digs Q (L.set i ((x + y + c) % Q)) ∧ (L.set i ((x + y + c) % Q)).length = L.length ∧ (x + y + c) / Q ≤ 1 ∧
      ofd Q (L.set i ((x + y + c) % Q)) + Q ^ (i + 1) * ((x + y + c) / Q) = ofd Q L + Q ^ i * (y + c) := by
  have hq := Q_val
  have hx' : x < Q := by rw [← hx]; exact hL.get i hi
  refine ⟨hL.set i (Nat.mod_lt _ (by omega)), by simp, ?_, ?_⟩
  · rw [Nat.div_le_iff_le_mul_add_pred (by omega)]; omega
  · have h1 := ofd_set Q L i ((x + y + c) % Q) hi
    rw [hx] at h1
    have h2 := Nat.mod_add_div (x + y + c) Q
    generalize (x + y + c) % Q = r at *
    generalize (x + y + c) / Q = q at *
    rw [Nat.pow_succ]
    generalize Q ^ i = P at *
    have : P * (r + Q * q) = P * (x + y + c) := by rw [h2]
    rw [Nat.mul_add, Nat.mul_add, Nat.mul_add] at this
    rw [Nat.mul_assoc, Nat.mul_add]
    omega
/-- The digits' word and what is carried behind it, shifted by s. -/
theorem shl_split {d s : Nat} (hs : s < 64) : d * 2 ^ s = d * 2 ^ s % Q + Q * (d / 2 ^ (64 - s)) := by
  have h := Nat.mod_add_div (d * 2 ^ s) Q
  have e : d * 2 ^ s / Q = d / 2 ^ (64 - s) := by
    have : Q = 2 ^ (64 - s) * 2 ^ s := by rw [← Nat.pow_add, show 64 - s + s = 64 by omega]; rfl
    rw [this, Nat.mul_div_mul_right _ _ (Nat.two_pow_pos s)]
  rw [e] at h
  exact h.symm
theorem behind_lt {d s : Nat} (hs : s < 64) (hd : d < Q) : d / 2 ^ (64 - s) < 2 ^ s := by
  rw [Nat.div_lt_iff_lt_mul (Nat.two_pow_pos _), ← Nat.pow_add, show s + (64 - s) = 64 by omega]; exact hd
theorem shl_room {d b s : Nat} (hs : s < 64) (hb : b < 2 ^ s) : d * 2 ^ s % Q + b < Q ∧ d * 2 ^ s % Q % 2 ^ s = 0 := by
  have e : Q = 2 ^ (64 - s) * 2 ^ s := by rw [← Nat.pow_add, show 64 - s + s = 64 by omega]; rfl
  have h : d * 2 ^ s % Q = d % 2 ^ (64 - s) * 2 ^ s := by rw [e, Nat.mul_mod_mul_right]
  have h2 : d % 2 ^ (64 - s) < 2 ^ (64 - s) := Nat.mod_lt _ (Nat.two_pow_pos _)
  refine ⟨?_, by rw [h]; simp⟩
  rw [h]
  have h3 : (d % 2 ^ (64 - s) + 1) * 2 ^ s ≤ 2 ^ (64 - s) * 2 ^ s := Nat.mul_le_mul_right _ h2
  rw [← e, Nat.add_mul] at h3
  omega
/-- The first loop of add: k words of D are in. -/
def Add1 (L D : List Nat) (p : Nat) (k : Nat) (M : List Nat) (c b : Nat) : Prop :=
  Digs Q M ∧ M.length = L.length ∧ c ≤ 1 ∧ b < 2 ^ (p % 64) ∧ ofd Q M + Q ^ (p / 64 + k) * (c + b) = ofd Q L + 2 ^ p * ofd Q (D.take k)
theorem Add1.start {L D : List Nat} {p : Nat} (h : Digs Q L) : Add1 L D p 0 L 0 0 := ⟨h, rfl, by omega, Nat.two_pow_pos _, by simp [ofd]⟩
theorem Add1.step (L D : List Nat) (p k : Nat) (M : List Nat) (c b d x : Nat) (h : Add1 L D p k M c b) (hk : k < D.length) (hd : D[k] = d) (hdq : d < Q) (hi : p / 64 + k < M.length) (hx : M[p / 64 + k] = x) :
    Add1 L D p (k + 1) (M.set (p / 64 + k) ((x + (d * 2 ^ (p % 64) % Q + b) + c) % Q)) ((x + (d * 2 ^ (p % 64) % Q + b) + c) / Q) (d / 2 ^ (64 - p % 64)) := by
  obtain ⟨h1, h2, h3, h4, h5⟩ := h
  have hs : p % 64 < 64 := Nat.mod_lt _ (by omega)
  obtain ⟨r1, r2⟩ := shl_room (d := d) hs h4
  obtain ⟨s1, s2, s3, s4⟩ := add_step h1 hi hx r1 h3
  refine ⟨s1, s2.trans h2, s3, behind_lt hs hdq, ?_⟩
  have e1 := shl_split (d := d) hs
  have e2 : 2 ^ p * Q ^ k = Q ^ (p / 64 + k) * 2 ^ (p % 64) := by
    rw [Q_pow, ← Nat.pow_mul, ← Nat.pow_mul, ← Nat.pow_add, ← Nat.pow_add]
    congr 1; omega
  rw [ofd_take_succ Q D k hk, hd, ← Nat.add_assoc (p / 64) k 1]
  rw [Nat.pow_succ] at s4 ⊢
  generalize d / 2 ^ (64 - p % 64) = b' at *
  generalize d * 2 ^ (p % 64) % Q = r at *
  generalize Q ^ (p / 64 + k) = P at *
  generalize (x + (r + b) + c) / Q = C at *
  generalize ofd Q (M.set (p / 64 + k) ((x + (r + b) + c) % Q)) = X at *
  generalize ofd Q (D.take k) = T at *
  generalize 2 ^ p = W at *
  generalize Q ^ k = K at *
  generalize 2 ^ (p % 64) = S at *
  have m1 : P * (d * S) = P * (r + Q * b') := by rw [← e1]
  have m2 : W * K * d = P * S * d := by rw [e2]
  clear hi hx hd hdq h1 h2 h3 h4 r1 r2 s1 s2 s3 e1 e2 hk hs
  generalize Q = q at *
  simp only [Nat.mul_add, Nat.mul_comm, Nat.mul_left_comm] at *
  omega
/-- Where a word of D goes there is room. -/
theorem add_room {z : Int} {p k n : Nat} (hk : k < (dig z).length) (hr : 2 ^ p * z.natAbs < Q ^ n) : p / 64 + k < n := by
  have h0 : z.natAbs ≠ 0 := fun e => by unfold dig at hk; rw [e, digs_zero] at hk; simp at hk
  have h1 : Q ^ ((dig z).length - 1) ≤ z.natAbs := digs_pow_le Q_two h0
  have h2 : Q ^ (p / 64) ≤ 2 ^ p := by
    rw [Q_pow, ← Nat.pow_mul]; exact Nat.pow_le_pow_right (by omega) (by omega)
  have h3 : Q ^ (p / 64) * Q ^ ((dig z).length - 1) ≤ 2 ^ p * z.natAbs := Nat.mul_le_mul h2 h1
  rw [← Nat.pow_add] at h3
  have h4 : Q ^ (p / 64 + ((dig z).length - 1)) < Q ^ n := by omega
  have := (Nat.pow_lt_pow_iff_right (show 1 < Q by unfold Q; omega)).1 h4
  omega
/-- The second loop of add. -/
def Add2 (n T : Nat) (i : Nat) (M : List Nat) (c r : Nat) : Prop := Digs Q M ∧ M.length = n ∧ c ≤ 1 ∧ r < Q ∧ ofd Q M + Q ^ i * (c + r) = T
theorem Add2.start {L D : List Nat} {p : Nat} {M : List Nat} {c b n : Nat} (h : Add1 L D p D.length M c b) (hn : L.length = n) : Add2 n (ofd Q L + 2 ^ p * ofd Q D) (p / 64 + D.length) M c b := by
  obtain ⟨h1, h2, h3, h4, h5⟩ := h
  rw [List.take_of_length_le (Nat.le_refl _)] at h5
  refine ⟨h1, h2.trans hn, h3, Nat.lt_of_lt_of_le h4 ?_, h5⟩
  rw [Q_pow]; exact Nat.pow_le_pow_right (by omega) (by omega)
theorem Add2.room {n T i : Nat} {M : List Nat} {c r : Nat} (h : Add2 n T i M c r) (hT : T < Q ^ n) (hcr : c + r ≠ 0) : i < n := by
  obtain ⟨_, _, _, _, h5⟩ := h
  have : Q ^ i * 1 ≤ Q ^ i * (c + r) := Nat.mul_le_mul_left _ (by omega)
  have h4 : Q ^ i < Q ^ n := by omega
  exact (Nat.pow_lt_pow_iff_right (show 1 < Q by unfold Q; omega)).1 h4
theorem Add2.step {n T i : Nat} {M : List Nat} {c r x : Nat} (h : Add2 n T i M c r) (hi : i < M.length) (hx : M[i] = x) :
    Add2 n T (i + 1) (M.set i ((x + r + c) % Q)) ((x + r + c) / Q) 0 := by
  obtain ⟨h1, h2, h3, h4, h5⟩ := h
  obtain ⟨s1, s2, s3, s4⟩ := add_step h1 hi hx h4 h3
  refine ⟨s1, s2.trans h2, s3, by have := Q_val; omega, ?_⟩
  show ofd Q (M.set i ((x + r + c) % Q)) + Q ^ (i + 1) * ((x + r + c) / Q) = T
  rw [s4, ← h5, Nat.add_comm r c]
theorem Add2.done {n T i : Nat} {M : List Nat} (h : Add2 n T i M 0 0) : Digs Q M ∧ M.length = n ∧ ofd Q M = T := by
  obtain ⟨h1, h2, _, _, h5⟩ := h
  exact ⟨h1, h2, by simpa using h5⟩
end Go.Proofs.YtajcjpbfmpljkaaDoor
set_option linter.unusedVariables false
namespace Go.Proofs.YtajcjpbfmpljkaaDoor

/-- The first loop of difference. -/
def Dif1 (L1 L2 : List Nat) (k : Nat) (M : List Nat) (b : Nat) : Prop := Digs Q M ∧ M.length = L1.length ∧ b ≤ 1 ∧ ofd Q M + ofd Q (L2.take k) = ofd Q L1 + Q ^ k * b
theorem Dif1.start {L1 L2 : List Nat} (h : Digs Q L1) : Dif1 L1 L2 0 L1 0 := ⟨h, rfl, by omega, by simp [ofd]⟩
theorem Dif1.step (L1 L2 : List Nat) (k : Nat) (M : List Nat) (b x y : Nat) (h : Dif1 L1 L2 k M b) (hi : k < M.length) (hx : M[k] = x) (hk : k < L2.length) (hy : L2[k] = y) (hyq : y < Q) :
    Dif1 L1 L2 (k + 1) (M.set k ((x + Q - y - b) % Q)) (if x < y + b then 1 else 0) := by
  obtain ⟨h1, h2, h3, h4⟩ := h
  have hq := Q_val
  have hxq : x < Q := by rw [← hx]; exact h1.get k hi
  refine ⟨h1.set k (Nat.mod_lt _ (by omega)), by simpa using h2, by split <;> omega, ?_⟩
  have s1 := ofd_set Q M k ((x + Q - y - b) % Q) hi
  rw [hx] at s1
  have e : (x + Q - y - b) % Q + y + b = x + Q * (if x < y + b then 1 else 0) := by
    split
    · rename_i hlt; rw [Nat.mod_eq_of_lt (by omega)]; omega
    · rename_i hge
      have : x + Q - y - b = x - y - b + Q * 1 := by omega
      rw [this, Nat.add_mul_mod_self_left, Nat.mod_eq_of_lt (by omega)]; omega
  generalize (x + Q - y - b) % Q = v at *
  generalize (if x < y + b then 1 else 0) = B at *
  rw [ofd_take_succ Q L2 k hk, hy, Nat.pow_succ]
  generalize ofd Q (M.set k v) = X at *
  generalize Q ^ k = P at *
  have m : P * (v + y + b) = P * (x + Q * B) := by rw [e]
  rw [Nat.mul_add, Nat.mul_add, Nat.mul_add, ← Nat.mul_assoc] at m
  omega
/-- The second loop of difference. -/
def Dif2 (M0 : List Nat) (k : Nat) (M : List Nat) (c : Nat) : Prop :=
  Digs Q M ∧ M.length = M0.length ∧ c ≤ 1 ∧ M.drop k = M0.drop k ∧ ofd Q (M.take k) + Q ^ k * c + ofd Q (M0.take k) = Q ^ k
theorem Dif2.start {M0 : List Nat} (h : Digs Q M0) : Dif2 M0 0 M0 1 := ⟨h, rfl, by omega, rfl, by simp [ofd]⟩
theorem Dif2.step (M0 : List Nat) (k : Nat) (M : List Nat) (c x : Nat) (h : Dif2 M0 k M c) (hi : k < M.length) (hx : M[k] = x) :
    Dif2 M0 (k + 1) (M.set k ((Q - 1 - x + 0 + c) % Q)) ((Q - 1 - x + 0 + c) / Q) := by
  obtain ⟨h1, h2, h3, h4, h5⟩ := h
  have hq := Q_val
  have hxq : x < Q := by rw [← hx]; exact h1.get k hi
  have hx0 : M0[k]'(by omega) = x := by
    have : (M.drop k)[0]? = (M0.drop k)[0]? := by rw [h4]
    rw [List.getElem?_drop, List.getElem?_drop, List.getElem?_eq_getElem (by omega), List.getElem?_eq_getElem (by omega)] at this
    simpa [hx] using this.symm
  have hd : (Q - 1 - x + 0 + c) % Q + Q * ((Q - 1 - x + 0 + c) / Q) + x = Q - 1 + c := by
    have := Nat.mod_add_div (Q - 1 - x + 0 + c) Q; omega
  refine ⟨h1.set k (Nat.mod_lt _ (by omega)), by simpa using h2, ?_, ?_, ?_⟩
  · rw [Nat.div_le_iff_le_mul_add_pred (by omega)]; omega
  · rw [drop_set_succ, ← List.drop_drop, ← List.drop_drop, h4]
  · rw [ofd_take_set Q M k _ hi, ofd_take_succ Q M0 k (by omega), hx0, Nat.pow_succ]
    generalize (Q - 1 - x + 0 + c) % Q = v at *
    generalize (Q - 1 - x + 0 + c) / Q = C at *
    generalize Q ^ k = P at *
    have m : P * (v + Q * C + x) = P * (Q - 1 + c) := by rw [hd]
    have m2 : P * (Q - 1 + c) + P = P * Q + P * c := by
      rw [← Nat.mul_add_one, ← Nat.mul_add]; congr 1; omega
    rw [Nat.mul_add, Nat.mul_add, ← Nat.mul_assoc] at m
    omega
theorem dif_low {L1 L2 M : List Nat} {n : Nat} (h : Dif1 L1 L2 L2.length M 0) : (((ofd Q L1 : Nat) : Int) - (ofd Q L2 : Nat)).natAbs = ofd Q M ∧ ng (((ofd Q L1 : Nat) : Int) - (ofd Q L2 : Nat)) = false := by
  obtain ⟨h1, h2, h3, h4⟩ := h
  rw [List.take_of_length_le (Nat.le_refl _)] at h4
  exact ⟨by omega, by unfold ng; simp; omega⟩
theorem dif_high {L1 L2 M0 M : List Nat} {c : Nat} (h2l : Digs Q L2) (hl : L2.length = L1.length) (h : Dif1 L1 L2 L2.length M0 1) (h' : Dif2 M0 M0.length M c) :
    (((ofd Q L1 : Nat) : Int) - (ofd Q L2 : Nat)).natAbs = ofd Q M ∧ ng (((ofd Q L1 : Nat) : Int) - (ofd Q L2 : Nat)) = true := by
  obtain ⟨h1, h2, h3, h4⟩ := h
  obtain ⟨g1, g2, g3, g4, g5⟩ := h'
  rw [List.take_of_length_le (Nat.le_refl _)] at h4
  rw [List.take_of_length_le (by omega), List.take_of_length_le (Nat.le_refl _)] at g5
  have hb := ofd_lt h2l
  have hm := ofd_lt h1
  rw [hl] at hb h4
  rw [h2] at g5 hm
  have : c = 0 ∨ c = 1 := by omega
  rcases this with rfl | rfl
  · exact ⟨by omega, by unfold ng; simp; omega⟩
  · omega
end Go.Proofs.YtajcjpbfmpljkaaDoor
set_option linter.unusedVariables false
namespace Go.Proofs.YtajcjpbfmpljkaaDoor
open Go.RowKit

theorem sign_val {z : Int} {n : Nat} (hn : n = wl z) {s : Int} (h : (s = 0 ∧ ((n : Int) == 0) = true) ∨ (((n : Int) == 0) = false ∧ ng z = true ∧ s = -1) ∨ (((n : Int) == 0) = false ∧ ng z = false ∧ s = 1)) : s = z.sign := by
  have h0 := wl_zero z
  rcases h with ⟨rfl, h⟩ | ⟨h, hz, rfl⟩ | ⟨h, hz, rfl⟩
  · have : z = 0 := h0.1 (by simp at h; omega)
    subst this; rfl
  · have : z < 0 := by simpa [ng] using hz
    exact (Int.sign_eq_neg_one_of_neg this).symm
  · have h1 : ¬ z < 0 := by simpa [ng] using hz
    have h2 : ¬ z = 0 := fun e => by have := h0.2 e; simp at h; omega
    exact (Int.sign_eq_one_of_pos (by omega)).symm
theorem ret_i {a b : Int} {k : IntKind} (h : a = b) : Ending.returned (.int k a) = .returned (.int k b) := by rw [h]

theorem sign_any (A : Option Addr) (n c : Nat) (z : Int) (w : World) (hn : n = wl z) :
    Calls Tryd.prog 31 #[.agg #[.bool (ng z), .slice A n c]] w fun e w' => e = .returned (.int .i64 z.sign) ∧ Below w.heap.size w w' := by
  have HN := Lib.hid hn
  clear hn
  go_enter Tryd.func31, Tryd.ntmps31
  go_wp2
  all_goals
    go_ret
    exact ⟨ret_i (sign_val HN.out (by simp_all)), (Below.refl _ _).alloc (Nat.le_refl _) _⟩

/-- How many digits are left. -/
def tl (l : List Nat) : Nat := (digs Q (ofd Q l)).length
theorem tl_take {l : List Nat} (h : Digs Q l) (k : Nat) (hk : k ≤ l.length) (hz : ∀ i, k ≤ i → i < l.length → l.getD i 0 = 0) (hl : k = 0 ∨ l.getD (k - 1) 0 ≠ 0) : tl l = k ∧ l.take k = digs Q (ofd Q l) := by
  have e := take_trim Q_two h k hk hz hl
  refine ⟨?_, e⟩
  unfold tl
  rw [← e, List.length_take]; omega
theorem getD_of {l : List Nat} {i : Nat} (h : i < l.length) : l.getD i 0 = l[i] := by simp [List.getD, h]

set_option maxHeartbeats 400000 in
theorem trim_any (b o n c : Nat) (l : List Nat) (w : World) (hn : n = l.length) (hc : n ≤ c) (hb : n ≤ 1152921504606846976) (hD : Digs Q l) (hr : Row w (some ⟨b, o, none⟩) (u64s l)) :
    Calls Tryd.prog 34 #[.slice (some ⟨b, o, none⟩) n c] w fun e w' => e = .returned (.slice (some ⟨b, o, none⟩) (tl l) (tl l)) ∧ w = w' := by
  have HN := Lib.hid hn
  have HD := Lib.hid hD
  have HR := Lib.hid hr
  clear hn hD hr
  go_enter Tryd.func34, Tryd.ntmps34
  go_wp2
  go_loop [3] (fun i => ∃ k : Nat, k ≤ n ∧ i = .int .i64 k ∧ ∀ j, k ≤ j → j < l.length → l.getD j 0 = 0) (fun i => (intOf i).toNat)
  case atStart => exact ⟨n, Nat.le_refl _, rfl, fun j h1 h2 => by have := HN.out; omega⟩
  case round =>
    obtain ⟨k, hk, rfl, hz⟩ := hrel
    have HZ := Lib.hid hz
    clear hz
    by_cases h0 : k = 0
    · subst h0
      have ht := Lib.hid (tl_take HD.out 0 (Nat.zero_le _) HZ.out (.inl rfl))
      go_wp2
      go_ret
      refine ⟨?_, rfl⟩
      rw [ht.out.1]
      rfl
    · have hpos : 0 < k := by omega
      have hlt : k - 1 < l.length := by have := HN.out; omega
      obtain ⟨b', o', e, _, hcell⟩ := HR.out.at_ (u64s_get l (k - 1) hlt)
      injection e with e
      injection e with e1 e2
      subst e1 e2
      have hget := Lib.hid (getD_of hlt)
      generalize hd : l[k - 1] = d at *
      clear hd hlt
      have hc1 : (((k : Int) - 1).toNat) = k - 1 := by omega
      by_cases hd0 : d = 0
      · have ht : ((d : Int) == 0) = true := by simp [hd0]
        have HD0 := Lib.hid hd0
        clear hd0 h0
        go_wp2
        go_round
        case rel => 
          refine ⟨k - 1, by omega, by rw [show ((k - 1 : Nat) : Int) = (k : Int) - 1 by omega], fun j h1 h2 => ?_⟩
          by_cases hj : j = k - 1
          · subst hj; rw [hget.out, HD0.out]
          · exact HZ.out j (by omega) h2
        case measure => simp [intOf]; omega
      · have ht : ((d : Int) == 0) = false := by simp; omega
        have htk := Lib.hid (tl_take HD.out k (by have := HN.out; omega) HZ.out (.inr (by rw [hget.out]; exact hd0)))
        clear hd0 h0
        go_wp2
        go_ret
        refine ⟨?_, rfl⟩
        rw [htk.out.1]
        rfl
theorem row_take {w : World} {A : Option Addr} {l : List Nat} (h : Row w A (u64s l)) (k : Nat) : Row w A (u64s (l.take k)) := by
  rcases h with h | ⟨b, o, e, hc⟩
  · refine .inl ?_
    have : l = [] := by simpa [u64s] using h
    subst this; simp [u64s]
  · refine .inr ⟨b, o, e, fun i v hi => hc i v ?_⟩
    obtain ⟨hl, hv⟩ := u64s_get? hi
    rw [List.length_take] at hl
    rw [u64s_get l i (by omega), hv]
    simp
theorem tl_eq {l : List Nat} (h : Digs Q l) : l.take (tl l) = digs Q (ofd Q l) := by
  have hs := ofd_take_drop Q l
  -- the place behind the last digit that isn't 0
  have hex : ∃ k, k ≤ l.length ∧ (∀ i, k ≤ i → i < l.length → l.getD i 0 = 0) ∧ (k = 0 ∨ l.getD (k - 1) 0 ≠ 0) := by
    have : ∀ m, m ≤ l.length → (∀ i, m ≤ i → i < l.length → l.getD i 0 = 0) → ∃ k, k ≤ l.length ∧ (∀ i, k ≤ i → i < l.length → l.getD i 0 = 0) ∧ (k = 0 ∨ l.getD (k - 1) 0 ≠ 0) := by
      intro m
      induction m with
      | zero => intro _ hz; exact ⟨0, Nat.zero_le _, hz, .inl rfl⟩
      | succ m ih =>
        intro hm hz
        by_cases h0 : l.getD m 0 = 0
        · exact ih (by omega) (fun i h1 h2 => by
            by_cases e : i = m
            · subst e; exact h0
            · exact hz i (by omega) h2)
        · exact ⟨m + 1, hm, hz, .inr (by simpa using h0)⟩
    exact this l.length (Nat.le_refl _) (fun i h1 h2 => by omega)
  obtain ⟨k, h1, h2, h3⟩ := hex
  obtain ⟨e1, e2⟩ := tl_take h k h1 h2 h3
  rw [e1, e2]
/-- What trim left is the number's size. -/
theorem Wh.trimmed {w : World} {A : Option Addr} {l : List Nat} {z : Int} (h : Digs Q l) (hr : Row w A (u64s l)) (hz : ofd Q l = z.natAbs) : Wh w A (tl l) (tl l) z := by
  refine ⟨?_, Nat.le_refl _, ?_⟩
  · unfold tl wl dig; rw [hz]
  · have := row_take hr (tl l)
    rw [tl_eq h, hz] at this
    exact this
end Go.Proofs.YtajcjpbfmpljkaaDoor
namespace Go.Proofs.YtajcjpbfmpljkaaDoor
open Go.RowKit

theorem len8_get (i : Nat) (h : i < Lib.len8tab.size) : ((Lib.len8tab[i].toNat : Nat) : Int) = (Lib.bitLen i : Int) := by
  have hs := Lib.len8tab_size
  have e := Lib.len8_eq ⟨i, by omega⟩
  unfold Lib.len8 at e
  simp only [Int.toNat_natCast] at e
  rw [← e]
  simp [h]
theorem len8_le (i : Nat) (h : i < 256) : Lib.bitLen i ≤ 8 := Lib.bitLen_le8 ⟨i, h⟩
theorem wrap_len (i : Nat) (h : i < Lib.len8tab.size) : wrap64 ((Lib.len8tab[i].toNat : Nat) : Int) = (Lib.bitLen i : Int) := by
  have hs := Lib.len8tab_size
  rw [len8_get i h]
  have := len8_le i (by omega)
  exact IntWalk.wrap64_in _ ⟨by omega, by omega⟩
theorem len_c (c : Int) (i : Nat) (h : i < Lib.len8tab.size) (X : Nat) (hc : 0 ≤ c ∧ c ≤ 56) (hX : (Lib.bitLen X : Int) = c + (Lib.bitLen i : Int)) :
    wrap64 (c + wrap64 ((Lib.len8tab[i].toNat : Nat) : Int)) = (Lib.bitLen X : Int) := by
  have hs := Lib.len8tab_size
  have := len8_le i (by omega)
  rw [wrap_len i h, hX]
  exact IntWalk.wrap64_in _ ⟨by omega, by omega⟩
theorem len_0 (i : Nat) (h : i < Lib.len8tab.size) : wrap64 (wrap64 ((Lib.len8tab[i].toNat : Nat) : Int)) = (Lib.bitLen i : Int) := by
  have hs := Lib.len8tab_size
  have := len8_le i (by omega)
  rw [wrap_len i h]
  exact IntWalk.wrap64_in _ ⟨by omega, by omega⟩

set_option maxHeartbeats 4000000 in
set_option maxRecDepth 100000 in
theorem len64_any (x : Int) (w : World) (h0 : 0 ≤ x) (h1 : x ≤ 18446744073709551615) :
    Calls Tryd.prog 53 #[.int .u64 x] w fun e w' => e = .returned (.int .i64 (Lib.bitLen x.toNat)) ∧ w = w' := by
  have hs : ((Lib.len8tab.size : Nat) : Int) = 256 := by rw [Lib.len8tab_size]; rfl
  go_enter Tryd.func53, Tryd.ntmps53
  go_wp2
  all_goals
    go_ret
    refine ⟨congrArg (fun z => Ending.returned (.int .i64 z)) ?_, rfl⟩
    have hz := Lib.len8tab_size
    first
      | (refine len_c 56 (x / 4294967296 / 65536 / 256).toNat (by omega) x.toNat (by omega) ?_
         have s := Lib.bitLen_shift56 x.toNat (by omega) (by omega)
         rw [show (x / 4294967296 / 65536 / 256).toNat = x.toNat / 72057594037927936 by omega]
         omega)
      | (refine len_c 48 (x / 4294967296 / 65536).toNat (by omega) x.toNat (by omega) ?_
         have s := Lib.bitLen_shift48 x.toNat (by omega) (by omega)
         rw [show (x / 4294967296 / 65536).toNat = x.toNat / 281474976710656 by omega]
         omega)
      | (refine len_c 40 (x / 4294967296 / 256).toNat (by omega) x.toNat (by omega) ?_
         have s := Lib.bitLen_shift40 x.toNat (by omega) (by omega)
         rw [show (x / 4294967296 / 256).toNat = x.toNat / 1099511627776 by omega]
         omega)
      | (refine len_c 32 (x / 4294967296).toNat (by omega) x.toNat (by omega) ?_
         have s := Lib.bitLen_shift32 x.toNat (by omega) (by omega)
         rw [show (x / 4294967296).toNat = x.toNat / 4294967296 by omega]
         omega)
      | (refine len_c 24 (x / 65536 / 256).toNat (by omega) x.toNat (by omega) ?_
         have s := Lib.bitLen_shift24 x.toNat (by omega) (by omega)
         rw [show (x / 65536 / 256).toNat = x.toNat / 16777216 by omega]
         omega)
      | (refine len_c 16 (x / 65536).toNat (by omega) x.toNat (by omega) ?_
         have s := Lib.bitLen_shift16 x.toNat (by omega) (by omega)
         rw [show (x / 65536).toNat = x.toNat / 65536 by omega]
         omega)
      | (refine len_c 8 (x / 256).toNat (by omega) x.toNat (by omega) ?_
         have s := Lib.bitLen_shift8 x.toNat (by omega) (by omega)
         rw [show (x / 256).toNat = x.toNat / 256 by omega]
         omega)
      | exact len_0 x.toNat (by omega)
end Go.Proofs.YtajcjpbfmpljkaaDoor
set_option linter.unusedVariables false
namespace Go.Proofs.YtajcjpbfmpljkaaDoor
open Go.RowKit
attribute [local go_sem ↓] Go.wp_at_zero Go.wp_at_succ

theorem bcell {W w1 : World} (hb : Below W.heap.size W w1) : (∀ b o, b < W.heap.size → w1.cell? ⟨b, o, none⟩ = W.cell? ⟨b, o, none⟩) ∧ (∀ b o, b < W.heap.size → w1.frozen? ⟨b, o, none⟩ = W.frozen? ⟨b, o, none⟩) :=
  ⟨fun b o h => hb.cell (p := ⟨b, o, none⟩) h, fun b o h => hb.frozen (p := ⟨b, o, none⟩) h⟩

theorem abs_word (k : Int) (h0 : -9223372036854775808 ≤ k) (h1 : k ≤ 9223372036854775807) :
    (k < 0 → IntKind.u64.wrap (-IntKind.u64.wrap k) = (k.natAbs : Int)) ∧ (¬ k < 0 → IntKind.u64.wrap k = (k.natAbs : Int)) := by
  constructor <;> intro h <;> simp only [IntKind.wrap_u64] <;> omega
theorem one_word (k : Int) (h0 : -9223372036854775808 ≤ k) (h1 : k ≤ 9223372036854775807) : Digs Q [k.natAbs] ∧ ofd Q [k.natAbs] = k.natAbs := by
  refine ⟨Digs.cons ?_ (Digs.nil _), by simp [ofd]⟩
  rw [Q_val]; omega
theorem row_new (w : World) (t : TypeId) (l : List Nat) (g : Nat) (hg : w.heap.size = g) : Row (w.alloc (.cells (u64s l).toArray t)) (some ⟨g, 0, none⟩) (u64s l) := by
  subst hg
  refine .inr ⟨_, _, rfl, fun i v hi => ?_⟩
  rw [Nat.zero_add, (Blk.new w t _).cell i]
  simpa using hi
theorem u64s_one (m : Nat) : (u64s [m]).toArray = #[.int .u64 (m : Int)] := rfl
theorem RetW.mk_ {z : Int} {w w' : World} {a : Bool} {A : Option Addr} {n c : Nat} (ha : a = ng z) (h : Wh w' A n c z) (hb : Below w.heap.size w w') : RetW z w (.returned (.agg #[.bool a, .slice A n c])) w' := by
  subst ha; exact ⟨A, n, c, rfl, h, hb⟩

theorem trim_one (m : Nat) (k : Int) (hk : k.natAbs = m) (h0 : -9223372036854775808 ≤ k) (h1 : k ≤ 9223372036854775807) :
    (∀ (w : World) (t : TypeId) (g : Nat), w.heap.size = g → Calls Tryd.prog 34 #[.slice (some ⟨g, 0, none⟩) 1 1] (w.alloc (.cells #[.int .u64 (m : Int)] t)) fun e w' => e = .returned (.slice (some ⟨g, 0, none⟩) (tl [m]) (tl [m])) ∧ (w.alloc (.cells #[.int .u64 (m : Int)] t)) = w') ∧
      ∀ (w : World) (t : TypeId) (g : Nat), w.heap.size = g → Wh (w.alloc (.cells #[.int .u64 (m : Int)] t)) (some ⟨g, 0, none⟩) (tl [m]) (tl [m]) k := by
  have ho := one_word k h0 h1
  rw [hk] at ho
  refine ⟨fun w t g hg => ?_, fun w t g hg => ?_⟩
  · have hr := row_new w t [m] g hg
    rw [u64s_one] at hr
    exact trim_any g 0 1 1 [m] _ rfl (Nat.le_refl _) (by omega) ho.1 hr
  · have hr := row_new w t [m] g hg
    rw [u64s_one] at hr
    exact Wh.trimmed ho.1 hr (by rw [ho.2, hk])

theorem wholeOf_any (k : Int) (w : World) (h0 : -9223372036854775808 ≤ k) (h1 : k ≤ 9223372036854775807) :
    Calls Tryd.prog 13 #[.int .i64 k] w (RetW k w) := by
  obtain ⟨m, hm⟩ : ∃ m, k.natAbs = m := ⟨_, rfl⟩
  have ha := abs_word k h0 h1
  rw [hm] at ha
  have HA := Lib.hid ha
  have HT := Lib.hid (trim_one m k hm h0 h1)
  generalize tl [m] = t at HT
  clear hm ha
  by_cases hk : k < 0
  · have HG := Lib.hid (show true = ng k by simp [ng, hk])
    go_enter Tryd.func13, Tryd.ntmps13
    go_wp2_with fail
    rw [HA.out.1 hk]
    refine (HT.out.1 _ _ _ (by simp)).mono ?_
    rintro e w1 ⟨rfl, rfl⟩
    go_wp2_with fail
    exact bodyPost_ret (v := .agg #[.bool true, .slice (some ⟨w.heap.size + 1, 0, none⟩) t t]) (by simp [results, Tryd.results13, go_sem]) rfl
      (RetW_def _ _ _ _ _ _ _ HG.out (HT.out.2 _ _ _ (by simp)) (((Below.refl _ _).alloc (Nat.le_refl _) _).alloc (by simp) _))
  · have hkm : k = m := by have := HA.out.2 (by omega); rw [IntKind.wrap_u64] at this; omega
    subst hkm
    have HG := Lib.hid (show false = ng (m : Int) by simp [ng])
    have hd : decide ((m : Int) < 0) = false := by simp
    clear hk HA
    go_enter Tryd.func13, Tryd.ntmps13
    go_wp2_with fail
    refine (HT.out.1 _ _ _ (by simp)).mono ?_
    rintro e w1 ⟨rfl, rfl⟩
    go_wp2_with fail
    exact bodyPost_ret (v := .agg #[.bool false, .slice (some ⟨w.heap.size + 1, 0, none⟩) t t]) (by simp [results, Tryd.results13, go_sem]) rfl
      (RetW_def _ _ _ _ _ _ _ HG.out (HT.out.2 _ _ _ (by simp)) (((Below.refl _ _).alloc (Nat.le_refl _) _).alloc (by simp) _))

end Go.Proofs.YtajcjpbfmpljkaaDoor
namespace Go.Proofs.YtajcjpbfmpljkaaDoor.Fl
open Ieee

/-- A word's lower 63 bits. -/
def rung (b : Nat) : Nat := b % 9223372036854775808
/-- A word's sign. -/
def sg (b : Nat) : Bool := b / 9223372036854775808 % 2 == 1
/-- The rung of infinity. -/
def INF : Nat := 9218868437227405312
/-- How great a rung is, in units of 2^-1074. -/
def mag (r : Nat) : Nat := if r < 4503599627370496 then r else (4503599627370496 + r % 4503599627370496) * 2 ^ (r / 4503599627370496 - 1)
/-- A word's number, in units of 2^-1074 (infinity as if it were one). -/
def val (b : Nat) : Int := if sg b then -(mag (rung b) : Int) else (mag (rung b) : Int)
/-- A word's place among all. -/
def key (b : Nat) : Int := if sg b then -(rung b : Int) else (rung b : Int)
def nan (b : Nat) : Bool := decide (INF < rung b)
def fin (b : Nat) : Bool := decide (rung b < INF)

theorem mag_zero : mag 0 = 0 := by simp [mag]
theorem mag_succ (r : Nat) : mag r < mag (r + 1) := by
  unfold mag
  by_cases h1 : r + 1 < 4503599627370496
  · rw [if_pos (by omega), if_pos h1]; omega
  · by_cases h2 : r + 1 = 4503599627370496
    · obtain rfl : r = 4503599627370495 := by omega
      decide
    · rw [if_neg (by omega), if_neg h1]
      have hq : r / 4503599627370496 - 1 + 1 = r / 4503599627370496 := by omega
      generalize hQ : r / 4503599627370496 - 1 = q at *
      have hp : 0 < 2 ^ q := Nat.two_pow_pos q
      by_cases h3 : r % 4503599627370496 + 1 < 4503599627370496
      · have e1 : (r + 1) / 4503599627370496 - 1 = q := by omega
        have e2 : (r + 1) % 4503599627370496 = r % 4503599627370496 + 1 := by omega
        rw [e1, e2]
        exact Nat.mul_lt_mul_of_pos_right (by omega) hp
      · have e1 : (r + 1) / 4503599627370496 - 1 = q + 1 := by omega
        have e2 : (r + 1) % 4503599627370496 = 0 := by omega
        have e3 : r % 4503599627370496 = 4503599627370495 := by omega
        rw [e1, e2, e3, Nat.pow_succ]
        omega
theorem mag_lt {r s : Nat} (h : r < s) : mag r < mag s := by
  induction s with
  | zero => omega
  | succ s ih =>
    by_cases e : r = s
    · subst e; exact mag_succ r
    · exact Nat.lt_trans (ih (by omega)) (mag_succ s)
theorem mag_lt_iff (r s : Nat) : mag r < mag s ↔ r < s := by
  constructor
  · intro h
    rcases Nat.lt_trichotomy r s with h1 | h1 | h1
    · exact h1
    · subst h1; omega
    · have := mag_lt h1; omega
  · exact mag_lt
theorem read_eq (b : Nat) : double.read b =
    if rung b < 4503599627370496 then .number (sg b) (rung b) (-1074)
    else if rung b < INF then .number (sg b) (4503599627370496 + rung b % 4503599627370496) (-1074 + (rung b / 4503599627370496 - 1 : Nat))
    else if rung b = INF then .infinity (sg b) else .nan (sg b) (rung b - INF) := rfl

/-- A finite word stands for a number whose digits and place make its value. -/
theorem read_fin {b : Nat} (h : rung b < INF) : ∃ m : Nat, ∃ u : Nat, double.read b = .number (sg b) m (-1074 + (u : Int)) ∧ m * 2 ^ u = mag (rung b) := by
  rw [read_eq]
  unfold mag
  by_cases h1 : rung b < 4503599627370496
  · rw [if_pos h1, if_pos h1]; exact ⟨rung b, 0, rfl, by simp⟩
  · rw [if_neg h1, if_pos h, if_neg h1]; exact ⟨_, _, rfl, rfl⟩
theorem read_inf {b : Nat} (h : rung b = INF) : double.read b = .infinity (sg b) := by
  rw [read_eq, h]; rfl
theorem read_nan {b : Nat} (h : INF < rung b) : double.read b = .nan (sg b) (rung b - INF) := by
  have : INF = 9218868437227405312 := rfl
  rw [read_eq, if_neg (by omega), if_neg (by omega), if_neg (by omega)]

theorem compare_scale (a b c : Int) (hc : 0 < c) : compare (a * c) (b * c) = compare a b := by
  simp only [compare, compareOfLessAndEq, Int.mul_lt_mul_right hc]
  have : a * c = b * c ↔ a = b := ⟨fun h => Int.eq_of_mul_eq_mul_right (by omega) h, fun h => by rw [h]⟩
  simp only [this]
theorem signed_pow (s : Bool) (m u v : Nat) : signed s m u * (2 ^ v : Nat) = signed s m (u + v) := by
  unfold signed
  have : m <<< (u + v) = m <<< u * 2 ^ v := by simp only [Nat.shiftLeft_eq]; rw [Nat.pow_add, Nat.mul_assoc]
  split
  · rw [this, Int.natCast_mul, Int.neg_mul]
  · rw [this, Int.natCast_mul]
theorem order_number (s t : Bool) (m n u v : Nat) : Datum.order (.number s m (-1074 + (u : Int))) (.number t n (-1074 + (v : Int))) = some (compare (signed s m u) (signed t n v)) := by
  simp only [Datum.order]
  congr 1
  have h : 0 < ((2 ^ min u v : Nat) : Int) := by have := Nat.two_pow_pos (min u v); omega
  rw [← compare_scale _ _ _ h, signed_pow, signed_pow]
  have e1 : (-1074 + (u : Int) - min (-1074 + (u : Int)) (-1074 + (v : Int))).toNat + min u v = u := by omega
  have e2 : (-1074 + (v : Int) - min (-1074 + (u : Int)) (-1074 + (v : Int))).toNat + min u v = v := by omega
  rw [e1, e2]
theorem signed_val {s : Bool} {m u M : Nat} (h : m * 2 ^ u = M) : signed s m u = if s then -(M : Int) else (M : Int) := by
  unfold signed
  rw [Nat.shiftLeft_eq, h]

theorem order_val {x y : Nat} (hx : rung x ≤ INF) (hy : rung y ≤ INF) : double.order x y = some (compare (val x) (val y)) := by
  unfold Format.order val
  by_cases h1 : rung x = INF
  · rw [read_inf h1]
    by_cases h2 : rung y = INF
    · rw [read_inf h2, h1, h2]
      cases sg x <;> cases sg y <;> decide +kernel
    · obtain ⟨n, v, e, hm⟩ := read_fin (b := y) (by omega)
      have hl : mag (rung y) < mag (rung x) := mag_lt (by omega)
      rw [e]
      cases sg x <;> cases sg y <;> simp only [Datum.order, compare, compareOfLessAndEq] <;> simp <;> (repeat' split) <;> first | rfl | omega
  · obtain ⟨m, u, e, hm⟩ := read_fin (b := x) (by omega)
    rw [e]
    by_cases h2 : rung y = INF
    · rw [read_inf h2]
      have hl : mag (rung x) < mag (rung y) := mag_lt (by omega)
      cases sg x <;> cases sg y <;> simp only [Datum.order, compare, compareOfLessAndEq] <;> simp <;> (repeat' split) <;> first | rfl | omega
    · obtain ⟨n, v, e2, hn⟩ := read_fin (b := y) (by omega)
      rw [e2, order_number, signed_val hm, signed_val hn]
theorem order_nan_left {x y : Nat} (hx : INF < rung x) : double.order x y = none := by
  unfold Format.order; rw [read_nan hx]; cases double.read y <;> rfl
theorem order_nan_right {x y : Nat} (hy : INF < rung y) : double.order x y = none := by
  unfold Format.order; rw [read_nan hy]; cases double.read x <;> rfl

theorem val_lt_iff (x y : Nat) : val x < val y ↔ key x < key y := by
  unfold val key
  have h1 := mag_lt_iff (rung x) (rung y)
  have h2 := mag_lt_iff (rung y) (rung x)
  have h3 := mag_lt_iff 0 (rung x)
  have h4 := mag_lt_iff 0 (rung y)
  rw [mag_zero] at h3 h4
  cases sg x <;> cases sg y <;> simp <;> omega
theorem val_eq_iff (x y : Nat) : val x = val y ↔ key x = key y := by
  have := val_lt_iff x y; have := val_lt_iff y x; omega
theorem order_key {x y : Nat} (hx : rung x ≤ INF) (hy : rung y ≤ INF) : double.order x y = some (compare (key x) (key y)) := by
  rw [order_val hx hy]
  simp only [compare, compareOfLessAndEq, val_lt_iff, val_eq_iff]

/-! The comparisons of two words, as the walk spells them. -/
theorem eql_of {x y : Nat} (hx : rung x ≤ INF) (hy : rung y ≤ INF) : (FloatKind.f64.format.order x y == some .eq) = decide (key x = key y) := by
  show (double.order x y == some .eq) = _
  rw [order_key hx hy, Bool.eq_iff_iff]; simp
theorem cmp_nan {x y : Nat} (h : INF < rung x ∨ INF < rung y) (o : Ordering) : (FloatKind.f64.format.order x y == some o) = false := by
  show (double.order x y == some o) = _
  rcases h with h | h
  · rw [order_nan_left h]; rfl
  · rw [order_nan_right h]; rfl
end Go.Proofs.YtajcjpbfmpljkaaDoor.Fl
namespace Go.Proofs.YtajcjpbfmpljkaaDoor.Fl

theorem INF_val : INF = 9218868437227405312 := rfl
/-- n / 2^d to the nearest whole number, between two the even one. -/
def rne (n d : Nat) : Nat := n / 2 ^ d + (if 2 ^ d < 2 * (n % 2 ^ d) ∨ (2 ^ d = 2 * (n % 2 ^ d) ∧ n / 2 ^ d % 2 = 1) then 1 else 0)
/-- The rung that is nearest to N / 2^d units of 2^-1074, as if there were no greatest one. -/
def rnd (N d : Nat) : Nat := (N.log2 - (d + 52)) * 4503599627370496 + rne N (d + (N.log2 - (d + 52)))
def cap (r : Nat) : Nat := min r INF
/-- The rung that is nearest to M * 2^k units of 2^-1074. -/
def scl (M : Nat) (k : Int) : Nat := cap (if 0 ≤ k then rnd (M * 2 ^ k.toNat) 0 else rnd M (-k).toNat)
/-- The bits of a sign and a rung. -/
def wd (s : Bool) (r : Nat) : Nat := if s then 9223372036854775808 + r else r

theorem rne_zero (d : Nat) : rne 0 d = 0 := by
  unfold rne
  have : 0 < 2 ^ d := Nat.two_pow_pos d
  simp
theorem rne_d0 (n : Nat) : rne n 0 = n := by unfold rne; simp [Nat.mod_one]
theorem rne_shift (n d j : Nat) : rne (n * 2 ^ j) (d + j) = rne n d := by
  have hj : 0 < 2 ^ j := Nat.two_pow_pos j
  have e1 : n * 2 ^ j / 2 ^ (d + j) = n / 2 ^ d := by rw [Nat.pow_add]; exact Nat.mul_div_mul_right _ _ hj
  have e2 : n * 2 ^ j % 2 ^ (d + j) = n % 2 ^ d * 2 ^ j := by rw [Nat.pow_add]; exact Nat.mul_mod_mul_right _ _ _
  unfold rne
  rw [e1, e2, Nat.pow_add]
  have e3 : 2 * (n % 2 ^ d * 2 ^ j) = 2 * (n % 2 ^ d) * 2 ^ j := by rw [Nat.mul_assoc]
  rw [e3]
  have a : (2 ^ d * 2 ^ j < 2 * (n % 2 ^ d) * 2 ^ j) ↔ (2 ^ d < 2 * (n % 2 ^ d)) := Nat.mul_lt_mul_right hj
  have b : (2 ^ d * 2 ^ j = 2 * (n % 2 ^ d) * 2 ^ j) ↔ (2 ^ d = 2 * (n % 2 ^ d)) := ⟨fun h => Nat.eq_of_mul_eq_mul_right hj h, fun h => congrArg (· * 2 ^ j) h⟩
  simp only [a, b]
theorem log2_mul (n j : Nat) (h : n ≠ 0) : (n * 2 ^ j).log2 = n.log2 + j := by
  have hp : 0 < 2 ^ j := Nat.two_pow_pos j
  have hn : n * 2 ^ j ≠ 0 := Nat.mul_ne_zero h (by omega)
  refine (Nat.log2_eq_iff hn).2 ⟨?_, ?_⟩
  · rw [Nat.pow_add]; exact Nat.mul_le_mul_right _ (Nat.log2_self_le h)
  · rw [show n.log2 + j + 1 = n.log2 + 1 + j by omega, Nat.pow_add]; exact Nat.mul_lt_mul_of_pos_right Nat.lt_log2_self hp
theorem rnd_zero (d : Nat) : rnd 0 d = 0 := by unfold rnd; rw [rne_zero]; simp
theorem rnd_shift (n d j : Nat) : rnd (n * 2 ^ j) (d + j) = rnd n d := by
  by_cases h : n = 0
  · subst h; rw [Nat.zero_mul, rnd_zero, rnd_zero]
  · unfold rnd
    rw [log2_mul n j h]
    have e : n.log2 + j - (d + j + 52) = n.log2 - (d + 52) := by omega
    rw [e]
    have e2 : d + j + (n.log2 - (d + 52)) = d + (n.log2 - (d + 52)) + j := by omega
    rw [e2, rne_shift]
theorem scl_zero (k : Int) : scl 0 k = 0 := by unfold scl; simp only [Nat.zero_mul, rnd_zero]; split <;> rfl
theorem scl_shift (m u : Nat) (k : Int) : scl (m * 2 ^ u) k = scl m (u + k) := by
  unfold scl
  by_cases h1 : 0 ≤ k
  · rw [if_pos h1, if_pos (by omega), Nat.mul_assoc, ← Nat.pow_add]
    congr 4; omega
  · rw [if_neg h1]
    by_cases h2 : 0 ≤ (u : Int) + k
    · rw [if_pos h2]
      have e := rnd_shift (m * 2 ^ ((u : Int) + k).toNat) 0 (-k).toNat
      rw [Nat.mul_assoc, ← Nat.pow_add] at e
      rw [← e]
      congr 4 <;> omega
    · rw [if_neg h2]
      have e := rnd_shift m (-((u : Int) + k)).toNat u
      rw [← e]
      congr 2; omega
/-- What is rounded in the place q of a rung whose digits are m1 / 2^i. -/
theorem scl_place (m1 i q : Nat) (h1 : m1 / 2 ^ i < 9007199254740992) (h2 : 4503599627370496 ≤ m1 / 2 ^ i ∨ q = 0) : scl m1 ((q : Int) - i) = cap (q * 4503599627370496 + rne m1 i) := by
  by_cases h0 : m1 = 0
  · subst h0
    have : q = 0 := by rcases h2 with h2 | h2; · simp at h2
                       · exact h2
    subst this
    rw [scl_zero, rne_zero]; rfl
  have hb : m1.log2 < 53 + i := by
    refine (Nat.log2_lt h0).2 ?_
    rw [Nat.pow_add]
    have hp : 0 < 2 ^ i := Nat.two_pow_pos i
    exact (Nat.div_lt_iff_lt_mul hp).1 (by simpa using h1)
  have e : scl m1 ((q : Int) - i) = cap (rnd (m1 * 2 ^ q) i) := by
    have := scl_shift m1 q (-(i : Int))
    rw [show (q : Int) + -(i : Int) = q - i by omega] at this
    rw [← this]
    unfold scl
    by_cases hi : i = 0
    · subst hi; simp
    · rw [if_neg (by omega)]; congr 2; omega
  rw [e]
  refine congrArg cap ?_
  unfold rnd
  rw [log2_mul _ _ h0]
  have ht : m1.log2 + q - (i + 52) = q := by
    rcases h2 with h2 | h2
    · have hlo : 52 + i ≤ m1.log2 := by
        refine (Nat.le_log2 h0).2 ?_
        rw [Nat.pow_add]
        have hp : 0 < 2 ^ i := Nat.two_pow_pos i
        exact (Nat.le_div_iff_mul_le hp).1 (by simpa using h2)
      omega
    · omega
  rw [ht, rne_shift]
theorem scl_exact (m q : Nat) (h1 : m < 9007199254740992) (h2 : 4503599627370496 ≤ m ∨ q = 0) : scl m q = cap (q * 4503599627370496 + m) := by
  have := scl_place m 0 q (by simpa using h1) (by simpa using h2)
  rw [rne_d0] at this
  simpa using this
theorem rne_small (n d : Nat) (h : 2 * n < 2 ^ d) : rne n d = 0 := by
  unfold rne
  have hlt : n < 2 ^ d := by omega
  rw [Nat.div_eq_of_lt hlt, Nat.mod_eq_of_lt hlt, if_neg (by omega)]
theorem scl_low (m : Nat) (k : Int) (h : 2 * m < 2 ^ (-k).toNat) (hk : k < 0) : scl m k = 0 := by
  by_cases h0 : m = 0
  · subst h0; exact scl_zero k
  unfold scl
  rw [if_neg (by omega)]
  unfold rnd
  have : m.log2 < (-k).toNat := by
    refine (Nat.log2_lt h0).2 (by omega)
  rw [show m.log2 - ((-k).toNat + 52) = 0 by omega, Nat.add_zero, rne_small _ _ h]
  rfl
theorem cap_le (r : Nat) : cap r ≤ INF := Nat.min_le_right _ _
theorem scl_le (m : Nat) (k : Int) : scl m k ≤ INF := cap_le _

/-! ### A word's parts. -/
/-- The digits and the place of what a word stands for, as they are kept. -/
def pm (b : Nat) : Nat := if rung b < 4503599627370496 then rung b else 4503599627370496 + rung b % 4503599627370496
def pe (b : Nat) : Nat := if rung b < 4503599627370496 then 0 else rung b / 4503599627370496 - 1
theorem mag_parts (b : Nat) : mag (rung b) = pm b * 2 ^ pe b := by
  unfold mag pm pe; split <;> simp
theorem pm_lt (b : Nat) : pm b < 9007199254740992 := by unfold pm; split <;> omega
theorem pe_lt {b : Nat} (h : rung b < INF) : pe b ≤ 2045 := by
  have := INF_val; unfold pe; split <;> omega
theorem wd_parts {b : Nat} (h : b < 18446744073709551616) : wd (sg b) (rung b) = b := by
  unfold wd sg rung
  by_cases h1 : b / 9223372036854775808 % 2 = 1
  · simp [h1]; omega
  · simp [h1]; omega
theorem sg_wd (s : Bool) {r : Nat} (h : r < 9223372036854775808) : sg (wd s r) = s := by
  unfold sg wd; cases s <;> simp <;> omega
theorem rung_wd (s : Bool) {r : Nat} (h : r < 9223372036854775808) : rung (wd s r) = r := by
  unfold rung wd; cases s <;> simp <;> omega
/-- What Scale comes to. -/
def scale (b : Nat) (k : Int) : Nat := if rung b = 0 ∨ INF ≤ rung b then b else wd (sg b) (scl (mag (rung b)) k)
theorem scale_parts (b : Nat) (k : Int) : scl (mag (rung b)) k = scl (pm b) (pe b + k) := by rw [mag_parts, scl_shift]
/-- The 53 digits of a number other than 0, and their place. -/
def dm (b : Nat) : Nat := if rung b < 4503599627370496 then rung b * 2 ^ (52 - (rung b).log2) else pm b
def de (b : Nat) : Int := if rung b < 4503599627370496 then -1074 - ((52 - (rung b).log2 : Nat) : Int) else -1074 + (pe b : Int)
theorem log_lt {r : Nat} (h0 : r ≠ 0) (h : r < 4503599627370496) : r.log2 < 52 := (Nat.log2_lt h0).2 h
theorem dm_bounds {b : Nat} (h0 : rung b ≠ 0) : 4503599627370496 ≤ dm b ∧ dm b < 9007199254740992 := by
  unfold dm
  split
  · rename_i h
    have hl := log_lt h0 h
    have h1 := Nat.log2_self_le h0
    have h2 : rung b < 2 ^ ((rung b).log2 + 1) := Nat.lt_log2_self
    have hp : 0 < 2 ^ (52 - (rung b).log2) := Nat.two_pow_pos _
    have e1 : 2 ^ (rung b).log2 * 2 ^ (52 - (rung b).log2) = 4503599627370496 := by rw [← Nat.pow_add, show (rung b).log2 + (52 - (rung b).log2) = 52 by omega]
    have e2 : 2 ^ ((rung b).log2 + 1) * 2 ^ (52 - (rung b).log2) = 9007199254740992 := by rw [← Nat.pow_add, show (rung b).log2 + 1 + (52 - (rung b).log2) = 53 by omega]
    have := Nat.mul_le_mul_right (2 ^ (52 - (rung b).log2)) h1
    have := Nat.mul_lt_mul_of_pos_right h2 hp
    omega
  · rename_i h
    have := pm_lt b
    have e : pm b = 4503599627370496 + rung b % 4503599627370496 := by unfold pm; rw [if_neg h]
    omega
theorem de_bounds {b : Nat} (h : rung b < INF) : -1126 ≤ de b ∧ de b ≤ 971 := by
  have := pe_lt h
  unfold de; split <;> omega
theorem scl_digits (b : Nat) (k : Int) : scl (mag (rung b)) k = scl (dm b) (de b + 1074 + k) := by
  unfold dm de
  split
  · rename_i h
    rw [scl_shift]
    unfold mag
    rw [if_pos h]
    congr 1; omega
  · rw [scale_parts]; congr 1; omega
theorem log_digits {b : Nat} (h0 : rung b ≠ 0) : de b + 52 = ((pm b).log2 : Int) + (pe b : Int) - 1074 := by
  unfold de
  split
  · rename_i h
    have hl := log_lt h0 h
    unfold pm pe; rw [if_pos h, if_pos h]; omega
  · rename_i h
    have : (pm b).log2 = 52 := by
      have hp := pm_lt b
      have : 4503599627370496 ≤ pm b := by unfold pm; rw [if_neg h]; omega
      exact (Nat.log2_eq_iff (by omega)).2 ⟨by omega, by omega⟩
    omega
end Go.Proofs.YtajcjpbfmpljkaaDoor.Fl
set_option linter.unusedVariables false
namespace Go.Proofs.YtajcjpbfmpljkaaDoor
open Go.RowKit

theorem and_mask (a n : Nat) : a &&& (2 ^ n - 1) = a % 2 ^ n := Nat.and_two_pow_sub_one_eq_mod a n
theorem or_add (a b n : Nat) (hb : b < 2 ^ n) (ha : a % 2 ^ n = 0) : a ||| b = a + b := by
  have e : a = a / 2 ^ n * 2 ^ n := by have := Nat.div_add_mod a (2 ^ n); rw [ha, Nat.mul_comm] at this; omega
  rw [e]
  have := Nat.shiftLeft_add_eq_or_of_lt hb (a / 2 ^ n)
  rw [Nat.shiftLeft_eq] at this
  exact this.symm
theorem bits_andNot_sign {b : Nat} (hb : b < 18446744073709551616) : bits .andNot .u64 (b : Int) 9223372036854775808 = ((b % 9223372036854775808 : Nat) : Int) := by
  have := u64_andNot_nat b 9223372036854775808 hb (by omega)
  rw [show ((9223372036854775808 : Nat) : Int) = 9223372036854775808 from rfl] at this
  rw [this, show (18446744073709551615 - 9223372036854775808 : Nat) = 2 ^ 63 - 1 from rfl, and_mask]
theorem bits_and_frac {b : Nat} (hb : b < 18446744073709551616) : bits .and .u64 (b : Int) 4503599627370495 = ((b % 4503599627370496 : Nat) : Int) := by
  have := u64_and_nat b 4503599627370495 hb (by omega)
  rw [show ((4503599627370495 : Nat) : Int) = 4503599627370495 from rfl] at this
  rw [this, show (4503599627370495 : Nat) = 2 ^ 52 - 1 from rfl, and_mask]
theorem bits_and_15 {b : Nat} (hb : b < 18446744073709551616) : bits .and .u64 (b : Int) 15 = ((b % 16 : Nat) : Int) := by
  have := u64_and_nat b 15 hb (by omega)
  rw [show ((15 : Nat) : Int) = 15 from rfl] at this
  rw [this, show (15 : Nat) = 2 ^ 4 - 1 from rfl, and_mask]
theorem bits_and_1 {b : Nat} (hb : b < 18446744073709551616) : bits .and .u64 (b : Int) 1 = ((b % 2 : Nat) : Int) := by
  have := u64_and_nat b 1 hb (by omega)
  rw [show ((1 : Nat) : Int) = 1 from rfl] at this
  rw [this, show (1 : Nat) = 2 ^ 1 - 1 from rfl, and_mask]
theorem bits_and_sign {b : Nat} (hb : b < 18446744073709551616) : bits .and .u64 (b : Int) 9223372036854775808 = ((Fl.wd (Fl.sg b) 0 : Nat) : Int) := by
  have := u64_and_nat b 9223372036854775808 hb (by omega)
  rw [show ((9223372036854775808 : Nat) : Int) = 9223372036854775808 from rfl] at this
  rw [this]
  have h : b &&& 9223372036854775808 = b / 9223372036854775808 % 2 * 9223372036854775808 := nat_bit 63 b
  rw [h]
  unfold Fl.wd Fl.sg
  by_cases h1 : b / 9223372036854775808 % 2 = 1
  · simp [h1]
  · have h2 : b / 9223372036854775808 % 2 = 0 := by omega
    simp [h2]
theorem bits_and_inf {b : Nat} (hb : b < 18446744073709551616) : bits .and .u64 (b : Int) 9218868437227405312 = ((b / 4503599627370496 % 2048 * 4503599627370496 : Nat) : Int) := by
  have := u64_and_nat b 9218868437227405312 hb (by omega)
  rw [show ((9218868437227405312 : Nat) : Int) = 9218868437227405312 from rfl] at this
  rw [this]
  have e : b &&& 9218868437227405312 = ((b >>> 52) &&& 2047) <<< 52 := by
    refine Nat.eq_of_testBit_eq fun i => ?_
    rw [Nat.testBit_and, Nat.testBit_shiftLeft, Nat.testBit_and, Nat.testBit_shiftRight]
    rw [show (9218868437227405312 : Nat) = 2047 <<< 52 from rfl, Nat.testBit_shiftLeft]
    by_cases h : 52 ≤ i
    · simp only [h, decide_true, Bool.true_and]; rw [show 52 + (i - 52) = i by omega]
    · simp [h]
  rw [e, Nat.shiftLeft_eq, Nat.shiftRight_eq_div_pow, show (2047 : Nat) = 2 ^ 11 - 1 from rfl, and_mask]
theorem bits_or_nat {a b : Nat} (n : Nat) (ha : a < 18446744073709551616) (hb : b < 18446744073709551616) (h1 : b < 2 ^ n) (h2 : a % 2 ^ n = 0) : bits .or .u64 (a : Int) (b : Int) = ((a + b : Nat) : Int) := by
  rw [u64_or_nat a b ha hb, or_add a b n h1 h2]


theorem ofInt_emod (x : Int) : BitVec.ofInt 64 x = BitVec.ofInt 64 ((x % 18446744073709551616).toNat : Int) := by
  apply BitVec.eq_of_toInt_eq
  rw [BitVec.toInt_ofInt, BitVec.toInt_ofInt, Int.toNat_of_nonneg (Int.emod_nonneg _ (by decide))]
  rw [Int.bmod_def, Int.bmod_def]
  have : x % 18446744073709551616 % ((2 ^ 64 : Nat) : Int) = x % ((2 ^ 64 : Nat) : Int) := by
    rw [show ((2 ^ 64 : Nat) : Int) = 18446744073709551616 from rfl]; omega
  rw [this]
theorem bits_wrap_left (op : BinOp) (x c : Int) : bits op .u64 x c = bits op .u64 ((x % 18446744073709551616).toNat : Int) c := by
  have h := ofInt_emod x
  unfold bits
  simp only [IntKind.bits]
  rw [h]
theorem wrap_nat (x : Int) : ((x % 18446744073709551616).toNat : Int) = x % 18446744073709551616 ∧ (x % 18446744073709551616).toNat < 18446744073709551616 := by omega
theorem ib_andNot_sign (x : Int) : Op.intBits .andNot .u64 x 9223372036854775808 = pure (.int .u64 (x % 9223372036854775808)) := by
  have := wrap_nat x
  rw [intBits_andNot, bits_wrap_left, bits_andNot_sign this.2]
  congr 2; omega
theorem ib_and_frac (x : Int) : Op.intBits .and .u64 x 4503599627370495 = pure (.int .u64 (x % 4503599627370496)) := by
  have := wrap_nat x
  rw [intBits_and, bits_wrap_left, bits_and_frac this.2]
  congr 2; omega
theorem ib_and_15 (x : Int) : Op.intBits .and .u64 x 15 = pure (.int .u64 (x % 16)) := by
  have := wrap_nat x
  rw [intBits_and, bits_wrap_left, bits_and_15 this.2]
  congr 2; omega
theorem ib_and_1 (x : Int) : Op.intBits .and .u64 x 1 = pure (.int .u64 (x % 2)) := by
  have := wrap_nat x
  rw [intBits_and, bits_wrap_left, bits_and_1 this.2]
  congr 2; omega
theorem ib_and_inf (x : Int) : Op.intBits .and .u64 x 9218868437227405312 = pure (.int .u64 (x / 4503599627370496 % 2048 * 4503599627370496)) := by
  have := wrap_nat x
  rw [intBits_and, bits_wrap_left, bits_and_inf this.2]
  congr 2; omega
/-- The bit of the sign alone. -/
def signOf (x : Int) : Int := x / 9223372036854775808 % 2 * 9223372036854775808
theorem ib_and_sign (x : Int) : Op.intBits .and .u64 x 9223372036854775808 = pure (.int .u64 (signOf x)) := by
  have h := wrap_nat x
  rw [intBits_and, bits_wrap_left, bits_and_sign h.2]
  congr 2
  unfold signOf Fl.wd Fl.sg
  by_cases h1 : (x % 18446744073709551616).toNat / 9223372036854775808 % 2 = 1
  · simp [h1]; omega
  · simp [h1]; omega
/-- The bits of either. -/
def orU (a b : Int) : Int := bits .or .u64 a b
theorem ib_or (a b : Int) : Op.intBits .or .u64 a b = pure (.int .u64 (orU a b)) := by rw [intBits_or]; rfl
theorem orU_nat {a b : Nat} (n : Nat) (ha : a < 18446744073709551616) (hb : b < 18446744073709551616) (h1 : b < 2 ^ n) (h2 : a % 2 ^ n = 0) : orU (a : Int) (b : Int) = ((a + b : Nat) : Int) := by
  unfold orU; rw [bits_or_nat n ha hb h1 h2]
/-- The bits of both. -/
def andU (a b : Int) : Int := bits .and .u64 a b
theorem ib_and (a b : Int) : Op.intBits .and .u64 a b = pure (.int .u64 (andU a b)) := by rw [intBits_and]; rfl
end Go.Proofs.YtajcjpbfmpljkaaDoor
set_option linter.unusedVariables false
namespace Go.Proofs.YtajcjpbfmpljkaaDoor
open Go.RowKit

theorem run_bits (b : Nat) (w : World) : (callFunc 45 #[.float .f64 b]).run Tryd.prog w = .ok (.value (.int .u64 (b : Int))) w := by kernel_rfl
theorem run_frombits (n : Int) (w : World) : (callFunc 47 #[.int .u64 n]).run Tryd.prog w = .ok (.value (.float .f64 n.toNat)) w := by kernel_rfl
attribute [go_sem] run_bits
attribute [go_sem] run_frombits

theorem ret_float {a b : Nat} (h : a = b) : Ending.returned (.float .f64 a) = .returned (.float .f64 b) := by rw [h]
theorem ret_bool {a b : Bool} (h : a = b) : Ending.returned (.bool a) = .returned (.bool b) := by rw [h]
theorem ret_int {k : IntKind} {a b : Int} (h : a = b) : Ending.returned (.int k a) = .returned (.int k b) := by rw [h]

theorem key_zero : Fl.key 0 = 0 := by decide
theorem rung_zero : Fl.rung 0 = 0 := by decide
theorem eql_zero (b : Nat) : (FloatKind.f64.format.order b 0 == some .eq) = decide (Fl.rung b = 0) := by
  by_cases h : Fl.INF < Fl.rung b
  · rw [Fl.cmp_nan (.inl h)]
    have := Fl.INF_val
    exact (decide_eq_false (by omega)).symm
  · rw [Fl.eql_of (by omega) (by rw [rung_zero]; decide), key_zero, Bool.eq_iff_iff]
    simp only [decide_eq_true_eq]
    unfold Fl.key; split <;> omega
theorem rung_def (b : Nat) : Fl.rung b = b % 9223372036854775808 := rfl
theorem pm_def (b : Nat) : Fl.pm b = if Fl.rung b < 4503599627370496 then Fl.rung b else 4503599627370496 + Fl.rung b % 4503599627370496 := rfl
theorem pe_def (b : Nat) : Fl.pe b = if Fl.rung b < 4503599627370496 then 0 else Fl.rung b / 4503599627370496 - 1 := rfl

end Go.Proofs.YtajcjpbfmpljkaaDoor
set_option linter.unusedVariables false
namespace Go.Proofs.YtajcjpbfmpljkaaDoor
open Go.RowKit
attribute [local go_sem ↓] ib_andNot_sign ib_and_frac ib_and_15 ib_and_1 ib_and_sign ib_and_inf ib_or

theorem bitLen_log (x : Nat) (h0 : x ≠ 0) (h : x < 18446744073709551616) : Lib.bitLen x = x.log2 + 1 := by
  induction x using Nat.strongRecOn with
  | ind x ih =>
    rw [Lib.bitLen_half x h0 h, Nat.log2_def]
    by_cases h2 : 2 ≤ x
    · rw [if_pos h2, ih (x / 2) (by omega) (by omega) (by omega)]; omega
    · rw [if_neg h2]
      have : x = 1 := by omega
      subst this; rfl
theorem ret2_ui {a a' b b' : Int} (h1 : a = a') (h2 : b = b') : Ending.returned (.tuple #[.int .u64 a, .int .i64 b]) = .returned (.tuple #[.int .u64 a', .int .i64 b']) := by rw [h1, h2]

theorem digits_any (b : Nat) (w : World) (hb : b < 18446744073709551616) (h0 : Fl.rung b ≠ 0) (hf : Fl.rung b < Fl.INF) :
    Calls Tryd.prog 46 #[.float .f64 b] w fun e w' => e = .returned (.tuple #[.int .u64 (Fl.dm b), .int .i64 (Fl.de b)]) ∧ w = w' := by
  have hr := rung_def b
  have hI := Fl.INF_val
  by_cases h : 4503599627370496 ≤ (b : Int) % 9223372036854775808
  · have hd : Fl.dm b = 4503599627370496 + b % 4503599627370496 := by
      unfold Fl.dm; rw [if_neg (by omega), pm_def, if_neg (by omega)]; omega
    have he : Fl.de b = (b : Int) % 9223372036854775808 / 4503599627370496 - 1023 - 52 := by
      unfold Fl.de; rw [if_neg (by omega), pe_def, if_neg (by omega)]; omega
    have ho : orU ((b : Int) % 4503599627370496) 4503599627370496 = ((4503599627370496 + b % 4503599627370496 : Nat) : Int) := by
      have := orU_nat (a := 4503599627370496) (b := b % 4503599627370496) 52 (by omega) (by omega) (Nat.mod_lt _ (by omega)) (by decide)
      rw [← this]
      unfold orU
      have e := u64_or_nat (b % 4503599627370496) 4503599627370496 (by omega) (by omega)
      have e2 := u64_or_nat 4503599627370496 (b % 4503599627370496) (by omega) (by omega)
      rw [show ((b : Int) % 4503599627370496) = ((b % 4503599627370496 : Nat) : Int) by omega, show (4503599627370496 : Int) = ((4503599627370496 : Nat) : Int) from rfl, e, e2, Nat.or_comm]
    rw [hd, he]
    clear hd he hr hI h0 hf
    have HO := Lib.hid ho
    clear ho
    go_enter Tryd.func46, Tryd.ntmps46
    go_wp2_with fail
    go_ret2
    exact ⟨ret2_ui HO.out rfl, rfl⟩
  · have hd : decide (4503599627370496 ≤ (b : Int) % 9223372036854775808) = false := by simp [h]
    have hl := bitLen_log (b % 9223372036854775808) (by omega) (by omega)
    have hll := Fl.log_lt (r := b % 9223372036854775808) (by omega) (by omega)
    have hn : ((b : Int) % 9223372036854775808).toNat = b % 9223372036854775808 := by omega
    have hlb : 1 ≤ Lib.bitLen (b % 9223372036854775808) ∧ Lib.bitLen (b % 9223372036854775808) ≤ 52 := by rw [hl]; omega
    have HL := Lib.hid hl
    have HN := Lib.hid hn
    have HF := Lib.hid hf
    have H0 := Lib.hid h0
    clear h hl hll hn hf h0 hr hI
    obtain ⟨l1, l2⟩ := hlb
    go_enter Tryd.func46, Tryd.ntmps46
    go_wp2_with fail
    refine (len64_any _ _ (by omega) (by omega)).mono ?_
    rintro e w' ⟨rfl, rfl⟩
    rw [HN.out]
    generalize hL : Lib.bitLen (b % 9223372036854775808) = L at *
    have HB := Lib.hid hL
    clear hL
    go_wp2_with fail
    go_ret2
    have h0 := H0.out
    have hf := HF.out
    have hL := HL.out
    have hr := rung_def b
    have hlt : Fl.rung b < 4503599627370496 := by simp at hd; omega
    refine ⟨ret2_ui ?_ ?_, rfl⟩
    · have hb2 := Fl.dm_bounds h0
      have e : Fl.dm b = b % 9223372036854775808 * 2 ^ (53 - L) := by
        unfold Fl.dm
        rw [if_pos hlt, hr, show 53 - L = 52 - (b % 9223372036854775808).log2 by omega]
      rw [show ((b : Int) % 9223372036854775808 * 2 ^ (53 - L)) = ((b % 9223372036854775808 * 2 ^ (53 - L) : Nat) : Int) by simp, ← e, IntKind.wrap_u64]
      omega
    · unfold Fl.de
      rw [if_pos hlt, hr]; omega

attribute [local go_sem ↓ low] ib_and

theorem two_pow_half (n : Nat) (hn : 1 ≤ n) : 2 ^ n = 2 * 2 ^ (n - 1) := by
  rw [show n = n - 1 + 1 by omega, Nat.pow_succ, show n - 1 + 1 - 1 = n - 1 by omega]; omega
theorem rne_half (m n : Nat) (hn : 1 ≤ n) : Fl.rne m n = m / 2 ^ n + if 2 ^ (n - 1) < m % 2 ^ n ∨ (2 ^ (n - 1) = m % 2 ^ n ∧ m / 2 ^ n % 2 = 1) then 1 else 0 := by
  unfold Fl.rne
  have h := two_pow_half n hn
  have a : 2 ^ n < 2 * (m % 2 ^ n) ↔ 2 ^ (n - 1) < m % 2 ^ n := by omega
  have b : 2 ^ n = 2 * (m % 2 ^ n) ↔ 2 ^ (n - 1) = m % 2 ^ n := by omega
  simp only [a, b]
theorem cut_eqs (m n : Nat) (hm : m < 9007199254740992) (hn : 1 ≤ n) (h : n ≤ 53) :
    andU (m : Int) (IntKind.u64.wrap (IntKind.u64.wrap (2 ^ n) - 1)) = ((m % 2 ^ n : Nat) : Int) ∧ IntKind.u64.wrap (2 ^ (n - 1)) = ((2 ^ (n - 1) : Nat) : Int) ∧ ((m : Int) / 2 ^ n) = ((m / 2 ^ n : Nat) : Int) := by
  have p1 : 2 ^ n ≤ 2 ^ 53 := Nat.pow_le_pow_right (by omega) h
  have p2 : 2 ^ (n - 1) ≤ 2 ^ 53 := Nat.pow_le_pow_right (by omega) (by omega)
  have p3 : 0 < 2 ^ n := Nat.two_pow_pos n
  have p4 : 0 < 2 ^ (n - 1) := Nat.two_pow_pos _
  have c1 : ((2 : Int) ^ n) = ((2 ^ n : Nat) : Int) := by simp
  have c2 : ((2 : Int) ^ (n - 1)) = ((2 ^ (n - 1) : Nat) : Int) := by simp
  refine ⟨?_, ?_, by rw [c1]; rfl⟩
  · rw [c1, IntKind.wrap_u64, IntKind.wrap_u64]
    rw [show (((2 ^ n : Nat) : Int) % 18446744073709551616 - 1) % 18446744073709551616 = ((2 ^ n - 1 : Nat) : Int) by omega]
    unfold andU
    rw [u64_and_nat _ _ (by omega) (by omega), and_mask]
  · rw [c2, IntKind.wrap_u64]; omega

theorem cut_any (m n : Nat) (w : World) (hm : m < 9007199254740992) (hn : 1 ≤ n) (hn2 : n < 4000) :
    Calls Tryd.prog 65 #[.int .u64 m, .int .i64 n] w fun e w' => e = .returned (.int .u64 (Fl.rne m n)) ∧ Below w.heap.size w w' := by
  by_cases h : 53 < n
  · have hr : Fl.rne m n = 0 := by
      refine Fl.rne_small _ _ ?_
      have : 2 ^ 54 ≤ 2 ^ n := Nat.pow_le_pow_right (by omega) (by omega)
      omega
    rw [hr]
    clear hr
    go_enter Tryd.func65, Tryd.ntmps65
    go_wp2_with fail
    go_ret
    exact ⟨rfl, Below.refl _ _⟩
  · have h' : n ≤ 53 := by omega
    clear h
    have hr : Fl.rne m n = m / 2 ^ n + if 2 ^ (n - 1) < m % 2 ^ n ∨ (2 ^ (n - 1) = m % 2 ^ n ∧ m / 2 ^ n % 2 = 1) then 1 else 0 := rne_half m n hn
    have HE := Lib.hid (cut_eqs m n hm hn h')
    have HR := Lib.hid hr
    clear hr
    go_enter Tryd.func65, Tryd.ntmps65
    go_wp2_with fail
    go_quiet (fail)
    rw [HE.out.1, HE.out.2.1, HE.out.2.2]
    clear HE
    have q1 : m / 2 ^ n < 9007199254740992 := Nat.lt_of_le_of_lt (Nat.div_le_self _ _) hm
    generalize m % 2 ^ n = R at *
    generalize m / 2 ^ n = Q at *
    generalize 2 ^ (n - 1) = G at *
    by_cases t1 : G < R
    · have b1 : decide (G < R) = true := by simp [t1]
      have hv := HR.out
      rw [if_pos (Or.inl t1)] at hv
      have HV := Lib.hid hv
      clear HR t1 hv
      go_wp2_with fail
      go_ret
      exact ⟨ret_int (by rw [HV.out]; rfl), below_drewN (Below.refl _ _) _⟩
    · have b1 : decide (G < R) = false := by simp [t1]
      by_cases t2 : R = G
      · have b2 : ((R : Int) == (G : Int)) = true := by simp [t2]
        by_cases t3 : Q % 2 = 1
        · have b3 : ((Q : Int) % 2 == 1) = true := by simp; omega
          have hv := HR.out
          rw [if_pos (Or.inr ⟨t2.symm, t3⟩)] at hv
          have HV := Lib.hid hv
          clear HR t1 t2 t3 hv
          go_wp2_with fail
          go_ret
          exact ⟨ret_int (by rw [HV.out]; rfl), below_drewN (Below.refl _ _) _⟩
        · have b3 : ((Q : Int) % 2 == 1) = false := by simp; omega
          have hv := HR.out
          rw [if_neg (by omega)] at hv
          have HV := Lib.hid hv
          clear HR t1 t2 t3 hv
          go_wp2_with fail
          go_ret
          exact ⟨ret_int (by rw [HV.out]; rfl), below_drewN (Below.refl _ _) _⟩
      · have b2 : ((R : Int) == (G : Int)) = false := by simp; omega
        have hv := HR.out
        rw [if_neg (by omega)] at hv
        have HV := Lib.hid hv
        clear HR t1 t2 hv
        go_wp2_with fail
        go_ret
        exact ⟨ret_int (by rw [HV.out]; rfl), below_drewN (Below.refl _ _) _⟩

theorem orU_shift {q r : Nat} (hq : q < 2048) (hr : r < 4503599627370496) : orU ((q : Int) * 4503599627370496) (r : Int) = ((q * 4503599627370496 + r : Nat) : Int) := by
  rw [show ((q : Int) * 4503599627370496) = ((q * 4503599627370496 : Nat) : Int) by omega]
  exact orU_nat 52 (by omega) (by omega) hr (by omega)

theorem join_any (m : Nat) (e : Int) (w : World) (h1 : 4503599627370496 ≤ m) (h2 : m < 9007199254740992) (h3 : -5000 ≤ e) (h4 : e ≤ 5000) :
    Calls Tryd.prog 48 #[.int .u64 m, .int .i64 e] w fun z w' => z = .returned (.int .u64 (Fl.scl m (e + 1074))) ∧ Below w.heap.size w w' := by
  have hI := Fl.INF_val
  by_cases c1 : 1023 < e + 52
  · have hs : Fl.scl m (e + 1074) = Fl.INF := by
      have := Fl.scl_exact m (e + 1074).toNat h2 (.inl h1)
      rw [Int.toNat_of_nonneg (by omega)] at this
      rw [this]; unfold Fl.cap; omega
    rw [hs, hI]
    clear hs hI
    go_enter Tryd.func48, Tryd.ntmps48
    go_wp2_with fail
    go_ret
    exact ⟨rfl, Below.refl _ _⟩
  · have c1' : decide (1023 < e + 52) = false := by simp [c1]
    by_cases c2 : -1022 ≤ e + 52
    · have hs : Fl.scl m (e + 1074) = (e + 52 + 1023).toNat * 4503599627370496 + m % 4503599627370496 := by
        have := Fl.scl_exact m (e + 1074).toNat h2 (.inl h1)
        rw [Int.toNat_of_nonneg (by omega)] at this
        rw [this]; unfold Fl.cap; omega
      have ho := orU_shift (q := (e + 52 + 1023).toNat) (r := m % 4503599627370496) (by omega) (by omega)
      have HO := Lib.hid ho
      have HS := Lib.hid hs
      clear ho hs hI c1
      go_enter Tryd.func48, Tryd.ntmps48
      go_wp2_with fail
      go_ret
      refine ⟨ret_int ?_, Below.refl _ _⟩
      have hs := HS.out
      have ho := HO.out
      have b1 : e + 52 ≤ 1023 := by simpa using c1'
      rw [hs, ← ho, IntKind.wrap_u64, show (e + 52 + 1023) * 4503599627370496 % 18446744073709551616 = ((e + 52 + 1023).toNat : Int) * 4503599627370496 by omega,
        show ((m : Int) % 4503599627370496) = ((m % 4503599627370496 : Nat) : Int) by omega]
    · have hs : Fl.scl m (e + 1074) = Fl.rne m (-1074 - e).toNat := by
        have hp : 0 < 2 ^ (-1074 - e).toNat := Nat.two_pow_pos _
        have := Fl.scl_place m (-1074 - e).toNat 0 (Nat.lt_of_le_of_lt (Nat.div_le_self _ _) h2) (.inr rfl)
        rw [show ((0 : Nat) : Int) - ((-1074 - e).toNat : Int) = e + 1074 by omega] at this
        rw [this]
        have : Fl.rne m (-1074 - e).toNat ≤ m / 2 ^ (-1074 - e).toNat + 1 := by unfold Fl.rne; split <;> omega
        have := Nat.div_le_self m (2 ^ (-1074 - e).toNat)
        unfold Fl.cap; omega
      have c2' : decide (-1022 ≤ e + 52) = false := by simp [c2]
      obtain ⟨n, hn⟩ : ∃ n : Nat, -1074 - e = n := ⟨(-1074 - e).toNat, by omega⟩
      obtain rfl : e = -1074 - n := by omega
      rw [show (-1074 - (-1074 - (n : Int))).toNat = n by omega] at hs
      rw [hs]
      clear hs hn c1 c2 hI
      go_enter Tryd.func48, Tryd.ntmps48
      go_wp2_with fail
      rw [show (-1074 - (-1074 - (n : Int))) = n by omega]
      refine (cut_any m n _ h2 (by simp at c2'; omega) (by omega)).mono ?_
      rintro e w' ⟨rfl, hw⟩
      go_wp2_with fail
      go_ret
      exact ⟨rfl, hw⟩
end Go.Proofs.YtajcjpbfmpljkaaDoor
set_option linter.unusedVariables false
namespace Go.Proofs.YtajcjpbfmpljkaaDoor
open Go.RowKit
attribute [local go_sem ↓] Go.wp_at_zero Go.wp_at_succ

theorem lz_any (x : Int) (w : World) (h0 : 0 ≤ x) (h1 : x ≤ 18446744073709551615) :
    Calls Tryd.prog 36 #[.int .u64 x] w fun e w' => e = .returned (.int .i64 (64 - (Lib.bitLen x.toNat : Int))) ∧ w = w' := by
  have hb : Lib.bitLen x.toNat ≤ 64 := Lib.bitLen_le _ 64 (by omega) (by omega)
  generalize hL : Lib.bitLen x.toNat = L at *
  have HL := Lib.hid hL
  clear hL
  go_enter Tryd.func36, Tryd.ntmps36
  go_wp2_with fail
  refine (len64_any x _ h0 h1).mono ?_
  rintro e w1 ⟨rfl, rfl⟩
  rw [HL.out]
  go_wp2_with fail
  go_ret
  exact ⟨rfl, rfl⟩

/-- How many binary digits a size has. -/
def bl (n : Nat) : Nat := if n = 0 then 0 else n.log2 + 1
theorem bl_bounds {n : Nat} (h : n ≠ 0) : 2 ^ (bl n - 1) ≤ n ∧ n < 2 ^ bl n := by
  unfold bl; rw [if_neg h]
  exact ⟨Nat.log2_self_le h, Nat.lt_log2_self⟩
theorem bl_unique {n k : Nat} (h1 : 2 ^ k ≤ n) (h2 : n < 2 ^ (k + 1)) : bl n = k + 1 := by
  have h0 : n ≠ 0 := by have := Nat.two_pow_pos k; omega
  unfold bl; rw [if_neg h0]
  congr 1
  exact (Nat.log2_eq_iff h0).2 ⟨h1, h2⟩
theorem last_of {z : Int} {n : Nat} (hn : n = wl z) (h0 : 0 < n) : ∃ h : n - 1 < (dig z).length, (dig z)[n - 1] ≠ 0 ∧ (dig z)[n - 1] < 18446744073709551616 ∧ z.natAbs / Q ^ (n - 1) = (dig z)[n - 1] := by
  have hl : n - 1 < (dig z).length := by unfold wl at hn; omega
  refine ⟨hl, ?_, ?_, ?_⟩
  · have := digs_last Q_two z.natAbs
    intro e
    apply this
    show (dig z).getLast? = some 0
    rw [List.getLast?_eq_getElem?, show (dig z).length - 1 = n - 1 by unfold wl at hn; omega, List.getElem?_eq_getElem hl, e]
  · exact (dig_lt z).get _ hl
  · have := ofd_drop Q_two (dig_lt z) (n - 1) (by omega)
    rw [ofd_dig] at this
    rw [← this, List.drop_eq_getElem_cons hl, List.drop_of_length_le (by unfold wl at hn; omega)]
    simp [ofd]
theorem bl_words {x n d : Nat} (hn : 0 < n) (hd : d ≠ 0) (h : x / Q ^ (n - 1) = d) (hd2 : d < 18446744073709551616) : bl x = (n - 1) * 64 + bl d := by
  obtain ⟨b1, b2⟩ := bl_bounds hd
  have hbd : 0 < bl d := by unfold bl; rw [if_neg hd]; omega
  have hp : 0 < Q ^ (n - 1) := Nat.pow_pos (by have := Q_two; omega)
  have e : Q ^ (n - 1) = 2 ^ ((n - 1) * 64) := by rw [Q_pow, ← Nat.pow_mul, Nat.mul_comm]
  rw [e] at h hp
  have := bl_unique (n := x) (k := (n - 1) * 64 + (bl d - 1)) (by
    rw [Nat.pow_add]
    have : 2 ^ ((n - 1) * 64) * 2 ^ (bl d - 1) ≤ 2 ^ ((n - 1) * 64) * d := Nat.mul_le_mul_left _ b1
    have h2 := Nat.div_mul_le_self x (2 ^ ((n - 1) * 64))
    rw [h, Nat.mul_comm] at h2
    omega) (by
    rw [show (n - 1) * 64 + (bl d - 1) + 1 = (n - 1) * 64 + bl d by omega, Nat.pow_add]
    have : 2 ^ ((n - 1) * 64) * (d + 1) ≤ 2 ^ ((n - 1) * 64) * 2 ^ bl d := Nat.mul_le_mul_left _ b2
    have h2 := Nat.lt_mul_div_succ x hp
    rw [h] at h2
    omega)
  rw [this]; omega
theorem width_any (A : Option Addr) (n c : Nat) (z : Int) (w : World) (h : Wh w A n c z) (hb : n ≤ 1099511627776) :
    Calls Tryd.prog 16 #[.agg #[.bool (ng z), .slice A n c]] w fun e w' => e = .returned (.int .i64 (bl z.natAbs)) ∧ Below w.heap.size w w' := by
  obtain ⟨hn, hc, hr⟩ := h
  by_cases h0 : n = 0
  · have hz : z = 0 := (wl_zero z).1 (by omega)
    have HV := Lib.hid (show bl z.natAbs = 0 by rw [hz]; rfl)
    have HN := Lib.hid hn
    subst h0
    clear hn hz hr
    go_enter Tryd.func16, Tryd.ntmps16
    go_wp2_with fail
    go_ret
    exact ⟨ret_i (by rw [HV.out]; rfl), (Below.refl _ _).alloc (Nat.le_refl _) _⟩
  · obtain ⟨hl, hd0, hdl, hq⟩ := last_of hn (by omega)
    obtain ⟨b, o, rfl, hbl, hcell⟩ := hr.at_ (u64s_get _ _ hl)
    have hv := bl_words (by omega) hd0 hq hdl
    generalize (dig z)[n - 1] = d at *
    have hbit : Lib.bitLen d = bl d := by rw [bitLen_log d hd0 hdl]; unfold bl; rw [if_neg hd0]
    have hbd : bl d ≤ 64 := by rw [← hbit]; exact Lib.bitLen_le _ 64 (by omega) hdl
    generalize bl d = L at *
    have HV := Lib.hid hv
    have HN := Lib.hid hn
    have HB := Lib.hid hbit
    have ht : ((n : Int) == 0) = false := by simp; omega
    have hpos : 0 < n := by omega
    have hi1 : (0 : Int) ≤ (n : Int) - 1 := by omega
    have hi2 : ((n : Int) - 1).toNat = n - 1 := by omega
    clear hv hn hbit hd0 hq hl h0
    go_enter Tryd.func16, Tryd.ntmps16
    go_wp2_with fail
    refine (lz_any d _ (by omega) (by omega)).mono ?_
    rintro e w1 ⟨rfl, rfl⟩
    rw [Int.toNat_natCast, HB.out]
    go_wp2_with fail
    go_ret
    exact ⟨ret_i (by rw [HV.out]; omega), (Below.refl _ _).alloc (Nat.le_refl _) _⟩
end Go.Proofs.YtajcjpbfmpljkaaDoor
set_option linter.unusedVariables false
namespace Go.Proofs.YtajcjpbfmpljkaaDoor
open Go.RowKit
attribute [local go_sem ↓] ib_or

theorem orU_comm (a b : Nat) (ha : a < 18446744073709551616) (hb : b < 18446744073709551616) : orU (a : Int) (b : Int) = orU (b : Int) (a : Int) := by
  unfold orU; rw [u64_or_nat a b ha hb, u64_or_nat b a hb ha, Nat.or_comm]
/-- The window of 64 binary digits from place k on. -/
def win (x k : Nat) : Nat := x / 2 ^ k % 18446744073709551616
theorem pow_split (i s : Nat) : 2 ^ (64 * i + s) = Q ^ i * 2 ^ s := by rw [Q_pow, ← Nat.pow_mul, Nat.pow_add]
theorem win_far {x k n i s : Nat} (hk : k = 64 * i + s) (hx : x < Q ^ n) (hi : n ≤ i) : win x k = 0 := by
  unfold win
  rw [hk, pow_split, ← Nat.div_div_eq_div_mul]
  have : Q ^ n ≤ Q ^ i := Nat.pow_le_pow_right (by have := Q_two; omega) hi
  rw [Nat.div_eq_of_lt (Nat.lt_of_lt_of_le hx this), Nat.zero_div]
theorem win_two {x k i s : Nat} (hk : k = 64 * i + s) (hs : s < 64) {d e : Nat} (hd : x / Q ^ i % Q = d) (he : x / Q ^ (i + 1) % Q = e) :
    win x k = d / 2 ^ s + e * 2 ^ (64 - s) % 18446744073709551616 := by
  unfold win
  rw [hk, pow_split, ← Nat.div_div_eq_div_mul]
  rw [Nat.pow_succ, ← Nat.div_div_eq_div_mul] at he
  generalize x / Q ^ i = y at *
  have hq : Q = 18446744073709551616 := rfl
  have e1 : y = d + Q * (e + Q * (y / Q / Q)) := by
    have h1 := Nat.mod_add_div y Q
    have h2 := Nat.mod_add_div (y / Q) Q
    rw [hd] at h1; rw [he] at h2
    rw [h2, h1]
  generalize y / Q / Q = r at *
  have hdq : d < Q := by rw [← hd]; exact Nat.mod_lt _ (by rw [hq]; omega)
  have hsplit : Q = 2 ^ s * 2 ^ (64 - s) := by rw [← Nat.pow_add, show s + (64 - s) = 64 by omega]; rfl
  have e2 : y / 2 ^ s = d / 2 ^ s + 2 ^ (64 - s) * (e + Q * r) := by
    rw [e1]
    have : Q * (e + Q * r) = 2 ^ s * (2 ^ (64 - s) * (e + Q * r)) := by rw [← Nat.mul_assoc, ← hsplit]
    rw [this, Nat.add_mul_div_left _ _ (Nat.two_pow_pos s)]
  rw [e2]
  have h3 : d / 2 ^ s < 2 ^ (64 - s) := by
    rw [Nat.div_lt_iff_lt_mul (Nat.two_pow_pos s), Nat.mul_comm, ← hsplit]; exact hdq
  have e3 : 2 ^ (64 - s) * (e + Q * r) = e * 2 ^ (64 - s) + 18446744073709551616 * (2 ^ (64 - s) * r) := by rw [hq]; grind
  rw [e3, ← Nat.add_assoc, Nat.add_mul_mod_self_left, Nat.add_mod]
  have h4 : d / 2 ^ s < 18446744073709551616 := by
    have := Nat.div_le_self d (2 ^ s); rw [hq] at hdq; omega
  rw [Nat.mod_eq_of_lt h4]
  -- the upper part is a multiple of 2^(64-s)
  have h5 : e * 2 ^ (64 - s) % 18446744073709551616 = e % 2 ^ s * 2 ^ (64 - s) := by
    rw [← hq, hsplit, Nat.mul_mod_mul_right]
  rw [h5]
  refine Nat.mod_eq_of_lt ?_
  have h6 : e % 2 ^ s < 2 ^ s := Nat.mod_lt _ (Nat.two_pow_pos s)
  have h7 : (e % 2 ^ s + 1) * 2 ^ (64 - s) ≤ 2 ^ s * 2 ^ (64 - s) := Nat.mul_le_mul_right _ h6
  rw [← hsplit, hq, Nat.add_mul] at h7
  omega
theorem win_or {d e s : Nat} (hs : s < 64) (hd : d < 18446744073709551616) : orU ((d / 2 ^ s : Nat) : Int) ((e * 2 ^ (64 - s) % 18446744073709551616 : Nat) : Int) = ((d / 2 ^ s + e * 2 ^ (64 - s) % 18446744073709551616 : Nat) : Int) := by
  have hsplit : 18446744073709551616 = 2 ^ s * 2 ^ (64 - s) := by rw [← Nat.pow_add, show s + (64 - s) = 64 by omega]
  have h4 : d / 2 ^ s < 18446744073709551616 := by have := Nat.div_le_self d (2 ^ s); omega
  have h5 : e * 2 ^ (64 - s) % 18446744073709551616 < 18446744073709551616 := Nat.mod_lt _ (by omega)
  have h6 : e * 2 ^ (64 - s) % 18446744073709551616 % 2 ^ (64 - s) = 0 := by
    rw [hsplit, Nat.mul_mod_mul_right]; simp
  have h7 : d / 2 ^ s < 2 ^ (64 - s) := by
    rw [Nat.div_lt_iff_lt_mul (Nat.two_pow_pos s), Nat.mul_comm, ← hsplit]; exact hd
  rw [orU_comm _ _ h4 h5, orU_nat (64 - s) h5 h4 h7 h6, Nat.add_comm]
theorem dig_get (z : Int) (i : Nat) (h : i < (dig z).length) : (dig z)[i] = z.natAbs / Q ^ i % Q := by
  have := ofd_get Q_two (dig_lt z) i
  rw [ofd_dig, getD_of h] at this
  exact this
theorem dig_beyond (z : Int) (n i : Nat) (hn : n = wl z) (h : n ≤ i) : z.natAbs / Q ^ i % Q = 0 := by
  have := (wl_le z i).1 (by omega)
  rw [Nat.div_eq_of_lt this]; simp

theorem win_cast {d s : Nat} : ((d : Int) / 2 ^ s) = ((d / 2 ^ s : Nat) : Int) := by
  rw [Int.natCast_ediv]; simp
theorem win_cast2 {e s : Nat} : IntKind.u64.wrap ((e : Int) * 2 ^ s) = ((e * 2 ^ s % 18446744073709551616 : Nat) : Int) := by
  rw [IntKind.wrap_u64, Int.natCast_emod]; simp

theorem window_any (A : Option Addr) (n c : Nat) (z : Int) (k : Nat) (w : World) (h : Wh w A n c z) (hb : n ≤ 1099511627776) (hk : k ≤ 140737488355328) :
    Calls Tryd.prog 18 #[.agg #[.bool (ng z), .slice A n c], .int .i64 (k : Int)] w fun e w' => e = .returned (.int .u64 (win z.natAbs k)) ∧ Below w.heap.size w w' := by
  obtain ⟨hn, hc, hr⟩ := h
  obtain ⟨i, s, hks, hs⟩ : ∃ i s, k = 64 * i + s ∧ s < 64 := ⟨k / 64, k % 64, by omega, by omega⟩
  have hq1 : (k : Int) / 64 = (i : Int) := by omega
  have hq2 : (k : Int) % 64 = (s : Int) := by omega
  by_cases h0 : i < n
  · have hl : i < (dig z).length := by unfold wl at hn; omega
    obtain ⟨b, o, rfl, hbl, hcell⟩ := hr.at_ (u64s_get _ _ hl)
    have hd := (dig_get z i hl).symm
    have hdl := (dig_lt z).get i hl
    rw [Q_val] at hdl
    have hd1 : decide (i < n) = true := by simp [h0]
    by_cases h1 : i + 1 < n
    · have hl2 : i + 1 < (dig z).length := by unfold wl at hn; omega
      obtain ⟨b', o', e, _, hcell2⟩ := hr.at_ (u64s_get _ _ hl2)
      injection e with e
      injection e with e1 e2
      subst e1 e2
      have he := (dig_get z (i + 1) hl2).symm
      have hel := (dig_lt z).get (i + 1) hl2
      rw [Q_val] at hel
      generalize (dig z)[i] = d at *
      generalize (dig z)[i + 1] = e at *
      have HV := Lib.hid (win_two hks hs hd he)
      have HO := Lib.hid (win_or (e := e) hs hdl)
      have HN := Lib.hid hn
      have hd2 : decide (i + 1 < n) = true := by simp [h1]
      clear hn hr hks hd he hl hl2
      go_enter Tryd.func18, Tryd.ntmps18
      go_wp2_with fail
      go_ret
      exact ⟨ret_i (by rw [HV.out, ← HO.out, ← win_cast, ← win_cast2]), (Below.refl _ _).alloc (Nat.le_refl _) _⟩
    · generalize hd0 : (dig z)[i] = d at *
      have HV := Lib.hid (win_two hks hs hd (dig_beyond z n (i + 1) hn (by omega)))
      have HN := Lib.hid hn
      have hd2 : decide (i + 1 < n) = false := by simp [h1]
      have h1' : ¬ ((i : Int) + 1 < (n : Int)) := by omega
      clear hn hr hks hd hd0 hl h1
      go_enter Tryd.func18, Tryd.ntmps18
      go_wp2_with fail
      go_ret
      exact ⟨ret_i (by rw [HV.out, Nat.zero_mul, Nat.zero_mod, Nat.add_zero, ← win_cast]), (Below.refl _ _).alloc (Nat.le_refl _) _⟩
  · have hx := (wl_le z n).1 (by omega)
    have HV := Lib.hid (win_far hks hx (Nat.le_of_not_lt h0))
    have HN := Lib.hid hn
    have hd1 : decide (i < n) = false := by simp; omega
    have hd2 : ¬ ((i : Int) + 1 < (n : Int)) := by omega
    clear hn hr hks h0 hx
    go_enter Tryd.func18, Tryd.ntmps18
    go_wp2_with fail
    go_ret
    exact ⟨ret_i (by rw [HV.out]; rfl), (Below.refl _ _).alloc (Nat.le_refl _) _⟩
end Go.Proofs.YtajcjpbfmpljkaaDoor
set_option linter.unusedVariables false
namespace Go.Proofs.YtajcjpbfmpljkaaDoor
open Go.RowKit
attribute [local go_sem ↓] Go.wp_at_zero Go.wp_at_succ
attribute [local go_sem ↓] ib_or

theorem run_add (x y c : Nat) (hc : c ≤ 1) (w : World) :
    (callFunc 77 #[.int .u64 x, .int .u64 y, .int .u64 c]).run Tryd.prog w =
      .ok (.value (.tuple #[.int .u64 (((x + y + c) % Q : Nat) : Int), .int .u64 (((x + y + c) / Q : Nat) : Int)])) w := by
  rw [run_callFunc_extern Tryd.func77 (by kernel_rfl) (by kernel_rfl) (by kernel_rfl) (e := add64Entry) (by kernel_rfl), run_add64 x y c (by omega) (by omega) (by omega) (by omega)]
  simp only [Result.andThen, Q_val]
  congr 5 <;> omega
theorem u64s_arr (M : List Nat) (i : Nat) (h : i < M.length) : (u64s M).toArray[i]? = some (.int .u64 (M[i] : Int)) := by
  rw [List.getElem?_toArray]; exact u64s_get M i h
theorem u64s_set (M : List Nat) (i v : Nat) : (u64s M).toArray.setIfInBounds i (.int .u64 (v : Int)) = (u64s (M.set i v)).toArray := by
  simp [u64s, List.map_set]

theorem or_word {d b s : Nat} (hs : s < 64) (hb : b < 2 ^ s) : orU (IntKind.u64.wrap ((d : Int) * 2 ^ s)) (b : Int) = ((d * 2 ^ s % Q + b : Nat) : Int) := by
  obtain ⟨r1, r2⟩ := shl_room (d := d) hs hb
  rw [win_cast2, ← Q_val]
  have hq := Q_val
  exact orU_nat s (by omega) (by omega) hb r2

/-- What add came to. -/
def Added (g n : Nat) (t : TypeId) (T : Nat) (w w' : World) : Prop := ∃ M, Digs Q M ∧ M.length = n ∧ ofd Q M = T ∧ Blk w' g t (u64s M).toArray ∧ Only g w w'
set_option maxHeartbeats 1000000 in
theorem add_any (g n c : Nat) (t : TypeId) (L : List Nat) (A : Option Addr) (m c2 : Nat) (z : Int) (p : Nat) (w : World) (hL : Digs Q L) (hn : L.length = n) (hnb : n ≤ 1099511627776) (hB : Blk w g t (u64s L).toArray) (hW : Wh w A m c2 z)
    (hA : ∀ b o, 0 < m → A = some ⟨b, o, none⟩ → b ≠ g) (hp : p ≤ 70368744177664) (hT : ofd Q L + 2 ^ p * z.natAbs < Q ^ n) (hnc : n ≤ c) :
    Calls Tryd.prog 63 #[.slice (some ⟨g, 0, none⟩) n c, .slice A m c2, .int .i64 (p : Int)] w fun e w' => e = .returned (.tuple #[]) ∧ Added g n t (ofd Q L + 2 ^ p * z.natAbs) w w' := by
  obtain ⟨hm, hmc, hr⟩ := hW
  have hroom : ∀ k, k < m → p / 64 + k < n := fun k hk => add_room (z := z) (by unfold wl at hm; omega) (by omega)
  have hq1 : (p : Int) / 64 = ((p / 64 : Nat) : Int) := by omega
  have hq2 : (p : Int) % 64 = ((p % 64 : Nat) : Int) := by omega
  have hs : p % 64 < 64 := Nat.mod_lt _ (by omega)
  have hqb : p / 64 ≤ 1099511627776 := by omega
  have hmb : m ≤ 1099511627776 := by
    rcases Nat.eq_zero_or_pos m with h0 | h0
    · omega
    · have := hroom (m - 1) (by omega); omega
  have hst := Add1.start (L := L) (D := dig z) (p := p) hL
  have HST := Lib.hid hst
  have HR := Lib.hid hr
  have HM := Lib.hid hm
  have HN := Lib.hid hn
  have HRoom := Lib.hid hroom
  have HA := Lib.hid hA
  have HT := Lib.hid hT
  have HB := Lib.hid hB
  have ho := Add1.step L (dig z) p
  generalize hq : p / 64 = q at *
  generalize hs2 : p % 64 = s at *
  have HO := Lib.hid ho
  have HQ := Lib.hid hq
  have HS2 := Lib.hid hs2
  clear hst hr hm hn hroom hA hT hB hq hs2 hL ho
  go_enter Tryd.func63, Tryd.ntmps63
  go_wp2_with fail
  rw [hq2]
  go_loopw [6, 8, 9, 19] (fun a cc b i wr => ∃ (k C Bd : Nat) (M : List Nat), k ≤ m ∧ a = .int .i64 ((q : Int) + (k : Int)) ∧ cc = .int .u64 C ∧ b = .int .u64 Bd ∧ i = .int .i64 k ∧ Add1 L (dig z) p k M C Bd ∧ Blk wr g t (u64s M).toArray ∧ Only g w wr) (fun _ _ _ i _ => m - (intOf i).toNat)
  case atStart => exact ⟨0, 0, 0, L, Nat.zero_le _, by simp, rfl, rfl, rfl, HST.out, HB.out, Only.refl _ _⟩
  case round =>
    obtain ⟨k, C, Bd, M, hk, rfl, rfl, rfl, rfl, hadd, hBM, hO⟩ := hrel
    by_cases hlt : k < m
    · have hlen : M.length = n := hadd.2.1.trans HN.out
      have hC : C ≤ 1 := hadd.2.2.1
      have hBd : Bd < 2 ^ (p % 64) := hadd.2.2.2.1
      rw [HS2.out] at hBd
      have hkd : k < (dig z).length := by have := HM.out; unfold wl at this; omega
      have hrm : q + k < n := HRoom.out k hlt
      have hi : q + k < M.length := by omega
      obtain ⟨b, o, hAe, hbl, hcell0⟩ := HR.out.at_ (u64s_get (dig z) k hkd)
      subst hAe
      have hne : b ≠ g := HA.out b o (by omega) rfl
      have hcell := hO.cell hne hcell0
      have hget := hBM.cell (q + k)
      rw [u64s_arr M _ hi] at hget
      have hfr := hBM.frozen (q + k)
      have hd := dig_lt z |>.get k hkd
      have hx := (hadd.1).get (q + k) hi
      have hstep := HO.out _ _ _ _ _ _ hadd hkd rfl hd hi rfl
      generalize (dig z)[k] = d at *
      generalize hMx : M[q + k] = x at *
      have ho := or_word (d := d) hs hBd
      obtain ⟨r1, r2⟩ := shl_room (d := d) hs hBd
      generalize d * 2 ^ s % Q + Bd = y at *
      have hrun := fun W => run_add x y C hC W
      have hbeh := @win_cast d (64 - s)
      generalize hv : (x + y + C) % Q = v at *
      generalize hC' : (x + y + C) / Q = C' at *
      generalize d / 2 ^ (64 - s) = Bd' at *
      have hset := hBM.set_ (q + k) (.int .u64 (v : Int))
      rw [u64s_set] at hset
      have HSet := Lib.hid hset
      have HStep := Lib.hid hstep
      have HOn := Lib.hid hO
      have e1 : ((q : Int) + (k : Int)).toNat = q + k := by omega
      have e2 : (0 : Int) ≤ (q : Int) + (k : Int) := by omega
      have e3 : (q : Int) + (k : Int) < (n : Int) := by omega
      have e4 : (k : Int) < (m : Int) := by omega
      have e5 : (s : Int) < 64 := by omega
      clear hset hstep hO hadd hBd hkd hi hcell0 hd hx hMx r1 r2 hC hv hC' hBM hlen hrm
      go_wp2_with fail
      go_region_with (fail)
      go_wp2_with fail
      go_roundw
      case rel => exact ⟨k + 1, C', Bd', M.set (q + k) v, by omega, by go_num, rfl, rfl, by go_num, HStep.out, HSet.out, (HOn.out.set_ _ _).drew⟩
      case measure => simp [intOf]; omega
    · obtain rfl : k = m := by omega
      have hkm : k = (dig z).length := by have := HM.out; unfold wl at this; exact this
      have h2 : Add2 n (ofd Q L + 2 ^ p * z.natAbs) (q + k) M C Bd := by
        have := Add2.start (L := L) (D := dig z) (p := p) (by rw [← hkm]; exact hadd) HN.out
        rw [HQ.out, ← hkm, ofd_dig] at this
        exact this
      have H2 := Lib.hid h2
      have HBM := Lib.hid hBM
      have HOn := Lib.hid hO
      generalize hTT : ofd Q L + 2 ^ p * z.natAbs = T at *
      have HTT := Lib.hid hTT
      clear hTT
      have e4 : ¬ (k : Int) < (k : Int) := by omega
      clear hadd h2 hBM hO hkm
      go_wp2_with fail
      go_loopw [6, 8, 12] (fun a cc r wr => ∃ (i C R : Nat) (M : List Nat), a = .int .i64 (i : Int) ∧ cc = .int .u64 C ∧ r = .int .u64 R ∧ Add2 n T i M C R ∧ Blk wr g t (u64s M).toArray ∧ Only g w wr) (fun a _ _ _ => n - (intOf a).toNat)
      case atStart => exact ⟨q + k, C, Bd, M, by simp, rfl, rfl, H2.out, HBM.out, HOn.out⟩
      case round =>
        obtain ⟨i, C, R, M, rfl, rfl, rfl, hadd, hBM, hO⟩ := hrel
        by_cases hz : C + R = 0
        · obtain ⟨rfl, rfl⟩ : C = 0 ∧ R = 0 := by omega
          have hd := Lib.hid hadd.done
          have HBM := Lib.hid hBM
          have HOn := Lib.hid hO
          clear hadd hBM hO hz
          go_wp2_with fail
          go_end0
          exact ⟨rfl, M, hd.out.1, hd.out.2.1, by rw [hd.out.2.2, HTT.out], HBM.out, HOn.out⟩
        · have hi := hadd.room HT.out hz
          have hlen : M.length = n := hadd.2.1
          have hC : C ≤ 1 := hadd.2.2.1
          have hRq : R < Q := hadd.2.2.2.1
          have hstep := hadd.step (by omega) rfl
          have hget := hBM.cell i
          rw [u64s_arr M _ (by omega)] at hget
          have hfr := hBM.frozen i
          generalize hMx : M[i] = x at *
          have hrun := fun W => run_add x R C hC W
          generalize hv : (x + R + C) % Q = v at *
          generalize hC' : (x + R + C) / Q = C' at *
          have hset := hBM.set_ i (.int .u64 (v : Int))
          rw [u64s_set] at hset
          have HSet := Lib.hid hset
          have HStep := Lib.hid hstep
          have HOn := Lib.hid hO
          have e2 : (i : Int) < (n : Int) := by omega
          by_cases hR : R = 0
          · subst hR
            have t2 : ((C : Int) != 0) = true := by simp; omega
            have e0 : ((0 : Nat) : Int) = 0 := rfl
            rw [e0] at hrun ⊢
            clear hset hstep hO hadd hBM hMx hv hC' hC hz hRq hlen
            go_wp2_with fail
            go_roundw
            case rel => exact ⟨i + 1, C', 0, M.set i v, by go_num, rfl, rfl, HStep.out, HSet.out, (HOn.out.set_ _ _)⟩
            case measure => simp [intOf]; omega
          · have t1 : ((R : Int) != 0) = true := by simp; omega
            clear hset hstep hO hadd hBM hMx hv hC' hC hz hRq hlen hR
            go_wp2_with fail
            go_roundw
            case rel => exact ⟨i + 1, C', 0, M.set i v, by go_num, rfl, rfl, HStep.out, HSet.out, (HOn.out.set_ _ _)⟩
            case measure => simp [intOf]; omega
end Go.Proofs.YtajcjpbfmpljkaaDoor
set_option linter.unusedVariables false
namespace Go.Proofs.YtajcjpbfmpljkaaDoor
open Go.RowKit
attribute [local go_sem ↓] Go.wp_at_zero Go.wp_at_succ

theorem run_sub (x y b : Nat) (hb : b ≤ 1) (w : World) :
    (callFunc 78 #[.int .u64 x, .int .u64 y, .int .u64 b]).run Tryd.prog w =
      .ok (.value (.tuple #[.int .u64 (((x + Q - y - b) % Q : Nat) : Int), .int .u64 ((if x < y + b then 1 else 0 : Nat) : Int)])) w := by
  rw [run_callFunc_extern Tryd.func78 (by kernel_rfl) (by kernel_rfl) (by kernel_rfl) (e := sub64Entry) (by kernel_rfl), run_sub64 x y b hb]
  rfl
theorem compl_word {x : Nat} (hx : x < Q) : bits .xor .u64 IntKind.u64.max (x : Int) = ((Q - 1 - x : Nat) : Int) := by
  have hq := Q_val
  show IntKind.u64.wrap ((BitVec.ofInt 64 18446744073709551615 ^^^ BitVec.ofInt 64 (x : Int)).toNat : Int) = _
  have e1 : BitVec.ofInt 64 18446744073709551615 = BitVec.allOnes 64 := by decide
  have e2 : (BitVec.ofInt 64 (x : Int)).toNat = x := by
    rw [BitVec.ofInt_natCast, BitVec.toNat_ofNat]; exact Nat.mod_eq_of_lt (by omega)
  rw [e1, BitVec.allOnes_xor, BitVec.toNat_not, e2, IntKind.wrap_u64]
  omega

/-- What difference came to. -/
def Differ (g : Nat) (z : Int) (w : World) (e : Ending) (w' : World) : Prop := ∃ A n c, e = .returned (.agg #[.bool (ng z), .slice A n c]) ∧ Wh w' A n c z ∧ Only g w w'
theorem Differ.mk_ {g : Nat} {z : Int} {w w' : World} {a : Bool} {A : Option Addr} {n c : Nat} (ha : ng z = a) (h : Wh w' A n c z) (hb : Only g w w') : Differ g z w (.returned (.agg #[.bool a, .slice A n c])) w' := by
  subst ha; exact ⟨A, n, c, rfl, h, hb⟩
theorem Only.alloc {g : Nat} {w w' : World} (h : Only g w w') (o : Obj) : Only g w (w'.alloc o) :=
  ⟨h.os, h.tape, h.output, Nat.le_trans h.size (by simp), fun i hi hne => (Below.heap_alloc w' o i (Nat.lt_of_lt_of_le hi h.size)).trans (h.block i hi hne)⟩
theorem Only.new_ {g : Nat} {w w' : World} (h : Only g w w') (i : Nat) (u : Value) (k : Nat) (hk : w.heap.size ≤ k) : Only g w (w'.setCell ⟨k, i, none⟩ u) :=
  ⟨h.os, h.tape, h.output, by simpa [World.setCell] using h.size, fun j hj hne => (Below.heap_setCell w' _ u j (by simp; omega)).trans (h.block j hj hne)⟩

theorem row_blk {w : World} {g : Nat} {t : TypeId} {M : List Nat} (h : Blk w g t (u64s M).toArray) : Row w (some ⟨g, 0, none⟩) (u64s M) :=
  .inr ⟨g, 0, rfl, fun i v hi => by rw [Nat.zero_add, h.cell i]; simpa using hi⟩
set_option maxHeartbeats 1000000 in
theorem difference_any (g g2 n c c2 : Nat) (t t2 : TypeId) (L1 L2 : List Nat) (w : World) (h1 : Digs Q L1) (h2 : Digs Q L2) (hn1 : L1.length = n) (hn2 : L2.length = n) (hnb : n ≤ 1099511627776) (hc : n ≤ c) (hc2 : n ≤ c2)
    (hB1 : Blk w g t (u64s L1).toArray) (hB2 : Blk w g2 t2 (u64s L2).toArray) (hg : g2 ≠ g) :
    Calls Tryd.prog 64 #[.slice (some ⟨g, 0, none⟩) n c, .slice (some ⟨g2, 0, none⟩) n c2] w (Differ g (((ofd Q L1 : Nat) : Int) - (ofd Q L2 : Nat)) w) := by
  have hgl := hB1.lt
  have hgl2 := hB2.lt
  have HST := Lib.hid (Dif1.start (L2 := L2) h1)
  have HSP := Lib.hid (Dif1.step L1 L2)
  have HB1 := Lib.hid hB1
  have HB2 := Lib.hid hB2
  have HN1 := Lib.hid hn1
  have HN2 := Lib.hid hn2
  have H2 := Lib.hid h2
  clear hB1 hB2 hn1 hn2 h2 h1
  go_enter Tryd.func64, Tryd.ntmps64
  go_wp2_with fail
  go_loopw [5, 11] (fun bb i wr => ∃ (k b : Nat) (M : List Nat), k ≤ n ∧ bb = .int .u64 b ∧ i = .int .i64 k ∧ Dif1 L1 L2 k M b ∧ Blk wr g t (u64s M).toArray ∧ Blk wr g2 t2 (u64s L2).toArray ∧ Blk wr w.heap.size 25 #[.bool false, .slice none 0 0] ∧ Only g w wr) (fun _ i _ => n - (intOf i).toNat)
  case atStart => exact ⟨0, 0, L1, Nat.zero_le _, rfl, rfl, HST.out, HB1.out.alloc _, HB2.out.alloc _, Blk.new _ _ _, (Only.refl _ _).alloc _⟩
  case round =>
    obtain ⟨k, b, M, hk, rfl, rfl, hdif, hBM, hBL, hBr, hO⟩ := hrel
    by_cases hlt : k < n
    · have hlen : M.length = n := hdif.2.1.trans HN1.out
      have hb : b ≤ 1 := hdif.2.2.1
      have hi : k < M.length := by omega
      have hi2 : k < L2.length := by have := HN2.out; omega
      have hget := hBM.cell k
      rw [u64s_arr M _ hi] at hget
      have hget2 := hBL.cell k
      rw [u64s_arr L2 _ hi2] at hget2
      have hfr := hBM.frozen k
      have hx := (hdif.1).get k hi
      have hy := H2.out.get k hi2
      have hstep := HSP.out k M b _ _ hdif hi rfl hi2 rfl hy
      generalize M[k] = x at *
      generalize L2[k] = y at *
      have hrun := fun W => run_sub x y b hb W
      generalize (x + Q - y - b) % Q = v at *
      generalize (if x < y + b then 1 else 0) = b' at *
      have hset := hBM.set_ k (.int .u64 (v : Int))
      rw [u64s_set] at hset
      have hL' := hBL.other (p := ⟨g, k, none⟩) hg (.int .u64 (v : Int))
      have hr' := hBr.other (p := ⟨g, k, none⟩) (by show w.heap.size ≠ g; omega) (.int .u64 (v : Int))
      have HSet := Lib.hid hset
      have HL' := Lib.hid hL'
      have Hr' := Lib.hid hr'
      have HStep := Lib.hid hstep
      have HOn := Lib.hid (hO.set_ k (.int .u64 (v : Int)))
      have e4 : (k : Int) < (n : Int) := by omega
      clear hset hL' hr' hstep hO hdif hi hi2 hx hy hb hBM hlen hBL hBr
      go_wp2_with fail
      go_region_with (fail)
      all_goals
        go_wp2_with fail
        go_roundw
        case rel => exact ⟨k + 1, b', M.set k v, by omega, rfl, by go_num, HStep.out, HSet.out, HL'.out, Hr'.out, HOn.out.drew⟩
        case measure => simp [intOf]; omega
    · obtain rfl : k = n := by omega
      have e4 : ¬ (k : Int) < (k : Int) := by omega
      have hkn : k = L2.length := HN2.out.symm
      have hlen : M.length = k := hdif.2.1.trans HN1.out
      have hMd := hdif.1
      by_cases hb0 : b = 0
      · subst hb0
        have hv := dif_low (n := k) (by rw [← hkn]; exact hdif)
        have htr := fun W (hr : Row W (some ⟨g, 0, none⟩) (u64s M)) => trim_any g 0 k c M W hlen.symm hc (by omega) hMd hr
        have HV := Lib.hid hv
        have hr := row_blk hBM
        have HW := Lib.hid (Wh.trimmed (z := ((ofd Q L1 : Nat) : Int) - (ofd Q L2 : Nat)) hMd hr hv.1.symm)
        have HTr := Lib.hid (htr wr hr)
        have HBr := Lib.hid hBr
        have HOn := Lib.hid hO
        have hr0 := hBr.cell 0
        have hr1 := hBr.cell 1
        have hf0 := hBr.frozen 0
        have hf1 := hBr.frozen 1
        simp only [List.getElem?_toArray, List.getElem?_cons_zero, List.getElem?_cons_succ] at hr0 hr1
        have e0 : ((0 : Nat) : Int) = 0 := rfl
        rw [e0]
        generalize tl M = r at *
        clear hv htr hdif hBM hBL hBr hO hkn hMd e0 hr
        go_wp2_with fail
        refine HTr.out.mono ?_
        rintro e w1 ⟨rfl, rfl⟩
        go_wp2_with fail
        have hB2 := HBr.out.store2 (.bool false) (.slice (some ⟨g, 0, none⟩) r r)
        have h0 := hB2.cell 0
        have h1 := hB2.cell 1
        simp only [List.getElem?_toArray, List.getElem?_cons_zero, List.getElem?_cons_succ] at h0 h1
        refine bodyPost_ret (v := .agg #[.bool false, .slice (some ⟨g, 0, none⟩) r r]) (by simp [results, Tryd.results64, go_sem, h0, h1]) rfl
          (Differ.mk_ HV.out.2 (HW.out.store2 HBr.out _ _) ((HOn.out.new_ _ _ _ (Nat.le_refl _)).new_ _ _ _ (Nat.le_refl _)))
      · obtain rfl : b = 1 := by have := hdif.2.2.1; omega
        have HDif := Lib.hid hdif
        have HD2 := Lib.hid (Dif2.start hMd)
        have HSP2 := Lib.hid (Dif2.step M)
        have HBM := Lib.hid hBM
        have HBr := Lib.hid hBr
        have HOn := Lib.hid hO
        have e1 : ((1 : Nat) : Int) = 1 := rfl
        rw [e1]
        have HMl := Lib.hid hlen
        clear hdif hMd hBM hBr hO hb0 e1 hlen hBL hkn
        go_wp2_with fail
        go_loopw [7, 38] (fun cc i wr => ∃ (j C : Nat) (N : List Nat), j ≤ k ∧ cc = .int .u64 C ∧ i = .int .i64 j ∧ Dif2 M j N C ∧ Blk wr g t (u64s N).toArray ∧ Blk wr w.heap.size 25 #[.bool false, .slice none 0 0] ∧ Only g w wr) (fun _ i _ => k - (intOf i).toNat)
        case atStart => exact ⟨0, 1, M, Nat.zero_le _, rfl, rfl, HD2.out, HBM.out, HBr.out, HOn.out⟩
        case round =>
          obtain ⟨j, C, N, hj, rfl, rfl, hdif, hBM, hBr, hO⟩ := hrel
          by_cases hlt2 : j < k
          · have hlen : N.length = k := hdif.2.1.trans HMl.out
            have hC : C ≤ 1 := hdif.2.2.1
            have hi : j < N.length := by omega
            have hget := hBM.cell j
            rw [u64s_arr N _ hi] at hget
            have hfr := hBM.frozen j
            have hx := (hdif.1).get j hi
            have hstep := HSP2.out j N C _ hdif hi rfl
            generalize N[j] = x at *
            have hcp := compl_word hx
            have hsg : IntKind.u64.signed = false := rfl
            have hrun := fun W => run_add (Q - 1 - x) 0 C hC W
            generalize Q - 1 - x = y at *
            generalize (y + 0 + C) % Q = v at *
            generalize (y + 0 + C) / Q = C' at *
            have hset := hBM.set_ j (.int .u64 (v : Int))
            rw [u64s_set] at hset
            have hr' := hBr.other (p := ⟨g, j, none⟩) (by show w.heap.size ≠ g; omega) (.int .u64 (v : Int))
            have e0 : ((0 : Nat) : Int) = 0 := rfl
            rw [e0] at hrun
            have HSet := Lib.hid hset
            have Hr' := Lib.hid hr'
            have HStep := Lib.hid hstep
            have HOn := Lib.hid (hO.set_ j (.int .u64 (v : Int)))
            have e4 : (j : Int) < (k : Int) := by omega
            clear hset hr' hstep hO hdif hi hx hC hBM hlen hBr e0
            go_wp2_with fail
            go_roundw
            case rel => exact ⟨j + 1, C', N.set j v, by omega, rfl, by go_num, HStep.out, HSet.out, Hr'.out, HOn.out⟩
            case measure => simp [intOf]; omega
          · obtain rfl : j = k := by omega
            have e5 : ¬ (j : Int) < (j : Int) := by omega
            have hlen : N.length = j := hdif.2.1.trans HMl.out
            have hNd := hdif.1
            have hv := dif_high (L1 := L1) (L2 := L2) H2.out (by rw [HN1.out, HN2.out]) (by rw [HN2.out]; exact HDif.out) (by rw [HMl.out]; exact hdif)
            have htr := fun W (hr : Row W (some ⟨g, 0, none⟩) (u64s N)) => trim_any g 0 j c N W hlen.symm hc (by omega) hNd hr
            have HV := Lib.hid hv
            have hr := row_blk hBM
            have HW := Lib.hid (Wh.trimmed (z := ((ofd Q L1 : Nat) : Int) - (ofd Q L2 : Nat)) hNd hr hv.1.symm)
            have HTr := Lib.hid (htr wr hr)
            have HBr := Lib.hid hBr
            have HOn := Lib.hid hO
            have hr0 := hBr.cell 0
            have hr1 := hBr.cell 1
            have hf0 := hBr.frozen 0
            have hf1 := hBr.frozen 1
            simp only [List.getElem?_toArray, List.getElem?_cons_zero, List.getElem?_cons_succ] at hr0 hr1
            generalize tl N = r at *
            clear hv htr hdif hBM hBr hO hNd hr
            go_wp2_with fail
            refine HTr.out.mono ?_
            rintro e w1 ⟨rfl, rfl⟩
            go_wp2_with fail
            have hB2 := HBr.out.store2 (.bool true) (.slice (some ⟨g, 0, none⟩) r r)
            have h0 := hB2.cell 0
            have h1 := hB2.cell 1
            simp only [List.getElem?_toArray, List.getElem?_cons_zero, List.getElem?_cons_succ] at h0 h1
            refine bodyPost_ret (v := .agg #[.bool true, .slice (some ⟨g, 0, none⟩) r r]) (by simp [results, Tryd.results64, go_sem, h0, h1]) rfl
              (Differ.mk_ HV.out.2 (HW.out.store2 HBr.out _ _) ((HOn.out.new_ _ _ _ (Nat.le_refl _)).new_ _ _ _ (Nat.le_refl _)))

end Go.Proofs.YtajcjpbfmpljkaaDoor
set_option linter.unusedVariables false
namespace Go.Proofs.YtajcjpbfmpljkaaDoor
open Go.RowKit
attribute [local go_sem ↓] Go.wp_at_zero Go.wp_at_succ

theorem made_zero (n : Nat) : madeCells #[.int .u64 0] n = (u64s (List.replicate n 0)).toArray := by
  refine Array.ext_getElem? fun i => ?_
  rw [List.getElem?_toArray]
  unfold madeCells u64s
  by_cases h : i < n
  · simp [h, Nat.mod_one]
  · simp [h]
theorem info_u64 : (Tryd.prog.info? 51).map (fun i => (i.zero, i.size, i.bytes)) = some (some (.int .u64 0), 1, 8) := by kernel_rfl
theorem run_make (n : Nat) (hn : n ≤ 1099511627776) (W : World) :
    (Instr.makeSlice 23 (.int .i64 (n : Int)) (.int .i64 (n : Int))).run Tryd.prog W = .ok (.slice (some ⟨W.heap.size, 0, none⟩) n n) (W.alloc (.cells (u64s (List.replicate n 0)).toArray 51)) := by
  rw [← made_zero]
  exact run_make_row' _ _ _ 8 Tryd.underlying23 info_u64 rfl _ _ n (by omega) (by omega) W

/-- The slice's elements are the whole numbers. -/
def Wholes (w : World) (b o : Nat) (zs : List Int) : Prop :=
  ∀ (i : Nat) (h : i < zs.length), ∃ A n c, w.cell? ⟨b, o + i * 2, none⟩ = some (.bool (ng zs[i])) ∧ w.cell? ⟨b, o + i * 2 + 1, none⟩ = some (.slice A n c) ∧ Wh w A n c zs[i]
theorem Wholes.below {w w' : World} {b o : Nat} {zs : List Int} (h : Wholes w b o zs) (hb : Below w.heap.size w w') : Wholes w' b o zs := fun i hi => by
  obtain ⟨A, n, c, h1, h2, h3⟩ := h i hi
  exact ⟨A, n, c, cell_below h1 hb, cell_below h2 hb, h3.below hb⟩
/-- The slice's numbers. -/
def Pows (w : World) (b o : Nat) (ps : List Nat) : Prop := ∀ (i : Nat) (h : i < ps.length), w.cell? ⟨b, o + i, none⟩ = some (.int .i64 (ps[i] : Int))
theorem Pows.below {w w' : World} {b o : Nat} {ps : List Nat} (h : Pows w b o ps) (hb : Below w.heap.size w w') : Pows w' b o ps := fun i hi => cell_below (h i hi) hb
/-- How many binary digits the first k numbers reach to. -/
def reach (zs : List Int) (ps : List Nat) : Nat → Nat
  | 0 => 0
  | k + 1 => max (reach zs ps k) (ps.getD k 0 + bl (zs.getD k 0).natAbs)

theorem bl_wl (z : Int) (k : Nat) (h : wl z ≤ k) : bl z.natAbs ≤ 64 * k := by
  have h1 := (wl_le z k).1 h
  by_cases h0 : z.natAbs = 0
  · rw [h0]; simp [bl]
  · obtain ⟨b1, b2⟩ := bl_bounds h0
    have h2 : 2 ^ (bl z.natAbs - 1) < 2 ^ (64 * k) := by
      rw [Nat.pow_mul]; exact Nat.lt_of_le_of_lt b1 h1
    have := (Nat.pow_lt_pow_iff_right (by omega)).1 h2
    omega
theorem reach_succ {zs : List Int} {ps : List Nat} {k : Nat} (h1 : k < zs.length) (h2 : k < ps.length) : reach zs ps (k + 1) = max (reach zs ps k) (ps[k] + bl zs[k].natAbs) := by
  show max _ _ = _
  rw [List.getD_eq_getElem?_getD, List.getD_eq_getElem?_getD, List.getElem?_eq_getElem h1, List.getElem?_eq_getElem h2]
  rfl
/-- The sizes of the numbers that are below 0 (s), or aren't, each at its place. -/
def acc (s : Bool) (zs : List Int) (ps : List Nat) : Nat → Nat
  | 0 => 0
  | k + 1 => acc s zs ps k + if ng (zs.getD k 0) = s then 2 ^ ps.getD k 0 * (zs.getD k 0).natAbs else 0
/-- The sum of the first k numbers, each at its place. -/
def tot (zs : List Int) (ps : List Nat) : Nat → Int
  | 0 => 0
  | k + 1 => tot zs ps k + zs.getD k 0 * 2 ^ ps.getD k 0
theorem tot_acc (zs : List Int) (ps : List Nat) (k : Nat) : tot zs ps k = ((acc false zs ps k : Nat) : Int) - (acc true zs ps k : Nat) := by
  induction k with
  | zero => rfl
  | succ k ih =>
    simp only [tot, acc, ih]
    generalize zs.getD k 0 = z
    generalize ps.getD k 0 = p
    have hc : ((2 ^ p : Nat) : Int) = 2 ^ p := by simp
    by_cases h : z < 0
    · have h1 : ng z = true := by simp [ng, h]
      rw [h1, if_neg (by decide), if_pos rfl, Int.natCast_add, Int.natCast_add, Int.natCast_mul, hc, show ((z.natAbs : Nat) : Int) = -z by omega, Int.mul_neg, Int.mul_comm z]
      simp; omega
    · have h1 : ng z = false := by simp [ng, h]
      rw [h1, if_pos rfl, if_neg (by decide), Int.natCast_add, Int.natCast_add, Int.natCast_mul, hc, show ((z.natAbs : Nat) : Int) = z by omega, Int.mul_comm z]
      simp; omega
theorem reach_le (zs : List Int) (ps : List Nat) (k : Nat) : reach zs ps k ≤ reach zs ps (k + 1) := Nat.le_max_left _ _
theorem reach_mono (zs : List Int) (ps : List Nat) (k n : Nat) (h : k ≤ n) : reach zs ps k ≤ reach zs ps n := by
  induction n with
  | zero => obtain rfl : k = 0 := by omega
            exact Nat.le_refl _
  | succ n ih =>
    by_cases e : k = n + 1
    · subst e; exact Nat.le_refl _
    · exact Nat.le_trans (ih (by omega)) (reach_le _ _ _)
theorem acc_le (s : Bool) (zs : List Int) (ps : List Nat) (k : Nat) : acc s zs ps k ≤ k * 2 ^ reach zs ps k := by
  induction k with
  | zero => simp [acc]
  | succ k ih =>
    have h1 : 2 ^ reach zs ps k ≤ 2 ^ reach zs ps (k + 1) := Nat.pow_le_pow_right (by omega) (reach_le _ _ _)
    have h2 : 2 ^ ps.getD k 0 * (zs.getD k 0).natAbs ≤ 2 ^ reach zs ps (k + 1) := by
      by_cases h0 : (zs.getD k 0).natAbs = 0
      · rw [h0]; simp
      · obtain ⟨b1, b2⟩ := bl_bounds h0
        refine Nat.le_trans (Nat.mul_le_mul_left _ (Nat.le_of_lt b2)) ?_
        rw [← Nat.pow_add]
        exact Nat.pow_le_pow_right (by omega) (Nat.le_max_right _ _)
    have h3 := Nat.mul_le_mul_left k h1
    simp only [acc]
    rw [Nat.add_mul, Nat.one_mul]
    split <;> omega
theorem acc_lt (s : Bool) (zs : List Int) (ps : List Nat) (k n W : Nat) (hk : k ≤ n) (hn : n ≤ 1099511627776) (hW : reach zs ps n / 64 + 2 = W) : acc s zs ps k < Q ^ W := by
  have h1 := acc_le s zs ps k
  have h2 : 2 ^ reach zs ps k ≤ 2 ^ reach zs ps n := Nat.pow_le_pow_right (by omega) (reach_mono _ _ _ _ hk)
  have h3 : k * 2 ^ reach zs ps k ≤ 2 ^ 40 * 2 ^ reach zs ps n := Nat.mul_le_mul (by omega) h2
  have h4 : 2 ^ 40 * 2 ^ reach zs ps n < Q ^ W := by
    rw [Q_pow, ← Nat.pow_mul, ← Nat.pow_add]
    exact Nat.pow_lt_pow_right (by omega) (by omega)
  omega
theorem acc_step (s : Bool) {zs : List Int} {ps : List Nat} {k : Nat} (h1 : k < zs.length) (h2 : k < ps.length) : acc s zs ps (k + 1) = acc s zs ps k + if ng zs[k] = s then 2 ^ ps[k] * zs[k].natAbs else 0 := by
  simp only [acc]
  rw [List.getD_eq_getElem?_getD, List.getD_eq_getElem?_getD, List.getElem?_eq_getElem h1, List.getElem?_eq_getElem h2]
  rfl
/-- The two lists that are summed up, when k numbers are in. -/
def Acc2 (zs : List Int) (ps : List Nat) (W k : Nat) (M1 M2 : List Nat) : Prop :=
  Digs Q M1 ∧ Digs Q M2 ∧ M1.length = W ∧ M2.length = W ∧ ofd Q M1 = acc false zs ps k ∧ ofd Q M2 = acc true zs ps k
theorem Acc2.start (zs : List Int) (ps : List Nat) (W : Nat) : Acc2 zs ps W 0 (List.replicate W 0) (List.replicate W 0) :=
  ⟨Digs.replicate (by unfold Q; omega) _, Digs.replicate (by unfold Q; omega) _, by simp, by simp, ofd_replicate _ _, ofd_replicate _ _⟩
theorem max_i64 (R p L : Nat) (h : p + L ≤ 26388279066624) : (if (R : Int) < IntKind.i64.wrap ((p : Int) + (L : Int)) then IntKind.i64.wrap ((p : Int) + (L : Int)) else (R : Int)) = ((max R (p + L) : Nat) : Int) := by
  have e : IntKind.i64.wrap ((p : Int) + (L : Int)) = (p : Int) + (L : Int) := IntWalk.i64_in _ (by omega)
  rw [e]; split <;> omega
set_option maxHeartbeats 1000000 in
theorem sum_any (b o c bp op cp n : Nat) (zs : List Int) (ps : List Nat) (w : World) (hn : zs.length = n) (hn2 : ps.length = n) (hnb : n ≤ 1099511627776) (hc : n ≤ c) (hcp : n ≤ cp) (hz : Wholes w b o zs) (hp : Pows w bp op ps)
    (hzb : ∀ z ∈ zs, wl z ≤ 137438953472) (hpb : ∀ p ∈ ps, p ≤ 17592186044416) (hn0 : 0 < n) :
    Calls Tryd.prog 44 #[.slice (some ⟨b, o, none⟩) n c, .slice (some ⟨bp, op, none⟩) n cp] w (RetW (tot zs ps n) w) := by
  have HZ := Lib.hid hz
  have HP := Lib.hid hp
  have HZB := Lib.hid hzb
  have HPB := Lib.hid hpb
  have HN := Lib.hid hn
  have HN2 := Lib.hid hn2
  clear hz hp hzb hpb hn hn2
  go_enter Tryd.func44, Tryd.ntmps44
  go_wp2_with fail
  go_loopw [5, 15] (fun r i wr => ∃ (k R : Nat), k ≤ n ∧ R ≤ 26388279066624 ∧ r = .int .i64 (R : Int) ∧ i = .int .i64 k ∧ Hid (R = reach zs ps k) ∧ Below (w.heap.size + 1) (w.alloc (.cells #[.bool false, .slice none 0 0] 25)) wr) (fun _ i _ => n - (intOf i).toNat)
  case atStart => exact ⟨0, 0, Nat.zero_le _, by omega, rfl, rfl, rfl, Below.refl _ _⟩
  case round =>
    obtain ⟨k, R, hk, hR, rfl, rfl, HRe, hbl⟩ := hrel
    by_cases hlt : k < n
    · have hb0 : Below w.heap.size w wr := ((Below.refl _ _).alloc (Nat.le_refl _) _).trans (hbl.mono (by omega))
      obtain ⟨A, m, c', hc1, hc2, hw⟩ := HZ.out k (by rw [HN.out]; exact hlt)
      have hc3 := cell_below hc1 hb0
      have hc4 := cell_below hc2 hb0
      have hpk := cell_below (HP.out k (by rw [HN2.out]; exact hlt)) hb0
      have hzk := HZB.out _ (List.getElem_mem (h := show k < zs.length by rw [HN.out]; exact hlt))
      have hpk2 := HPB.out _ (List.getElem_mem (h := show k < ps.length by rw [HN2.out]; exact hlt))
      have hk1 : k < zs.length := by rw [HN.out]; exact hlt
      have hk2 : k < ps.length := by rw [HN2.out]; exact hlt
      have hre := reach_succ hk1 hk2
      generalize zs[k] = z at *
      generalize ps[k] = p at *
      have HW := Lib.hid hw
      have HB := Lib.hid hbl
      have HB0 := Lib.hid hb0
      have hm : m ≤ 137438953472 := by rw [hw.1]; exact hzk
      have hblz := bl_wl z _ hzk
      have HL := Lib.hid hblz
      have HRe2 := Lib.hid hre
      have hc5 : (k : Int) < (n : Int) := by omega
      have hBk := Blk.new wr 25 #[.bool (ng z), .slice A m c']
      have HK := Lib.hid (show (wr.alloc (.cells #[.bool (ng z), .slice A m c'] 25)).drew.cell? ⟨bp, op + k, none⟩ = some (.int .i64 (p : Int)) ∧ (wr.alloc (.cells #[.bool (ng z), .slice A m c'] 25)).drew.cell? ⟨wr.heap.size, 0, none⟩ = some (.bool (ng z)) ∧ (wr.alloc (.cells #[.bool (ng z), .slice A m c'] 25)).drew.cell? ⟨wr.heap.size, 1, none⟩ = some (.slice A m c') from
        ⟨cell_below hpk (((Below.refl _ wr).alloc (Nat.le_refl _) _).drew), hBk.drew.cell 0, hBk.drew.cell 1⟩)
      clear hBk hw hbl hb0 hc1 hc2 hzk hre hk1 hk2
      go_wp2_with fail
      go_region_held3 (fun w' => w'.cell? ⟨bp, op + k, none⟩ = some (.int .i64 (p : Int)) ∧ w'.cell? ⟨wr.heap.size, 0, none⟩ = some (.bool (ng z)) ∧ w'.cell? ⟨wr.heap.size, 1, none⟩ = some (.slice A m c'))
        (first | exact ⟨cell_below HK.out.1 hb, cell_below HK.out.2.1 hb, cell_below HK.out.2.2 hb⟩ | go_keep)
        ((go_at_call 16; refine (width_any A m c' z _ (HW.out.below (HB0.out.trans (((Below.refl _ _).alloc HB0.out.size _).drew))) (by omega)).mono ?_; rintro e w1 ⟨rfl, hb⟩; obtain ⟨hc, hf⟩ := bcell hb; skip))
      rw [max_i64 R p _ (by have := HL.out; omega)]
      have HB1 := Lib.hid (HB.out.trans (((((Below.refl _ wr).alloc (Nat.le_refl _) _).drew).trans (hb.mono (by simp))).mono (by have := HB.out.size; simpa using this)))
      clear hb hc hf
      go_wp2_with fail
      go_roundw
      case rel => exact ⟨k + 1, max R (p + bl z.natAbs), by omega, by have := HL.out; omega, rfl, by go_num, by rw [HRe2.out, ← HRe.out]; exact rfl, HB1.out⟩
      case measure => simp [intOf]; omega
    · obtain rfl : k = n := by omega
      have hc5 : ¬ (k : Int) < (k : Int) := by omega
      obtain ⟨W, hW⟩ : ∃ W : Nat, R / 64 + 2 = W := ⟨_, rfl⟩
      have hW1 : (R : Int) / 64 + 2 = (W : Int) := by omega
      have hWb : W ≤ 1099511627776 := by omega
      have hmk := fun V => run_make W hWb V
      have hcut : W = reach zs ps k / 64 + 2 := by rw [← HRe.out]; exact hW.symm
      have HWr := Lib.hid hcut
      have HB := Lib.hid hbl
      have HBr := Lib.hid ((Blk.new w 25 #[.bool false, .slice none 0 0]).below hbl (by omega))
      clear hW hcut hbl HRe hR
      go_upto_region 8 with fail
      go_cut [9, 10] (fun a d wx => ∃ ga gb : Nat, a = .slice (some ⟨ga, 0, none⟩) W W ∧ d = .slice (some ⟨gb, 0, none⟩) W W ∧ ga ≠ gb ∧ w.heap.size < ga ∧ w.heap.size < gb ∧ Blk wx ga 51 (u64s (List.replicate W 0)).toArray ∧ Blk wx gb 51 (u64s (List.replicate W 0)).toArray ∧ Blk wx w.heap.size 25 #[.bool false, .slice none 0 0] ∧ Below (w.heap.size + 1) (w.alloc (.cells #[.bool false, .slice none 0 0] 25)) wx)
      case first =>
        have hsz := HB.out.size
        rw [World.size_alloc] at hsz
        have HL := Lib.hid hsz
        clear hsz
        go_region_with (fail)
        all_goals
          go_wp2_with fail
          go_meet
        · exact ⟨wr.heap.size, wr.heap.size + 1, rfl, rfl, by omega, by have := HL.out; omega, by have := HL.out; omega, ((Blk.new wr _ _).alloc _).drew, (Blk.new_ (wr.alloc _) _ _ _ (by simp)).drew, (((HBr.out).alloc _).alloc _).drew, ((HB.out.alloc HL.out _).alloc (by have := HL.out; simp; omega) _).drew⟩
        · exact ⟨wr.heap.size + 1, wr.heap.size, rfl, rfl, by omega, by have := HL.out; omega, by have := HL.out; omega, (Blk.new_ (wr.alloc _) _ _ _ (by simp)).drew, ((Blk.new wr _ _).alloc _).drew, (((HBr.out).alloc _).alloc _).drew, ((HB.out.alloc HL.out _).alloc (by have := HL.out; simp; omega) _).drew⟩
      case rest =>
        obtain ⟨ga, gb, rfl, rfl, hne, hga, hgb, hB1, hB2, hBr, hbw⟩ := hcut
        have HB1 := Lib.hid hB1
        have HB2 := Lib.hid hB2
        have HBr2 := Lib.hid hBr
        have HBw := Lib.hid hbw
        clear hB1 hB2 hBr hbw hmk HB HBr
        go_wp2_with fail
        go_loopw [39] (fun i wr => ∃ (j : Nat) (M1 M2 : List Nat), j ≤ k ∧ i = .int .i64 j ∧ Acc2 zs ps W j M1 M2 ∧ Blk wr ga 51 (u64s M1).toArray ∧ Blk wr gb 51 (u64s M2).toArray ∧ Blk wr w.heap.size 25 #[.bool false, .slice none 0 0] ∧ Below (w.heap.size + 1) (w.alloc (.cells #[.bool false, .slice none 0 0] 25)) wr) (fun i _ => k - (intOf i).toNat)
        case atStart => exact ⟨0, _, _, Nat.zero_le _, rfl, Acc2.start zs ps W, HB1.out, HB2.out, HBr2.out, HBw.out⟩
        case round =>
          obtain ⟨j, M1, M2, hj, rfl, hacc, hB1, hB2, hBr, hbw⟩ := hrel
          by_cases hlt2 : j < k
          · have hb0 : Below w.heap.size w wr := ((Below.refl _ _).alloc (Nat.le_refl _) _).trans (hbw.mono (by omega))
            have hj1 : j < zs.length := by rw [HN.out]; exact hlt2
            have hj2 : j < ps.length := by rw [HN2.out]; exact hlt2
            obtain ⟨A, m, c', hc1, hc2, hw⟩ := HZ.out j hj1
            have hc3 := cell_below hc1 hb0
            have hc4 := cell_below hc2 hb0
            have hpk0 := HP.out j hj2
            have hpk := cell_below hpk0 hb0
            have hbp := block_lt hpk0
            have hA : ∀ b o, 0 < m → A = some ⟨b, o, none⟩ → b < w.heap.size := fun b o hm e => by
              have hl : 0 < (dig zs[j]).length := by have := hw.1; unfold wl at this; omega
              obtain ⟨b', o', e', hlt, _⟩ := hw.2.2.at_ (u64s_get _ 0 hl)
              rw [e] at e'; injection e' with e'; injection e' with e1; omega
            have hpk2 := HPB.out _ (List.getElem_mem (h := hj2))
            have ha1 := acc_step false hj1 hj2
            have ha2 := acc_step true hj1 hj2
            have hl1 := acc_lt false zs ps (j + 1) k W (by omega) hnb HWr.out.symm
            have hl2 := acc_lt true zs ps (j + 1) k W (by omega) hnb HWr.out.symm
            obtain ⟨d1, d2, l1, l2, o1, o2⟩ := hacc
            generalize zs[j] = z at *
            generalize ps[j] = p at *
            have HW := Lib.hid hw
            have HB := Lib.hid hbw
            have HB0 := Lib.hid hb0
            have HA := Lib.hid hA
            have H1 := Lib.hid hB1
            have H2 := Lib.hid hB2
            have H3 := Lib.hid hBr
            have hc5 : (j : Int) < (k : Int) := by omega
            by_cases hng : ng z = true
            · skip
              have hgl : gb < wr.heap.size := H2.out.lt
              have hT : ofd Q M2 + 2 ^ p * z.natAbs < Q ^ W := by rw [o2]; rw [ha2, if_pos hng] at hl2; exact hl2
              have hsum : ofd Q M2 + 2 ^ p * z.natAbs = acc true zs ps (j + 1) := by rw [o2, ha2, if_pos hng]
              have hoth : ofd Q M1 = acc false zs ps (j + 1) := by rw [o1, ha1, if_neg (by rw [hng]; decide)]; rfl
              rw [hng] at hc3
              have hBk := Blk.new wr 25 #[.bool true, .slice A m c']
              have HK := Lib.hid (show (wr.alloc (.cells #[.bool true, .slice A m c'] 25)).drew.cell? ⟨bp, op + j, none⟩ = some (.int .i64 (p : Int)) ∧ (wr.alloc (.cells #[.bool true, .slice A m c'] 25)).drew.cell? ⟨wr.heap.size, 1, none⟩ = some (.slice A m c') from
                ⟨cell_below hpk (((Below.refl _ wr).alloc (Nat.le_refl _) _).drew), hBk.drew.cell 1⟩)
              have HT := Lib.hid hT
              have HS := Lib.hid hsum
              have HOt := Lib.hid hoth
              have HD1 := Lib.hid d1
              have HD2 := Lib.hid d2
              have HL1 := Lib.hid l1
              have HL2 := Lib.hid l2
              have HG := Lib.hid hng
              clear hT hsum hoth hBk hng hw hbw hb0 hA hB1 hB2 hBr ha1 ha2 hl1 hl2 o1 o2 d1 d2 l1 l2 hc1 hc2 hj1 hj2 hpk0
              go_wp2_with fail
              go_region_held3 (fun w' => w'.cell? ⟨bp, op + j, none⟩ = some (.int .i64 (p : Int)) ∧ w'.cell? ⟨wr.heap.size, 1, none⟩ = some (.slice A m c'))
                (first | exact ⟨hO.cell (by omega) HK.out.1, hO.cell (by omega) HK.out.2⟩ | go_keep)
                ((go_at_call 63; refine (add_any gb W W 51 M2 A m c' z p _ HD2.out HL2.out hWb (H2.out.alloc _).drew (HW.out.below (HB0.out.trans (((Below.refl _ _).alloc HB0.out.size _).drew))) (fun b o hm e => by have := HA.out b o hm e; omega) (by omega) HT.out (Nat.le_refl _)).mono ?_; rintro e w1 ⟨rfl, N, n1, n2, n3, n4, hO⟩; skip))
              have HN1 := Lib.hid n1
              have HN2' := Lib.hid n2
              have HN3 := Lib.hid n3
              have HN4 := Lib.hid n4
              have HO := Lib.hid hO
              clear n1 n2 n3 n4 hO
              go_wp2_with fail
              go_roundw
              case rel =>
                have hsz := HB.out.size
                rw [World.size_alloc] at hsz
                exact ⟨j + 1, M1, N, by omega, by go_num, ⟨HD1.out, HN1.out, HL1.out, HN2'.out, HOt.out, HN3.out.trans HS.out⟩,
                  HO.out.blk hne (H1.out.alloc _).drew, HN4.out, HO.out.blk (by omega) (H3.out.alloc _).drew, HO.out.below ((HB.out.alloc hsz _).drew) (by simp; omega) (by omega)⟩
              case measure => simp [intOf]; omega
            · have hng : ng z = false := by simpa using hng
              have hgl : ga < wr.heap.size := H1.out.lt
              have hT : ofd Q M1 + 2 ^ p * z.natAbs < Q ^ W := by rw [o1]; rw [ha1, if_pos hng] at hl1; exact hl1
              have hsum : ofd Q M1 + 2 ^ p * z.natAbs = acc false zs ps (j + 1) := by rw [o1, ha1, if_pos hng]
              have hoth : ofd Q M2 = acc true zs ps (j + 1) := by rw [o2, ha2, if_neg (by rw [hng]; decide)]; rfl
              rw [hng] at hc3
              have hBk := Blk.new wr 25 #[.bool false, .slice A m c']
              have HK := Lib.hid (show (wr.alloc (.cells #[.bool false, .slice A m c'] 25)).drew.cell? ⟨bp, op + j, none⟩ = some (.int .i64 (p : Int)) ∧ (wr.alloc (.cells #[.bool false, .slice A m c'] 25)).drew.cell? ⟨wr.heap.size, 1, none⟩ = some (.slice A m c') from
                ⟨cell_below hpk (((Below.refl _ wr).alloc (Nat.le_refl _) _).drew), hBk.drew.cell 1⟩)
              have HT := Lib.hid hT
              have HS := Lib.hid hsum
              have HOt := Lib.hid hoth
              have HD1 := Lib.hid d1
              have HD2 := Lib.hid d2
              have HL1 := Lib.hid l1
              have HL2 := Lib.hid l2
              have HG := Lib.hid hng
              clear hT hsum hoth hBk hng hw hbw hb0 hA hB1 hB2 hBr ha1 ha2 hl1 hl2 o1 o2 d1 d2 l1 l2 hc1 hc2 hj1 hj2 hpk0
              go_wp2_with fail
              go_region_held3 (fun w' => w'.cell? ⟨bp, op + j, none⟩ = some (.int .i64 (p : Int)) ∧ w'.cell? ⟨wr.heap.size, 1, none⟩ = some (.slice A m c'))
                (first | exact ⟨hO.cell (by omega) HK.out.1, hO.cell (by omega) HK.out.2⟩ | go_keep)
                ((go_at_call 63; refine (add_any ga W W 51 M1 A m c' z p _ HD1.out HL1.out hWb (H1.out.alloc _).drew (HW.out.below (HB0.out.trans (((Below.refl _ _).alloc HB0.out.size _).drew))) (fun b o hm e => by have := HA.out b o hm e; omega) (by omega) HT.out (Nat.le_refl _)).mono ?_; rintro e w1 ⟨rfl, N, n1, n2, n3, n4, hO⟩; skip))
              have HN1 := Lib.hid n1
              have HN2' := Lib.hid n2
              have HN3 := Lib.hid n3
              have HN4 := Lib.hid n4
              have HO := Lib.hid hO
              clear n1 n2 n3 n4 hO
              go_wp2_with fail
              go_roundw
              case rel =>
                have hsz := HB.out.size
                rw [World.size_alloc] at hsz
                exact ⟨j + 1, N, M2, by omega, by go_num, ⟨HN1.out, HD2.out, HN2'.out, HL2.out, HN3.out.trans HS.out, HOt.out⟩,
                  HN4.out, HO.out.blk hne.symm (H2.out.alloc _).drew, HO.out.blk (by omega) (H3.out.alloc _).drew, HO.out.below ((HB.out.alloc hsz _).drew) (by simp; omega) (by omega)⟩
              case measure => simp [intOf]; omega
          · obtain rfl : j = k := by omega
            have hc5 : ¬ (j : Int) < (j : Int) := by omega
            obtain ⟨d1, d2, l1, l2, o1, o2⟩ := hacc
            have hv : ((ofd Q M1 : Nat) : Int) - (ofd Q M2 : Nat) = tot zs ps j := by rw [o1, o2, tot_acc]
            have hgl := hB1.lt
            have hdf := difference_any ga gb W W W 51 51 M1 M2 wr d1 d2 l1 l2 hWb (Nat.le_refl _) (Nat.le_refl _) hB1 hB2 hne.symm
            rw [hv] at hdf
            have HDf := Lib.hid hdf
            have HB := Lib.hid hbw
            have HBr3 := Lib.hid hBr
            generalize tot zs ps j = T at *
            clear hdf hv o1 o2 d1 d2 l1 l2 hB1 hB2 hBr hbw
            go_wp2_with fail
            refine HDf.out.mono ?_
            rintro e w1 ⟨A, m, c', rfl, hW, hO⟩
            have hBr4 := hO.blk (b := w.heap.size) (by omega) HBr3.out
            have hr0 := hBr4.cell 0
            have hr1 := hBr4.cell 1
            have hf0 := hBr4.frozen 0
            have hf1 := hBr4.frozen 1
            simp only [List.getElem?_toArray, List.getElem?_cons_zero, List.getElem?_cons_succ] at hr0 hr1
            have HW := Lib.hid (hW.store2 hBr4 (.bool (ng T)) (.slice A m c'))
            have HB2 := Lib.hid (hBr4.store2 (.bool (ng T)) (.slice A m c'))
            have HBel := Lib.hid (show Below w.heap.size w w1 from by
              have hsz := HB.out.size
              rw [World.size_alloc] at hsz
              exact ((Below.refl _ _).alloc (Nat.le_refl _) _).trans ((hO.below HB.out hsz (by omega)).mono (by omega)))
            clear hW hO hBr4
            go_wp2_with fail
            have h0 := HB2.out.cell 0
            have h1 := HB2.out.cell 1
            simp only [List.getElem?_toArray, List.getElem?_cons_zero, List.getElem?_cons_succ] at h0 h1
            exact bodyPost_ret (v := .agg #[.bool (ng T), .slice A m c']) (by simp [results, Tryd.results44, go_sem, h0, h1]) rfl
              (RetW_def _ _ _ _ _ _ _ rfl HW.out ((HBel.out.setCell (Nat.le_refl _) _).setCell (Nat.le_refl _) _))
end Go.Proofs.YtajcjpbfmpljkaaDoor
set_option linter.unusedVariables false
namespace Go.Proofs.YtajcjpbfmpljkaaDoor
open Go.RowKit
attribute [local go_sem ↓] Go.wp_at_zero Go.wp_at_succ

/-- The tables of the library that are read lie as its text lays them. -/
def Glob (w : World) : Prop :=
  (∀ j, j < Lib.deBruijn64tab.length → w.cell? ⟨3, j, none⟩ = some (.int .u8 ((Lib.deBruijn64tab.getD j 0 : Nat) : Int))) ∧
    ∃ t r, w.heap[(4 : Nat)]? = some (.cells (Lib.pow10Tab.map fun z => Value.int .u64 z).toArray t r)
theorem Glob.below {w w' : World} (h : Glob w) (hb : Below w.heap.size w w') : Glob w' := by
  refine ⟨fun j hj => cell_below (h.1 j hj) hb, ?_⟩
  obtain ⟨t, r, e⟩ := h.2
  refine ⟨t, r, ?_⟩
  rw [hb.block _ ?_]
  · exact e
  · rcases Nat.lt_or_ge (4 : Nat) w.heap.size with hl | hl
    · exact hl
    · rw [Array.getElem?_eq_none hl] at e; cases e
theorem Glob.drew {w : World} (h : Glob w) : Glob w.drew := h
theorem Glob.tab {w : World} (h : Glob w) : Lib.TabIs Tryd.prog w "internal/strconv.uint64pow10" .u64 Lib.pow10Tab := by
  obtain ⟨t, r, e⟩ := h.2
  have hg : Tryd.prog.globalNamed "internal/strconv.uint64pow10" = some 4 := by kernel_rfl
  unfold Lib.TabIs World.var?
  rw [hg]
  simp only [Option.bind_some]
  rw [e]

theorem cells4 {w : World} {g : Nat} {t : TypeId} {v0 v1 v2 v3 : Value} (h : Blk w g t #[v0, v1, v2, v3]) :
    w.cell? ⟨g, 0, none⟩ = some v0 ∧ w.cell? ⟨g, 1, none⟩ = some v1 ∧ w.cell? ⟨g, 2, none⟩ = some v2 ∧ w.cell? ⟨g, 3, none⟩ = some v3 ∧
      w.frozen? ⟨g, 0, none⟩ = false ∧ w.frozen? ⟨g, 1, none⟩ = false ∧ w.frozen? ⟨g, 2, none⟩ = false ∧ w.frozen? ⟨g, 3, none⟩ = false :=
  ⟨h.cell 0, h.cell 1, h.cell 2, h.cell 3, h.frozen 0, h.frozen 1, h.frozen 2, h.frozen 3⟩
theorem cells2 {w : World} {g : Nat} {t : TypeId} {v0 v1 : Value} (h : Blk w g t #[v0, v1]) :
    w.cell? ⟨g, 0, none⟩ = some v0 ∧ w.cell? ⟨g, 1, none⟩ = some v1 ∧ w.frozen? ⟨g, 0, none⟩ = false ∧ w.frozen? ⟨g, 1, none⟩ = false :=
  ⟨h.cell 0, h.cell 1, h.frozen 0, h.frozen 1⟩
theorem sum_two (A : Option Addr) (n c : Nat) (x : Int) (A' : Option Addr) (n' c' : Nat) (y : Int) (W : World) (g : Nat) (hg : W.heap.size = g) (t1 t2 : TypeId) (h : Wh W A n c x) (h' : Wh W A' n' c' y) (hx : wl x ≤ 137438953472) (hy : wl y ≤ 137438953472) :
    Calls Tryd.prog 44 #[.slice (some ⟨g, 0, none⟩) 2 2, .slice (some ⟨g + 1, 0, none⟩) 2 2]
      ((W.alloc (.cells #[.bool (ng x), .slice A n c, .bool (ng y), .slice A' n' c'] t1)).alloc (.cells #[.int .i64 0, .int .i64 0] t2))
      (RetW (x + y) ((W.alloc (.cells #[.bool (ng x), .slice A n c, .bool (ng y), .slice A' n' c'] t1)).alloc (.cells #[.int .i64 0, .int .i64 0] t2))) := by
  subst hg
  have hs : tot [x, y] [0, 0] 2 = x + y := by simp [tot]
  have hb := ((Below.refl W.heap.size W).alloc (Nat.le_refl _) (.cells #[.bool (ng x), .slice A n c, .bool (ng y), .slice A' n' c'] t1)).alloc (by simp) (.cells #[.int .i64 0, .int .i64 0] t2)
  have hB := (Blk.new W t1 #[.bool (ng x), .slice A n c, .bool (ng y), .slice A' n' c']).alloc (.cells #[.int .i64 0, .int .i64 0] t2)
  have hP := Blk.new_ (W.alloc (.cells #[.bool (ng x), .slice A n c, .bool (ng y), .slice A' n' c'] t1)) t2 #[.int .i64 0, .int .i64 0] (W.heap.size + 1) (by simp)
  obtain ⟨k0, k1, k2, k3, _⟩ := cells4 hB
  obtain ⟨p0, p1, _⟩ := cells2 hP
  have hsum := sum_any W.heap.size 0 2 (W.heap.size + 1) 0 2 2 [x, y] [0, 0] (hn := rfl) (hn2 := rfl) (hnb := by omega) (hc := Nat.le_refl _) (hcp := Nat.le_refl _)
    (w := ((W.alloc (.cells #[.bool (ng x), .slice A n c, .bool (ng y), .slice A' n' c'] t1)).alloc (.cells #[.int .i64 0, .int .i64 0] t2)))
    (hz := by
      intro i hi
      match i, hi with
      | 0, _ => exact ⟨A, n, c, k0, k1, h.below hb⟩
      | 1, _ => exact ⟨A', n', c', k2, k3, h'.below hb⟩)
    (hp := by
      intro i hi
      match i, hi with
      | 0, _ => exact p0
      | 1, _ => exact p1)
    (hzb := by intro z hz; simp at hz; rcases hz with rfl | rfl <;> assumption) (hpb := by intro p hp; simp at hp; omega) (hn0 := by omega)
  rw [hs] at hsum
  exact hsum

theorem plus_any (A : Option Addr) (n c : Nat) (x : Int) (A' : Option Addr) (n' c' : Nat) (y : Int) (w : World) (h : Wh w A n c x) (h' : Wh w A' n' c' y) (hx : wl x ≤ 137438953472) (hy : wl y ≤ 137438953472) :
    Calls Tryd.prog 24 #[.agg #[.bool (ng x), .slice A n c], .agg #[.bool (ng y), .slice A' n' c']] w (RetW (x + y) w) := by
  have H := Lib.hid h
  have H' := Lib.hid h'
  have HX := Lib.hid hx
  have HY := Lib.hid hy
  clear h h' hx hy
  go_enter Tryd.func24, Tryd.ntmps24
  go_wp2_with fail
  have hb0 := (((Below.refl w.heap.size w).alloc (Nat.le_refl _) (.cells #[.bool (ng x), .slice A n c] 25)).alloc (by simp) (.cells #[.bool (ng y), .slice A' n' c'] 25)).alloc (by simp <;> omega) (.cells #[.bool false, .slice none 0 0] 25)
  refine (sum_two A n c x A' n' c' y _ (w.heap.size + 1 + 1 + 1) (by simp) _ _ (H.out.below hb0) (H'.out.below hb0) HX.out HY.out).mono ?_
  rintro e w1 ⟨B, m, d, rfl, hW, hb⟩
  have hB := (((Blk.new_ ((w.alloc (.cells #[.bool (ng x), .slice A n c] 25)).alloc (.cells #[.bool (ng y), .slice A' n' c'] 25)) 25 #[.bool false, .slice none 0 0] (w.heap.size + 1 + 1) (by simp)).alloc _).alloc _).below hb (by simp <;> omega)
  have HB2 := Lib.hid (hB.store2 (.bool (ng (x + y))) (.slice B m d))
  have HW := Lib.hid (hW.store2 hB (.bool (ng (x + y))) (.slice B m d))
  have HBel := Lib.hid (((hb0.alloc (by simp <;> omega) _).alloc (by simp <;> omega) _).trans (hb.mono (by simp <;> omega)))
  obtain ⟨k0, k1, f0, f1⟩ := cells2 hB
  clear hW hB hb hb0
  go_wp2_with fail
  obtain ⟨h0, h1, _⟩ := cells2 HB2.out
  exact bodyPost_ret (v := .agg #[.bool (ng (x + y)), .slice B m d]) (by simp [results, Tryd.results24, go_sem, h0, h1]) rfl
    (RetW_def _ _ _ _ _ _ _ rfl HW.out ((HBel.out.setCell (by simp <;> omega) _).setCell (by simp <;> omega) _))

theorem odd_unique {m n a b : Nat} (h : m * 2 ^ a = n * 2 ^ b) (hm : m % 2 = 1) (hn : n % 2 = 1) : a = b ∧ m = n := by
  have key : ∀ {m n a b : Nat}, m * 2 ^ a = n * 2 ^ b → m % 2 = 1 → n % 2 = 1 → a ≤ b → a = b ∧ m = n := by
    intro m n a b h hm hn hab
    have e : 2 ^ b = 2 ^ a * 2 ^ (b - a) := by rw [← Nat.pow_add]; congr 1; omega
    rw [e, ← Nat.mul_assoc, Nat.mul_right_comm] at h
    have h2 := Nat.eq_of_mul_eq_mul_right (Nat.two_pow_pos a) h
    rcases Nat.eq_zero_or_pos (b - a) with h0 | h0
    · rw [h0] at h2; exact ⟨by omega, by simpa using h2⟩
    · rw [show b - a = (b - a - 1) + 1 by omega, Nat.pow_succ, ← Nat.mul_assoc] at h2
      omega
  rcases Nat.le_total a b with hab | hab
  · exact key h hm hn hab
  · obtain ⟨e1, e2⟩ := key h.symm hn hm hab
    exact ⟨e1.symm, e2.symm⟩
theorem ctz_of {x m s : Nat} (hx : x < 18446744073709551616) (h : x = m * 2 ^ s) (hm : m % 2 = 1) : Lib.ctz 64 x = s := by
  have h0 : x ≠ 0 := by
    have := Nat.two_pow_pos s
    rw [h]; exact Nat.mul_ne_zero (by omega) (by omega)
  unfold Lib.ctz
  rw [if_neg h0]
  obtain ⟨k, e, _⟩ := Lib.ctzFrom_spec 64 x (by omega) hx
  have e2 : (2 * k + 1) * 2 ^ Lib.ctzFrom 64 x = m * 2 ^ s := by rw [← h, Nat.mul_comm]; exact e.symm
  exact (odd_unique e2 (by omega) hm).1

set_option maxHeartbeats 1000000 in
theorem tz_core (x k idx : Nat) (w : World) (hx0 : ((x : Int) == 0) = false)
    (key : IntKind.u64.wrap (bits BinOp.and IntKind.u64 (x : Int) (IntKind.u64.wrap (-(x : Int))) * 285870213051353865) / 288230376151711744 = (idx : Int))
    (hi : idx < 64) (hk : k < 64) (hcell : w.cell? ⟨3, idx, none⟩ = some (.int .u8 k)) :
    Calls Tryd.prog 51 #[.int .u64 x] w fun e w' => e = .returned (.int .i64 k) ∧ w = w' := by
  go_enter Tryd.func51, Tryd.ntmps51
  go_wp2_with (simp only [key])
  go_ret
  exact ⟨rfl, rfl⟩
theorem tz_any (x m s : Nat) (w : World) (hx : x < 18446744073709551616) (h : x = m * 2 ^ s) (hm : m % 2 = 1) (hg : Glob w) :
    Calls Tryd.prog 51 #[.int .u64 x] w fun e w' => e = .returned (.int .i64 s) ∧ w = w' := by
  have h0 : x ≠ 0 := by
    have := Nat.two_pow_pos s
    rw [h]; exact Nat.mul_ne_zero (by omega) (by omega)
  obtain ⟨hlow, hk⟩ := Lib.lowest_bit 64 x h0 hx
  obtain ⟨hi, htab⟩ := Lib.deBruijn64_at _ hk
  have hcell := hg.1 _ hi
  rw [htab] at hcell
  have hc := tz_core x _ _ w (by simp; omega) (tz64_key x _ hx h0 hlow) hi hk hcell
  rw [ctz_of hx h hm] at hc
  exact hc
end Go.Proofs.YtajcjpbfmpljkaaDoor
set_option linter.unusedVariables false
namespace Go.Proofs.YtajcjpbfmpljkaaDoor
open Go.RowKit

theorem tab_of_reads {P : Program} {W : World} {name : String} {k : IntKind} {zs : List Int} {g : Nat} {t e : TypeId} {n : Nat}
    (hg : P.globalNamed name = some g) (hty : (P.globals[g]?).map (·.type) = some t) (ht : P.underlying t = some (.array n e)) (he : P.underlying e = some (.int k)) (hce : P.cellsOf e = 1) (hct : P.cellsOf t = n)
    (h : Lib.VarReads P W name (Lib.tabData k zs)) : Lib.TabIs P W name k zs := by
  obtain ⟨g', t', cs, fuel, p, hg', ht', hvar, hd⟩ := h
  obtain rfl := Option.some.inj (hg.symm.trans hg')
  obtain rfl := Option.some.inj (hty.symm.trans ht')
  unfold Lib.TabIs
  rw [hvar, ← Lib.cells_of_tab ht he hce hct hd]
theorem Glob.of_reads {W : World} (h1 : Lib.VarReads Tryd.prog W "math/bits.deBruijn64tab" (Lib.tabData .u8 (Lib.deBruijn64tab.map fun n : Nat => (n : Int))))
    (h2 : Lib.VarReads Tryd.prog W "internal/strconv.uint64pow10" (Lib.tabData .u64 Lib.pow10Tab)) : Glob W := by
  have t1 := tab_of_reads (P := Tryd.prog) (g := 3) (t := 102) (e := 5) (n := 64) (by kernel_rfl) (by kernel_rfl) Tryd.underlying102 Tryd.underlying5 (by kernel_rfl) (by kernel_rfl) h1
  have t2 := tab_of_reads (P := Tryd.prog) (g := 4) (t := 116) (e := 51) (n := 20) (by kernel_rfl) (by kernel_rfl) Tryd.underlying116 Tryd.underlying51 (by kernel_rfl) (by kernel_rfl) h2
  refine ⟨fun j hj => ?_, ?_⟩
  · have := t1.cell (g := 3) (by kernel_rfl) j (by simpa using hj)
    rw [this]
    congr 2
    simp [List.getD, hj]
  · have hg : Tryd.prog.globalNamed "internal/strconv.uint64pow10" = some 4 := by kernel_rfl
    unfold Lib.TabIs World.var? at t2
    rw [hg] at t2
    simp only [Option.bind_some] at t2
    cases hw : W.heap[(4 : Nat)]? with
    | none => rw [hw] at t2; cases t2
    | some o =>
      rw [hw] at t2
      cases o with
      | cells cs t r => exact ⟨t, r, by rw [← Option.some.inj t2]⟩
      | _ => cases t2
end Go.Proofs.YtajcjpbfmpljkaaDoor
set_option linter.unusedVariables false
namespace Go.Proofs.YtajcjpbfmpljkaaDoor
open Go.RowKit
attribute [local go_sem ↓] ib_andNot_sign ib_and_frac ib_and_15 ib_and_1 ib_and_sign ib_and_inf ib_or

theorem fin_bits {z : Nat} (hz : z < 18446744073709551616) : ((z : Int) / 4503599627370496 % 2048 * 4503599627370496 == 9218868437227405312) = !Fl.fin z := by
  have hr := rung_def z
  have hI := Fl.INF_val
  unfold Fl.fin
  rw [Bool.eq_iff_iff, beq_iff_eq]
  simp only [Bool.not_eq_true', decide_eq_false_iff_not]
  omega

/-- The list's floats are words. -/
def Words (zs : List Nat) : Prop := ∀ z ∈ zs, z < 18446744073709551616
/-- The cells from off on in block b are the list's floats. -/
def Holds (w : World) (b off : Nat) (zs : List Nat) : Prop := ∀ (i : Nat) (z : Nat), zs[i]? = some z → w.cell? ⟨b, off + i, none⟩ = some (.float .f64 z)

theorem all_take (zs : List Nat) (k : Nat) (h : k < zs.length) : (zs.take (k + 1)).all Fl.fin = ((zs.take k).all Fl.fin && Fl.fin zs[k]) := by
  rw [List.take_succ_eq_append_getElem h, List.all_append]; simp

theorem all_of_take {zs : List Nat} {j : Nat} (h : (zs.take j).all Fl.fin = false) : zs.all Fl.fin = false := by
  rw [← List.take_append_drop j zs, List.all_append, h]; rfl

set_option maxHeartbeats 400000 in
theorem finite_any (b off c : Nat) (zs : List Nat) (w : World) (hl : zs.length ≤ 9223372036854775807) (hw : Words zs) (hc : Holds w b off zs) :
    Calls Tryd.prog 28 #[.slice (some ⟨b, off, none⟩) zs.length c] w fun e w' => e = .returned (.bool (zs.all Fl.fin)) ∧ w = w' := by
  generalize hn : zs.length = n at *
  have HN := Lib.hid hn
  have HW := Lib.hid hw
  have HC := Lib.hid hc
  clear hn hw hc
  go_enter Tryd.func28, Tryd.ntmps28
  go_wp2
  go_loop [7] (fun i => ∃ k : Nat, k ≤ n ∧ i = .int .i64 k ∧ (zs.take k).all Fl.fin = true) (fun i => n - (intOf i).toNat)
  case atStart => exact ⟨0, Nat.zero_le _, rfl, by simp⟩
  case round =>
    obtain ⟨k, hk, rfl, ha⟩ := hrel
    have HA := Lib.hid ha
    clear ha
    by_cases hlt : k < n
    · have hlz : k < zs.length := by rw [HN.out]; exact hlt
      have hcell := HC.out k zs[k] (by simp [hlz])
      have hword := HW.out zs[k] (List.getElem_mem hlz)
      have hbit := fin_bits hword
      have hstep := all_take zs k hlz
      rw [HA.out] at hstep
      generalize zs[k] = z at *
      clear hword
      have HS := Lib.hid hstep
      clear hstep hlz
      by_cases hf : Fl.fin z = true
      · rw [hf] at hbit
        have HF := Lib.hid hf
        clear hf
        go_wp2
        go_round
        case rel => exact ⟨k + 1, by omega, by go_num, by rw [HS.out, HF.out]; rfl⟩
        case measure => simp [intOf]; omega
      · have hf' : Fl.fin z = false := by simpa using hf
        rw [hf'] at hbit
        have HF := Lib.hid hf'
        clear hf hf'
        go_wp2
        go_ret
        refine ⟨ret_bool ?_, rfl⟩
        have h1 := HS.out
        rw [HF.out] at h1
        exact (all_of_take h1).symm
    · go_wp2
      go_ret
      exact ⟨ret_bool (by rw [← HA.out, List.take_of_length_le (by have := HN.out; omega)]), rfl⟩

theorem finite_one (g c : Nat) (b : Nat) (w : World) (hb : b < 18446744073709551616) (hc : w.cell? ⟨g, 0, none⟩ = some (.float .f64 b)) :
    Calls Tryd.prog 28 #[.slice (some ⟨g, 0, none⟩) 1 c] w fun e w' => e = .returned (.bool (Fl.fin b)) ∧ w = w' := by
  have h := finite_any g 0 c [b] w (by simp) (by intro z hz; simp at hz; omega) (by
    intro i z hz
    match i, hz with
    | 0, hz => simp at hz; subst hz; simpa using hc)
  simpa using h
/-- The exponent of a word. -/
def expOf (b : Nat) : Int := if Fl.rung b = 0 ∨ Fl.INF ≤ Fl.rung b then 0 else ((Fl.pm b).log2 : Int) + (Fl.pe b : Int) - 1074

theorem exp_any (b : Nat) (w : World) (hb : b < 18446744073709551616) :
    Calls Tryd.prog 29 #[.float .f64 b] w fun e w' => e = .returned (.int .i64 (expOf b)) ∧ Below w.heap.size w w' := by
  have ht := eql_zero b
  by_cases h0 : Fl.rung b = 0
  · rw [decide_eq_true h0] at ht
    have he : expOf b = 0 := by unfold expOf; rw [if_pos (.inl h0)]
    rw [he]
    clear he h0
    go_enter Tryd.func29, Tryd.ntmps29
    go_wp2_with fail
    go_ret
    exact ⟨rfl, Below.refl _ _⟩
  · rw [decide_eq_false h0] at ht
    by_cases hf : Fl.rung b < Fl.INF
    · have hfin : Fl.fin b = true := decide_eq_true hf
      have hx := Fl.log_digits h0
      have he : expOf b = Fl.de b + 52 := by rw [hx]; unfold expOf; rw [if_neg (by omega)]
      have hd := Fl.de_bounds hf
      obtain ⟨d1, d2⟩ := hd
      rw [he]
      have H0 := Lib.hid h0
      have HF := Lib.hid hf
      have HI := Lib.hid hfin
      clear he hx h0 hf hfin
      go_enter Tryd.func29, Tryd.ntmps29
      go_wp2_with fail
      refine (finite_one _ _ b _ hb (by simp)).mono ?_
      rintro e w' ⟨rfl, rfl⟩
      rw [HI.out]
      go_wp2_with fail
      refine (digits_any b _ hb H0.out HF.out).mono ?_
      rintro e w' ⟨rfl, rfl⟩
      go_wp2_with fail
      go_ret
      exact ⟨rfl, (Below.refl _ _).alloc (Nat.le_refl _) _⟩
    · have hfin : Fl.fin b = false := decide_eq_false hf
      have he : expOf b = 0 := by unfold expOf; rw [if_pos (.inr (by omega))]
      rw [he]
      have HI := Lib.hid hfin
      clear he h0 hf hfin
      go_enter Tryd.func29, Tryd.ntmps29
      go_wp2_with fail
      refine (finite_one _ _ b _ hb (by simp)).mono ?_
      rintro e w' ⟨rfl, rfl⟩
      rw [HI.out]
      go_wp2_with fail
      go_ret
      exact ⟨rfl, (Below.refl _ _).alloc (Nat.le_refl _) _⟩
end Go.Proofs.YtajcjpbfmpljkaaDoor
set_option linter.unusedVariables false
namespace Go.Proofs.YtajcjpbfmpljkaaDoor
open Go.RowKit
attribute [local go_sem ↓] ib_andNot_sign ib_and_frac ib_and_15 ib_and_1 ib_and_sign ib_and_inf ib_or

theorem orU_sign {b r : Nat} (hr : r < 9223372036854775808) : orU (signOf (b : Int)) (r : Int) = ((Fl.wd (Fl.sg b) r : Nat) : Int) := by
  have h0 : signOf (b : Int) = ((Fl.wd (Fl.sg b) 0 : Nat) : Int) := by
    unfold signOf Fl.wd Fl.sg
    by_cases h1 : b / 9223372036854775808 % 2 = 1
    · simp [h1]; omega
    · simp [h1]; omega
  have hz : Fl.wd (Fl.sg b) 0 = 0 ∨ Fl.wd (Fl.sg b) 0 = 9223372036854775808 := by unfold Fl.wd; cases Fl.sg b <;> simp
  rw [h0, orU_nat 63 (by omega) (by omega) hr (by omega)]
  unfold Fl.wd; cases Fl.sg b <;> simp

/-- The power of 2 within the bounds beyond which nothing changes. -/
def clamp (k : Int) : Int := if k < -2099 then -2099 else if 2099 < k then 2099 else k
theorem clamp_scl {b : Nat} (h0 : Fl.rung b ≠ 0) (hf : Fl.rung b < Fl.INF) (k : Int) : Fl.scl (Fl.dm b) (Fl.de b + clamp k + 1074) = Fl.scl (Fl.mag (Fl.rung b)) k := by
  have hd := Fl.dm_bounds h0
  have he := Fl.de_bounds hf
  rw [Fl.scl_digits]
  unfold clamp
  have low : ∀ j : Int, j ≤ -54 → Fl.scl (Fl.dm b) j = 0 := by
    intro j hj
    refine Fl.scl_low _ _ ?_ (by omega)
    have : 2 ^ 54 ≤ 2 ^ (-j).toNat := Nat.pow_le_pow_right (by omega) (by omega)
    omega
  have high : ∀ j : Int, 2046 ≤ j → Fl.scl (Fl.dm b) j = Fl.INF := by
    intro j hj
    have := Fl.scl_exact (Fl.dm b) j.toNat hd.2 (.inl hd.1)
    rw [Int.toNat_of_nonneg (by omega)] at this
    have hI := Fl.INF_val
    rw [this]; unfold Fl.cap; omega
  split
  · rw [low _ (by omega), low _ (by omega)]
  · split
    · rw [high _ (by omega), high _ (by omega)]
    · congr 1; omega
theorem scale_any (b : Nat) (k : Int) (w : World) (hb : b < 18446744073709551616) :
    Calls Tryd.prog 30 #[.float .f64 b, .int .i64 k] w fun e w' => e = .returned (.float .f64 (Fl.scale b k)) ∧ Below w.heap.size w w' := by
  have ht := eql_zero b
  by_cases h0 : Fl.rung b = 0
  · rw [decide_eq_true h0] at ht
    have he : Fl.scale b k = b := by unfold Fl.scale; rw [if_pos (.inl h0)]
    rw [he]
    clear he h0
    go_enter Tryd.func30, Tryd.ntmps30
    go_wp2_with fail
    go_ret
    exact ⟨rfl, Below.refl _ _⟩
  · rw [decide_eq_false h0] at ht
    by_cases hf : Fl.rung b < Fl.INF
    · have hfin : Fl.fin b = true := decide_eq_true hf
      have hx := clamp_scl h0 hf k
      have he : Fl.scale b k = Fl.wd (Fl.sg b) (Fl.scl (Fl.dm b) (Fl.de b + clamp k + 1074)) := by rw [hx]; unfold Fl.scale; rw [if_neg (by omega)]
      have hd := Fl.de_bounds hf
      obtain ⟨d1, d2⟩ := hd
      have hm := Fl.dm_bounds h0
      rw [he]
      have H0 := Lib.hid h0
      have HF := Lib.hid hf
      have HI := Lib.hid hfin
      have HM := Lib.hid hm
      clear he hx h0 hf hfin hm
      have hk : (k < -2099 ∧ clamp k = -2099) ∨ (2099 < k ∧ clamp k = 2099) ∨ ((-2099 ≤ k ∧ k ≤ 2099) ∧ clamp k = k) := by
        unfold clamp; split
        · exact .inl ⟨by omega, rfl⟩
        · split
          · exact .inr (.inl ⟨by omega, rfl⟩)
          · exact .inr (.inr ⟨by omega, rfl⟩)
      rcases hk with ⟨k1, k2⟩ | ⟨k1, k2⟩ | ⟨k1, k2⟩
      all_goals
        rw [k2]
        clear k2
        go_enter Tryd.func30, Tryd.ntmps30
        go_wp2_with fail
        refine (finite_one _ _ b _ hb (by simp)).mono ?_
        rintro e w' ⟨rfl, rfl⟩
        rw [HI.out]
        go_wp2_with fail
        refine (digits_any b _ hb H0.out HF.out).mono ?_
        rintro e w' ⟨rfl, rfl⟩
        go_wp2_with fail
        refine (join_any (Fl.dm b) _ _ HM.out.1 HM.out.2 (by omega) (by omega)).mono ?_
        rintro e w' ⟨rfl, hbl⟩
        go_wp2_with fail
        go_ret
        refine ⟨ret_float ?_, ((Below.refl _ _).alloc (Nat.le_refl _) _).trans (hbl.mono (by simp))⟩
        rw [orU_sign (Nat.lt_of_le_of_lt (Fl.scl_le _ _) (by decide)), Int.toNat_natCast]
    · have hfin : Fl.fin b = false := decide_eq_false hf
      have he : Fl.scale b k = b := by unfold Fl.scale; rw [if_pos (.inr (by omega))]
      rw [he]
      have HI := Lib.hid hfin
      clear he h0 hf hfin
      go_enter Tryd.func30, Tryd.ntmps30
      go_wp2_with fail
      refine (finite_one _ _ b _ hb (by simp)).mono ?_
      rintro e w' ⟨rfl, rfl⟩
      rw [HI.out]
      go_wp2_with fail
      go_ret
      exact ⟨rfl, (Below.refl _ _).alloc (Nat.le_refl _) _⟩
end Go.Proofs.YtajcjpbfmpljkaaDoor
set_option linter.unusedVariables false
namespace Go.Proofs.YtajcjpbfmpljkaaDoor

/-- A float's number. -/
def fdy (b : Nat) : Dyadic := dy (Fl.val b) (-1074)
theorem mag_inf (K : Nat) (hK : K = 2098) : Fl.mag Fl.INF = 2 ^ K := by
  have e2 : 4503599627370496 + 9218868437227405312 % 4503599627370496 = 2 ^ 52 := by decide
  obtain ⟨k, hk⟩ : ∃ k, 9218868437227405312 / 4503599627370496 - 1 = k := ⟨_, rfl⟩
  unfold Fl.mag Fl.INF
  rw [if_neg (by omega), hk, e2, ← Nat.pow_add, show 52 + k = K by omega]
theorem mag_lt_big {r : Nat} (K : Nat) (hK : K = 2098) (h : r < Fl.INF) : Fl.mag r < 2 ^ K := by
  have h1 : Fl.mag r < Fl.mag Fl.INF := Fl.mag_lt h
  rw [mag_inf K hK] at h1
  exact h1
theorem val_lt_big {b : Nat} (K : Nat) (hK : K = 2098) (h : Fl.rung b < Fl.INF) : (Fl.val b).natAbs < 2 ^ K := by
  have := mag_lt_big K hK h
  unfold Fl.val
  generalize 2 ^ K = P at *
  split <;> omega
end Go.Proofs.YtajcjpbfmpljkaaDoor
set_option linter.unusedVariables false
namespace Go.Proofs.YtajcjpbfmpljkaaDoor
open Go.RowKit
attribute [local go_sem ↓] Go.wp_at_zero Go.wp_at_succ

theorem nz_any (d : Nat) (w : World) : Calls Tryd.prog 50 #[.int .u64 d] w fun e w' => e = .returned (.bool ((d : Int) != 0)) ∧ w = w' := by
  go_enter Tryd.func50, Tryd.ntmps50
  go_wp2_with fail
  go_ret
  exact ⟨rfl, rfl⟩

set_option maxHeartbeats 400000 in
theorem indexNz_any (A : Option Addr) (n c i0 : Nat) (l : List Nat) (w : World) (hn : l.length = n) (hnb : n ≤ 1099511627776) (hr : Row w A (u64s l)) (hi : i0 < n) (hz : ∀ j, j < i0 → l.getD j 0 = 0) (h0 : l.getD i0 0 ≠ 0) :
    Calls Tryd.prog 49 #[.slice A n c, .func (.func 50) #[] #[]] w fun e w' => e = .returned (.int .i64 i0) ∧ w = w' := by
  have HN := Lib.hid hn
  have HR := Lib.hid hr
  have HZ := Lib.hid hz
  have H0 := Lib.hid h0
  clear hn hr hz h0
  go_enter Tryd.func49, Tryd.ntmps49
  go_wp2_with fail
  go_loop [8] (fun i => ∃ k : Nat, k ≤ i0 ∧ i = .int .i64 k) (fun i => n - (intOf i).toNat)
  case atStart => exact ⟨0, Nat.zero_le _, rfl⟩
  case round =>
    obtain ⟨k, hk, rfl⟩ := hrel
    have hlt : k < l.length := by rw [HN.out]; omega
    obtain ⟨b, o, rfl, _, hcell⟩ := HR.out.at_ (u64s_get l k hlt)
    have hget := getD_of hlt
    generalize l[k] = d at *
    have hkn : (k : Int) < (n : Int) := by omega
    by_cases he : k = i0
    · have ht : ((d : Int) != 0) = true := by
        have := H0.out; rw [← he, hget] at this; simp; omega
      have HE := Lib.hid he
      clear he hget
      go_wp2_with (go_at_call 50; refine (nz_any d _).mono ?_; rintro e w' ⟨rfl, rfl⟩)
      go_ret
      exact ⟨ret_i (by rw [HE.out]), rfl⟩
    · have ht : ((d : Int) != 0) = false := by
        have := HZ.out k (by omega); rw [hget] at this; simp; omega
      clear hget
      go_wp2_with (go_at_call 50; refine (nz_any d _).mono ?_; rintro e w' ⟨rfl, rfl⟩)
      go_round
      case rel => exact ⟨k + 1, by omega, by go_num⟩
      case measure => simp [intOf]; omega

theorem ev_low {x m v j : Nat} (hx : x = m * 2 ^ v) (hj : j < v / 64) : x / Q ^ j % Q = 0 := by
  have e : 2 ^ v = 2 ^ (v - 64 * (j + 1)) * Q * Q ^ j := by
    rw [Nat.mul_assoc, Nat.mul_comm Q, ← Nat.pow_succ, Q_pow, ← Nat.pow_mul, ← Nat.pow_add]; congr 1; omega
  rw [hx, e, ← Nat.mul_assoc, Nat.mul_div_cancel _ (Nat.pow_pos (by unfold Q; omega)), ← Nat.mul_assoc, Nat.mul_mod_left]
theorem ev_at {x m v : Nat} (hx : x = m * 2 ^ v) : x / Q ^ (v / 64) % Q = m % 2 ^ (64 - v % 64) * 2 ^ (v % 64) := by
  have e : 2 ^ v = 2 ^ (v % 64) * Q ^ (v / 64) := by
    rw [Q_pow, ← Nat.pow_mul, ← Nat.pow_add]; congr 1; omega
  have e2 : Q = 2 ^ (64 - v % 64) * 2 ^ (v % 64) := by
    rw [← Nat.pow_add, show 64 - v % 64 + v % 64 = 64 by omega]; rfl
  rw [hx, e, ← Nat.mul_assoc, Nat.mul_div_cancel _ (Nat.pow_pos (by unfold Q; omega)), e2, Nat.mul_mod_mul_right]
theorem odd_mod {m k : Nat} (hm : m % 2 = 1) (hk : 1 ≤ k) : m % 2 ^ k % 2 = 1 := by
  have : 2 ∣ 2 ^ k := by
    rw [show k = (k - 1) + 1 by omega, Nat.pow_succ]; exact Nat.dvd_mul_left _ _
  rw [Nat.mod_mod_of_dvd _ this, hm]

theorem evens_any (A : Option Addr) (n c : Nat) (z : Int) (m v : Nat) (w : World) (h : Wh w A n c z) (hn : n ≤ 1099511627776) (hz : z.natAbs = m * 2 ^ v) (hm : m % 2 = 1) (hg : Glob w) :
    Calls Tryd.prog 32 #[.agg #[.bool (ng z), .slice A n c]] w fun e w' => e = .returned (.int .i64 v) ∧ Below w.heap.size w w' := by
  obtain ⟨h1, h2, hr⟩ := h
  have hat := ev_at hz
  have hodd := odd_mod hm (show 1 ≤ 64 - v % 64 by omega)
  have hp := Nat.two_pow_pos (v % 64)
  have hne : z.natAbs / Q ^ (v / 64) % Q ≠ 0 := by rw [hat]; exact Nat.mul_ne_zero (by omega) (by omega)
  have hin : v / 64 < n := by
    rcases Nat.lt_or_ge (v / 64) n with hl | hl
    · exact hl
    · exact absurd (dig_beyond z n _ h1 hl) hne
  have hlt : v / 64 < (dig z).length := by unfold wl at h1; omega
  have hd := dig_get z _ hlt
  rw [hat] at hd
  have hdq := (dig_lt z).get _ hlt
  rw [Q_val] at hdq
  have hidx := fun W (hr : Row W A (u64s (dig z))) => indexNz_any A n c (v / 64) (dig z) W (by unfold wl at h1; omega) hn hr hin (fun j hj => by
    have hjl : j < (dig z).length := by omega
    rw [getD_of hjl, dig_get z j hjl, ev_low hz hj]) (by rw [getD_of hlt, dig_get z _ hlt]; exact hne)
  obtain ⟨b, o, rfl, _, hcell⟩ := hr.at_ (u64s_get (dig z) _ hlt)
  generalize (dig z)[v / 64] = d at *
  have htz := fun W (hg : Glob W) => tz_any d _ _ W hdq hd hodd hg
  have hv1 : v / 64 * 64 + v % 64 = v := by omega
  have hvb : v / 64 ≤ 1099511627776 := by omega
  have hvs : v % 64 < 64 := by omega
  generalize v / 64 = q at *
  generalize v % 64 = s at *
  have HI := Lib.hid (hidx _ (hr.below ((Below.refl _ _).alloc (Nat.le_refl _) (.cells #[.bool (ng z), .slice (some ⟨b, o, none⟩) n c] 25))))
  have HT := Lib.hid (htz _ (hg.below ((Below.refl _ _).alloc (Nat.le_refl _) (.cells #[.bool (ng z), .slice (some ⟨b, o, none⟩) n c] 25))))
  have HV := Lib.hid hv1
  clear hidx htz hr hat hodd hne hd hdq hz hm hg hv1 h1 hlt
  go_enter Tryd.func32, Tryd.ntmps32
  go_wp2_with fail
  refine HI.out.mono ?_
  rintro e w1 ⟨rfl, rfl⟩
  have e3 : (q : Int) < (n : Int) := by omega
  go_wp2_with fail
  refine HT.out.mono ?_
  rintro e w1 ⟨rfl, rfl⟩
  go_wp2_with fail
  go_ret
  exact ⟨ret_i (by rw [← HV.out]; omega), (Below.refl _ _).alloc (Nat.le_refl _) _⟩

/-- What halved has laid after k words. -/
def Half (x W k : Nat) (M : List Nat) : Prop := Digs Q M ∧ M.length = W ∧ ofd Q (M.take k) = x % Q ^ k
theorem Half.start (x W : Nat) : Half x W 0 (List.replicate W 0) := ⟨Digs.replicate (by unfold Q; omega) _, by simp, by simp [ofd, Nat.mod_one]⟩
theorem Half.step {x W k : Nat} {M : List Nat} (h : Half x W k M) (hk : k < W) : Half x W (k + 1) (M.set k (x / Q ^ k % Q)) := by
  obtain ⟨h1, h2, h3⟩ := h
  refine ⟨h1.set k (Nat.mod_lt _ (by unfold Q; omega)), by simpa using h2, ?_⟩
  rw [ofd_take_set Q M k _ (by omega), h3, Nat.mod_pow_succ]
theorem Half.done {x W : Nat} {M : List Nat} (h : Half x W W M) (hx : x < Q ^ W) : ofd Q M = x := by
  obtain ⟨h1, h2, h3⟩ := h
  rw [ofd_take_all _ _ _ (by omega), Nat.mod_eq_of_lt hx] at h3
  exact h3
theorem win_half {x y v i : Nat} (h : x = y * 2 ^ v) : win x (v + i * 64) = y / Q ^ i % Q := by
  unfold win
  rw [Nat.pow_add, ← Nat.div_div_eq_div_mul, h, Nat.mul_div_cancel _ (Nat.two_pow_pos v), Nat.mul_comm i, Nat.pow_mul]
  rfl
theorem bl_mul {m v : Nat} (h : m ≠ 0) : bl (m * 2 ^ v) = bl m + v := by
  obtain ⟨b1, b2⟩ := bl_bounds h
  have hb : 0 < bl m := by unfold bl; rw [if_neg h]; omega
  have := bl_unique (n := m * 2 ^ v) (k := bl m - 1 + v) (by rw [Nat.pow_add]; exact Nat.mul_le_mul_right _ b1) (by
    rw [show bl m - 1 + v + 1 = bl m + v by omega, Nat.pow_add]; exact Nat.mul_lt_mul_of_pos_right b2 (Nat.two_pow_pos v))
  rw [this]; omega
theorem bl_room {m W : Nat} (hW : (bl m + 63) / 64 = W) : m < Q ^ W := by
  by_cases h : m = 0
  · rw [h]; exact Nat.pow_pos (by unfold Q; omega)
  · obtain ⟨b1, b2⟩ := bl_bounds h
    rw [Q_pow, ← Nat.pow_mul]
    exact Nat.lt_of_lt_of_le b2 (Nat.pow_le_pow_right (by omega) (by omega))
end Go.Proofs.YtajcjpbfmpljkaaDoor
set_option linter.unusedVariables false
namespace Go.Proofs.YtajcjpbfmpljkaaDoor
open Go.RowKit
attribute [local go_sem ↓] Go.wp_at_zero Go.wp_at_succ

theorem halved_zero (A : Option Addr) (n c : Nat) (z : Int) (w : World) (h : Wh w A n c z) :
    Calls Tryd.prog 33 #[.agg #[.bool (ng z), .slice A n c], .int .i64 0] w (RetW z w) := by
  have H := Lib.hid h
  clear h
  go_enter Tryd.func33, Tryd.ntmps33
  go_wp2_with fail
  exact bodyPost_ret (v := .agg #[.bool (ng z), .slice A n c]) (by simp [results, Tryd.results33, go_sem]) rfl
    (RetW_def _ _ _ _ _ _ _ rfl (H.out.below (((Below.refl _ _).alloc (Nat.le_refl _) _).alloc (by simp) _)) (((Below.refl _ _).alloc (Nat.le_refl _) _).alloc (by simp) _))

set_option maxHeartbeats 1000000 in
theorem halved_any (A : Option Addr) (n c : Nat) (z y : Int) (v : Nat) (w : World) (h : Wh w A n c z) (hn : n ≤ 137438953472) (hz : z = y * 2 ^ v) (hy : y ≠ 0) (hv : v ≤ 8796093022208) (hv0 : 0 < v) :
    Calls Tryd.prog 33 #[.agg #[.bool (ng z), .slice A n c], .int .i64 (v : Int)] w (RetW y w) := by
  have hza : z.natAbs = y.natAbs * 2 ^ v := by rw [hz, Int.natAbs_mul, Int.natAbs_pow]; rfl
  have hng : ng z = ng y := by
    have hp : (0 : Int) < 2 ^ v := by have := Nat.two_pow_pos v; simpa using (Int.ofNat_lt.2 this)
    unfold ng; rw [hz]
    congr 1
    rw [eq_iff_iff]
    constructor
    · intro hl
      rcases Int.lt_or_le y 0 with h1 | h1
      · exact h1
      · have := Int.mul_nonneg h1 (Int.le_of_lt hp); omega
    · intro hl; exact Int.mul_neg_of_neg_of_pos hl hp
  have hblz : bl z.natAbs = bl y.natAbs + v := by rw [hza]; exact bl_mul (by omega)
  obtain ⟨W, hW⟩ : ∃ W, (bl y.natAbs + 63) / 64 = W := ⟨_, rfl⟩
  have hblb : bl z.natAbs ≤ 64 * 137438953472 := bl_wl z _ (by rw [← h.1]; exact hn)
  have hWb : W ≤ 1099511627776 := by omega
  have hW1 : ((bl z.natAbs : Int) - (v : Int) + 64 - 1) / 64 = (W : Int) := by omega
  have hroom := bl_room hW
  have hmk := fun V => run_make W hWb V
  have hy1 : 1 ≤ bl y.natAbs := by unfold bl; rw [if_neg (by omega)]; omega
  have hWp : 0 < W := by omega
  have ht : ((v : Int) == 0) = false := by simp; omega
  have hi : ∀ i, i < W → v + i * 64 ≤ 140737488355328 := by intro i hi; omega
  have H := Lib.hid h
  have HZA := Lib.hid hza
  have HNG := Lib.hid hng
  have HR := Lib.hid hroom
  have HI := Lib.hid hi
  have HY1 := Lib.hid hy1
  clear h hza hng hroom hz hW hblz hy hi
  go_enter Tryd.func33, Tryd.ntmps33
  go_wp2_with fail
  refine (width_any A n c z _ (H.out.below (((Below.refl _ _).alloc (Nat.le_refl _) _).alloc (by simp) _)) (by omega)).mono ?_
  rintro e w1 ⟨rfl, hb⟩
  have hB := (((Blk.new w 25 #[.bool (ng z), .slice A n c]).alloc (.cells #[.bool false, .slice none 0 0] 25)).below hb (by simp <;> omega))
  have hB2 := ((Blk.new_ (w.alloc (.cells #[.bool (ng z), .slice A n c] 25)) 25 #[.bool false, .slice none 0 0] (w.heap.size + 1) (by simp)).below hb (by simp))
  have hbl : Below (w.heap.size + 2) ((w.alloc (.cells #[.bool (ng z), .slice A n c] 25)).alloc (.cells #[.bool false, .slice none 0 0] 25)) w1 := hb.mono (by simp)
  have hsz : w.heap.size + 2 ≤ w1.heap.size := by have := hb.size; simpa using this
  have HB := Lib.hid hB
  have HB2 := Lib.hid hB2
  have HBl := Lib.hid hbl
  have HWb := Lib.hid hWb
  have hst := Half.start y.natAbs W
  have HST := Lib.hid hst
  clear hb hB hB2 hbl hWb hst
  go_wp2_with fail
  rw [hW1]
  clear hW1
  go_loopw [20] (fun i wr => ∃ (k : Nat) (M : List Nat), k ≤ W ∧ i = .int .i64 k ∧ Half y.natAbs W k M ∧ Blk wr w1.heap.size 51 (u64s M).toArray ∧ Blk wr w.heap.size 25 #[.bool (ng z), .slice A n c] ∧ Blk wr (w.heap.size + 1) 25 #[.bool false, .slice none 0 0] ∧ Below (w.heap.size + 2) ((w.alloc (.cells #[.bool (ng z), .slice A n c] 25)).alloc (.cells #[.bool false, .slice none 0 0] 25)) wr) (fun i _ => W - (intOf i).toNat)
  case atStart => exact ⟨0, _, Nat.zero_le _, rfl, HST.out, Blk.new _ _ _, HB.out.alloc _, HB2.out.alloc _, HBl.out.alloc hsz _⟩
  case round =>
    obtain ⟨k, M, hk, rfl, hh, hBM, hB, hB2, hbl⟩ := hrel
    have hWb2 := HWb.out
    by_cases hlt : k < W
    · have hkw : (k : Int) < (W : Int) := by omega
      have hki := HI.out k hlt
      have hb0 : Below w.heap.size w wr := (((Below.refl _ _).alloc (Nat.le_refl _) _).alloc (by simp) _).trans (hbl.mono (by omega))
      have hstep := hh.step hlt
      have hwin := win_half (i := k) HZA.out
      have HStep := Lib.hid hstep
      have HWin := Lib.hid hwin
      have HBM := Lib.hid hBM
      have HB := Lib.hid hB
      have HB2 := Lib.hid hB2
      have HBl := Lib.hid hbl
      have HB0 := Lib.hid hb0
      have HL := Lib.hid hh.2.1
      obtain ⟨k0, k1, _, _⟩ := cells2 hB
      clear hstep hwin hBM hB hB2 hbl hb0 hh
      go_wp2_with fail
      rw [show ((v : Int) + (k : Int) * 64) = ((v + k * 64 : Nat) : Int) by omega]
      refine (window_any A n c z _ _ (H.out.below HB0.out) (by omega) hki).mono ?_
      rintro e w2 ⟨rfl, hb⟩
      rw [HWin.out]
      generalize y.natAbs / Q ^ k % Q = d at *
      have hBM2 := HBM.out.below hb HBM.out.lt
      have hget := hBM2.cell k
      rw [u64s_arr M k (by rw [HL.out]; exact hlt)] at hget
      have hfr := hBM2.frozen k
      have hset := hBM2.set_ k (.int .u64 (d : Int))
      rw [u64s_set] at hset
      have HSet := Lib.hid hset
      have hlt1 := HB.out.lt
      have hlt2 := HB2.out.lt
      have HX := Lib.hid ((HB.out.below hb HB.out.lt).other (p := ⟨w1.heap.size, k, none⟩) (by show w.heap.size ≠ w1.heap.size; omega) (.int .u64 (d : Int)))
      have HX2 := Lib.hid ((HB2.out.below hb HB2.out.lt).other (p := ⟨w1.heap.size, k, none⟩) (by show w.heap.size + 1 ≠ w1.heap.size; omega) (.int .u64 (d : Int)))
      have HY := Lib.hid ((HBl.out.trans (hb.mono (by omega))).setCell (p := ⟨w1.heap.size, k, none⟩) (by show w.heap.size + 2 ≤ w1.heap.size; omega) (.int .u64 (d : Int)))
      clear hBM2 hset hb
      go_wp2_with fail
      go_roundw
      case rel => exact ⟨k + 1, M.set k d, by omega, by go_num, HStep.out, HSet.out, HX.out, HX2.out, HY.out⟩
      case measure => simp [intOf]; omega
    · obtain rfl : k = W := by omega
      have hkw : ¬ (k : Int) < (k : Int) := by omega
      have hv := hh.done HR.out
      have hd := hh.1
      have hl := hh.2.1
      have htr := fun V (hr : Row V (some ⟨w1.heap.size, 0, none⟩) (u64s M)) => trim_any w1.heap.size 0 k k M V hl.symm (Nat.le_refl _) (by omega) hd hr
      have HTr := Lib.hid (htr wr.drew (row_blk hBM.drew))
      have HW := Lib.hid (Wh.trimmed (z := y) hd (row_blk hBM) hv)
      obtain ⟨k0, k1, _, _⟩ := cells2 hB
      obtain ⟨r0, r1, f0, f1⟩ := cells2 hB2
      have HB2 := Lib.hid hB2
      have HBl := Lib.hid hbl
      generalize tl M = r at *
      clear hv hd hl htr hBM hB hB2 hbl hh
      go_wp2_with fail
      go_region_held3 (fun w' => w'.cell? ⟨w.heap.size, 0, none⟩ = some (.bool (ng z)) ∧ w'.frozen? ⟨w.heap.size + 1, 0, none⟩ = false) (go_keep)
        ((go_at_call 34; refine HTr.out.mono ?_; rintro e w2 ⟨rfl, rfl⟩; skip))
      go_wp2_with fail
      have hB3 := (HB2.out.store2 (.bool (ng z)) (.slice (some ⟨w1.heap.size, 0, none⟩) r r))
      obtain ⟨h0, h1, _⟩ := cells2 hB3
      exact bodyPost_ret (v := .agg #[.bool (ng z), .slice (some ⟨w1.heap.size, 0, none⟩) r r]) (by simp [results, Tryd.results33, go_sem, h0, h1]) rfl
        (RetW_def _ _ _ _ _ _ _ HNG.out (HW.out.store2 HB2.out _ _) (((((Below.refl _ _).alloc (Nat.le_refl _) _).alloc (by simp) _).trans (HBl.out.mono (by omega))).setCell (by simp) _ |>.setCell (by simp) _ |>.drew))
end Go.Proofs.YtajcjpbfmpljkaaDoor
