/-
A region that draws its order, by what holds whichever of its operations have come up. Conditions: no operation is guarded, and each waits for earlier ones alone.
-/
import Derived.Orders
import Derived.RowKit3
import Derived.KernelRfl
set_option linter.unusedVariables false
namespace Go.Proofs.Ytelpdbkkefpjhaa
open Go.RowKit

/-- Number i has come up, too. -/
def did (d : Nat → Bool) (i : Nat) : Nat → Bool := fun j => if j = i then true else d j
/-- What an operation is handed, by the temporaries. -/
def evS (s : Nat → Value) : Operand → Value
  | .tmp t => s t
  | .const v => v
  | .global g => .pointer (some ⟨g, 0, none⟩)
  | .func f => .func (.func f) #[] #[]
theorem evS_of (a : Act) : a.eval = evS (fun k => a.tmps.getD k undef) := by
  funext x; cases x <;> rfl
def sput (s : Nat → Value) (dst : Option Tmp) (v : Value) : Nat → Value := fun k => if dst = some k then v else s k
/-- An operation that yields a value, or a call that returns one. -/
def OpSteps (P : Program) (o : Oper) (ev : Operand → Value) (w : World) (K : Value → World → Prop) : Prop :=
  match (execOp ev o).run P w with
  | .ok (.value v) w' => K v w'
  | .ok .skip w' => K undef w'
  | .ok (.enter f args) w' => Calls P f args w' fun e w'' => ∃ v, e = .returned v ∧ K v w''
  | _ => False
/-- Each waits for earlier ones alone, is not guarded, and writes one of these temporaries. -/
def plainB (L : List Nat) (n : Nat) : Nat → List Oper → Bool
  | _, [] => true
  | i, o :: r => o.after.all (fun e => !Region.binds .any e || decide (e.on < i)) && o.guard.isNone && (match o.dst with | some k => L.contains k && decide (k < n) | none => true) && plainB L n (i + 1) r
theorem plainB_at {L : List Nat} {n : Nat} : ∀ {i : Nat} {ops : List Oper}, plainB L n i ops = true → ∀ {j : Nat} {o : Oper}, ops[j]? = some o → (∀ e ∈ o.after, Region.binds .any e = true → e.on < i + j) ∧ o.guard = none ∧ ∀ k, o.dst = some k → k ∈ L ∧ k < n
  | i, [], _, j, o, h => by simp at h
  | i, x :: r, h, j, o, ho => by
    simp only [plainB, Bool.and_eq_true] at h
    obtain ⟨⟨⟨h1, h2⟩, h3⟩, h4⟩ := h
    cases j with
    | zero =>
      simp at ho
      subst ho
      refine ⟨fun e he hbd => ?_, by simpa using h2, fun k hk => ?_⟩
      · have := Array.all_eq_true_iff_forall_mem.1 h1 e he
        rw [hbd] at this
        simpa using this
      · rw [hk] at h3
        simpa using h3
    | succ j =>
      have := plainB_at h4 (j := j) (o := o) (by simpa using ho)
      refine ⟨fun e he hbd => ?_, this.2⟩
      have := this.1 e he hbd
      omega
/-- What is to be shown of each operation. -/
def AllSteps (P : Program) (t0 : Array Value) (L : List Nat) (J : (Nat → Bool) → (Nat → Value) → World → Prop) : Nat → List Oper → Prop
  | _, [] => True
  | i, o :: r => (∀ d s w, J d s w → (∀ k, k ∉ L → s k = t0.getD k undef) → d i = false → (∀ e ∈ o.after.toList, Region.binds .any e = true → d e.on = true) → OpSteps P o (evS s) w (fun v w' => J (did d i) (sput s o.dst v) w')) ∧ AllSteps P t0 L J (i + 1) r
theorem AllSteps.at_ {P : Program} {t0 : Array Value} {L : List Nat} {J : (Nat → Bool) → (Nat → Value) → World → Prop} : ∀ {i : Nat} {ops : List Oper}, AllSteps P t0 L J i ops → ∀ {j : Nat} {o : Oper}, ops[j]? = some o →
    ∀ d s w, J d s w → (∀ k, k ∉ L → s k = t0.getD k undef) → d (i + j) = false → (∀ e ∈ o.after.toList, Region.binds .any e = true → d e.on = true) → OpSteps P o (evS s) w (fun v w' => J (did d (i + j)) (sput s o.dst v) w')
  | i, [], _, j, o, h => by simp at h
  | i, x :: r, h, j, o, ho => by
    cases j with
    | zero => simp at ho; subst ho; exact h.1
    | succ j =>
      have := AllSteps.at_ h.2 (j := j) (o := o) (by simpa using ho)
      rw [show i + (j + 1) = i + 1 + j by omega]
      exact this
/-- The temporaries behind the region. -/
def setAll (t : Array Value) (s : Nat → Value) : List Nat → Array Value
  | [] => t
  | k :: L => (setAll t s L).setIfInBounds k (s k)
theorem setAll_size (t : Array Value) (s : Nat → Value) (L : List Nat) : (setAll t s L).size = t.size := by
  induction L with
  | nil => rfl
  | cons k L ih => simp [setAll, ih]
theorem setAll_getD (t : Array Value) (s : Nat → Value) (L : List Nat) (k : Nat) (hk : k < t.size) : (setAll t s L).getD k undef = if k ∈ L then s k else t.getD k undef := by
  induction L with
  | nil => simp [setAll]
  | cons x L ih =>
    have hs := setAll_size t s L
    by_cases e : x = k
    · subst e
      simp [setAll, Array.getD, hs, hk]
    · have : (setAll t s (x :: L)).getD k undef = (setAll t s L).getD k undef := by
        simp only [setAll, Array.getD_eq_getD_getElem?]
        rw [Array.getElem?_setIfInBounds_ne e]
      rw [this, ih]
      have e' : ¬ k = x := fun h => e h.symm
      simp [e']
theorem arr_getD (t : Array Value) {i : Nat} (h : i < t.size) : t.getD i undef = t[i] := by simp [Array.getD, h]
structure Fr (a0 : Act) (L : List Nat) (a : Act) : Prop where
  defers : a.defers = a0.defers
  size : a.tmps.size = a0.tmps.size
  keep : ∀ k, k ∉ L → a.tmps.getD k undef = a0.tmps.getD k undef
theorem Fr.eq_ {a0 a : Act} {L : List Nat} (h : Fr a0 L a) : a = ⟨setAll a0.tmps (fun k => a.tmps.getD k undef) L, a0.defers⟩ := by
  obtain ⟨t, df⟩ := a
  obtain ⟨h1, h2, h3⟩ := h
  simp only at h1 h2 h3
  subst h1
  congr 1
  refine Array.ext (by rw [setAll_size, h2]) fun i hi hi' => ?_
  have hi0 : i < a0.tmps.size := by rw [← h2]; exact hi
  have hg := setAll_getD a0.tmps (fun k => t.getD k undef) L i hi0
  have e1 := arr_getD (setAll a0.tmps (fun k => t.getD k undef) L) hi'
  have e2 := arr_getD t hi
  rw [e1] at hg
  refine Eq.trans e2.symm (Eq.trans ?_ hg.symm)
  by_cases hn : i ∈ L
  · rw [if_pos hn]
  · rw [if_neg hn]; exact h3 i hn
theorem Fr.put_ {a0 a : Act} {L : List Nat} (h : Fr a0 L a) {dst : Option Tmp} (hd : ∀ k, dst = some k → k ∈ L) (v : Value) : Fr a0 L (a.put dst v) := by
  cases dst with
  | none => exact h
  | some k =>
    refine ⟨h.defers, by simpa [Act.put] using h.size, fun x hx => ?_⟩
    have : k ≠ x := fun e => hx (e ▸ hd k rfl)
    have e : (a.put (some k) v).tmps.getD x undef = a.tmps.getD x undef := by
      simp only [Act.put, Array.getD_eq_getD_getElem?]
      rw [Array.getElem?_setIfInBounds_ne this]
    rw [e]; exact h.keep x hx
theorem put_slots {a : Act} {n : Nat} (hn : a.tmps.size = n) {dst : Option Tmp} (hd : ∀ k, dst = some k → k < n) (v : Value) : (fun k => (a.put dst v).tmps.getD k undef) = sput (fun k => a.tmps.getD k undef) dst v := by
  funext x
  cases dst with
  | none => simp [Act.put, sput]
  | some k =>
    have hk := hd k rfl
    unfold sput
    by_cases e : k = x
    · subst e
      simp [Act.put, Array.getD, hn, hk]
    · rw [if_neg (by simpa using e)]
      simp only [Act.put, Array.getD_eq_getD_getElem?]
      rw [Array.getElem?_setIfInBounds_ne e]

section
variable {P : Program} {ops : Array Oper} {Q : Exit → Act → World → Prop} {a0 : Act} {L : List Nat} {J : (Nat → Bool) → (Nat → Value) → World → Prop}
theorem wpOp_inv (hp : plainB L a0.tmps.size 0 ops.toList = true) (hs : AllSteps P a0.tmps L J 0 ops.toList) {d : Nat → Bool} {a : Act} {w : World} (hF : Fr a0 L a) (hJ : J d (fun k => a.tmps.getD k undef) w) {i : Nat} {o : Oper} (ho : ops[i]? = some o) (hd : d i = false)
    (hdep : ∀ e ∈ o.after, Region.binds .any e = true → d e.on = true) : wpOp P ops Q i (fun a' w' => Fr a0 L a' ∧ J (did d i) (fun k => a'.tmps.getD k undef) w') a w := by
  have ho' : ops.toList[i]? = some o := by simpa using ho
  obtain ⟨_, hg, hdst⟩ := plainB_at hp ho'
  have h := hs.at_ ho' d _ w hJ (fun k hk => hF.keep k hk) (by simpa using hd) (fun e he => hdep e (by simpa using he))
  rw [Nat.zero_add] at h
  have hput : ∀ v w', J (did d i) (sput (fun k => a.tmps.getD k undef) o.dst v) w' → Fr a0 L (a.put o.dst v) ∧ J (did d i) (fun k => (a.put o.dst v).tmps.getD k undef) w' := fun v w' hj =>
    ⟨hF.put_ (fun k hk => (hdst k hk).1) v, by rw [put_slots hF.size (fun k hk => (hdst k hk).2)]; exact hj⟩
  unfold wpOp
  simp only [ho]
  have hw : Region.wanted o (yielded ops a.tmps) = true := by unfold Region.wanted; rw [hg]
  rw [hw, if_pos rfl]
  refine .inl ?_
  unfold Oper.wp
  rw [evS_of a]
  unfold OpSteps at h
  generalize (execOp (evS fun k => a.tmps.getD k undef) o).run P w = r at *
  cases r with
  | halt x w' => exact h.elim
  | ok n w' =>
    cases n <;> simp only [Oper.upon] at h ⊢
    case value v => exact hput v w' h
    case skip => exact hput undef w' h
    case enter f args =>
      refine Calls.mono h fun e w'' he => ?_
      obtain ⟨v, rfl, hj⟩ := he
      exact hput v w'' hj

theorem wpAny_inv (hp : plainB L a0.tmps.size 0 ops.toList = true) (hs : AllSteps P a0.tmps L J 0 ops.toList)
    (done : ∀ d a w, Fr a0 L a → J d (fun k => a.tmps.getD k undef) w → (∀ i, i < ops.size → d i = true) → Q .normal a w) :
    ∀ (fuel : Nat) (listed : Array Bool) (l : List Nat) (a : Act) (w : World), listed.size = ops.size → l.Nodup → (∀ i, i ∈ l ↔ listed.getD i true = false) → l.length ≤ fuel →
      Fr a0 L a → J (fun j => listed.getD j false) (fun k => a.tmps.getD k undef) w → wpAny P .any ops Q fuel listed a w := by
  have hnone : ∀ (listed : Array Bool), listed.size = ops.size → Region.ready .any ops listed = [] → ∀ i, i < ops.size → listed.getD i false = true := by
    intro listed hsz hr i
    induction i using Nat.strongRecOn with
    | ind i ih =>
      intro hi
      cases hb : listed.getD i false
      · exfalso
        have : i ∈ Region.ready .any ops listed := mem_ready.2 ⟨by simpa [Array.getD, hsz, hi] using hb, ops[i], Array.getElem?_eq_getElem hi, fun e he hbd => by
          have h1 := (plainB_at hp (j := i) (o := ops[i]) (by simp [hi])).1 e he hbd
          exact ih e.on (by omega) (by omega)⟩
        rw [hr] at this; cases this
      · rfl
  intro fuel
  induction fuel with
  | zero =>
    intro listed l a w hsz hnd hl hlen hF hJ
    have hl0 : l = [] := List.length_eq_zero_iff.1 (by omega)
    subst hl0
    have hr : Region.ready .any ops listed = [] := by
      refine List.eq_nil_iff_forall_not_mem.2 fun i hi => ?_
      have := (hl i).2 (mem_ready.1 hi).1
      cases this
    exact ⟨hr, done _ a w hF hJ (hnone listed hsz hr)⟩
  | succ fuel ih =>
    intro listed l a w hsz hnd hl hlen hF hJ
    refine ⟨fun hr => done _ a w hF hJ (hnone listed hsz hr), fun i hi => ?_⟩
    obtain ⟨h0, o, ho, hdep⟩ := mem_ready.1 hi
    have hi2 : i < listed.size := by
      rcases Nat.lt_or_ge i listed.size with h | h
      · exact h
      · simp [Array.getD, Nat.not_lt.2 h] at h0
    have h0' : listed.getD i false = false := by simpa [Array.getD, hi2] using h0
    refine wpOp_mono (fun a' w' h => ?_) (wpOp_inv hp hs hF hJ ho h0' hdep)
    refine ih (listed.setIfInBounds i true) (l.erase i) a' w' (by simp [hsz]) (hnd.erase i) (fun j => ?_) ?_ h.1 ?_
    · rw [hnd.mem_erase_iff, hl j]
      by_cases e : j = i
      · subst e
        simp [Array.getD, hi2]
      · simp only [Array.getD_eq_getD_getElem?]
        rw [Array.getElem?_setIfInBounds_ne (fun h => e h.symm)]
        simp [e]
    · rw [List.length_erase_of_mem ((hl i).2 h0)]; omega
    · have e : (fun j => (listed.setIfInBounds i true).getD j false) = did (fun j => listed.getD j false) i := by
        funext j
        unfold did
        by_cases e : j = i
        · subst e; simp [Array.getD, hi2]
        · rw [if_neg e]
          simp only [Array.getD_eq_getD_getElem?]
          rw [Array.getElem?_setIfInBounds_ne (fun h => e h.symm)]
      rw [e]; exact h.2

/-- THE RULE. -/
theorem wp_region_inv {id : Nat} {t0 : Array Value} {df : List Deferred} {w : World} (L : List Nat) (J : (Nat → Bool) → (Nat → Value) → World → Prop) (hm : P.follows .mixedOrders = true) (hp : plainB L t0.size 0 ops.toList = true)
    (start : J (fun _ => false) (fun k => t0.getD k undef) w.drew) (hs : AllSteps P t0 L J 0 ops.toList)
    (done : ∀ d s w', J d s w' → (∀ i, i < ops.size → d i = true) → Q .normal ⟨setAll t0 s L, df⟩ w') : (Code.region id ops true).wp P Q ⟨t0, df⟩ w := by
  refine wp_region_any hm ?_
  refine wpAny_inv (a0 := ⟨t0, df⟩) (L := L) (J := J) hp hs (fun d a w' hF hJ hd => ?_) ops.size (Array.replicate ops.size false) (List.range ops.size) _ _ (by simp) List.nodup_range (fun i => ?_) (by simp) ⟨rfl, rfl, fun _ _ => rfl⟩ ?_
  · rw [hF.eq_]
    exact done d _ w' hJ hd
  · rw [List.mem_range]
    by_cases h : i < ops.size
    · simp [Array.getD, h]
    · simp [Array.getD, h]
  · have e : (fun j => (Array.replicate ops.size false).getD j false) = fun _ => false := by
      funext j
      simp only [Array.getD_eq_getD_getElem?]
      by_cases h : j < ops.size
      · simp [h]
      · simp [h]
    rw [e]; exact start
end
end Go.Proofs.Ytelpdbkkefpjhaa
