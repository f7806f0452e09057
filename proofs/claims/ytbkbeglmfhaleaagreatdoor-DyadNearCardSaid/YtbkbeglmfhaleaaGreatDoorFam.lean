/-
A region that draws its order, whose operations only read and make new blocks, some of them guarded: a fact for each operation's value, whatever has come up. Conditions: each operation waits for earlier ones alone, and writes a temporary of its own.
-/
import Derived.Test.YtbkbeglmfhaleaaGreatDoorIng
import Derived.Test.YtbkbeglmfhaleaaGreatDoorMem
set_option linter.unusedVariables false
namespace Go.Proofs.YtbkbeglmfhaleaaGreatDoor
open Go.RowKit

/-- What is known of an operation's value. -/
abbrev Fact := Value → World → Prop
def factAt (fs : List Fact) (i : Nat) : Fact := fs.getD i (fun _ _ => True)
/-- A fact that new blocks leave. -/
def Mono (f : Fact) : Prop := ∀ v W W', f v W → Below W.heap.size W W' → f v W'
def Monos : List Fact → Prop
  | [] => True
  | f :: r => Mono f ∧ Monos r
theorem mono_eq (x : Value) : Mono (fun v _ => v = x) := fun _ _ _ h _ => h
theorem Monos.at_ : ∀ {fs : List Fact} (_ : Monos fs) (i : Nat), Mono (factAt fs i)
  | [], _, i => by unfold factAt; simp; exact fun _ _ _ _ _ => trivial
  | f :: r, h, 0 => h.1
  | f :: r, h, i + 1 => Monos.at_ (fs := r) h.2 i
/-- What an operation waits for. -/
def waits (o : Oper) : List Nat := (o.after.toList.filter fun e => Region.binds .any e).map (·.on)
def DepF (fs : List Fact) (L : List Nat) (s : Nat → Value) (W : World) (ds : List Nat) : Prop := ∀ j, ds.contains j = true → factAt fs j (s (L.getD j 0)) W
/-- What is to be shown of each operation. -/
def AllFam (P : Program) (ops : Array Oper) (t0 : Array Value) (L : List Nat) (fs : List Fact) (w0 : World) : Nat → List Oper → Prop
  | _, [] => True
  | i, o :: r => (∀ s W, Below w0.heap.size w0 W → (∀ k, k ∉ L → s k = t0.getD k undef) → DepF fs L s W (waits o) → StepG P ops o s W (fun v W' => factAt fs i v W' ∧ Below W.heap.size W W')) ∧ AllFam P ops t0 L fs w0 (i + 1) r
/-- Operation i writes the temporary at place i of the list. -/
def famB (L : List Nat) : Nat → List Oper → Bool
  | i, [] => i == L.length
  | i, o :: r => (o.dst == some (L.getD i 0)) && decide (i < L.length) && famB L (i + 1) r
theorem stepG_mono {P : Program} {ops : Array Oper} {o : Oper} {s : Nat → Value} {w : World} {K K' : Value → World → Prop} (h : StepG P ops o s w K) (hk : ∀ v w', K v w' → K' v w') : StepG P ops o s w K' := by
  unfold StepG at *
  split at h
  · rename_i hc
    rw [if_pos hc]
    unfold OpSteps at *
    generalize (execOp (evS s) o).run P w = r at *
    cases r with
    | halt x w' => exact h
    | ok n w' =>
      cases n with
      | value v => exact hk _ _ h
      | skip => exact hk _ _ h
      | enter f args => exact Calls.mono h fun e w'' ⟨v, h1, h2⟩ => ⟨v, h1, hk _ _ h2⟩
      | _ => exact h
  · rename_i hc
    rw [if_neg hc]
    exact hk _ _ h
theorem getD_inj {L : List Nat} (h : L.Nodup) {i j : Nat} (hi : i < L.length) (hj : j < L.length) (e : L.getD i 0 = L.getD j 0) : i = j := by
  have e1 : L.getD i 0 = L[i] := by simp [List.getD, hi]
  have e2 : L.getD j 0 = L[j] := by simp [List.getD, hj]
  rw [e1, e2] at e
  have hp := List.pairwise_iff_getElem.1 h
  rcases Nat.lt_trichotomy i j with h1 | h1 | h1
  · exact absurd e (hp i j hi hj h1)
  · exact h1
  · exact absurd e.symm (hp j i hj hi h1)
/-- What holds whichever have come up. -/
def FamJ (fs : List Fact) (L : List Nat) (w0 : World) (d : Nat → Bool) (s : Nat → Value) (W : World) : Prop :=
  (∀ j, j < L.length → d j = true → factAt fs j (s (L.getD j 0)) W) ∧ Below w0.heap.size w0 W
theorem fam_steps {P : Program} {ops : Array Oper} {t0 : Array Value} {L : List Nat} {fs : List Fact} {w0 : World} (hn : L.Nodup) (hm : Monos fs) : ∀ {i : Nat} {os : List Oper}, AllFam P ops t0 L fs w0 i os → famB L i os = true →
    (∀ (j : Nat) (o : Oper), os[j]? = some o → ∀ e ∈ o.after.toList, Region.binds .any e = true → e.on < i + j) → AllStepsG P ops t0 L (FamJ fs L w0) i os
  | i, [], _, _, _ => trivial
  | i, o :: r, h, hb, hon => by
    simp only [famB, Bool.and_eq_true, beq_iff_eq, decide_eq_true_eq] at hb
    obtain ⟨⟨hdst, hlt⟩, hbr⟩ := hb
    refine ⟨fun d s W hJ hfr hd hdep => ?_, fam_steps hn hm h.2 hbr fun j o' ho e he hbd => by
      have := hon (j + 1) o' (by simpa using ho) e he hbd
      omega⟩
    refine stepG_mono (h.1 s W hJ.2 hfr fun j hj => ?_) fun v W' hv => ⟨fun j hjl hjd => ?_, hJ.2.trans (hv.2.mono hJ.2.size)⟩
    · have hj2 : j ∈ waits o := by simpa using hj
      obtain ⟨e, he, rfl⟩ := List.mem_map.1 hj2
      obtain ⟨he1, he2⟩ := List.mem_filter.1 he
      have := hon 0 o rfl e he1 he2
      exact hJ.1 e.on (by omega) (hdep e he1 he2)
    · by_cases e : j = i
      · subst e
        rw [hdst]
        have : sput s (some (L.getD j 0)) v (L.getD j 0) = v := by simp [sput]
        rw [this]
        exact hv.1
      · have hdj : d j = true := by rw [did_ne d e] at hjd; exact hjd
        have : sput s o.dst v (L.getD j 0) = s (L.getD j 0) := by
          rw [hdst]
          unfold sput
          rw [if_neg]
          intro e9
          injection e9 with e9
          exact e (getD_inj hn hjl hlt e9.symm)
        rw [this]
        exact hm.at_ j _ _ _ (hJ.1 j hjl hdj) hv.2
/-- THE RULE. -/
theorem wp_region_fam {P : Program} {ops : Array Oper} {Q : Exit → Act → World → Prop} {id : Nat} {t0 : Array Value} {df : List Deferred} {w : World} (L : List Nat) (fs : List Fact) (hm : P.follows .mixedOrders = true) (hp : plainG L t0.size 0 ops.toList = true) (hb : famB L 0 ops.toList = true) (hn : L.Nodup) (hmo : Monos fs)
    (hs : AllFam P ops t0 L fs w 0 ops.toList)
    (done : ∀ s w', (∀ j, j < L.length → factAt fs j (s (L.getD j 0)) w') → Below w.heap.size w w' → Q .normal ⟨setAll t0 s L, df⟩ w') : (Code.region id ops true).wp P Q ⟨t0, df⟩ w := by
  have hlen : ∀ (i : Nat) (os : List Oper), famB L i os = true → i + os.length = L.length := by
    intro i os
    induction os generalizing i with
    | nil => intro h; simp only [famB, beq_iff_eq] at h; simpa using h
    | cons o r ih =>
      intro h
      simp only [famB, Bool.and_eq_true] at h
      have := ih (i + 1) h.2
      simp only [List.length_cons]
      omega
  have hl : ops.size = L.length := by have := hlen 0 _ hb; simpa using this
  refine wp_region_invG L (FamJ fs L w) hm hp ⟨(fun j _ h => by cases h), (Below.refl _ _).drew⟩ (fam_steps hn hmo hs hb fun j o ho e he hbd => ?_) fun d s w' hJ hd => done s w' (fun j hj => hJ.1 j hj (hd j (by omega))) hJ.2
  exact (plainG_at hp ho).1 e (by simpa using he) hbd
/-- An operation that yields a value. -/
theorem op_value {P : Program} {o : Oper} {ev : Operand → Value} {w : World} {K : Value → World → Prop} (v : Value) (h : (execOp ev o).run P w = .ok (.value v) w) (hk : K v w) : OpSteps P o ev w K := by
  unfold OpSteps; rw [h]; exact hk
/-- A call. -/
theorem op_call {P : Program} {o : Oper} {ev : Operand → Value} {w : World} {K : Value → World → Prop} (f : FuncId) (args : Array Value) (h : (execOp ev o).run P w = .ok (.enter f args) w) (hk : Calls P f args w fun e w'' => ∃ v, e = .returned v ∧ K v w'') : OpSteps P o ev w K := by
  unfold OpSteps; rw [h]; exact hk
end Go.Proofs.YtbkbeglmfhaleaaGreatDoor
