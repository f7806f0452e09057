/-
The last step of a law's row whatever its arguments, where the call left a world of which 'Below' alone is known: the arguments read as they did. Conditions: each slice's elements take room; no package variable is read.
-/
import Derived.Test.YtelpdbkkefpjhaaRows
import Derived.Test.YtelpdbkkefpjhaaKPost
set_option linter.unusedVariables false
namespace Go.Proofs.Ytelpdbkkefpjhaa
open Go.RowKit Go.WideShapes Go.ChangeShapes

/-- The types lead to each other alone, and each slice's elements take room. -/
def fineAt (P : Program) (L : List TypeId) (t : TypeId) : Bool := match P.underlying t with
  | some (.slice e) => decide (0 < P.cellsOf e) && L.contains e
  | some (.pointer e) => L.contains e
  | some (.struct fs) => fs.toList.all fun f => L.contains f.type
  | some (.array _ e) => L.contains e
  | some (.map _ e) => L.contains e
  | _ => true
def Fine (P : Program) (L : List TypeId) : Prop := L.all (fineAt P L) = true
theorem Fine.at_ {P : Program} {L : List TypeId} (h : Fine P L) {t : TypeId} (ht : t ∈ L) : fineAt P L t = true := List.all_eq_true.1 h t ht

section
variable {H : Type} {enc : TypeId × Value → H} {P : Program}
theorem trod_spare {L : List TypeId} (hz : Fine P L) {w : World} {sp : Nat → Bool} : ∀ (n : Nat) (t : TypeId) (cs : List Value) (x : DataW H × List MemPlace), t ∈ L →
    DataW.trod enc P w 0 (fun _ => true) true n t cs = some x → (∀ p ∈ x.2, sp p.block = true) → DataW.trod enc P w 0 sp true n t cs = some x := by
  intro n
  induction n with
  | zero => intro t cs x _ h; simp [DataW.trod] at h
  | succ n ih =>
    intro t cs x htL h hs
    have hat := hz.at_ htL
    unfold fineAt at hat
    rw [DataW.trod_step] at h ⊢
    unfold DataW.trodStep at h ⊢
    split at h
    case h_6 e a ht =>
      rw [ht] at hat
      have hin : e ∈ L := by simpa using hat
      simp only [Option.map_eq_some_iff, Option.bind_eq_some_iff] at h ⊢
      obtain ⟨y, ⟨cs', hc, hy⟩, rfl⟩ := h
      exact ⟨y, ⟨cs', hc, ih _ _ _ hin hy fun p hp => hs p (by simp [hp])⟩, rfl⟩
    case h_8 e a len cap ht =>
      rw [ht] at hat
      have hin : e ∈ L := by simp at hat; exact hat.2
      have hpe : 0 < P.cellsOf e := by simp at hat; exact hat.1
      simp only at h ⊢
      split at h
      · rename_i hc
        rw [if_pos hc]
        simp only [Option.map_eq_some_iff, Option.bind_eq_some_iff] at h ⊢
        obtain ⟨elems, he, rest, hrest, rfl⟩ := h
        rw [if_pos trivial] at hrest
        have hlen : elems.length = len := by simpa using mapM_some_length he
        have hrl : rest.length = cap - len := by simpa using mapM_some_length hrest
        refine ⟨elems, mapM_carry he (fun i y hi hy hv => ?_), rest, ?_, rfl⟩
        · simp only [Option.bind_eq_some_iff] at hv ⊢
          obtain ⟨cs', h1, h2⟩ := hv
          exact ⟨cs', h1, ih _ _ _ hin h2 fun p hp => hs p (List.mem_append_right _ (List.mem_flatMap.2 ⟨y, List.mem_append_left _ hy, hp⟩))⟩
        · by_cases hcap : cap = 0
          · have : rest = [] := List.length_eq_zero_iff.1 (by omega)
            subst this
            split
            · have e0 : cap - len = 0 := by omega
              rw [e0]; rfl
            · rfl
          · have hsp : sp a.block = true := by
              have hm : MemPlace.cell a.block (a.off + 0) ∈ MemPlace.row a ((elems.length + rest.length) * P.cellsOf e) :=
                MemPlace.mem_row.2 ⟨0, Nat.mul_pos (by omega) hpe, rfl⟩
              exact hs _ (List.mem_append_left _ hm)
            rw [if_pos hsp]
            refine mapM_carry hrest (fun i y hi hy hv => ?_)
            simp only [Option.bind_eq_some_iff] at hv ⊢
            obtain ⟨cs', h1, h2⟩ := hv
            exact ⟨cs', h1, ih _ _ _ hin h2 fun p hp => hs p (List.mem_append_right _ (List.mem_flatMap.2 ⟨y, List.mem_append_right _ hy, hp⟩))⟩
      · cases h
    case h_9 fs ht =>
      rw [ht] at hat
      split at h
      · rename_i hc
        rw [if_pos hc]
        simp only [Option.map_eq_some_iff] at h ⊢
        obtain ⟨xs, hx, rfl⟩ := h
        exact ⟨xs, mapM_carry hx (fun f y hf hy hv => ih _ _ _ (by simpa using List.all_eq_true.1 hat f hf) hv (fun p hp => hs p (List.mem_flatMap.2 ⟨y, hy, hp⟩))), rfl⟩
      · cases h
    case h_10 m e ht =>
      rw [ht] at hat
      have hin : e ∈ L := by simpa using hat
      split at h
      · rename_i hc
        rw [if_pos hc]
        simp only [Option.map_eq_some_iff] at h ⊢
        obtain ⟨xs, hx, rfl⟩ := h
        exact ⟨xs, mapM_carry hx (fun f y hf hy hv => ih _ _ _ hin hv (fun p hp => hs p (List.mem_flatMap.2 ⟨y, hy, hp⟩))), rfl⟩
      · cases h
    case h_14 k e b ht =>
      rw [ht] at hat
      have hin : e ∈ L := by simpa using hat
      split at h
      · rename_i es clock hb
        split at h
        · rename_i hc
          rw [if_pos hc]
          simp only [Option.bind_eq_some_iff] at h ⊢
          obtain ⟨entries, he, hd⟩ := h
          split at hd
          · rename_i hris
            have hx := Option.some.inj hd
            subst hx
            refine ⟨entries, mapM_carry he (fun x y _ hy hv => ?_), by simp [hris]⟩
            simp only [Option.bind_eq_some_iff] at hv ⊢
            obtain ⟨key, hk, hq⟩ := hv
            refine ⟨key, hk, ?_⟩
            split at hq
            · rename_i hf
              rw [if_pos hf]
              simp only [Option.map_eq_some_iff] at hq ⊢
              obtain ⟨q, hq, rfl⟩ := hq
              exact ⟨q, ih _ _ _ hin hq (fun p hp => hs p (by simp only [List.mem_cons, List.mem_flatMap]; right; exact ⟨_, hy, hp⟩)), rfl⟩
            · cases hq
          · cases hd
        · cases h
      · cases h
    all_goals exact h

/-- The arguments read as they did, where nothing below changed. -/
theorem trodAll_again {L : List TypeId} (hz : Fine P L) {W W' : World} {sp : Nat → Bool} : ∀ {ts : List TypeId} {vs : List Value} {ds : List (DataW H)} {ps : List MemPlace}, (∀ t ∈ ts, t ∈ L) →
    DataW.TrodAll enc P W 0 (fun _ => true) true ts vs ds ps → (∀ p ∈ ps, p.block < W.heap.size) → Below W.heap.size W W' → (∀ p ∈ ps, sp p.block = true) →
    DataW.TrodAll enc P W' 0 sp true ts vs ds ps
  | [], [], [], _, _, h, _, _, _ => h
  | t :: _, _ :: _, _ :: _, _, hin, ⟨p, q, ⟨n, h1⟩, h2, e⟩, hlt, hb, hs => by
    subst e
    refine ⟨p, q, ⟨n, ?_⟩, trodAll_again hz (fun y hy => hin y (List.mem_cons_of_mem _ hy)) h2 (fun x hx => hlt x (List.mem_append_right _ hx)) hb (fun x hx => hs x (List.mem_append_right _ hx)), rfl⟩
    refine trod_spare hz n _ _ _ (hin t (List.mem_cons_self ..)) (DataW.trod_carry n _ _ _ h1 fun x hx => ?_) (fun x hx => hs x (List.mem_append_left _ hx))
    have hx' := hlt x (List.mem_append_left _ hx)
    cases x with
    | cell b off => exact hb.cell (p := ⟨b, off, none⟩) hx'
    | map b => exact hb.block b hx'

theorem post_again {L : List TypeId} (hz : Fine P L) {f : Func} {s : ChangeSpec} {apart fresh handsOn again : Bool} {W W' : World} {args : Array Value} {v : Value} {ds gs : List (DataW H)} {before : List MemPlace}
    (hW : DataW.Whole enc P f.params.toList s.vars apart W args.toList ds gs before) (hn : s.vars = []) (hin : ∀ t ∈ f.params.toList, t ∈ L)
    (hres : ∀ (b : Nat) (sp : Nat → Bool) (hd : Bool), DataW.TrodAll enc P W' b sp hd f.resultTypes.toList (v.resultList f.resultTypes.size) (s.fn H (ds ++ gs)).results [])
    (ha : (s.fn H (ds ++ gs)).args = ds) (hv : (s.fn H (ds ++ gs)).vars = []) (hb : Below W.heap.size W W')
    (hok : ∀ (j : Nat) (t : TypeId) (r : Value), f.resultTypes[j]? = some t → (v.resultList f.resultTypes.size)[j]? = some r → Value.okWide P W' .any 0 t r) :
    s.post enc P f apart fresh handsOn again W args v W' := by
  have hlt := hW.lt
  have hW' := hW
  obtain ⟨p, q, hA, hV, rfl, hfz, hnd⟩ := hW
  have hq : q = [] := by
    rw [hn] at hV
    cases gs with
    | nil => exact hV
    | cons a b => cases hV
  subst hq
  have hvs : ∀ sp, DataW.TrodVars enc P W' sp s.vars (s.fn H (ds ++ gs)).vars [] := fun sp => by rw [hv, hn]; rfl
  refine post_of_below (pa := p) (pv := []) hW' hres (fun sp hsp => ?_) (fun sp _ => hvs sp) rfl hb hok
  rw [ha]
  exact trodAll_again hz hin hA (fun x hx => hlt x (by simpa using hx)) hb (fun x hx => hsp x (by simpa using hx))
end
end Go.Proofs.Ytelpdbkkefpjhaa
