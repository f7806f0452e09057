/-
TrsvBackward, what its walk wants besides; the call that it is about. Conditions: as each says.
-/
import Derived.Laws.CopyOwn
import Derived.Test.YtlhdcajamempoaaSax
import Derived.Test.YtlhdcajamempoaaSay
import Derived.Test.YtlhdcajamempoaaZTrG
import Derived.Test.YtlhdcajamempoaaSaz
import Derived.Test.YtlhdcajamempoaaSbb
import Derived.Test.YtlhdcajamempoaaSad
import Derived.Test.YtlhdcajamempoaaSag
set_option linter.unusedVariables false
set_option linter.unusedSimpArgs false
set_option linter.unnecessarySimpa false
namespace Go.Proofs.Ytlhdcajamempoaa
open Go.RowKit
attribute [local go_sem ↓] Go.wp_at_zero Go.wp_at_succ

theorem ptr_ne {g p : Nat} (h : Value.pointer (some ⟨g, 0, none⟩) ≠ .pointer (some ⟨p, 0, none⟩)) : g ≠ p := fun e => h (by rw [e])
section
variable {W W' : World} {p : Nat} {x0 x1 x2 : Value}
theorem DV.far3 {v : Value} {d : Dyadic} (h : DV W v d) (hB : Blk W p 63 #[x0, x1, x2]) (u0 u1 u2 : Value) : DV (((W.setCell ⟨p, 0, none⟩ u0).setCell ⟨p, 1, none⟩ u1).setCell ⟨p, 2, none⟩ u2) v d :=
  ((h.far hB (by decide) 0 _).far (hB.set_ 0 _) (by decide) 1 _).far ((hB.set_ 0 _).set_ 1 _) (by decide) 2 _
theorem Bx.far3 {g : Nat} {d : Dyadic} (h : Bx W g d) (hne : g ≠ p) (hB : Blk W p 63 #[x0, x1, x2]) (u0 u1 u2 : Value) : Bx (((W.setCell ⟨p, 0, none⟩ u0).setCell ⟨p, 1, none⟩ u1).setCell ⟨p, 2, none⟩ u2) g d := by
  obtain ⟨neg, A, n, c, E, l, h1, h2, h3, h4⟩ := h
  exact ⟨neg, A, n, c, E, l, ((h1.other (p := ⟨p, 0, none⟩) hne _).other (p := ⟨p, 1, none⟩) hne _).other (p := ⟨p, 2, none⟩) hne _, ((h2.far hB (by decide) 0 _).far (hB.set_ 0 _) (by decide) 1 _).far ((hB.set_ 0 _).set_ 1 _) (by decide) 2 _, h3, h4⟩
theorem BxP.far3 {v : Value} {lo : Nat} {d : Dyadic} (h : BxP W v lo d) (hne : v ≠ .pointer (some ⟨p, 0, none⟩)) (hB : Blk W p 63 #[x0, x1, x2]) (u0 u1 u2 : Value) : BxP (((W.setCell ⟨p, 0, none⟩ u0).setCell ⟨p, 1, none⟩ u1).setCell ⟨p, 2, none⟩ u2) v lo d := by
  obtain ⟨g, rfl, h1, h2⟩ := h
  exact ⟨g, rfl, h1.far3 (ptr_ne hne) hB _ _ _, h2⟩
theorem NewB.far3 {v : Value} {lo : Nat} (h : NewB W v lo) (hne : v ≠ .pointer (some ⟨p, 0, none⟩)) (u0 u1 u2 : Value) : NewB (((W.setCell ⟨p, 0, none⟩ u0).setCell ⟨p, 1, none⟩ u1).setCell ⟨p, 2, none⟩ u2) v lo := by
  obtain ⟨g, y0, y1, y2, rfl, h1, h2⟩ := h
  have hg := ptr_ne hne
  exact ⟨g, y0, y1, y2, rfl, ((h1.other (p := ⟨p, 0, none⟩) hg _).other (p := ⟨p, 1, none⟩) hg _).other (p := ⟨p, 2, none⟩) hg _, h2⟩
theorem NewB.new_ne {v : Value} {lo : Nat} (h : NewB W v lo) : v ≠ .pointer (some ⟨W.heap.size, 0, none⟩) := by
  obtain ⟨g, y0, y1, y2, rfl, h1, h2⟩ := h
  intro e
  injection e with e; injection e with e; injection e with e
  have := h1.lt
  omega
end
/-- The table: the list's numbers, and noughts. -/
def tabT (l : List Nat) (N : Nat) : List Nat := l.take (min l.length N) ++ (List.replicate N 0).drop (min l.length N)
theorem tabT_length (l : List Nat) (N : Nat) : (tabT l N).length = N := by simp [tabT]; omega
theorem tabT_all {l : List Nat} {N : Nat} {p : Nat → Prop} (h : ∀ b ∈ l, p b) (h0 : p 0) : ∀ b ∈ tabT l N, p b := by
  intro b hb
  unfold tabT at hb
  rcases List.mem_append.1 hb with h1 | h1
  · exact h b (List.mem_of_mem_take h1)
  · have := List.mem_of_mem_drop h1
    rw [List.eq_of_mem_replicate this]
    exact h0
/-- What copy comes to. -/
theorem run_copy_chg (W : World) (ty : TypeId) (g N nl cl : Nat) (A : Option Addr) (l : List Nat) (hg : Blk W g 28 (f64s (List.replicate N 0)).toArray) (hl : l.length = nl) (hA : Row W A (f64s l)) :
    ∃ k W', (Builtin.copy_ #[24, 24] ty #[.slice (some ⟨g, 0, none⟩) N N, .slice A nl cl]).run Try.prog W = .ok (goInt k) W' ∧ Blk W' g 28 (f64s (tabT l N)).toArray ∧ Chg [g] W W' := by
  have hz : (f64s (List.replicate N 0)).toArray.size = N := by simp [f64s]
  by_cases h0 : min nl N = 0
  · refine ⟨0, W, run_copy_none W _ _ _ 28 _ _ _ _ _ _ Try.underlying24 info1_f64 h0, ?_, Chg.refl _ _⟩
    have e : tabT l N = List.replicate N 0 := by unfold tabT; rw [hl, h0]; simp
    rw [e]; exact hg
  · rcases hA with h | ⟨b, o, rfl, hc⟩
    · have : l = [] := by simpa [f64s] using h
      subst this; simp at hl; omega
    · have hlen : (f64s (l.take (min nl N))).length = min nl N := by simp only [f64s, List.length_map, List.length_take]; omega
      have h1 := run_copy_row (P := Try.prog) W 24 24 ty 28 g 0 N N ⟨b, o, none⟩ nl cl _ 28 (f64s (l.take (min nl N))) Try.underlying24 info1_f64 hg hlen (fun j v h => by
        have e1 : f64s (l.take (min nl N)) = (f64s l).take (min nl N) := by simp [f64s]
        rw [e1, List.getElem?_take] at h
        split at h
        · have := hc j v h
          rw [addr_at]; exact this
        · cases h) (by rw [hlen, hz]; omega) (one_cells _)
      have e : ((f64s (List.replicate N 0)).toArray.toList.take 0 ++ f64s (l.take (min nl N)) ++ (f64s (List.replicate N 0)).toArray.toList.drop (0 + (f64s (l.take (min nl N))).length)).toArray = (f64s (tabT l N)).toArray := by
        rw [hlen, Nat.zero_add]
        unfold tabT
        rw [hl]
        simp [f64s]
      rw [e] at h1
      exact ⟨_, _, h1, setRow_heap W g _ _ _ _ hg, ⟨rfl, rfl, rfl, by simp, fun k hk hne => setRow_other W g k _ (by simpa using hne)⟩⟩
theorem dense_at {T M : List Nat} {r n i k : Nat} (h : Dense T r n M) (hi : i < r) (hk : k < n) : M.getD (0 + k * r + i) 0 = T.getD (i * n + k) 0 := by
  have h1 := tab_lt hi hk
  have h2 := h.2 _ h1
  have e1 : (i * n + k) / n = i := by
    rw [Nat.mul_comm, Nat.mul_add_div (by omega), Nat.div_eq_of_lt hk, Nat.add_zero]
  have e2 : (i * n + k) % n = k := by
    rw [Nat.mul_comm, Nat.mul_add_mod, Nat.mod_eq_of_lt hk]
  unfold spot at h2
  rw [e1, e2] at h2
  rw [Nat.zero_add, Nat.add_comm]
  exact h2
theorem fin_at {l : List Nat} (h : l.all Fl.fin = true) (k : Nat) : Fl.rung (l.getD k 0) < Fl.INF := by
  by_cases e : k < l.length
  · rw [getD_of_lt e]
    exact of_decide_eq_true (List.all_eq_true.1 h _ (List.getElem_mem e))
  · have : l.getD k 0 = 0 := by simp [List.getD, e]
    rw [this]; decide
theorem bx_open {W : World} {g : Nat} {d : Dyadic} (h : Bx W g d) : ∃ (neg : Bool) (A : Option Addr) (n c : Nat) (E : Int), Blk W g 63 #[.bool neg, .slice A n c, .int .i64 E] ∧ ∀ W', Below W.heap.size W W' → DV W' (.agg #[.bool neg, .slice A n c, .int .i64 E]) d := by
  obtain ⟨neg, A, n, c, E, l, h1, h2, h3, h4⟩ := h
  exact ⟨neg, A, n, c, E, h1, fun W' hb => ⟨neg, A, n, c, E, l, rfl, h2.below hb, h3, h4⟩⟩
theorem Bx.chg {W W' : World} {g p : Nat} {d : Dyadic} {t : TypeId} {cs : Array Value} (h : Bx W g d) (hne : g ≠ p) (hB : Blk W p t cs) (ht : t ≠ 3) (hc : Chg [p] W W') : Bx W' g d := by
  obtain ⟨neg, A, n, c, E, l, h1, h2, h3, h4⟩ := h
  refine ⟨neg, A, n, c, E, l, hc.blk (by simpa using hne) h1, ⟨h2.1, h2.2.1, ?_, h2.2.2.2.1, ?_⟩, h3, h4⟩
  · by_cases hl : l = []
    · subst hl; exact .inl rfl
    · refine hc.row (fun b o e hb => ?_) h2.2.2.1
      have hI := h2.2.2.2.2 b o e hl
      obtain rfl : b = p := by simpa using hb
      exact hI.ne hB ht rfl
  · intro b o e hl
    have hI := h2.2.2.2.2 b o e hl
    have hne2 : b ≠ p := hI.ne hB ht
    obtain ⟨cs2, fr, hI2⟩ := hI
    exact ⟨cs2, fr, (hc.block b (IntB.lt ⟨cs2, fr, hI2⟩) (by simpa using hne2)).trans hI2⟩
theorem dense_wds {T M : List Nat} {r n : Nat} (h : Dense T r n M) (hW : Wds T) : Wds M := by
  intro b hb
  obtain ⟨j, hj, rfl⟩ := List.getElem_of_mem hb
  rw [h.1] at hj
  have hr : 0 < r := by
    rcases Nat.eq_zero_or_pos r with e | e
    · rw [e, Nat.zero_mul] at hj; omega
    · exact e
  have h1 := dense_at h (Nat.mod_lt j hr) ((Nat.div_lt_iff_lt_mul hr).2 (by rw [Nat.mul_comm]; exact hj))
  have e : 0 + j / r * r + j % r = j := by rw [Nat.zero_add, Nat.mul_comm]; exact Nat.div_add_mod j r
  rw [e, getD_of_lt (by rw [h.1]; exact hj)] at h1
  rw [h1]
  exact tr_wds hW _
theorem wr2b {q : Nat} (h : q < 1048578) : wrap64 (q : Int) = (q : Int) ∧ IntKind.i64.wrap (q : Int) = (q : Int) := ⟨by unfold wrap64; omega, wrapi (by omega) (by omega)⟩

/-- The numbers of the kind. -/
theorem trb_ints {q n : Nat} (hq : q < 256) (hn : 1 + q % 4 = n) : ∃ s : Nat, Hid (Int.tmod (q : Int) 4 = (s : Int) ∧ (1 : Int) + (s : Int) = (n : Int) ∧ (wrap64 (s : Int) = (s : Int) ∧ IntKind.i64.wrap (s : Int) = (s : Int)) ∧ (wrap64 (n : Int) = (n : Int) ∧ IntKind.i64.wrap (n : Int) = (n : Int)) ∧ (wrap64 (q : Int) = (q : Int) ∧ IntKind.i64.wrap (q : Int) = (q : Int))) := by
  have h1 : q % 4 < 1048578 := by omega
  have h2 : n < 1048578 := by omega
  have h3 : q < 1048578 := by omega
  refine ⟨q % 4, Lib.hid ⟨by rw [Int.tmod_eq_emod_of_nonneg (by omega)]; omega, by omega, wr2b h1, wr2b h2, wr2b h3⟩⟩
/-- What Solve comes to: no number on the diagonal is 0, or one is. -/
def TrbS (kd n : Nat) (T y : List Nat) (gz : Nat) (w : World) (e : Ending) (w' : World) : Prop :=
  (∃ E F m, e = .returned (.int .i64 0) ∧ TrS kd n (trV kd (fun i k => T.getD (i * n + k) 0)) (fun p => y.getD p 0) E F ∧ (m.length = n ∧ ∀ p, p < n → Is (m.getD p 0) (F p)) ∧ Own w' gz m ∧ Chg [gz] w w') ∨ (e = .returned (.int .i64 4) ∧ Below w.heap.size w w')
set_option maxHeartbeats 1000000 in
theorem trbsolve_any (kd : Nat) (hkd : kd = 1 ∨ kd = 2 ∨ kd = 3 ∨ kd = 4) (n N cz gz gM : Nat) (T M y : List Nat) (W : World) (hN : n * n = N) (hn1 : 1 ≤ n) (hn2 : n ≤ 10) (hy : y.length = n) (hWy : Wds y) (hWT : Wds T) (hDn : Dense T n n M) (hz : Own W gz y) (hM : Own W gM M) (hne : gM ≠ gz) :
    Calls Try.prog 17 #[.int .i64 (kd : Int), .agg #[.slice (some ⟨gM, 0, none⟩) N N, .int .i64 (0 : Int), .int .i64 (n : Int), .int .i64 (n : Int), .int .i64 (n : Int)], .agg #[.slice (some ⟨gz, 0, none⟩) n cz, .int .i64 0, .int .i64 n, .int .i64 1]] W (TrbS kd n T y gz W) := by
  have hMl : M.length = N := by rw [← hN]; exact hDn.1
  have hNb : N ≤ 100 := by rw [← hN]; exact Nat.le_trans (Nat.mul_le_mul hn2 hn2) (by omega)
  have hmr : n = 0 ∨ n = 0 ∨ 0 + (n - 1) * n + (n - 1) < N := by
    right; right
    have e : (n - 1) * n + n = N := by rw [← Nat.succ_mul, ← hN]; congr 1; omega
    generalize (n - 1) * n = u at *
    omega
  have z0 : I64 ((0 : Nat) : Int) := by unfold I64; omega
  have z1 : I64 ((1 : Nat) : Int) := by unfold I64; omega
  have zn : I64 (n : Int) := by unfold I64; omega
  have hwM := dense_wds hDn hWT
  have hMx : MxC W (some ⟨gM, 0, none⟩) 0 n n (fun i k => M.getD (0 + i + k * n) 0) := MxC.of_row hM.row hMl hmr
  have hag : ∀ p, p < n → ∀ q, q < n → M.getD (0 + p + q * n) 0 = T.getD (p * n + q) 0 := fun p hp q hq => by
    have := dense_at hDn hp hq
    rwa [show 0 + q * n + p = 0 + p + q * n by omega] at this
  have hmt := fun W' (hb : Below W.heap.size W W') => trmeets_far gz cz n y 0 n 1 gM N N M 0 n n n W' (hz.nxt hb) (hM.nxt hb) (fun e => hne e.symm) hy hMl (by omega) (by omega) z0 zn z1 z0 zn zn zn
  cases hzz : trHZ kd (fun i k => M.getD (0 + i + k * n) 0) n
  · obtain ⟨E, F, hS⟩ := trS_exists kd n (trV kd (fun i k => M.getD (0 + i + k * n) 0)) (fun p => y.getD (0 + p * 1) 0) hkd
    refine (trsv_ok kd hkd (some ⟨gM, 0, none⟩) N N 0 n n (fun i k => M.getD (0 + i + k * n) 0) gz n cz 0 1 y E F W (by omega) zn (by omega) hn1 (Nat.le_refl _) hmr z0 (by omega) z0 z1 (by omega) (.inr (by omega)) hmt hMx hzz
      ⟨hkd, by omega, zn, by omega, hn1, Nat.le_refl _, hmr, hy, by omega, by omega, fun i k => tr_wds hwM _, fun q hq => by omega, fun W' q v hq h i hi k hk => by
        obtain ⟨b, x, e, hc⟩ := h i hi k hk
        injection e with e; injection e with e1 e2
        subst e1
        exact ⟨gM, x, by rw [e2], (cell_set (fun e => hne e) _).trans hc⟩, hz.lt⟩ hS hz hWy).mono ?_
    rintro e w' ⟨rfl, m, k1, k2, k3⟩
    refine .inl ⟨E, F, m, rfl, hS.agree hkd (trV_agree hag) (fun p hp => by rw [Nat.zero_add, Nat.mul_one]), ⟨k1.1.trans hy, fun p hp => ?_⟩, k2, k3⟩
    have := k1.2.1 p hp
    rwa [Nat.zero_add, Nat.mul_one] at this
  · exact (trsv_zero kd hkd (some ⟨gM, 0, none⟩) N N 0 n n (some ⟨gz, 0, none⟩) n cz 0 1 (fun i k => M.getD (0 + i + k * n) 0) W (by omega) zn (by omega) hn1 (Nat.le_refl _) hmr z0 (by omega) z0 z1 (by omega) (.inr (by omega)) hmt hMx hzz).mono fun e w' ⟨e1, e2⟩ => .inr ⟨e1, e2⟩
end Go.Proofs.Ytlhdcajamempoaa
