/-
GemvClose, what its walk wants besides. Conditions: as each says.
-/
import Derived.Laws.CopyOwn
import Derived.Test.YtodoibioedelgaaGbm
import Derived.Test.YtodoibioedelgaaGbn
import Derived.Test.YtodoibioedelgaaGbb
import Derived.Test.YtodoibioedelgaaGv
import Derived.Test.YtodoibioedelgaaGbo
import Derived.Test.YtodoibioedelgaaGbc
set_option linter.unusedVariables false
set_option linter.unusedSimpArgs false
set_option linter.unnecessarySimpa false
namespace Go.Proofs.Ytodoibioedelgaa
open Go.RowKit
attribute [local go_sem ↓] Go.wp_at_zero Go.wp_at_succ


/-- The table: the list's numbers, and noughts. -/
def tabT (l : List Nat) (N : Nat) : List Nat := l.take (min l.length N) ++ (List.replicate N 0).drop (min l.length N)
theorem tabT_length (l : List Nat) (N : Nat) : (tabT l N).length = N := by simp [tabT]; omega
theorem tabT_all {l : List Nat} {N : Nat} {p : Nat → Prop} (h : ∀ b ∈ l, p b) (h0 : p 0) : ∀ b ∈ tabT l N, p b := by
  intro b hb
  unfold tabT at hb
  rcases List.mem_append.1 hb with h1 | h1
  · exact h b (List.mem_of_mem_take h1)
  · have := List.mem_of_mem_drop h1
    rw [List.eq_of_mem_replicate this]
    exact h0
/-- What copy comes to. -/
theorem run_copy_chg (W : World) (ty : TypeId) (g N nl cl : Nat) (A : Option Addr) (l : List Nat) (hg : Blk W g 22 (f64s (List.replicate N 0)).toArray) (hl : l.length = nl) (hA : Row W A (f64s l)) :
    ∃ k W', (Builtin.copy_ #[23, 23] ty #[.slice (some ⟨g, 0, none⟩) N N, .slice A nl cl]).run Try.prog W = .ok (goInt k) W' ∧ Blk W' g 22 (f64s (tabT l N)).toArray ∧ Chg [g] W W' := by
  have hz : (f64s (List.replicate N 0)).toArray.size = N := by simp [f64s]
  by_cases h0 : min nl N = 0
  · refine ⟨0, W, run_copy_none W _ _ _ 22 _ _ _ _ _ _ Try.underlying23 info1_f64 h0, ?_, Chg.refl _ _⟩
    have e : tabT l N = List.replicate N 0 := by unfold tabT; rw [hl, h0]; simp
    rw [e]; exact hg
  · rcases hA with h | ⟨b, o, rfl, hc⟩
    · have : l = [] := by simpa [f64s] using h
      subst this; simp at hl; omega
    · have hlen : (f64s (l.take (min nl N))).length = min nl N := by simp only [f64s, List.length_map, List.length_take]; omega
      have h1 := run_copy_row (P := Try.prog) W 23 23 ty 22 g 0 N N ⟨b, o, none⟩ nl cl _ 22 (f64s (l.take (min nl N))) Try.underlying23 info1_f64 hg hlen (fun j v h => by
        have e1 : f64s (l.take (min nl N)) = (f64s l).take (min nl N) := by simp [f64s]
        rw [e1, List.getElem?_take] at h
        split at h
        · have := hc j v h
          rw [addr_at]; exact this
        · cases h) (by rw [hlen, hz]; omega) (one_cells _)
      have e : ((f64s (List.replicate N 0)).toArray.toList.take 0 ++ f64s (l.take (min nl N)) ++ (f64s (List.replicate N 0)).toArray.toList.drop (0 + (f64s (l.take (min nl N))).length)).toArray = (f64s (tabT l N)).toArray := by
        rw [hlen, Nat.zero_add]
        unfold tabT
        rw [hl]
        simp [f64s]
      rw [e] at h1
      exact ⟨_, _, h1, setRow_heap W g _ _ _ _ hg, ⟨rfl, rfl, rfl, by simp, fun k hk hne => setRow_other W g k _ (by simpa using hne)⟩⟩
/-- A number of the matrix that is laid, by columns. -/
theorem dense_at {T M : List Nat} {r n i k : Nat} (h : Dense T r n M) (hi : i < r) (hk : k < n) : M.getD (0 + k * r + i) 0 = T.getD (i * n + k) 0 := by
  have h1 := tab_lt hi hk
  have h2 := h.2 _ h1
  have e1 : (i * n + k) / n = i := by
    rw [Nat.mul_comm, Nat.mul_add_div (by omega), Nat.div_eq_of_lt hk, Nat.add_zero]
  have e2 : (i * n + k) % n = k := by
    rw [Nat.mul_comm, Nat.mul_add_mod, Nat.mod_eq_of_lt hk]
  unfold spot at h2
  rw [e1, e2] at h2
  rw [Nat.zero_add, Nat.add_comm]
  exact h2
theorem fin_at {l : List Nat} (h : l.all Fl.fin = true) (k : Nat) : Fl.rung (l.getD k 0) < Fl.INF := by
  by_cases e : k < l.length
  · rw [getD_of_lt e]
    exact of_decide_eq_true (List.all_eq_true.1 h _ (List.getElem_mem e))
  · have : l.getD k 0 = 0 := by simp [List.getD, e]
    rw [this]; decide
theorem bx_open {W : World} {g : Nat} {d : Dyadic} (h : Bx W g d) : ∃ (neg : Bool) (A : Option Addr) (n c : Nat) (E : Int), Blk W g 52 #[.bool neg, .slice A n c, .int .i64 E] ∧ ∀ W', Below W.heap.size W W' → DV W' (.agg #[.bool neg, .slice A n c, .int .i64 E]) d := by
  obtain ⟨neg, A, n, c, E, l, h1, h2, h3, h4⟩ := h
  exact ⟨neg, A, n, c, E, h1, fun W' hb => ⟨neg, A, n, c, E, l, rfl, h2.below hb, h3, h4⟩⟩
theorem Bx.chg {W W' : World} {g p : Nat} {d : Dyadic} {t : TypeId} {cs : Array Value} (h : Bx W g d) (hne : g ≠ p) (hB : Blk W p t cs) (ht : t ≠ 3) (hc : Chg [p] W W') : Bx W' g d := by
  obtain ⟨neg, A, n, c, E, l, h1, h2, h3, h4⟩ := h
  refine ⟨neg, A, n, c, E, l, hc.blk (by simpa using hne) h1, ⟨h2.1, h2.2.1, ?_, h2.2.2.2.1, ?_⟩, h3, h4⟩
  · by_cases hl : l = []
    · subst hl; exact .inl rfl
    · refine hc.row (fun b o e hb => ?_) h2.2.2.1
      have hI := h2.2.2.2.2 b o e hl
      obtain rfl : b = p := by simpa using hb
      exact hI.ne hB ht rfl
  · intro b o e hl
    have hI := h2.2.2.2.2 b o e hl
    have hne2 : b ≠ p := hI.ne hB ht
    obtain ⟨cs2, fr, hI2⟩ := hI
    exact ⟨cs2, fr, (hc.block b (IntB.lt ⟨cs2, fr, hI2⟩) (by simpa using hne2)).trans hI2⟩
end Go.Proofs.Ytodoibioedelgaa
/-
GemvClose, the call that it is about. Conditions: as it says.
-/
set_option linter.unusedVariables false
set_option linter.unusedSimpArgs false
set_option linter.unnecessarySimpa false
namespace Go.Proofs.Ytodoibioedelgaa
open Go.RowKit
attribute [local go_sem ↓] Go.wp_at_zero Go.wp_at_succ


theorem dense_wds {T M : List Nat} {r n : Nat} (h : Dense T r n M) (hW : Wds T) : Wds M := by
  intro b hb
  obtain ⟨j, hj, rfl⟩ := List.getElem_of_mem hb
  rw [h.1] at hj
  have hr : 0 < r := by
    rcases Nat.eq_zero_or_pos r with e | e
    · rw [e, Nat.zero_mul] at hj; omega
    · exact e
  have h1 := dense_at h (Nat.mod_lt j hr) ((Nat.div_lt_iff_lt_mul hr).2 (by rw [Nat.mul_comm]; exact hj))
  have e : 0 + j / r * r + j % r = j := by rw [Nat.zero_add, Nat.mul_comm]; exact Nat.div_add_mod j r
  rw [e, getD_of_lt (by rw [h.1]; exact hj)] at h1
  rw [h1]
  exact getD_wds hW _
theorem gc_ints {q n : Nat} (hq : q < 256) (hn : 1 + q % 12 = n) : ∃ s : Nat, Hid (Int.tmod (q : Int) 12 = (s : Int) ∧ (1 : Int) + (s : Int) = (n : Int) ∧ (wrap64 (s : Int) = (s : Int) ∧ IntKind.i64.wrap (s : Int) = (s : Int)) ∧ (wrap64 (n : Int) = (n : Int) ∧ IntKind.i64.wrap (n : Int) = (n : Int)) ∧ (wrap64 (q : Int) = (q : Int) ∧ IntKind.i64.wrap (q : Int) = (q : Int))) := by
  have h1 : q % 12 < 1048578 := by omega
  have h2 : n < 1048578 := by omega
  have h3 : q < 1048578 := by omega
  refine ⟨q % 12, Lib.hid ⟨by rw [Int.tmod_eq_emod_of_nonneg (by omega)]; omega, by omega, wr2 h1, wr2 h2, wr2 h3⟩⟩
set_option maxHeartbeats 1000000 in
theorem gcmul_any (r n N cz gz gM : Nat) (T M x y : List Nat) (bx0 xx0 nx cx : Nat) (W : World) (hN : r * n = N) (h2 : 1 ≤ r) (h3 : r ≤ 12) (hn1 : 1 ≤ n) (hn2 : n ≤ 12) (h1 : n ≤ nx) (h4 : nx ≤ 60) (hx : x.length = nx) (hy : y.length = r) (hWx : Wds x) (hWy : Wds y) (hWT : Wds T)
    (hDn : Dense T r n M) (hz : Own W gz y) (hM : Own W gM M) (hxr : Row W (some ⟨bx0, xx0, none⟩) (f64s x)) (hfx : W.frozen? ⟨bx0, xx0, none⟩ = false) (hne1 : gM ≠ gz) (hne2 : bx0 ≠ gz) :
    Calls Try.prog 12 #[.float .f64 4607182418800017408, .agg #[.slice (some ⟨gM, 0, none⟩) N N, .int .i64 (0 : Int), .int .i64 (r : Int), .int .i64 (n : Int), .int .i64 (r : Int)], .agg #[.slice (some ⟨bx0, xx0, none⟩) nx cx, .int .i64 0, .int .i64 n, .int .i64 1], .float .f64 4607182418800017408, .agg #[.slice (some ⟨gz, 0, none⟩) r cz, .int .i64 0, .int .i64 r, .int .i64 1]] W fun e w' => e = .returned (.int .i64 0) ∧
      ∃ m : List Nat, (m.length = r ∧ ∀ i, i < r → Is (m.getD i 0) (chnF (begF ONE (y.getD i 0)) (fun k => fbin .mul (fbin .mul ONE (x.getD k 0)) (T.getD (i * n + k) 0)) n)) ∧ Own w' gz m ∧ Chg [gz] W w' := by
  have hMl : M.length = N := by rw [← hN]; exact hDn.1
  have hNb : N ≤ 144 := by rw [← hN]; exact Nat.le_trans (Nat.mul_le_mul h3 hn2) (by omega)
  have hmr : r = 0 ∨ n = 0 ∨ 0 + (n - 1) * r + (r - 1) < N := by
    right; right
    have e : (n - 1) * r + r = N := by rw [← Nat.succ_mul, ← hN, Nat.mul_comm r]; congr 1; omega
    generalize (n - 1) * r = u at *
    omega
  have z0 : I64 ((0 : Nat) : Int) := by unfold I64; omega
  have z1 : I64 ((1 : Nat) : Int) := by unfold I64; omega
  have zr : I64 (r : Int) := by unfold I64; omega
  have zn : I64 (n : Int) := by unfold I64; omega
  refine (show Calls Try.prog 12 #[.float .f64 4607182418800017408, .agg #[.slice (some ⟨gM, 0, none⟩) N N, .int .i64 (0 : Int), .int .i64 (r : Int), .int .i64 (n : Int), .int .i64 (r : Int)], .agg #[.slice (some ⟨bx0, xx0, none⟩) nx cx, .int .i64 0, .int .i64 n, .int .i64 1], .float .f64 4607182418800017408, .agg #[.slice (some ⟨gz, 0, none⟩) r cz, .int .i64 0, .int .i64 r, .int .i64 1]] W _ from
    gvmul_ok2 4607182418800017408 4607182418800017408 gz cz r y 0 r 1 gM N N M 0 n r bx0 xx0 cx nx x 0 1 W hz hy (by omega) (by omega) (.inr (by omega)) hM hMl (by omega) h2 (Nat.le_refl _) hmr (dense_wds hDn hWT) hxr hx (by omega) (by omega) (.inr (by omega)) hWx z0 zr z0 z1 (by omega) (by omega) (fun e => (hne1 e).elim) hne2 (fun W' hb =>
      gvfits_ok (some ⟨gM, 0, none⟩) N N ((0 : Nat) : Int) r n r (some ⟨bx0, xx0, none⟩) nx cx ((0 : Nat) : Int) n ((1 : Nat) : Int) (some ⟨gz, 0, none⟩) r cz ((0 : Nat) : Int) r ((1 : Nat) : Int) W' (by omega) z0 zr zn zr (by omega) z0 zn z1 (by omega) z0 zr z1
        (by rw [mat_right h2 (Nat.le_refl _) hmr, vec_right (o := 0) (K := n) (i := 1) (n := nx) (by omega) (.inr (by omega)), vec_right (o := 0) (K := r) (i := 1) (n := r) (by omega) (.inr (by omega))]; rfl)
        (fun W2 hb2 => by
          have := meet_own gz gM cz N y M ((0 : Nat) : Int) 1 (r : Int) ((1 : Nat) : Int) ((0 : Nat) : Int) (r : Int) (n : Int) (r : Int) W2 (hz.nxt (below_nx hb hb2)) (hM.nxt (below_nx hb hb2)) (by omega) z0 (by unfold I64; omega) zr z1 (by omega) z0 zr zn zr
          rw [show decide (gz = gM) = false from decide_eq_false (fun e => hne1 e.symm), Bool.and_false, Bool.false_and, hy, hMl] at this
          exact this)
        (fun W2 hb2 => meet_mine gz cz y r ((0 : Nat) : Int) 1 (r : Int) ((1 : Nat) : Int) (some ⟨bx0, xx0, none⟩) nx cx x ((0 : Nat) : Int) 1 (n : Int) ((1 : Nat) : Int) W2 (hz.nxt (below_nx hb hb2)) hy (hxr.below (below_nx hb hb2)) hx
          (fun b o e _ => by
            injection e with e; injection e with e1 e2
            subst e1 e2
            have hlt : bx0 < W.heap.size := by
              obtain ⟨b2, o2, e, hc⟩ := hxr.get0 (k := 0) (by omega)
              injection e with e; injection e with e1 e2
              subst e1
              exact block_lt hc
            exact frz_below hfx hlt (below_nx hb hb2))
          (fun b o e _ => by injection e with e; injection e with e1 e2; rw [← e1]; exact hne2) (by omega) (by omega) z0 (by unfold I64; omega) zr z1 z0 (by unfold I64; omega) zn z1))).mono ?_
  rintro e w' ⟨rfl, m, k1, k2, k3, k4⟩
  rw [wrt_whole y m r hy k1] at k3
  refine ⟨rfl, m, ⟨k1, fun i hi => ?_⟩, k3, k4⟩
  have := (k2 i hi).is_ (by omega) (by omega) hWy (dense_wds hDn hWT) hWx
  rw [Nat.zero_add, Nat.mul_one] at this
  rw [chnF_congr (begF ONE (y.getD i 0)) (f := fun k => fbin .mul (fbin .mul ONE (x.getD k 0)) (T.getD (i * n + k) 0)) (f' := fun k => fbin .mul (fbin .mul 4607182418800017408 (x.getD (0 + k * 1) 0)) (M.getD (0 + k * r + i) 0)) n (fun j hj => by
    show fbin .mul (fbin .mul ONE (x.getD j 0)) (T.getD (i * n + j) 0) = fbin .mul (fbin .mul 4607182418800017408 (x.getD (0 + j * 1) 0)) (M.getD (0 + j * r + i) 0)
    rw [dense_at hDn hi hj, Nat.zero_add, Nat.mul_one]; rfl)]
  exact this
end Go.Proofs.Ytodoibioedelgaa
/-
GemvClose, walked where its premises hold. Conditions: as it says.
-/
set_option linter.unusedVariables false
set_option linter.unusedSimpArgs false
set_option linter.unnecessarySimpa false
namespace Go.Proofs.Ytodoibioedelgaa
open Go.RowKit
attribute [local go_sem ↓] Go.wp_at_zero Go.wp_at_succ


set_option maxRecDepth 100000 in
set_option maxHeartbeats 4000000 in
theorem gemvClose_good (Al : Option Addr) (nl cl : Nat) (l : List Nat) (Ax : Option Addr) (nx cx : Nat) (x : List Nat) (Ay : Option Addr) (r cy : Nat) (y : List Nat) (q n : Nat) (w : World) (hAl : Row w Al (f64s l)) (hAx : Row w Ax (f64s x)) (hAy : Row w Ay (f64s y)) (hWl : Wds l) (hWx : Wds x) (hWy : Wds y) (hl : l.length = nl) (hx : x.length = nx) (hy : y.length = r)
    (hq : q < 256) (hn : 1 + q % 12 = n) (h1 : n ≤ nx) (h2 : 1 ≤ r) (h3 : r ≤ 12) (h4 : nx ≤ 60) (h5 : nl ≤ 200) (hfl : l.all Fl.fin = true) (hfx : x.all Fl.fin = true) (hfy : y.all Fl.fin = true) (hfz : ∀ b o, Ax = some ⟨b, o, none⟩ → w.frozen? ⟨b, o, none⟩ = false) :
    Calls Try.prog 4 #[.slice Al nl cl, .slice Ax nx cx, .slice Ay r cy, .int .u8 (q : Int)] w fun e w' => e = .returned (.bool true) ∧ Below w.heap.size w w' := by
  have hn1 : 1 ≤ n := by omega
  have hn2 : n ≤ 12 := by omega
  obtain ⟨bx0, xx0, rfl, _⟩ := hAx.get0 (k := 0) (by omega)
  obtain ⟨by0, yy0, rfl, _⟩ := hAy.get0 (k := 0) (by omega)
  have hfz0 := hfz _ _ rfl
  have hbx : bx0 < w.heap.size := by
    obtain ⟨b2, o2, e, hc⟩ := hAx.get0 (k := 0) (by omega)
    injection e with e; injection e with e1 e2
    subst e1
    exact block_lt hc
  obtain ⟨s, HU⟩ := gc_ints hq hn
  have d1 : decide ((nx : Int) < (n : Int)) = false := by simp; omega
  have d2 : decide (nx < n) = false := by simp; omega
  have d3 : ((r : Int) == 0) = false := by simp; omega
  have d4 : (r == 0) = false := by simp; omega
  have d5 : decide ((12 : Int) < (r : Int)) = false := by simp; omega
  have d6 : decide ((60 : Int) < (nx : Int)) = false := by simp; omega
  have d7 : decide ((200 : Int) < (nl : Int)) = false := by simp; omega
  obtain ⟨N, hN⟩ : ∃ N, r * n = N := ⟨_, rfl⟩
  have hNb : N ≤ 144 := by rw [← hN]; exact Nat.le_trans (Nat.mul_le_mul h3 hn2) (by omega)
  have HNh := Lib.hid hN
  clear hN
  have HFl := Lib.hid (fun W (hb : Below w.heap.size w W) => show Calls Try.prog 23 #[.slice Al nl cl] W fun e w' => e = .returned (.bool true) ∧ W = w' from by
    have := rfin_any Al nl cl l W (hAl.below hb) hWl hl (by omega)
    rw [hfl] at this; exact this)
  have HFx := Lib.hid (fun W (hb : Below w.heap.size w W) => show Calls Try.prog 23 #[.slice (some ⟨bx0, xx0, none⟩) nx cx] W fun e w' => e = .returned (.bool true) ∧ W = w' from by
    have := rfin_any (some ⟨bx0, xx0, none⟩) nx cx x W (hAx.below hb) hWx hx (by omega)
    rw [hfx] at this; exact this)
  have HFy := Lib.hid (fun W (hb : Below w.heap.size w W) => show Calls Try.prog 23 #[.slice (some ⟨by0, yy0, none⟩) r cy] W fun e w' => e = .returned (.bool true) ∧ W = w' from by
    have := rfin_any (some ⟨by0, yy0, none⟩) r cy y W (hAy.below hb) hWy hy (by omega)
    rw [hfy] at this; exact this)
  have HNw := Lib.hid (fun W => show Calls Try.prog 24 #[.int .i64 r, .int .i64 n] W fun e w' => ∃ gT, e = .returned (.agg #[.int .i64 (r : Int), .int .i64 (n : Int), .slice (some ⟨gT, 0, none⟩) N N]) ∧ Blk w' gT 22 (f64s (List.replicate N 0)).toArray ∧ W.heap.size ≤ gT ∧ Below W.heap.size W w' from
    rnew_any r n N W HNh.out (by omega) (by omega) (by omega))
  obtain ⟨T, hTd⟩ : ∃ T, tabT l N = T := ⟨_, rfl⟩
  have hTl : T.length = N := by rw [← hTd]; exact tabT_length l N
  have hWT : Wds T := by rw [← hTd]; exact tabT_all hWl (by omega)
  have hTf : T.all Fl.fin = true := by
    rw [← hTd]
    refine List.all_eq_true.2 (tabT_all (p := fun b => Fl.fin b = true) (fun b hb => List.all_eq_true.1 hfl b hb) (by decide))
  have HCp := Lib.hid (fun W (gT : Nat) (hb : Below w.heap.size w W) (hg : Blk W gT 22 (f64s (List.replicate N 0)).toArray) => run_copy_chg W 3 gT N nl cl Al l hg hl (hAl.below hb))
  rw [hTd] at HCp
  have HDn := Lib.hid (fun W (gT : Nat) (hR : Row W (some ⟨gT, 0, none⟩) (f64s T)) => show Calls Try.prog 25 #[.int .i64 r, .int .i64 n, .slice (some ⟨gT, 0, none⟩) N N] W fun e w' => ∃ gM M, e = .returned (.agg #[.slice (some ⟨gM, 0, none⟩) N N, .int .i64 (0 : Int), .int .i64 (r : Int), .int .i64 (n : Int), .int .i64 (r : Int)]) ∧ Dense T r n M ∧ Own w' gM M ∧ W.heap.size ≤ gM ∧ Below W.heap.size W w' from by
    have := dense_blk (some ⟨gT, 0, none⟩) N T r n W (by omega) (by omega) hR (by omega) (by omega)
    rw [hTl, HNh.out, Nat.max_eq_right h2] at this
    exact this.mono fun e w' ⟨g, M, e1, e2, e3, e4, e5⟩ => ⟨g, M, e1, e2, own_blk e3, e4, e5⟩)
  have HCy := Lib.hid (fun W (hb : Below w.heap.size w W) => show Calls Try.prog 9 #[.slice (some ⟨by0, yy0, none⟩) r cy] W fun e w' => ∃ g c', e = .returned (.slice (some ⟨g, 0, none⟩) r c') ∧ Own w' g y ∧ W.heap.size ≤ g ∧ Below W.heap.size W w' from by
    have := rcopy_any (some ⟨by0, yy0, none⟩) cy y W (hAy.below hb) (by omega)
    rw [hy] at this
    exact this.mono fun e w' ⟨g, c', e1, e2, e3, _, _, e4⟩ => ⟨g, c', e1, e2, e3, e4⟩)
  have HMu := Lib.hid (fun W (cz gz gM : Nat) (M : List Nat) (hb : Below w.heap.size w W) (hDn : Dense T r n M) (hz : Own W gz y) (hM : Own W gM M) (hne1 : gM ≠ gz) (hne2 : w.heap.size ≤ gz) =>
    gcmul_any r n N cz gz gM T M x y bx0 xx0 nx cx W HNh.out h2 h3 hn1 hn2 h1 h4 hx hy hWx hWy hWT hDn hz hM (hAx.below hb) (frz_below hfz0 hbx hb) hne1 (by omega))
  have HFm := Lib.hid (fun W (B : Option Addr) (d : Nat) (m : List Nat) (hm : m.length = r) (hWm : Wds m) (hB : Row W B (f64s m)) => rfin_any B r d m W hB hWm hm (by omega))
  have HAt0 := Lib.hid (fun W (gT i j : Nat) (hi : i < r) (hj : j < n) (h : Row W (some ⟨gT, 0, none⟩) (f64s T)) => rat7_any r n gT N N T i j W h hTl (by omega) (by rw [← HNh.out]; exact tab_lt hi hj))
  have HPu := Lib.hid (fun (i z : Nat) (hz : Fl.rung z < Fl.INF) (h : Is z (chnF (begF ONE (y.getD i 0)) (fun k => fbin .mul (fbin .mul ONE (x.getD k 0)) (T.getD (i * n + k) 0)) n)) =>
    gemv_cmp (gemv_close (by omega) (fin_at hfy i) (fun k _ => fin_at hfx k) hz h))
  have HEs := Lib.hid (fun i k (hk : k ≤ n) => ed_sz (y := y.getD i 0) (t := fun k => T.getD (i * n + k) 0) (x := fun k => x.getD k 0) (n := n) (fin_at hfy i) (fun k _ => fin_at hTf _) (fun k _ => fin_at hfx k) k hk)
  have HVf := Lib.hid (show (∀ k, y.getD k 0 < 18446744073709551616 ∧ Fl.rung (y.getD k 0) < Fl.INF) ∧ (∀ k, x.getD k 0 < 18446744073709551616 ∧ Fl.rung (x.getD k 0) < Fl.INF) ∧ ∀ k, T.getD k 0 < 18446744073709551616 ∧ Fl.rung (T.getD k 0) < Fl.INF from ⟨fun k => ⟨getD_wds hWy k, fin_at hfy k⟩, fun k => ⟨getD_wds hWx k, fin_at hfx k⟩, fun k => ⟨getD_wds hWT k, fin_at hTf k⟩⟩)
  have HAx := Lib.hid hAx
  have HAy := Lib.hid hAy
  have HLn := Lib.hid (show x.length = nx ∧ y.length = r ∧ n ≤ nx ∧ T.length = N ∧ r ≤ 12 ∧ n ≤ 12 from ⟨hx, hy, h1, hTl, h3, hn2⟩)
  clear hAl hAx hAy hWl hWx hWy hl hx hy hq hn h1 h2 h4 h5 hfl hfx hfy hfz hfz0 hbx hNb hTd hTl hWT hTf h3 hn1
  obtain ⟨c1, c2, ⟨u1, u2⟩, ⟨u3, u4⟩, ⟨u5, u6⟩⟩ := HU.out
  go_enter Try.func4, Try.ntmps4
  go_wp2_with fail
  refine (awake7_any _).mono ?_
  rintro e w1 ⟨rfl, hb⟩
  have HB1 := Lib.hid hb
  clear hb
  go_wp2_with fail
  clear c1 c2 u1 u2 u3 u4 u5 u6
  refine (HFl.out _ HB1.out).mono ?_
  rintro e w1b ⟨rfl, rfl⟩
  go_wp2_with fail
  refine (HFx.out _ HB1.out).mono ?_
  rintro e w1b ⟨rfl, rfl⟩
  go_wp2_with fail
  refine (HFy.out _ HB1.out).mono ?_
  rintro e w1b ⟨rfl, rfl⟩
  go_wp2_with fail
  refine (HNw.out _).mono ?_
  rintro e w2 ⟨gT, rfl, hTb, hgT, hb⟩
  have HB2 := Lib.hid (below_nx HB1.out hb)
  have HTb := Lib.hid (hTb.alloc (.cells #[.int .i64 (r : Int), .int .i64 (n : Int), .slice (some ⟨gT, 0, none⟩) N N] 40))
  have HPt := Lib.hid (Blk.new w2 40 #[.int .i64 (r : Int), .int .i64 (n : Int), .slice (some ⟨gT, 0, none⟩) N N])
  have HBA := Lib.hid (below_al HB2.out (o := (.cells #[.int .i64 (r : Int), .int .i64 (n : Int), .slice (some ⟨gT, 0, none⟩) N N] 40)))
  have HgT := Lib.hid (show gT ≠ w2.heap.size ∧ w.heap.size ≤ gT from ⟨by have := hTb.lt; omega, by have := HB1.out.size; omega⟩)
  obtain ⟨t0, t1, t2⟩ := cells3v HPt.out
  obtain ⟨kc, w3, hcpA, hTb3, hc3⟩ := HCp.out _ gT HBA.out HTb.out
  clear hTb hgT hb
  have HTb3 := Lib.hid hTb3
  have HPt3 := Lib.hid (hc3.blk (by simpa using fun e => HgT.out.1 e.symm) HPt.out)
  have HB3 := Lib.hid (hc3.below HBA.out HBA.out.size (by intro g hg; simp at hg; subst hg; exact HgT.out.2))
  clear hTb3 hc3
  obtain ⟨s0, s1, s2⟩ := cells3v HPt3.out
  go_wp2_with fail
  refine (HDn.out _ _ (row_of_blk HTb3.out)).mono ?_
  rintro e w4 ⟨gM, M, rfl, hDn, hM, hgM, hb⟩
  have HPt4 := Lib.hid ((HPt3.out.nxt hb).alloc (.cells #[.slice (some ⟨gM, 0, none⟩) N N, .int .i64 (0 : Int), .int .i64 (r : Int), .int .i64 (n : Int), .int .i64 (r : Int)] 25))
  have HTb4 := Lib.hid ((HTb3.out.nxt hb).alloc (.cells #[.slice (some ⟨gM, 0, none⟩) N N, .int .i64 (0 : Int), .int .i64 (r : Int), .int .i64 (n : Int), .int .i64 (r : Int)] 25))
  have HM4 := Lib.hid (hM.nxt (below_one (o := (.cells #[.slice (some ⟨gM, 0, none⟩) N N, .int .i64 (0 : Int), .int .i64 (r : Int), .int .i64 (n : Int), .int .i64 (r : Int)] 25))))
  have HPm4 := Lib.hid (Blk.new w4 25 #[.slice (some ⟨gM, 0, none⟩) N N, .int .i64 (0 : Int), .int .i64 (r : Int), .int .i64 (n : Int), .int .i64 (r : Int)])
  have HB4 := Lib.hid (below_al (below_nx HB3.out hb) (o := (.cells #[.slice (some ⟨gM, 0, none⟩) N N, .int .i64 (0 : Int), .int .i64 (r : Int), .int .i64 (n : Int), .int .i64 (r : Int)] 25)))
  have HDM := Lib.hid hDn
  clear hDn hM hgM hb t0 t1 t2 s0 s1 s2 hcpA
  generalize w2.heap.size = pt at *
  go_wp2_with fail
  refine (HCy.out _ HB4.out).mono ?_
  rintro e w5 ⟨gz, cz, rfl, hz, hgz, hb⟩
  have HPt5 := Lib.hid (HPt4.out.nxt hb)
  have HTb5 := Lib.hid (HTb4.out.nxt hb)
  have HM5 := Lib.hid (HM4.out.nxt hb)
  have HPm5 := Lib.hid (HPm4.out.nxt hb)
  have HB5 := Lib.hid (below_nx HB4.out hb)
  have HZ5 := Lib.hid hz
  have HNz := Lib.hid (show gM ≠ gz ∧ pt ≠ gz ∧ gT ≠ gz ∧ w.heap.size ≤ gz from ⟨by have := HM4.out.lt; omega, by have := HPt4.out.lt; omega, by have := HTb4.out.lt; omega, by have := HB4.out.size; omega⟩)
  clear hz hgz hb
  obtain ⟨m0, m1, m2, m3, m4⟩ := cells5 HPm5.out
  go_wp2_with fail
  refine (HMu.out _ cz gz gM M HB5.out HDM.out HZ5.out HM5.out HNz.out.1 HNz.out.2.2.2).mono ?_
  rintro e w6 ⟨rfl, m, hm, ho, hc⟩
  have HPt6 := Lib.hid (hc.blk (by simpa using HNz.out.2.1) HPt5.out)
  have HTr6 := Lib.hid (row_of_blk (hc.blk (by simpa using HNz.out.2.2.1) HTb5.out))
  have HZ6 := Lib.hid ho
  have HB6 := Lib.hid (hc.below HB5.out HB5.out.size (by intro g hg; simp at hg; subst hg; exact HNz.out.2.2.2))
  have HMm := Lib.hid hm
  have hWm : Wds m := by
    intro b hb
    obtain ⟨j, hj, rfl⟩ := List.getElem_of_mem hb
    have := (HMm.out.2 j (by rw [← HMm.out.1]; exact hj)).lt
    rwa [getD_of_lt hj] at this
  have HWm := Lib.hid hWm
  clear hm ho hc hWm m0 m1 m2 m3 m4
  go_wp2_with fail
  refine (HFm.out _ _ _ m HMm.out.1 HWm.out HZ6.out.row).mono ?_
  rintro e w6b ⟨rfl, rfl⟩
  obtain ⟨fb, hfb⟩ : ∃ fb, m.all Fl.fin = fb := ⟨_, rfl⟩
  rw [hfb]
  have HFb := Lib.hid hfb
  clear hfb
  cases fb
  · go_wp2_with fail
    refine (awake7_any _).mono ?_
    rintro e w9 ⟨rfl, hb⟩
    have HB9 := Lib.hid (below_nx HB6.out hb)
    clear hb
    go_wp2_with fail
    go_ret
    exact ⟨rfl, HB9.out⟩
  go_wp2_with fail
  go_loopw [13] (fun a wr => ∃ i : Nat, i ≤ r ∧ a = .int .i64 i ∧ Hid (Below w6.heap.size w6 wr)) (fun a _ => r - (intOf a).toNat)
  case atStart => exact ⟨0, Nat.zero_le _, rfl, Lib.hid (Below.refl _ _)⟩
  case round =>
    obtain ⟨i, hi, rfl, HBr⟩ := hrel
    by_cases hlt : i < r
    · have hic : (i : Int) < (r : Int) := by omega
      have hi1 : i + 1 ≤ 1048576 := by have := HLn.out.2.2.2.2.1; omega
      have bi : i < r := hlt
      have bz : i < r := hlt
      have hcy := HAy.out.below (below_nx HB6.out HBr.out)
      obtain ⟨b9, o9, e9, hcy⟩ := hcy.get0 (k := i) (by rw [HLn.out.2.1]; exact hlt)
      injection e9 with e9
      injection e9 with e91 e92
      subst e91 e92
      obtain ⟨tf, htf⟩ : ∃ tf : Nat → Nat, (fun k => T.getD (i * n + k) 0) = tf := ⟨_, rfl⟩
      obtain ⟨xf, hxf⟩ : ∃ xf : Nat → Nat, (fun k => x.getD k 0) = xf := ⟨_, rfl⟩
      have HEi := Lib.hid (HEs.out i)
      have hpu := HPu.out i
      have hmi := HMm.out.2 i hlt
      have hfy := HVf.out.1 i
      obtain ⟨yv, hyv⟩ : ∃ yv, y.getD i 0 = yv := ⟨_, rfl⟩
      rw [htf, hxf, hyv] at HEi
      rw [htf, hxf, hyv] at hpu
      rw [hyv] at hcy hmi hfy
      have HYc := Lib.hid hcy
      have HFy := Lib.hid hfy
      have HPi := Lib.hid hpu
      have HMi := Lib.hid hmi
      have HTf := Lib.hid (show ∀ k, tf k = T.getD (i * n + k) 0 from fun k => by rw [← htf])
      have HXf := Lib.hid (show ∀ k, xf k = x.getD k 0 from fun k => by rw [← hxf])
      clear hcy hfy hpu hmi hyv htf hxf
      go_wp2_with fail
      generalize wr = wo at *
      refine wp_region_inv [101, 102, 103, 104, 105, 106, 107, 108, 109, 110, 111, 14, 15] (fun d s W => (d 0 = true → s 101 = .slice (some ⟨by0, yy0, none⟩) r cy) ∧ (d 1 = true → s 102 = .int .i64 (i : Int)) ∧ (d 2 = true → s 103 = .pointer (some ⟨by0, yy0 + i, none⟩)) ∧ (d 3 = true → s 104 = .float .f64 yv) ∧ (d 4 = true → DV W (s 105) (fdy yv)) ∧ (d 5 = true → s 106 = .slice (some ⟨by0, yy0, none⟩) r cy) ∧ (d 6 = true → s 107 = .int .i64 (i : Int)) ∧ (d 7 = true → s 108 = .pointer (some ⟨by0, yy0 + i, none⟩)) ∧ (d 8 = true → s 109 = .float .f64 yv) ∧ (d 9 = true → DV W (s 110) (fdy yv)) ∧ (d 10 = true → DV W (s 111) (dabs (fdy yv))) ∧ (d 11 = true → NewB W (s 14) wo.heap.size) ∧ (d 12 = true → NewB W (s 15) wo.heap.size) ∧ (d 13 = true → BxP W (s 14) wo.heap.size (fdy yv)) ∧ (d 14 = true → BxP W (s 15) wo.heap.size (dabs (fdy yv))) ∧ (d 13 = true → d 11 = true) ∧ (d 14 = true → d 12 = true) ∧ (d 11 = true → d 12 = true → s 14 ≠ s 15) ∧ Below wo.heap.size wo W)
        rfl (by kernel_rfl) ?_ ?_ ?_
      · exact ⟨by simp, by simp, by simp, by simp, by simp, by simp, by simp, by simp, by simp, by simp, by simp, by simp, by simp, by simp, by simp, by simp, by simp, by simp, (Below.refl _ _).drew⟩
      · refine ⟨?_, ?_, ?_, ?_, ?_, ?_, ?_, ?_, ?_, ?_, ?_, ?_, ?_, ?_, ?_, trivial⟩
        all_goals
          intro d s W hJ hfr hd hdep
          simp only [List.mem_cons, forall_eq_or_imp, List.not_mem_nil, false_implies, implies_true, and_true, Region.binds] at hdep
          have f2 := hfr 2 (by decide)
          have f13 := hfr 13 (by decide)
          simp at f2 f13 hdep
          obtain ⟨h0, h1, h2, h3, h4, h5, h6, h7, h8, h9, h10, h11, h12, h13, h14, x0, x1, x2, hT⟩ := hJ
        · unfold OpSteps
          simp [go_sem, evS, f2]
          exact ⟨fun _ => by simp [sput], fun h => by simpa [sput] using h1 (by simpa [did] using h), fun h => by simpa [sput] using h2 (by simpa [did] using h), fun h => by simpa [sput] using h3 (by simpa [did] using h), fun h => by simpa [sput] using h4 (by simpa [did] using h), fun h => by simpa [sput] using h5 (by simpa [did] using h), fun h => by simpa [sput] using h6 (by simpa [did] using h), fun h => by simpa [sput] using h7 (by simpa [did] using h), fun h => by simpa [sput] using h8 (by simpa [did] using h), fun h => by simpa [sput] using h9 (by simpa [did] using h), fun h => by simpa [sput] using h10 (by simpa [did] using h), fun h => by simpa [sput] using h11 (by simpa [did] using h), fun h => by simpa [sput] using h12 (by simpa [did] using h), fun h => by simpa [sput] using h13 (by simpa [did] using h), fun h => by simpa [sput] using h14 (by simpa [did] using h), by simpa [sput, did] using x0, by simpa [sput, did] using x1, by simpa [sput, did] using x2, hT⟩
        · unfold OpSteps
          simp [go_sem, evS, f13]
          exact ⟨fun h => by simpa [sput] using h0 (by simpa [did] using h), fun _ => by simp [sput], fun h => by simpa [sput] using h2 (by simpa [did] using h), fun h => by simpa [sput] using h3 (by simpa [did] using h), fun h => by simpa [sput] using h4 (by simpa [did] using h), fun h => by simpa [sput] using h5 (by simpa [did] using h), fun h => by simpa [sput] using h6 (by simpa [did] using h), fun h => by simpa [sput] using h7 (by simpa [did] using h), fun h => by simpa [sput] using h8 (by simpa [did] using h), fun h => by simpa [sput] using h9 (by simpa [did] using h), fun h => by simpa [sput] using h10 (by simpa [did] using h), fun h => by simpa [sput] using h11 (by simpa [did] using h), fun h => by simpa [sput] using h12 (by simpa [did] using h), fun h => by simpa [sput] using h13 (by simpa [did] using h), fun h => by simpa [sput] using h14 (by simpa [did] using h), by simpa [sput, did] using x0, by simpa [sput, did] using x1, by simpa [sput, did] using x2, hT⟩
        · have g0 := h0 (by simp [hdep])
          have g1 := h1 (by simp [hdep])
          unfold OpSteps
          simp [go_sem, evS, g0, g1, bi]
          exact ⟨fun h => by simpa [sput] using h0 (by simpa [did] using h), fun h => by simpa [sput] using h1 (by simpa [did] using h), fun _ => by simp [sput], fun h => by simpa [sput] using h3 (by simpa [did] using h), fun h => by simpa [sput] using h4 (by simpa [did] using h), fun h => by simpa [sput] using h5 (by simpa [did] using h), fun h => by simpa [sput] using h6 (by simpa [did] using h), fun h => by simpa [sput] using h7 (by simpa [did] using h), fun h => by simpa [sput] using h8 (by simpa [did] using h), fun h => by simpa [sput] using h9 (by simpa [did] using h), fun h => by simpa [sput] using h10 (by simpa [did] using h), fun h => by simpa [sput] using h11 (by simpa [did] using h), fun h => by simpa [sput] using h12 (by simpa [did] using h), fun h => by simpa [sput] using h13 (by simpa [did] using h), fun h => by simpa [sput] using h14 (by simpa [did] using h), by simpa [sput, did] using x0, by simpa [sput, did] using x1, by simpa [sput, did] using x2, hT⟩
        · have g2 := h2 (by simp [hdep])
          unfold OpSteps
          have pc := cell_below HYc.out hT
          simp [go_sem, evS, g2, pc]
          exact ⟨fun h => by simpa [sput] using h0 (by simpa [did] using h), fun h => by simpa [sput] using h1 (by simpa [did] using h), fun h => by simpa [sput] using h2 (by simpa [did] using h), fun _ => by simp [sput], fun h => by simpa [sput] using h4 (by simpa [did] using h), fun h => by simpa [sput] using h5 (by simpa [did] using h), fun h => by simpa [sput] using h6 (by simpa [did] using h), fun h => by simpa [sput] using h7 (by simpa [did] using h), fun h => by simpa [sput] using h8 (by simpa [did] using h), fun h => by simpa [sput] using h9 (by simpa [did] using h), fun h => by simpa [sput] using h10 (by simpa [did] using h), fun h => by simpa [sput] using h11 (by simpa [did] using h), fun h => by simpa [sput] using h12 (by simpa [did] using h), fun h => by simpa [sput] using h13 (by simpa [did] using h), fun h => by simpa [sput] using h14 (by simpa [did] using h), by simpa [sput, did] using x0, by simpa [sput, did] using x1, by simpa [sput, did] using x2, hT⟩
        · have g3 := h3 (by simp [hdep])
          unfold OpSteps
          simp [go_sem, evS, g3]
          refine (rof_v yv W HFy.out.1 HFy.out.2).mono ?_
          rintro e W' ⟨v9, rfl, hv, hb⟩
          refine ⟨_, rfl, ?_⟩
          exact ⟨fun h => by simpa [sput] using h0 (by simpa [did] using h), fun h => by simpa [sput] using h1 (by simpa [did] using h), fun h => by simpa [sput] using h2 (by simpa [did] using h), fun h => by simpa [sput] using h3 (by simpa [did] using h), fun _ => by simpa [sput] using hv, fun h => by simpa [sput] using h5 (by simpa [did] using h), fun h => by simpa [sput] using h6 (by simpa [did] using h), fun h => by simpa [sput] using h7 (by simpa [did] using h), fun h => by simpa [sput] using h8 (by simpa [did] using h), fun h => by simpa [sput] using (h9 (by simpa [did] using h)).below hb, fun h => by simpa [sput] using (h10 (by simpa [did] using h)).below hb, fun h => by simpa [sput] using (h11 (by simpa [did] using h)).below hb, fun h => by simpa [sput] using (h12 (by simpa [did] using h)).below hb, fun h => by simpa [sput] using (h13 (by simpa [did] using h)).below hb, fun h => by simpa [sput] using (h14 (by simpa [did] using h)).below hb, by simpa [sput, did] using x0, by simpa [sput, did] using x1, by simpa [sput, did] using x2, below_nx hT hb⟩
        · unfold OpSteps
          simp [go_sem, evS, f2]
          exact ⟨fun h => by simpa [sput] using h0 (by simpa [did] using h), fun h => by simpa [sput] using h1 (by simpa [did] using h), fun h => by simpa [sput] using h2 (by simpa [did] using h), fun h => by simpa [sput] using h3 (by simpa [did] using h), fun h => by simpa [sput] using h4 (by simpa [did] using h), fun _ => by simp [sput], fun h => by simpa [sput] using h6 (by simpa [did] using h), fun h => by simpa [sput] using h7 (by simpa [did] using h), fun h => by simpa [sput] using h8 (by simpa [did] using h), fun h => by simpa [sput] using h9 (by simpa [did] using h), fun h => by simpa [sput] using h10 (by simpa [did] using h), fun h => by simpa [sput] using h11 (by simpa [did] using h), fun h => by simpa [sput] using h12 (by simpa [did] using h), fun h => by simpa [sput] using h13 (by simpa [did] using h), fun h => by simpa [sput] using h14 (by simpa [did] using h), by simpa [sput, did] using x0, by simpa [sput, did] using x1, by simpa [sput, did] using x2, hT⟩
        · unfold OpSteps
          simp [go_sem, evS, f13]
          exact ⟨fun h => by simpa [sput] using h0 (by simpa [did] using h), fun h => by simpa [sput] using h1 (by simpa [did] using h), fun h => by simpa [sput] using h2 (by simpa [did] using h), fun h => by simpa [sput] using h3 (by simpa [did] using h), fun h => by simpa [sput] using h4 (by simpa [did] using h), fun h => by simpa [sput] using h5 (by simpa [did] using h), fun _ => by simp [sput], fun h => by simpa [sput] using h7 (by simpa [did] using h), fun h => by simpa [sput] using h8 (by simpa [did] using h), fun h => by simpa [sput] using h9 (by simpa [did] using h), fun h => by simpa [sput] using h10 (by simpa [did] using h), fun h => by simpa [sput] using h11 (by simpa [did] using h), fun h => by simpa [sput] using h12 (by simpa [did] using h), fun h => by simpa [sput] using h13 (by simpa [did] using h), fun h => by simpa [sput] using h14 (by simpa [did] using h), by simpa [sput, did] using x0, by simpa [sput, did] using x1, by simpa [sput, did] using x2, hT⟩
        · have g5 := h5 (by simp [hdep])
          have g6 := h6 (by simp [hdep])
          unfold OpSteps
          simp [go_sem, evS, g5, g6, bi]
          exact ⟨fun h => by simpa [sput] using h0 (by simpa [did] using h), fun h => by simpa [sput] using h1 (by simpa [did] using h), fun h => by simpa [sput] using h2 (by simpa [did] using h), fun h => by simpa [sput] using h3 (by simpa [did] using h), fun h => by simpa [sput] using h4 (by simpa [did] using h), fun h => by simpa [sput] using h5 (by simpa [did] using h), fun h => by simpa [sput] using h6 (by simpa [did] using h), fun _ => by simp [sput], fun h => by simpa [sput] using h8 (by simpa [did] using h), fun h => by simpa [sput] using h9 (by simpa [did] using h), fun h => by simpa [sput] using h10 (by simpa [did] using h), fun h => by simpa [sput] using h11 (by simpa [did] using h), fun h => by simpa [sput] using h12 (by simpa [did] using h), fun h => by simpa [sput] using h13 (by simpa [did] using h), fun h => by simpa [sput] using h14 (by simpa [did] using h), by simpa [sput, did] using x0, by simpa [sput, did] using x1, by simpa [sput, did] using x2, hT⟩
        · have g7 := h7 (by simp [hdep])
          unfold OpSteps
          have pc := cell_below HYc.out hT
          simp [go_sem, evS, g7, pc]
          exact ⟨fun h => by simpa [sput] using h0 (by simpa [did] using h), fun h => by simpa [sput] using h1 (by simpa [did] using h), fun h => by simpa [sput] using h2 (by simpa [did] using h), fun h => by simpa [sput] using h3 (by simpa [did] using h), fun h => by simpa [sput] using h4 (by simpa [did] using h), fun h => by simpa [sput] using h5 (by simpa [did] using h), fun h => by simpa [sput] using h6 (by simpa [did] using h), fun h => by simpa [sput] using h7 (by simpa [did] using h), fun _ => by simp [sput], fun h => by simpa [sput] using h9 (by simpa [did] using h), fun h => by simpa [sput] using h10 (by simpa [did] using h), fun h => by simpa [sput] using h11 (by simpa [did] using h), fun h => by simpa [sput] using h12 (by simpa [did] using h), fun h => by simpa [sput] using h13 (by simpa [did] using h), fun h => by simpa [sput] using h14 (by simpa [did] using h), by simpa [sput, did] using x0, by simpa [sput, did] using x1, by simpa [sput, did] using x2, hT⟩
        · have g8 := h8 (by simp [hdep])
          unfold OpSteps
          simp [go_sem, evS, g8]
          refine (rof_v yv W HFy.out.1 HFy.out.2).mono ?_
          rintro e W' ⟨v9, rfl, hv, hb⟩
          refine ⟨_, rfl, ?_⟩
          exact ⟨fun h => by simpa [sput] using h0 (by simpa [did] using h), fun h => by simpa [sput] using h1 (by simpa [did] using h), fun h => by simpa [sput] using h2 (by simpa [did] using h), fun h => by simpa [sput] using h3 (by simpa [did] using h), fun h => by simpa [sput] using (h4 (by simpa [did] using h)).below hb, fun h => by simpa [sput] using h5 (by simpa [did] using h), fun h => by simpa [sput] using h6 (by simpa [did] using h), fun h => by simpa [sput] using h7 (by simpa [did] using h), fun h => by simpa [sput] using h8 (by simpa [did] using h), fun _ => by simpa [sput] using hv, fun h => by simpa [sput] using (h10 (by simpa [did] using h)).below hb, fun h => by simpa [sput] using (h11 (by simpa [did] using h)).below hb, fun h => by simpa [sput] using (h12 (by simpa [did] using h)).below hb, fun h => by simpa [sput] using (h13 (by simpa [did] using h)).below hb, fun h => by simpa [sput] using (h14 (by simpa [did] using h)).below hb, by simpa [sput, did] using x0, by simpa [sput, did] using x1, by simpa [sput, did] using x2, below_nx hT hb⟩
        · have g9 := h9 (by simp [hdep])
          unfold OpSteps
          simp [go_sem, evS]
          refine (rabs_v g9).mono ?_
          rintro e W' ⟨v9, rfl, hv, hb⟩
          refine ⟨_, rfl, ?_⟩
          exact ⟨fun h => by simpa [sput] using h0 (by simpa [did] using h), fun h => by simpa [sput] using h1 (by simpa [did] using h), fun h => by simpa [sput] using h2 (by simpa [did] using h), fun h => by simpa [sput] using h3 (by simpa [did] using h), fun h => by simpa [sput] using (h4 (by simpa [did] using h)).below hb, fun h => by simpa [sput] using h5 (by simpa [did] using h), fun h => by simpa [sput] using h6 (by simpa [did] using h), fun h => by simpa [sput] using h7 (by simpa [did] using h), fun h => by simpa [sput] using h8 (by simpa [did] using h), fun h => by simpa [sput] using (h9 (by simpa [did] using h)).below hb, fun _ => by simpa [sput] using hv, fun h => by simpa [sput] using (h11 (by simpa [did] using h)).below hb, fun h => by simpa [sput] using (h12 (by simpa [did] using h)).below hb, fun h => by simpa [sput] using (h13 (by simpa [did] using h)).below hb, fun h => by simpa [sput] using (h14 (by simpa [did] using h)).below hb, by simpa [sput, did] using x0, by simpa [sput, did] using x1, by simpa [sput, did] using x2, below_nx hT hb⟩
        · unfold OpSteps
          simp [go_sem, evS]
          exact ⟨fun h => by simpa [sput] using h0 (by simpa [did] using h), fun h => by simpa [sput] using h1 (by simpa [did] using h), fun h => by simpa [sput] using h2 (by simpa [did] using h), fun h => by simpa [sput] using h3 (by simpa [did] using h), fun h => by simpa [sput] using (h4 (by simpa [did] using h)).below below_one, fun h => by simpa [sput] using h5 (by simpa [did] using h), fun h => by simpa [sput] using h6 (by simpa [did] using h), fun h => by simpa [sput] using h7 (by simpa [did] using h), fun h => by simpa [sput] using h8 (by simpa [did] using h), fun h => by simpa [sput] using (h9 (by simpa [did] using h)).below below_one, fun h => by simpa [sput] using (h10 (by simpa [did] using h)).below below_one, fun _ => ⟨W.heap.size, _, _, _, by simp [sput], Blk.new W _ _, hT.size⟩, fun h => by simpa [sput] using (h12 (by simpa [did] using h)).below below_one, fun h => by have := x0 (by simpa [did] using h); simp [hd] at this, fun h => by simpa [sput] using (h14 (by simpa [did] using h)).below below_one, fun _ => by simp [did], by simpa [sput, did] using x1, fun _ e7 => by have hq := (h12 (by simpa [did] using e7)).new_ne; simp [sput]; exact fun e => hq e.symm, below_al hT⟩
        · unfold OpSteps
          simp [go_sem, evS]
          exact ⟨fun h => by simpa [sput] using h0 (by simpa [did] using h), fun h => by simpa [sput] using h1 (by simpa [did] using h), fun h => by simpa [sput] using h2 (by simpa [did] using h), fun h => by simpa [sput] using h3 (by simpa [did] using h), fun h => by simpa [sput] using (h4 (by simpa [did] using h)).below below_one, fun h => by simpa [sput] using h5 (by simpa [did] using h), fun h => by simpa [sput] using h6 (by simpa [did] using h), fun h => by simpa [sput] using h7 (by simpa [did] using h), fun h => by simpa [sput] using h8 (by simpa [did] using h), fun h => by simpa [sput] using (h9 (by simpa [did] using h)).below below_one, fun h => by simpa [sput] using (h10 (by simpa [did] using h)).below below_one, fun h => by simpa [sput] using (h11 (by simpa [did] using h)).below below_one, fun _ => ⟨W.heap.size, _, _, _, by simp [sput], Blk.new W _ _, hT.size⟩, fun h => by simpa [sput] using (h13 (by simpa [did] using h)).below below_one, fun h => by have := x1 (by simpa [did] using h); simp [hd] at this, by simpa [sput, did] using x0, fun _ => by simp [did], fun e6 _ => by have hq := (h11 (by simpa [did] using e6)).new_ne; simp [sput]; exact hq, below_al hT⟩
        · have g11 := h11 (by simp [hdep])
          have g4 := h4 (by simp [hdep])
          unfold OpSteps
          obtain ⟨p9, z0, z1, z2, gp, hB9, hlo⟩ := g11
          obtain ⟨ng, A9, n9, c9, E9, L9, gv, gR, gN, gd⟩ := g4
          have e6 : d 11 = true := by simp [hdep]
          have fr0 := hB9.frozen 0
          have fr1 := hB9.frozen 1
          have fr2 := hB9.frozen 2
          obtain ⟨k0, k1, k2⟩ := cells3 hB9
          simp [go_sem, evS, gp, gv, fr0, fr1, fr2, k0, k1, k2]
          exact ⟨fun h => by simpa [sput] using h0 (by simpa [did] using h), fun h => by simpa [sput] using h1 (by simpa [did] using h), fun h => by simpa [sput] using h2 (by simpa [did] using h), fun h => by simpa [sput] using h3 (by simpa [did] using h), fun h => by simpa [sput] using (h4 (by simpa [did] using h)).far3 hB9 _ _ _, fun h => by simpa [sput] using h5 (by simpa [did] using h), fun h => by simpa [sput] using h6 (by simpa [did] using h), fun h => by simpa [sput] using h7 (by simpa [did] using h), fun h => by simpa [sput] using h8 (by simpa [did] using h), fun h => by simpa [sput] using (h9 (by simpa [did] using h)).far3 hB9 _ _ _, fun h => by simpa [sput] using (h10 (by simpa [did] using h)).far3 hB9 _ _ _, fun h => ⟨p9, _, _, _, by simpa [sput] using gp, Blk.store3 hB9 _ _ _, hlo⟩, fun h => by simpa [sput] using (h12 (by simpa [did] using h)).far3 (fun e => x2 e6 (by simpa [did] using h) (gp.trans e.symm)) _ _ _, fun _ => ⟨p9, by simpa [sput] using gp, bx_store hB9 gR gN gd, hlo⟩, fun h => by simpa [sput] using (h14 (by simpa [did] using h)).far3 (fun e => x2 e6 (x1 (by simpa [did] using h)) (gp.trans e.symm)) hB9 _ _ _, fun _ => by simp [did, hdep], by simpa [sput, did] using x1, by simpa [sput, did] using x2, (((hT.setCell (p := ⟨p9, 0, none⟩) hlo _).setCell (p := ⟨p9, 1, none⟩) hlo _).setCell (p := ⟨p9, 2, none⟩) hlo _)⟩
        · have g12 := h12 (by simp [hdep])
          have g10 := h10 (by simp [hdep])
          unfold OpSteps
          obtain ⟨p9, z0, z1, z2, gp, hB9, hlo⟩ := g12
          obtain ⟨ng, A9, n9, c9, E9, L9, gv, gR, gN, gd⟩ := g10
          have e7 : d 12 = true := by simp [hdep]
          have fr0 := hB9.frozen 0
          have fr1 := hB9.frozen 1
          have fr2 := hB9.frozen 2
          obtain ⟨k0, k1, k2⟩ := cells3 hB9
          simp [go_sem, evS, gp, gv, fr0, fr1, fr2, k0, k1, k2]
          exact ⟨fun h => by simpa [sput] using h0 (by simpa [did] using h), fun h => by simpa [sput] using h1 (by simpa [did] using h), fun h => by simpa [sput] using h2 (by simpa [did] using h), fun h => by simpa [sput] using h3 (by simpa [did] using h), fun h => by simpa [sput] using (h4 (by simpa [did] using h)).far3 hB9 _ _ _, fun h => by simpa [sput] using h5 (by simpa [did] using h), fun h => by simpa [sput] using h6 (by simpa [did] using h), fun h => by simpa [sput] using h7 (by simpa [did] using h), fun h => by simpa [sput] using h8 (by simpa [did] using h), fun h => by simpa [sput] using (h9 (by simpa [did] using h)).far3 hB9 _ _ _, fun h => by simpa [sput] using (h10 (by simpa [did] using h)).far3 hB9 _ _ _, fun h => by simpa [sput] using (h11 (by simpa [did] using h)).far3 (fun e => x2 (by simpa [did] using h) e7 (e.trans gp.symm)) _ _ _, fun h => ⟨p9, _, _, _, by simpa [sput] using gp, Blk.store3 hB9 _ _ _, hlo⟩, fun h => by simpa [sput] using (h13 (by simpa [did] using h)).far3 (fun e => x2 (x0 (by simpa [did] using h)) e7 (e.trans gp.symm)) hB9 _ _ _, fun _ => ⟨p9, by simpa [sput] using gp, bx_store hB9 gR gN gd, hlo⟩, by simpa [sput, did] using x0, fun _ => by simp [did, hdep], by simpa [sput, did] using x2, (((hT.setCell (p := ⟨p9, 0, none⟩) hlo _).setCell (p := ⟨p9, 1, none⟩) hlo _).setCell (p := ⟨p9, 2, none⟩) hlo _)⟩
      intro d s W hJ hd
      obtain ⟨h0, h1, h2, h3, h4, h5, h6, h7, h8, h9, h10, h11, h12, h13, h14, x0, x1, x2, hT⟩ := hJ
      obtain ⟨gE, hsE, hBE, hlE⟩ := h13 (hd 13 (by decide))
      obtain ⟨gS, hsS, hBS, hlS⟩ := h14 (hd 14 (by decide))
      have hES : gE ≠ gS := fun e => x2 (hd 11 (by decide)) (hd 12 (by decide)) (by rw [hsE, hsS, e])
      have HE0 := Lib.hid hBE
      have HS0 := Lib.hid hBS
      have HES := Lib.hid hES
      have HLo := Lib.hid (And.intro hlE hlS)
      have HBp := Lib.hid hT
      clear h0 h1 h2 h3 h4 h5 h6 h7 h8 h9 h10 h11 h12 h13 h14 x0 x1 x2 hT hd hBE hBS hES hlE hlS
      simp [setAll, hsE, hsS]
      clear hsE hsS
      generalize s 101 = s101
      generalize s 102 = s102
      generalize s 103 = s103
      generalize s 104 = s104
      generalize s 105 = s105
      generalize s 106 = s106
      generalize s 107 = s107
      generalize s 108 = s108
      generalize s 109 = s109
      generalize s 110 = s110
      generalize s 111 = s111
      generalize W = wp at *
      have HBo := Lib.hid (below_nx HBr.out HBp.out)
      have HLo6 := Lib.hid (show w6.heap.size ≤ gE ∧ w6.heap.size ≤ gS from ⟨by have := HBr.out.size; have := HLo.out.1; omega, by have := HBr.out.size; have := HLo.out.2; omega⟩)
      go_wp2_with fail
      go_loopw [16] (fun b wr => ∃ j : Nat, j ≤ n ∧ b = .int .i64 j ∧ Hid (Bx wr gE (Ed yv tf xf j) ∧ Bx wr gS (Sd yv tf xf j) ∧ Below w6.heap.size w6 wr)) (fun b _ => n - (intOf b).toNat)
      case atStart => exact ⟨0, Nat.zero_le _, rfl, Lib.hid ⟨HE0.out, HS0.out, HBo.out⟩⟩
      case round =>
        obtain ⟨j, hj, rfl, HH⟩ := hrel
        by_cases hjn : j < n
        · have hjc : (j : Int) < (n : Int) := by omega
          have hj1 : j + 1 ≤ 1048576 := by have := HLn.out.2.2.2.2.2; omega
          have bj : j < nx := by have := HLn.out.2.2.1; omega
          have hcx := HAx.out.below (below_nx HB6.out HH.out.2.2)
          obtain ⟨b9, o9, e9, hcx⟩ := hcx.get0 (k := j) (by rw [HLn.out.1]; exact bj)
          injection e9 with e9
          injection e9 with e91 e92
          subst e91 e92
          have hat := fun W (hb : Below wr.heap.size wr W) => HAt0.out W gT i j hlt hjn ((HTr6.out.below HH.out.2.2).below hb)
          have hft := HVf.out.2.2 (i * n + j)
          have hfx := HVf.out.2.1 j
          rw [← HTf.out j] at hat hft
          rw [← HXf.out j] at hcx hfx
          have hE := HEi.out j (by omega)
          have hsz : Fitd (fdy (tf j)) ∧ Fitd (fdy (xf j)) ∧ Fitd (fdy (tf j) * fdy (xf j)) ∧ Fitd (Sd yv tf xf j) ∧ Fitd (dabs (fdy (tf j) * fdy (xf j))) ∧ Fitd (Ed yv tf xf j) := by
            have hp : Sz 2148 (fdy (tf j) * fdy (xf j)) := (Sz.float hft.2).mul (Sz.float hfx.2) (by omega)
            exact ⟨(Sz.float hft.2).fit (by omega), (Sz.float hfx.2).fit (by omega), hp.fit (by omega), hE.2.fit (by have := HLn.out.2.2.2.2.2; omega), hp.abs.fit (by omega), hE.1.fit (by have := HLn.out.2.2.2.2.2; omega)⟩
          have HNx := Lib.hid (show (Ed yv tf xf (j + 1) = Ed yv tf xf j + fdy (tf j) * fdy (xf j)) ∧ (Sd yv tf xf (j + 1) = Sd yv tf xf j + dabs (fdy (tf j) * fdy (xf j))) from ⟨rfl, rfl⟩)
          obtain ⟨tv, htv⟩ : ∃ tv, tf j = tv := ⟨_, rfl⟩
          obtain ⟨xv, hxv⟩ : ∃ xv, xf j = xv := ⟨_, rfl⟩
          obtain ⟨EJ, hEJ⟩ : ∃ EJ, Ed yv tf xf j = EJ := ⟨_, rfl⟩
          obtain ⟨SJ, hSJ⟩ : ∃ SJ, Sd yv tf xf j = SJ := ⟨_, rfl⟩
          rw [htv, hxv, hEJ, hSJ] at hsz HNx
          rw [htv] at hat hft
          rw [hxv] at hcx hfx
          have hEH := HH.out.1
          have hSH := HH.out.2.1
          rw [hEJ] at hEH
          rw [hSJ] at hSH
          have HAt := Lib.hid hat
          have HFt := Lib.hid hft
          have HFx := Lib.hid hfx
          have HSz := Lib.hid hsz
          have HXc := Lib.hid hcx
          have HEj := Lib.hid hEH
          have HSj := Lib.hid hSH
          have HBj := Lib.hid HH.out.2.2
          have HTi := Lib.hid (HPt6.out.nxt HH.out.2.2)
          clear hat hft hfx hsz hcx hEH hSH hE htv hxv hEJ hSJ
          go_wp2_with fail
          generalize wr = wi at *
          refine wp_region_inv [117, 118, 119, 120, 121, 122, 123, 124, 125, 126, 127, 17] (fun d s W => (d 0 = true → s 117 = .agg #[.int .i64 (r : Int), .int .i64 (n : Int), .slice (some ⟨gT, 0, none⟩) N N]) ∧ (d 1 = true → s 118 = .int .i64 (i : Int)) ∧ (d 2 = true → s 119 = .int .i64 (j : Int)) ∧ (d 3 = true → s 120 = .float .f64 tv) ∧ (d 4 = true → DV W (s 121) (fdy tv)) ∧ (d 5 = true → s 122 = .slice (some ⟨bx0, xx0, none⟩) nx cx) ∧ (d 6 = true → s 123 = .int .i64 (j : Int)) ∧ (d 7 = true → s 124 = .pointer (some ⟨bx0, xx0 + j, none⟩)) ∧ (d 8 = true → s 125 = .float .f64 xv) ∧ (d 9 = true → DV W (s 126) (fdy xv)) ∧ (d 10 = true → DV W (s 127) (fdy tv * fdy xv)) ∧ (d 11 = true → NewB W (s 17) wi.heap.size) ∧ (d 3 = true → d 0 = true ∧ d 1 = true ∧ d 2 = true) ∧ (d 4 = true → d 0 = true ∧ d 1 = true ∧ d 2 = true ∧ d 3 = true) ∧ (d 7 = true → d 5 = true ∧ d 6 = true) ∧ (d 8 = true → d 5 = true ∧ d 6 = true ∧ d 7 = true) ∧ (d 9 = true → d 5 = true ∧ d 6 = true ∧ d 7 = true ∧ d 8 = true) ∧ (d 10 = true → d 0 = true ∧ d 1 = true ∧ d 2 = true ∧ d 3 = true ∧ d 4 = true ∧ d 5 = true ∧ d 6 = true ∧ d 7 = true ∧ d 8 = true ∧ d 9 = true) ∧ (d 12 = true → d 0 = true ∧ d 1 = true ∧ d 2 = true ∧ d 3 = true ∧ d 4 = true ∧ d 5 = true ∧ d 6 = true ∧ d 7 = true ∧ d 8 = true ∧ d 9 = true ∧ d 10 = true ∧ d 11 = true) ∧ ((d 12 = false → Below wi.heap.size wi W) ∧ (d 12 = true → BxP W (s 17) wi.heap.size (fdy tv * fdy xv) ∧ Below wi.heap.size wi W)))
            rfl (by kernel_rfl) ?_ ?_ ?_
          · exact ⟨by simp, by simp, by simp, by simp, by simp, by simp, by simp, by simp, by simp, by simp, by simp, by simp, by simp, by simp, by simp, by simp, by simp, by simp, by simp, ⟨fun _ => (Below.refl _ _).drew, fun h => by simp at h⟩⟩
          · refine ⟨?_, ?_, ?_, ?_, ?_, ?_, ?_, ?_, ?_, ?_, ?_, ?_, ?_, trivial⟩
            all_goals
              intro d s W hJ hfr hd hdep
              simp only [List.mem_cons, forall_eq_or_imp, List.not_mem_nil, false_implies, implies_true, and_true, Region.binds] at hdep
              have f1 := hfr 1 (by decide)
              have f10 := hfr 10 (by decide)
              have f13 := hfr 13 (by decide)
              have f16 := hfr 16 (by decide)
              simp at f1 f10 f13 f16 hdep
              obtain ⟨h0, h1, h2, h3, h4, h5, h6, h7, h8, h9, h10, h11, x0, x1, x2, x3, x4, x5, x6, hT⟩ := hJ
            · have hl : d 12 = false := by
                cases h : d 12
                · rfl
                · have := x6 h; simp [hd] at this
              replace hT := hT.1 hl
              unfold OpSteps
              obtain ⟨p0, p1, p2⟩ := cells3 (HTi.out.below hT HTi.out.lt)
              simp [go_sem, evS, f10, p0, p1, p2]
              exact ⟨fun _ => by simp [sput], fun h => by simpa [sput] using h1 (by simpa [did] using h), fun h => by simpa [sput] using h2 (by simpa [did] using h), fun h => by simpa [sput] using h3 (by simpa [did] using h), fun h => by simpa [sput] using h4 (by simpa [did] using h), fun h => by simpa [sput] using h5 (by simpa [did] using h), fun h => by simpa [sput] using h6 (by simpa [did] using h), fun h => by simpa [sput] using h7 (by simpa [did] using h), fun h => by simpa [sput] using h8 (by simpa [did] using h), fun h => by simpa [sput] using h9 (by simpa [did] using h), fun h => by simpa [sput] using h10 (by simpa [did] using h), fun h => by simpa [sput] using h11 (by simpa [did] using h), fun h => by have := x0 (by simpa [did] using h); simp [did, this], fun h => by have := x1 (by simpa [did] using h); simp [did, this], fun h => by have := x2 (by simpa [did] using h); simp [did, this], fun h => by have := x3 (by simpa [did] using h); simp [did, this], fun h => by have := x4 (by simpa [did] using h); simp [did, this], fun h => by have := x5 (by simpa [did] using h); simp [did, this], fun h => by have := x6 (by simpa [did] using h); simp [did, this], ⟨fun _ => hT, fun h => by simp [did, hl] at h⟩⟩
            · have hl : d 12 = false := by
                cases h : d 12
                · rfl
                · have := x6 h; simp [hd] at this
              replace hT := hT.1 hl
              unfold OpSteps
              simp [go_sem, evS, f13]
              exact ⟨fun h => by simpa [sput] using h0 (by simpa [did] using h), fun _ => by simp [sput], fun h => by simpa [sput] using h2 (by simpa [did] using h), fun h => by simpa [sput] using h3 (by simpa [did] using h), fun h => by simpa [sput] using h4 (by simpa [did] using h), fun h => by simpa [sput] using h5 (by simpa [did] using h), fun h => by simpa [sput] using h6 (by simpa [did] using h), fun h => by simpa [sput] using h7 (by simpa [did] using h), fun h => by simpa [sput] using h8 (by simpa [did] using h), fun h => by simpa [sput] using h9 (by simpa [did] using h), fun h => by simpa [sput] using h10 (by simpa [did] using h), fun h => by simpa [sput] using h11 (by simpa [did] using h), fun h => by have := x0 (by simpa [did] using h); simp [did, this], fun h => by have := x1 (by simpa [did] using h); simp [did, this], fun h => by have := x2 (by simpa [did] using h); simp [did, this], fun h => by have := x3 (by simpa [did] using h); simp [did, this], fun h => by have := x4 (by simpa [did] using h); simp [did, this], fun h => by have := x5 (by simpa [did] using h); simp [did, this], fun h => by have := x6 (by simpa [did] using h); simp [did, this], ⟨fun _ => hT, fun h => by simp [did, hl] at h⟩⟩
            · have hl : d 12 = false := by
                cases h : d 12
                · rfl
                · have := x6 h; simp [hd] at this
              replace hT := hT.1 hl
              unfold OpSteps
              simp [go_sem, evS, f16]
              exact ⟨fun h => by simpa [sput] using h0 (by simpa [did] using h), fun h => by simpa [sput] using h1 (by simpa [did] using h), fun _ => by simp [sput], fun h => by simpa [sput] using h3 (by simpa [did] using h), fun h => by simpa [sput] using h4 (by simpa [did] using h), fun h => by simpa [sput] using h5 (by simpa [did] using h), fun h => by simpa [sput] using h6 (by simpa [did] using h), fun h => by simpa [sput] using h7 (by simpa [did] using h), fun h => by simpa [sput] using h8 (by simpa [did] using h), fun h => by simpa [sput] using h9 (by simpa [did] using h), fun h => by simpa [sput] using h10 (by simpa [did] using h), fun h => by simpa [sput] using h11 (by simpa [did] using h), fun h => by have := x0 (by simpa [did] using h); simp [did, this], fun h => by have := x1 (by simpa [did] using h); simp [did, this], fun h => by have := x2 (by simpa [did] using h); simp [did, this], fun h => by have := x3 (by simpa [did] using h); simp [did, this], fun h => by have := x4 (by simpa [did] using h); simp [did, this], fun h => by have := x5 (by simpa [did] using h); simp [did, this], fun h => by have := x6 (by simpa [did] using h); simp [did, this], ⟨fun _ => hT, fun h => by simp [did, hl] at h⟩⟩
            · have hl : d 12 = false := by
                cases h : d 12
                · rfl
                · have := x6 h; simp [hd] at this
              replace hT := hT.1 hl
              have fz0 := h0 (by simp [hdep])
              have fz1 := h1 (by simp [hdep])
              have fz2 := h2 (by simp [hdep])
              unfold OpSteps
              simp [go_sem, evS, fz0, fz1, fz2]
              refine (HAt.out W hT).mono ?_
              rintro e W' ⟨rfl, hb⟩
              refine ⟨_, rfl, ?_⟩
              exact ⟨fun h => by simpa [sput] using h0 (by simpa [did] using h), fun h => by simpa [sput] using h1 (by simpa [did] using h), fun h => by simpa [sput] using h2 (by simpa [did] using h), fun _ => by simp [sput], fun h => by simpa [sput] using (h4 (by simpa [did] using h)).below hb, fun h => by simpa [sput] using h5 (by simpa [did] using h), fun h => by simpa [sput] using h6 (by simpa [did] using h), fun h => by simpa [sput] using h7 (by simpa [did] using h), fun h => by simpa [sput] using h8 (by simpa [did] using h), fun h => by simpa [sput] using (h9 (by simpa [did] using h)).below hb, fun h => by simpa [sput] using (h10 (by simpa [did] using h)).below hb, fun h => by simpa [sput] using (h11 (by simpa [did] using h)).below hb, fun _ => by simp [did, hdep], fun h => by have := x1 (by simpa [did] using h); simp [did, this], fun h => by have := x2 (by simpa [did] using h); simp [did, this], fun h => by have := x3 (by simpa [did] using h); simp [did, this], fun h => by have := x4 (by simpa [did] using h); simp [did, this], fun h => by have := x5 (by simpa [did] using h); simp [did, this], fun h => by have := x6 (by simpa [did] using h); simp [did, this], ⟨fun _ => below_nx hT hb, fun h => by simp [did, hl] at h⟩⟩
            · have hl : d 12 = false := by
                cases h : d 12
                · rfl
                · have := x6 h; simp [hd] at this
              replace hT := hT.1 hl
              have fz3 := h3 (by simp [hdep])
              unfold OpSteps
              simp [go_sem, evS, fz3]
              refine (rof_v tv W HFt.out.1 HFt.out.2).mono ?_
              rintro e W' ⟨v9, rfl, hv, hb⟩
              refine ⟨_, rfl, ?_⟩
              exact ⟨fun h => by simpa [sput] using h0 (by simpa [did] using h), fun h => by simpa [sput] using h1 (by simpa [did] using h), fun h => by simpa [sput] using h2 (by simpa [did] using h), fun h => by simpa [sput] using h3 (by simpa [did] using h), fun _ => by simpa [sput] using hv, fun h => by simpa [sput] using h5 (by simpa [did] using h), fun h => by simpa [sput] using h6 (by simpa [did] using h), fun h => by simpa [sput] using h7 (by simpa [did] using h), fun h => by simpa [sput] using h8 (by simpa [did] using h), fun h => by simpa [sput] using (h9 (by simpa [did] using h)).below hb, fun h => by simpa [sput] using (h10 (by simpa [did] using h)).below hb, fun h => by simpa [sput] using (h11 (by simpa [did] using h)).below hb, fun h => by have := x0 (by simpa [did] using h); simp [did, this], fun _ => by have y3 := x0 (by simp [hdep]); simp [did, hdep, y3], fun h => by have := x2 (by simpa [did] using h); simp [did, this], fun h => by have := x3 (by simpa [did] using h); simp [did, this], fun h => by have := x4 (by simpa [did] using h); simp [did, this], fun h => by have := x5 (by simpa [did] using h); simp [did, this], fun h => by have := x6 (by simpa [did] using h); simp [did, this], ⟨fun _ => below_nx hT hb, fun h => by simp [did, hl] at h⟩⟩
            · have hl : d 12 = false := by
                cases h : d 12
                · rfl
                · have := x6 h; simp [hd] at this
              replace hT := hT.1 hl
              unfold OpSteps
              simp [go_sem, evS, f1]
              exact ⟨fun h => by simpa [sput] using h0 (by simpa [did] using h), fun h => by simpa [sput] using h1 (by simpa [did] using h), fun h => by simpa [sput] using h2 (by simpa [did] using h), fun h => by simpa [sput] using h3 (by simpa [did] using h), fun h => by simpa [sput] using h4 (by simpa [did] using h), fun _ => by simp [sput], fun h => by simpa [sput] using h6 (by simpa [did] using h), fun h => by simpa [sput] using h7 (by simpa [did] using h), fun h => by simpa [sput] using h8 (by simpa [did] using h), fun h => by simpa [sput] using h9 (by simpa [did] using h), fun h => by simpa [sput] using h10 (by simpa [did] using h), fun h => by simpa [sput] using h11 (by simpa [did] using h), fun h => by have := x0 (by simpa [did] using h); simp [did, this], fun h => by have := x1 (by simpa [did] using h); simp [did, this], fun h => by have := x2 (by simpa [did] using h); simp [did, this], fun h => by have := x3 (by simpa [did] using h); simp [did, this], fun h => by have := x4 (by simpa [did] using h); simp [did, this], fun h => by have := x5 (by simpa [did] using h); simp [did, this], fun h => by have := x6 (by simpa [did] using h); simp [did, this], ⟨fun _ => hT, fun h => by simp [did, hl] at h⟩⟩
            · have hl : d 12 = false := by
                cases h : d 12
                · rfl
                · have := x6 h; simp [hd] at this
              replace hT := hT.1 hl
              unfold OpSteps
              simp [go_sem, evS, f16]
              exact ⟨fun h => by simpa [sput] using h0 (by simpa [did] using h), fun h => by simpa [sput] using h1 (by simpa [did] using h), fun h => by simpa [sput] using h2 (by simpa [did] using h), fun h => by simpa [sput] using h3 (by simpa [did] using h), fun h => by simpa [sput] using h4 (by simpa [did] using h), fun h => by simpa [sput] using h5 (by simpa [did] using h), fun _ => by simp [sput], fun h => by simpa [sput] using h7 (by simpa [did] using h), fun h => by simpa [sput] using h8 (by simpa [did] using h), fun h => by simpa [sput] using h9 (by simpa [did] using h), fun h => by simpa [sput] using h10 (by simpa [did] using h), fun h => by simpa [sput] using h11 (by simpa [did] using h), fun h => by have := x0 (by simpa [did] using h); simp [did, this], fun h => by have := x1 (by simpa [did] using h); simp [did, this], fun h => by have := x2 (by simpa [did] using h); simp [did, this], fun h => by have := x3 (by simpa [did] using h); simp [did, this], fun h => by have := x4 (by simpa [did] using h); simp [did, this], fun h => by have := x5 (by simpa [did] using h); simp [did, this], fun h => by have := x6 (by simpa [did] using h); simp [did, this], ⟨fun _ => hT, fun h => by simp [did, hl] at h⟩⟩
            · have hl : d 12 = false := by
                cases h : d 12
                · rfl
                · have := x6 h; simp [hd] at this
              replace hT := hT.1 hl
              have fz5 := h5 (by simp [hdep])
              have fz6 := h6 (by simp [hdep])
              unfold OpSteps
              simp [go_sem, evS, fz5, fz6, bj]
              exact ⟨fun h => by simpa [sput] using h0 (by simpa [did] using h), fun h => by simpa [sput] using h1 (by simpa [did] using h), fun h => by simpa [sput] using h2 (by simpa [did] using h), fun h => by simpa [sput] using h3 (by simpa [did] using h), fun h => by simpa [sput] using h4 (by simpa [did] using h), fun h => by simpa [sput] using h5 (by simpa [did] using h), fun h => by simpa [sput] using h6 (by simpa [did] using h), fun _ => by simp [sput], fun h => by simpa [sput] using h8 (by simpa [did] using h), fun h => by simpa [sput] using h9 (by simpa [did] using h), fun h => by simpa [sput] using h10 (by simpa [did] using h), fun h => by simpa [sput] using h11 (by simpa [did] using h), fun h => by have := x0 (by simpa [did] using h); simp [did, this], fun h => by have := x1 (by simpa [did] using h); simp [did, this], fun _ => by simp [did, hdep], fun h => by have := x3 (by simpa [did] using h); simp [did, this], fun h => by have := x4 (by simpa [did] using h); simp [did, this], fun h => by have := x5 (by simpa [did] using h); simp [did, this], fun h => by have := x6 (by simpa [did] using h); simp [did, this], ⟨fun _ => hT, fun h => by simp [did, hl] at h⟩⟩
            · have hl : d 12 = false := by
                cases h : d 12
                · rfl
                · have := x6 h; simp [hd] at this
              replace hT := hT.1 hl
              have fz7 := h7 (by simp [hdep])
              unfold OpSteps
              have pc := cell_below HXc.out hT
              simp [go_sem, evS, fz7, pc]
              exact ⟨fun h => by simpa [sput] using h0 (by simpa [did] using h), fun h => by simpa [sput] using h1 (by simpa [did] using h), fun h => by simpa [sput] using h2 (by simpa [did] using h), fun h => by simpa [sput] using h3 (by simpa [did] using h), fun h => by simpa [sput] using h4 (by simpa [did] using h), fun h => by simpa [sput] using h5 (by simpa [did] using h), fun h => by simpa [sput] using h6 (by simpa [did] using h), fun h => by simpa [sput] using h7 (by simpa [did] using h), fun _ => by simp [sput], fun h => by simpa [sput] using h9 (by simpa [did] using h), fun h => by simpa [sput] using h10 (by simpa [did] using h), fun h => by simpa [sput] using h11 (by simpa [did] using h), fun h => by have := x0 (by simpa [did] using h); simp [did, this], fun h => by have := x1 (by simpa [did] using h); simp [did, this], fun h => by have := x2 (by simpa [did] using h); simp [did, this], fun _ => by have y7 := x2 (by simp [hdep]); simp [did, hdep, y7], fun h => by have := x4 (by simpa [did] using h); simp [did, this], fun h => by have := x5 (by simpa [did] using h); simp [did, this], fun h => by have := x6 (by simpa [did] using h); simp [did, this], ⟨fun _ => hT, fun h => by simp [did, hl] at h⟩⟩
            · have hl : d 12 = false := by
                cases h : d 12
                · rfl
                · have := x6 h; simp [hd] at this
              replace hT := hT.1 hl
              have fz8 := h8 (by simp [hdep])
              unfold OpSteps
              simp [go_sem, evS, fz8]
              refine (rof_v xv W HFx.out.1 HFx.out.2).mono ?_
              rintro e W' ⟨v9, rfl, hv, hb⟩
              refine ⟨_, rfl, ?_⟩
              exact ⟨fun h => by simpa [sput] using h0 (by simpa [did] using h), fun h => by simpa [sput] using h1 (by simpa [did] using h), fun h => by simpa [sput] using h2 (by simpa [did] using h), fun h => by simpa [sput] using h3 (by simpa [did] using h), fun h => by simpa [sput] using (h4 (by simpa [did] using h)).below hb, fun h => by simpa [sput] using h5 (by simpa [did] using h), fun h => by simpa [sput] using h6 (by simpa [did] using h), fun h => by simpa [sput] using h7 (by simpa [did] using h), fun h => by simpa [sput] using h8 (by simpa [did] using h), fun _ => by simpa [sput] using hv, fun h => by simpa [sput] using (h10 (by simpa [did] using h)).below hb, fun h => by simpa [sput] using (h11 (by simpa [did] using h)).below hb, fun h => by have := x0 (by simpa [did] using h); simp [did, this], fun h => by have := x1 (by simpa [did] using h); simp [did, this], fun h => by have := x2 (by simpa [did] using h); simp [did, this], fun h => by have := x3 (by simpa [did] using h); simp [did, this], fun _ => by have y8 := x3 (by simp [hdep]); simp [did, hdep, y8], fun h => by have := x5 (by simpa [did] using h); simp [did, this], fun h => by have := x6 (by simpa [did] using h); simp [did, this], ⟨fun _ => below_nx hT hb, fun h => by simp [did, hl] at h⟩⟩
            · have hl : d 12 = false := by
                cases h : d 12
                · rfl
                · have := x6 h; simp [hd] at this
              replace hT := hT.1 hl
              have fz4 := h4 (by simp [hdep])
              have fz9 := h9 (by simp [hdep])
              unfold OpSteps
              simp [go_sem, evS, fz4, fz9]
              refine (rmul_v fz4 fz9 HSz.out.1 HSz.out.2.1).mono ?_
              rintro e W' ⟨v9, rfl, hv, hb⟩
              refine ⟨_, rfl, ?_⟩
              exact ⟨fun h => by simpa [sput] using h0 (by simpa [did] using h), fun h => by simpa [sput] using h1 (by simpa [did] using h), fun h => by simpa [sput] using h2 (by simpa [did] using h), fun h => by simpa [sput] using h3 (by simpa [did] using h), fun h => by simpa [sput] using (h4 (by simpa [did] using h)).below hb, fun h => by simpa [sput] using h5 (by simpa [did] using h), fun h => by simpa [sput] using h6 (by simpa [did] using h), fun h => by simpa [sput] using h7 (by simpa [did] using h), fun h => by simpa [sput] using h8 (by simpa [did] using h), fun h => by simpa [sput] using (h9 (by simpa [did] using h)).below hb, fun _ => by simpa [sput] using hv, fun h => by simpa [sput] using (h11 (by simpa [did] using h)).below hb, fun h => by have := x0 (by simpa [did] using h); simp [did, this], fun h => by have := x1 (by simpa [did] using h); simp [did, this], fun h => by have := x2 (by simpa [did] using h); simp [did, this], fun h => by have := x3 (by simpa [did] using h); simp [did, this], fun h => by have := x4 (by simpa [did] using h); simp [did, this], fun _ => by have y4 := x1 (by simp [hdep]); have y9 := x4 (by simp [hdep]); simp [did, hdep, y4, y9], fun h => by have := x6 (by simpa [did] using h); simp [did, this], ⟨fun _ => below_nx hT hb, fun h => by simp [did, hl] at h⟩⟩
            · have hl : d 12 = false := by
                cases h : d 12
                · rfl
                · have := x6 h; simp [hd] at this
              replace hT := hT.1 hl
              unfold OpSteps
              simp [go_sem, evS]
              exact ⟨fun h => by simpa [sput] using h0 (by simpa [did] using h), fun h => by simpa [sput] using h1 (by simpa [did] using h), fun h => by simpa [sput] using h2 (by simpa [did] using h), fun h => by simpa [sput] using h3 (by simpa [did] using h), fun h => by simpa [sput] using (h4 (by simpa [did] using h)).below below_one, fun h => by simpa [sput] using h5 (by simpa [did] using h), fun h => by simpa [sput] using h6 (by simpa [did] using h), fun h => by simpa [sput] using h7 (by simpa [did] using h), fun h => by simpa [sput] using h8 (by simpa [did] using h), fun h => by simpa [sput] using (h9 (by simpa [did] using h)).below below_one, fun h => by simpa [sput] using (h10 (by simpa [did] using h)).below below_one, fun _ => ⟨W.heap.size, _, _, _, by simp [sput], Blk.new W _ _, hT.size⟩, fun h => by have := x0 (by simpa [did] using h); simp [did, this], fun h => by have := x1 (by simpa [did] using h); simp [did, this], fun h => by have := x2 (by simpa [did] using h); simp [did, this], fun h => by have := x3 (by simpa [did] using h); simp [did, this], fun h => by have := x4 (by simpa [did] using h); simp [did, this], fun h => by have := x5 (by simpa [did] using h); simp [did, this], fun h => by have := x6 (by simpa [did] using h); simp [did, this], ⟨fun _ => below_al hT, fun h => by simp [did, hl] at h⟩⟩
            · have fz11 := h11 (by simp [hdep])
              have fz10 := h10 (by simp [hdep])
              unfold OpSteps
              replace hT := hT.1 hd
              obtain ⟨g9, z0, z1, z2, gp, hB9, hlo⟩ := fz11
              obtain ⟨ng, A9, n9, c9, E9, L9, gv, gR, gN, gd⟩ := fz10
              have fr0 := hB9.frozen 0
              have fr1 := hB9.frozen 1
              have fr2 := hB9.frozen 2
              obtain ⟨k0, k1, k2⟩ := cells3 hB9
              simp [go_sem, evS, gp, gv, fr0, fr1, fr2, k0, k1, k2]
              exact ⟨fun h => by simpa [sput] using h0 (by simpa [did] using h), fun h => by simpa [sput] using h1 (by simpa [did] using h), fun h => by simpa [sput] using h2 (by simpa [did] using h), fun h => by simpa [sput] using h3 (by simpa [did] using h), fun h => by simpa [sput] using ((((h4 (by simpa [did] using h)).far hB9 (by decide) 0 _).far (hB9.set_ 0 _) (by decide) 1 _).far ((hB9.set_ 0 _).set_ 1 _) (by decide) 2 _), fun h => by simpa [sput] using h5 (by simpa [did] using h), fun h => by simpa [sput] using h6 (by simpa [did] using h), fun h => by simpa [sput] using h7 (by simpa [did] using h), fun h => by simpa [sput] using h8 (by simpa [did] using h), fun h => by simpa [sput] using ((((h9 (by simpa [did] using h)).far hB9 (by decide) 0 _).far (hB9.set_ 0 _) (by decide) 1 _).far ((hB9.set_ 0 _).set_ 1 _) (by decide) 2 _), fun h => by simpa [sput] using ((((h10 (by simpa [did] using h)).far hB9 (by decide) 0 _).far (hB9.set_ 0 _) (by decide) 1 _).far ((hB9.set_ 0 _).set_ 1 _) (by decide) 2 _), fun h => ⟨g9, _, _, _, by simpa [sput] using gp, Blk.store3 hB9 _ _ _, hlo⟩, fun h => by have := x0 (by simpa [did] using h); simp [did, this], fun h => by have := x1 (by simpa [did] using h); simp [did, this], fun h => by have := x2 (by simpa [did] using h); simp [did, this], fun h => by have := x3 (by simpa [did] using h); simp [did, this], fun h => by have := x4 (by simpa [did] using h); simp [did, this], fun h => by have := x5 (by simpa [did] using h); simp [did, this], fun _ => by have y10 := x5 (by simp [hdep]); simp [did, hdep, y10], ⟨fun h => by simp [did] at h, fun _ => ⟨⟨g9, by simpa [sput] using gp, bx_store hB9 gR gN gd, hlo⟩, (((hT.setCell (p := ⟨g9, 0, none⟩) hlo _).setCell (p := ⟨g9, 1, none⟩) hlo _).setCell (p := ⟨g9, 2, none⟩) hlo _)⟩⟩⟩
          intro d s W hJ hd
          obtain ⟨h0, h1, h2, h3, h4, h5, h6, h7, h8, h9, h10, h11, x0, x1, x2, x3, x4, x5, x6, hT⟩ := hJ
          obtain ⟨⟨gP, hsP, hBP, hlP⟩, hBl⟩ := hT.2 (hd 12 (by decide))
          have HP1 := Lib.hid hBP
          have HLp := Lib.hid hlP
          have HBq := Lib.hid hBl
          clear h0 h1 h2 h3 h4 h5 h6 h7 h8 h9 h10 h11 x0 x1 x2 x3 x4 x5 x6 hT hd hBP hlP hBl
          simp [setAll, hsP]
          clear hsP
          generalize s 117 = s117
          generalize s 118 = s118
          generalize s 119 = s119
          generalize s 120 = s120
          generalize s 121 = s121
          generalize s 122 = s122
          generalize s 123 = s123
          generalize s 124 = s124
          generalize s 125 = s125
          generalize s 126 = s126
          generalize s 127 = s127
          generalize W = wj at *
          have HEk := Lib.hid (HEj.out.below HBq.out)
          have HSk := Lib.hid (HSj.out.below HBq.out)
          have HBk := Lib.hid (below_nx HBj.out HBq.out)
          have HNp := Lib.hid (show gP ≠ gE ∧ gP ≠ gS from ⟨by have := HEj.out.lt; have := HLp.out; omega, by have := HSj.out.lt; have := HLp.out; omega⟩)
          obtain ⟨ng1, A1, n1, c1', E1, hK1, hD1⟩ := bx_open HEk.out
          obtain ⟨ng3, A3, n3, c3', E3, hK3, hD3⟩ := bx_open HP1.out
          have HD13 := Lib.hid (And.intro (hD1 _ (Below.refl _ _)) (hD3 _ (Below.refl _ _)))
          have HK1 := Lib.hid hK1
          have HK3 := Lib.hid hK3
          clear hD1 hD3 hK1 hK3
          obtain ⟨e0, e1, e2⟩ := cells3 HK1.out
          obtain ⟨f0, f1, f2⟩ := cells3 HK3.out
          go_wp2_with fail
          refine (radd_v HD13.out.1 HD13.out.2 HSz.out.2.2.2.2.2 HSz.out.2.2.1).mono ?_
          rintro e wk ⟨v9, rfl, hv, hb⟩
          obtain ⟨ng9, A9, n9, c9, E9, L9, rfl, gR, gN, gd⟩ := hv
          have hKk := HK1.out.nxt hb
          have HE2 := Lib.hid (bx_store hKk gR gN gd)
          have HS2' := Lib.hid ((HSk.out.below hb).far3 (fun e => HES.out e.symm) hKk (.bool ng9) (.slice A9 n9 c9) (.int .i64 E9))
          have HP2 := Lib.hid ((HP1.out.below hb).far3 HNp.out.1 hKk (.bool ng9) (.slice A9 n9 c9) (.int .i64 E9))
          have HB2' := Lib.hid ((((below_nx HBk.out hb).setCell (p := ⟨gE, 0, none⟩) HLo6.out.1 (.bool ng9)).setCell (p := ⟨gE, 1, none⟩) HLo6.out.1 (.slice A9 n9 c9)).setCell (p := ⟨gE, 2, none⟩) HLo6.out.1 (.int .i64 E9))
          clear e0 e1 e2 f0 f1 f2
          obtain ⟨e0, e1, e2⟩ := cells3 hKk
          have f0 := hKk.frozen 0
          have f1 := hKk.frozen 1
          have f2 := hKk.frozen 2
          clear hb gR gN gd hKk
          go_upto_region 23 with fail
          generalize (((wk.setCell ⟨gE, 0, none⟩ (.bool ng9)).setCell ⟨gE, 1, none⟩ (.slice A9 n9 c9)).setCell ⟨gE, 2, none⟩ (.int .i64 E9)) = wl at *
          obtain ⟨ng2, A2, n2, c2, E2, hKs, hDs⟩ := bx_open HS2'.out
          obtain ⟨ng3, A3, n3, c3, E3, hKp, hDp⟩ := bx_open HP2.out
          have HKs := Lib.hid hKs
          have HKp := Lib.hid hKp
          have HDs := Lib.hid hDs
          have HDp := Lib.hid hDp
          clear hKs hKp hDs hDp e0 e1 e2 f0 f1 f2
          refine wp_region_inv [131, 132, 133, 134] (fun d s W => (d 0 = true → s 131 = .agg #[.bool ng2, .slice A2 n2 c2, .int .i64 E2]) ∧ (d 1 = true → s 132 = .agg #[.bool ng3, .slice A3 n3 c3, .int .i64 E3]) ∧ (d 2 = true → DV W (s 133) (dabs (fdy tv * fdy xv))) ∧ (d 3 = true → DV W (s 134) (SJ + dabs (fdy tv * fdy xv))) ∧ (d 2 = true → d 1 = true) ∧ (d 3 = true → d 0 = true ∧ d 1 = true ∧ d 2 = true) ∧ (d 4 = true → d 0 = true ∧ d 1 = true ∧ d 2 = true ∧ d 3 = true) ∧ ((d 4 = false → Below wl.heap.size wl W) ∧ (d 4 = true → Bx W gS (SJ + dabs (fdy tv * fdy xv)) ∧ Chg [gS] wl W)))
            rfl (by kernel_rfl) ?_ ?_ ?_
          · exact ⟨by simp, by simp, by simp, by simp, by simp, by simp, by simp, ⟨fun _ => (Below.refl _ _).drew, fun h => by simp at h⟩⟩
          · refine ⟨?_, ?_, ?_, ?_, ?_, trivial⟩
            all_goals
              intro d s W hJ hfr hd hdep
              simp only [List.mem_cons, forall_eq_or_imp, List.not_mem_nil, false_implies, implies_true, and_true, Region.binds] at hdep
              have f15 := hfr 15 (by decide)
              have f17 := hfr 17 (by decide)
              simp at f15 f17 hdep
              obtain ⟨h0, h1, h2, h3, x0, x1, x2, hT⟩ := hJ
            · have hl : d 4 = false := by
                cases h : d 4
                · rfl
                · have := x2 h; simp [hd] at this
              replace hT := hT.1 hl
              unfold OpSteps
              obtain ⟨p0, p1, p2⟩ := cells3 (HKs.out.below hT HKs.out.lt)
              simp [go_sem, evS, f15, p0, p1, p2]
              exact ⟨fun _ => by simp [sput], fun h => by simpa [sput] using h1 (by simpa [did] using h), fun h => by simpa [sput] using h2 (by simpa [did] using h), fun h => by simpa [sput] using h3 (by simpa [did] using h), fun h => by have := x0 (by simpa [did] using h); simp [did, this], fun h => by have := x1 (by simpa [did] using h); simp [did, this], fun h => by have := x2 (by simpa [did] using h); simp [did, this], ⟨fun _ => hT, fun h => by simp [did, hl] at h⟩⟩
            · have hl : d 4 = false := by
                cases h : d 4
                · rfl
                · have := x2 h; simp [hd] at this
              replace hT := hT.1 hl
              unfold OpSteps
              obtain ⟨p0, p1, p2⟩ := cells3 (HKp.out.below hT HKp.out.lt)
              simp [go_sem, evS, f17, p0, p1, p2]
              exact ⟨fun h => by simpa [sput] using h0 (by simpa [did] using h), fun _ => by simp [sput], fun h => by simpa [sput] using h2 (by simpa [did] using h), fun h => by simpa [sput] using h3 (by simpa [did] using h), fun h => by have := x0 (by simpa [did] using h); simp [did, this], fun h => by have := x1 (by simpa [did] using h); simp [did, this], fun h => by have := x2 (by simpa [did] using h); simp [did, this], ⟨fun _ => hT, fun h => by simp [did, hl] at h⟩⟩
            · have hl : d 4 = false := by
                cases h : d 4
                · rfl
                · have := x2 h; simp [hd] at this
              replace hT := hT.1 hl
              have fz1 := h1 (by simp [hdep])
              unfold OpSteps
              simp [go_sem, evS, fz1]
              refine (rabs_v (HDp.out W hT)).mono ?_
              rintro e W' ⟨v9, rfl, hv, hb⟩
              refine ⟨_, rfl, ?_⟩
              exact ⟨fun h => by simpa [sput] using h0 (by simpa [did] using h), fun h => by simpa [sput] using h1 (by simpa [did] using h), fun _ => by simpa [sput] using hv, fun h => by simpa [sput] using (h3 (by simpa [did] using h)).below hb, fun _ => by simp [did, hdep], fun h => by have := x1 (by simpa [did] using h); simp [did, this], fun h => by have := x2 (by simpa [did] using h); simp [did, this], ⟨fun _ => below_nx hT hb, fun h => by simp [did, hl] at h⟩⟩
            · have hl : d 4 = false := by
                cases h : d 4
                · rfl
                · have := x2 h; simp [hd] at this
              replace hT := hT.1 hl
              have fz0 := h0 (by simp [hdep])
              have fz2 := h2 (by simp [hdep])
              unfold OpSteps
              simp [go_sem, evS, fz0]
              refine (radd_v (HDs.out W hT) fz2 HSz.out.2.2.2.1 HSz.out.2.2.2.2.1).mono ?_
              rintro e W' ⟨v9, rfl, hv, hb⟩
              refine ⟨_, rfl, ?_⟩
              exact ⟨fun h => by simpa [sput] using h0 (by simpa [did] using h), fun h => by simpa [sput] using h1 (by simpa [did] using h), fun h => by simpa [sput] using (h2 (by simpa [did] using h)).below hb, fun _ => by simpa [sput] using hv, fun h => by have := x0 (by simpa [did] using h); simp [did, this], fun _ => by have y2 := x0 (by simp [hdep]); simp [did, hdep, y2], fun h => by have := x2 (by simpa [did] using h); simp [did, this], ⟨fun _ => below_nx hT hb, fun h => by simp [did, hl] at h⟩⟩
            · have fz3 := h3 (by simp [hdep])
              unfold OpSteps
              replace hT := hT.1 hd
              obtain ⟨ng, A9, n9, c9, E9, L9, gv, gR, gN, gd⟩ := fz3
              have hB9 := HKs.out.below hT HKs.out.lt
              have fr0 := hB9.frozen 0
              have fr1 := hB9.frozen 1
              have fr2 := hB9.frozen 2
              obtain ⟨k0, k1, k2⟩ := cells3 hB9
              simp [go_sem, evS, f15, gv, fr0, fr1, fr2, k0, k1, k2]
              exact ⟨fun h => by simpa [sput] using h0 (by simpa [did] using h), fun h => by simpa [sput] using h1 (by simpa [did] using h), fun h => by simpa [sput] using (h2 (by simpa [did] using h)).far3 hB9 _ _ _, fun h => by simpa [sput] using (h3 (by simpa [did] using h)).far3 hB9 _ _ _, fun h => by have := x0 (by simpa [did] using h); simp [did, this], fun h => by have := x1 (by simpa [did] using h); simp [did, this], fun _ => by have y3 := x1 (by simp [hdep]); simp [did, hdep, y3], ⟨fun h => by simp [did] at h, fun _ => ⟨bx_store hB9 gR gN gd, (((Chg.of_below hT).set_in (by simp) _).set_in (by simp) _).set_in (by simp) _⟩⟩⟩
          intro d s W hJ hd
          obtain ⟨h0, h1, h2, h3, x0, x1, x2, hT⟩ := hJ
          obtain ⟨hBS, hcS⟩ := hT.2 (hd 4 (by decide))
          have HS2 := Lib.hid hBS
          have HCS := Lib.hid hcS
          clear h0 h1 h2 h3 x0 x1 x2 hT hd hBS hcS
          simp [setAll]
          generalize s 131 = s131
          generalize s 132 = s132
          generalize s 133 = s133
          generalize s 134 = s134
          generalize W = wm at *
          have HE3 := Lib.hid (HE2.out.chg HES.out HKs.out (by decide) HCS.out)
          have HB3' := Lib.hid (HCS.out.below HB2'.out HB2'.out.size (by intro g hg; simp at hg; subst hg; exact HLo6.out.2))
          go_wp2_with fail
          go_roundw
          case rel => exact ⟨j + 1, by omega, by go_num, Lib.hid ⟨by rw [HNx.out.1]; exact HE3.out, by rw [HNx.out.2]; exact HS2.out, HB3'.out⟩⟩
          case measure => simp [intOf]; omega
        · obtain rfl : j = n := by omega
          have hjc : ¬ (j : Int) < (j : Int) := by omega
          have hj12 : j ≤ 12 := HLn.out.2.2.2.2.2
          have hE := HEi.out j (Nat.le_refl _)
          obtain ⟨EN, hEN⟩ : ∃ EN, Ed yv tf xf j = EN := ⟨_, rfl⟩
          obtain ⟨SN, hSN⟩ : ∃ SN, Sd yv tf xf j = SN := ⟨_, rfl⟩
          have hzf := fin_at HFb.out i
          have hZ := HPi.out _ hzf HMi.out
          rw [hEN, hSN] at hZ
          obtain ⟨zv, hzv⟩ : ∃ zv, m.getD i 0 = zv := ⟨_, rfl⟩
          rw [hzv] at hZ hzf
          obtain ⟨ZZ, hZ1, hZ2⟩ := hZ
          have hEH := HH.out.1
          have hSH := HH.out.2.1
          rw [hEN] at hEH hE
          rw [hSN] at hSH hE
          have hfi : Fitd SN ∧ Fitd (SN * dy 1 (-51)) ∧ Fitd (dy 1 0) ∧ Fitd (dy 1 0 * dy 1 (-1070)) ∧ Fitd (SN * dy 1 (-51) + dy 1 0 * dy 1 (-1070)) ∧ Fitd (dy ((j : Int) + 1) 0) ∧ Fitd ((SN * dy 1 (-51) + dy 1 0 * dy 1 (-1070)) * dy ((j : Int) + 1) 0) ∧ Fitd (fdy zv) ∧ Fitd EN ∧ Fitd (dabs (fdy zv - EN)) := by
            have s1 : Sz 2161 SN := hE.2.mono (by omega)
            have s2 : Sz 2300 (SN * dy 1 (-51)) := s1.shift (-51) (by decide)
            have s3 : Sz 10 (dy 1 0) := Sz.int (by decide)
            have s4 : Sz 1100 (dy 1 0 * dy 1 (-1070)) := s3.shift (-1070) (by decide)
            have s5 : Sz 2400 (SN * dy 1 (-51) + dy 1 0 * dy 1 (-1070)) := Sz.add s2 s4 (by omega) (by omega)
            have s6 : Sz 10 (dy ((j : Int) + 1) 0) := Sz.int (by omega)
            have s7 : Sz 2500 ((SN * dy 1 (-51) + dy 1 0 * dy 1 (-1070)) * dy ((j : Int) + 1) 0) := s5.mul s6 (by omega)
            have s8 := Sz.float hzf
            have s9 : Sz 2161 EN := hE.1.mono (by omega)
            have s10 : Sz 2200 (fdy zv - EN) := Sz.sub s8 s9 (by omega) (by omega)
            exact ⟨s1.fit (by omega), s2.fit (by omega), s3.fit (by omega), s4.fit (by omega), s5.fit (by omega), s6.fit (by omega), s7.fit (by omega), s8.fit (by omega), s9.fit (by omega), s10.abs.fit (by omega)⟩
          have hsgn : Int.sign ZZ ≤ 0 := Int.sign_nonpos_iff.2 hZ2
          have hsg : decide ((0 : Int) < Int.sign ZZ) = false := by simp; omega
          have hz0 := hZ2
          have HFi := Lib.hid hfi
          have HZZ0 := Lib.hid hZ1
          have HFz := Lib.hid (show zv < 18446744073709551616 ∧ Fl.rung zv < Fl.INF from ⟨by rw [← hzv]; exact getD_wds HWm.out i, hzf⟩)
          have HEn := Lib.hid hEH
          have HSn := Lib.hid hSH
          have HBn := Lib.hid HH.out.2.2
          have HZn := Lib.hid (show ∀ W, Below wr.heap.size wr W → W.cell? ⟨gz, i, none⟩ = some (.float .f64 zv) from fun W hb => by
            have := (HZ6.out.nxt (below_nx HH.out.2.2 hb)).get i (by rw [HMm.out.1]; exact hlt)
            rw [← getD_of_lt (by rw [HMm.out.1]; exact hlt), hzv] at this
            exact this)
          obtain ⟨ngs, As, ns, cs9, Es, hKs, hDs⟩ := bx_open HSn.out
          have HKs := Lib.hid hKs
          have HDs := Lib.hid hDs
          clear hE hzf hZ1 hZ2 hEH hSH hfi hsgn hKs hDs hEN hSN hzv
          obtain ⟨e0, e1, e2⟩ := cells3 HKs.out
          go_wp2_with fail
          refine (rshift_v (-51) (by decide) (HDs.out _ (Below.refl _ _)) HFi.out.1).mono ?_
          rintro e wa ⟨va, rfl, hva, hb⟩
          have HVa := Lib.hid hva
          have HBa := Lib.hid hb
          clear hva hb e0 e1 e2
          go_wp2_with fail
          refine (rint_v 1 _ (by omega) (by omega)).mono ?_
          rintro e wb ⟨vb, rfl, hvb, hb⟩
          have HVb := Lib.hid hvb
          have HVa1 := Lib.hid (HVa.out.below hb)
          have HBb := Lib.hid (below_nx HBa.out hb)
          clear hvb hb
          go_wp2_with fail
          refine (rshift_v (-1070) (by decide) HVb.out HFi.out.2.2.1).mono ?_
          rintro e wc ⟨vc, rfl, hvc, hb⟩
          have HVc := Lib.hid hvc
          have HVa2 := Lib.hid (HVa1.out.below hb)
          have HBc := Lib.hid (below_nx HBb.out hb)
          clear hvc hb
          go_wp2_with fail
          refine (radd_v HVa2.out HVc.out HFi.out.2.1 HFi.out.2.2.2.1).mono ?_
          rintro e wd ⟨vd, rfl, hvd, hb⟩
          have HVd := Lib.hid hvd
          have HBd := Lib.hid (below_nx HBc.out hb)
          clear hvd hb
          go_wp2_with fail
          refine (rint_v ((j : Int) + 1) _ (by omega) (by omega)).mono ?_
          rintro e we ⟨ve, rfl, hve, hb⟩
          have HVe := Lib.hid hve
          have HVd1 := Lib.hid (HVd.out.below hb)
          have HBe := Lib.hid (below_nx HBd.out hb)
          clear hve hb
          go_wp2_with fail
          refine (rmul_v HVd1.out HVe.out HFi.out.2.2.2.2.1 HFi.out.2.2.2.2.2.1).mono ?_
          rintro e wf ⟨vf, rfl, hvf, hb⟩
          obtain ⟨ng5, A5, n5, c5, E5, L5, rfl, gR, gN, gd⟩ := hvf
          have HDm0 := Lib.hid (show DV wf (.agg #[.bool ng5, .slice A5 n5 c5, .int .i64 E5]) _ from ⟨ng5, A5, n5, c5, E5, L5, rfl, gR, gN, gd⟩)
          have HBf := Lib.hid (below_nx HBe.out hb)
          clear gR gN gd hb
          go_upto_region 25 with fail
          have HKm := Lib.hid (Blk.new wf 52 #[.bool ng5, .slice A5 n5 c5, .int .i64 E5])
          have hbl : Below wr.heap.size wr (wf.alloc (.cells #[.bool ng5, .slice A5 n5 c5, .int .i64 E5] 52)) := below_al HBf.out
          have HBl := Lib.hid hbl
          have HDmN := Lib.hid (HDm0.out.below (below_one (o := (.cells #[.bool ng5, .slice A5 n5 c5, .int .i64 E5] 52))))
          have HEw := Lib.hid (HEn.out.below hbl)
          have HZw := Lib.hid (HZn.out _ hbl)
          clear hbl
          generalize wf.heap.size = gM9 at *
          generalize wf.alloc (.cells #[.bool ng5, .slice A5 n5 c5, .int .i64 E5] 52) = wn at *
          obtain ⟨ng4, A4, n4, c4, E4, hKe, hDe⟩ := bx_open HEw.out
          have HKe := Lib.hid hKe
          have HDe := Lib.hid hDe
          have HDm := Lib.hid (fun W (hb : Below wn.heap.size wn W) => HDmN.out.below hb)
          have HZc := HZw
          have HSf := Lib.hid (show Fitd (fdy zv) ∧ Fitd EN ∧ Fitd (dabs (fdy zv - EN)) ∧ Fitd ((SN * dy 1 (-51) + dy 1 0 * dy 1 (-1070)) * dy ((j : Int) + 1) 0) from ⟨HFi.out.2.2.2.2.2.2.2.1, HFi.out.2.2.2.2.2.2.2.2.1, HFi.out.2.2.2.2.2.2.2.2.2, HFi.out.2.2.2.2.2.2.1⟩)
          have HZZ := Lib.hid (And.intro HZZ0.out trivial)
          clear hKe hDe
          refine wp_region_inv [144, 145, 146, 147, 148, 149, 150, 151, 152, 153, 154] (fun d s W => (d 0 = true → s 144 = .slice (some ⟨gz, 0, none⟩) r cz) ∧ (d 1 = true → s 145 = .int .i64 (i : Int)) ∧ (d 2 = true → s 146 = .pointer (some ⟨gz, i, none⟩)) ∧ (d 3 = true → s 147 = .float .f64 zv) ∧ (d 4 = true → DV W (s 148) (fdy zv)) ∧ (d 5 = true → s 149 = .agg #[.bool ng4, .slice A4 n4 c4, .int .i64 E4]) ∧ (d 6 = true → DV W (s 150) (fdy zv - EN)) ∧ (d 7 = true → DV W (s 151) (dabs (fdy zv - EN))) ∧ (d 8 = true → s 152 = .agg #[.bool ng5, .slice A5 n5 c5, .int .i64 E5]) ∧ (d 9 = true → s 153 = .int .i64 (Int.sign ZZ)) ∧ (d 10 = true → s 154 = .bool false) ∧ Below wn.heap.size wn W)
            rfl (by kernel_rfl) ?_ ?_ ?_
          · exact ⟨by simp, by simp, by simp, by simp, by simp, by simp, by simp, by simp, by simp, by simp, by simp, (Below.refl _ _).drew⟩
          · refine ⟨?_, ?_, ?_, ?_, ?_, ?_, ?_, ?_, ?_, ?_, ?_, trivial⟩
            all_goals
              intro d s W hJ hfr hd hdep
              simp only [List.mem_cons, forall_eq_or_imp, List.not_mem_nil, false_implies, implies_true, and_true, Region.binds] at hdep
              have f12 := hfr 12 (by decide)
              have f13 := hfr 13 (by decide)
              have f14 := hfr 14 (by decide)
              have f18 := hfr 18 (by decide)
              simp at f12 f13 f14 f18 hdep
              obtain ⟨h0, h1, h2, h3, h4, h5, h6, h7, h8, h9, h10, hT⟩ := hJ
            · unfold OpSteps
              simp [go_sem, evS, f12]
              exact ⟨fun _ => by simp [sput], fun h => by simpa [sput] using h1 (by simpa [did] using h), fun h => by simpa [sput] using h2 (by simpa [did] using h), fun h => by simpa [sput] using h3 (by simpa [did] using h), fun h => by simpa [sput] using h4 (by simpa [did] using h), fun h => by simpa [sput] using h5 (by simpa [did] using h), fun h => by simpa [sput] using h6 (by simpa [did] using h), fun h => by simpa [sput] using h7 (by simpa [did] using h), fun h => by simpa [sput] using h8 (by simpa [did] using h), fun h => by simpa [sput] using h9 (by simpa [did] using h), fun h => by simpa [sput] using h10 (by simpa [did] using h), hT⟩
            · unfold OpSteps
              simp [go_sem, evS, f13]
              exact ⟨fun h => by simpa [sput] using h0 (by simpa [did] using h), fun _ => by simp [sput], fun h => by simpa [sput] using h2 (by simpa [did] using h), fun h => by simpa [sput] using h3 (by simpa [did] using h), fun h => by simpa [sput] using h4 (by simpa [did] using h), fun h => by simpa [sput] using h5 (by simpa [did] using h), fun h => by simpa [sput] using h6 (by simpa [did] using h), fun h => by simpa [sput] using h7 (by simpa [did] using h), fun h => by simpa [sput] using h8 (by simpa [did] using h), fun h => by simpa [sput] using h9 (by simpa [did] using h), fun h => by simpa [sput] using h10 (by simpa [did] using h), hT⟩
            · have fz0 := h0 (by simp [hdep])
              have fz1 := h1 (by simp [hdep])
              unfold OpSteps
              simp [go_sem, evS, fz0, fz1, bz]
              exact ⟨fun h => by simpa [sput] using h0 (by simpa [did] using h), fun h => by simpa [sput] using h1 (by simpa [did] using h), fun _ => by simp [sput], fun h => by simpa [sput] using h3 (by simpa [did] using h), fun h => by simpa [sput] using h4 (by simpa [did] using h), fun h => by simpa [sput] using h5 (by simpa [did] using h), fun h => by simpa [sput] using h6 (by simpa [did] using h), fun h => by simpa [sput] using h7 (by simpa [did] using h), fun h => by simpa [sput] using h8 (by simpa [did] using h), fun h => by simpa [sput] using h9 (by simpa [did] using h), fun h => by simpa [sput] using h10 (by simpa [did] using h), hT⟩
            · have fz2 := h2 (by simp [hdep])
              unfold OpSteps
              have pc := cell_below HZc.out hT
              simp [go_sem, evS, fz2, pc]
              exact ⟨fun h => by simpa [sput] using h0 (by simpa [did] using h), fun h => by simpa [sput] using h1 (by simpa [did] using h), fun h => by simpa [sput] using h2 (by simpa [did] using h), fun _ => by simp [sput], fun h => by simpa [sput] using h4 (by simpa [did] using h), fun h => by simpa [sput] using h5 (by simpa [did] using h), fun h => by simpa [sput] using h6 (by simpa [did] using h), fun h => by simpa [sput] using h7 (by simpa [did] using h), fun h => by simpa [sput] using h8 (by simpa [did] using h), fun h => by simpa [sput] using h9 (by simpa [did] using h), fun h => by simpa [sput] using h10 (by simpa [did] using h), hT⟩
            · have fz3 := h3 (by simp [hdep])
              unfold OpSteps
              simp [go_sem, evS, fz3]
              refine (rof_v zv W HFz.out.1 HFz.out.2).mono ?_
              rintro e W' ⟨v9, rfl, hv, hb⟩
              refine ⟨_, rfl, ?_⟩
              exact ⟨fun h => by simpa [sput] using h0 (by simpa [did] using h), fun h => by simpa [sput] using h1 (by simpa [did] using h), fun h => by simpa [sput] using h2 (by simpa [did] using h), fun h => by simpa [sput] using h3 (by simpa [did] using h), fun _ => by simpa [sput] using hv, fun h => by simpa [sput] using h5 (by simpa [did] using h), fun h => by simpa [sput] using (h6 (by simpa [did] using h)).below hb, fun h => by simpa [sput] using (h7 (by simpa [did] using h)).below hb, fun h => by simpa [sput] using h8 (by simpa [did] using h), fun h => by simpa [sput] using h9 (by simpa [did] using h), fun h => by simpa [sput] using h10 (by simpa [did] using h), below_nx hT hb⟩
            · unfold OpSteps
              obtain ⟨p0, p1, p2⟩ := cells3 (HKe.out.below hT HKe.out.lt)
              simp [go_sem, evS, f14, p0, p1, p2]
              exact ⟨fun h => by simpa [sput] using h0 (by simpa [did] using h), fun h => by simpa [sput] using h1 (by simpa [did] using h), fun h => by simpa [sput] using h2 (by simpa [did] using h), fun h => by simpa [sput] using h3 (by simpa [did] using h), fun h => by simpa [sput] using h4 (by simpa [did] using h), fun _ => by simp [sput], fun h => by simpa [sput] using h6 (by simpa [did] using h), fun h => by simpa [sput] using h7 (by simpa [did] using h), fun h => by simpa [sput] using h8 (by simpa [did] using h), fun h => by simpa [sput] using h9 (by simpa [did] using h), fun h => by simpa [sput] using h10 (by simpa [did] using h), hT⟩
            · have fz4 := h4 (by simp [hdep])
              have fz5 := h5 (by simp [hdep])
              unfold OpSteps
              simp [go_sem, evS, fz5]
              refine (rsub_v fz4 (HDe.out W hT) HSf.out.1 HSf.out.2.1).mono ?_
              rintro e W' ⟨v9, rfl, hv, hb⟩
              refine ⟨_, rfl, ?_⟩
              exact ⟨fun h => by simpa [sput] using h0 (by simpa [did] using h), fun h => by simpa [sput] using h1 (by simpa [did] using h), fun h => by simpa [sput] using h2 (by simpa [did] using h), fun h => by simpa [sput] using h3 (by simpa [did] using h), fun h => by simpa [sput] using (h4 (by simpa [did] using h)).below hb, fun h => by simpa [sput] using h5 (by simpa [did] using h), fun _ => by simpa [sput] using hv, fun h => by simpa [sput] using (h7 (by simpa [did] using h)).below hb, fun h => by simpa [sput] using h8 (by simpa [did] using h), fun h => by simpa [sput] using h9 (by simpa [did] using h), fun h => by simpa [sput] using h10 (by simpa [did] using h), below_nx hT hb⟩
            · have fz6 := h6 (by simp [hdep])
              unfold OpSteps
              simp [go_sem, evS]
              refine (rabs_v fz6).mono ?_
              rintro e W' ⟨v9, rfl, hv, hb⟩
              refine ⟨_, rfl, ?_⟩
              exact ⟨fun h => by simpa [sput] using h0 (by simpa [did] using h), fun h => by simpa [sput] using h1 (by simpa [did] using h), fun h => by simpa [sput] using h2 (by simpa [did] using h), fun h => by simpa [sput] using h3 (by simpa [did] using h), fun h => by simpa [sput] using (h4 (by simpa [did] using h)).below hb, fun h => by simpa [sput] using h5 (by simpa [did] using h), fun h => by simpa [sput] using (h6 (by simpa [did] using h)).below hb, fun _ => by simpa [sput] using hv, fun h => by simpa [sput] using h8 (by simpa [did] using h), fun h => by simpa [sput] using h9 (by simpa [did] using h), fun h => by simpa [sput] using h10 (by simpa [did] using h), below_nx hT hb⟩
            · unfold OpSteps
              obtain ⟨p0, p1, p2⟩ := cells3 (HKm.out.below hT HKm.out.lt)
              simp [go_sem, evS, f18, p0, p1, p2]
              exact ⟨fun h => by simpa [sput] using h0 (by simpa [did] using h), fun h => by simpa [sput] using h1 (by simpa [did] using h), fun h => by simpa [sput] using h2 (by simpa [did] using h), fun h => by simpa [sput] using h3 (by simpa [did] using h), fun h => by simpa [sput] using h4 (by simpa [did] using h), fun h => by simpa [sput] using h5 (by simpa [did] using h), fun h => by simpa [sput] using h6 (by simpa [did] using h), fun h => by simpa [sput] using h7 (by simpa [did] using h), fun _ => by simp [sput], fun h => by simpa [sput] using h9 (by simpa [did] using h), fun h => by simpa [sput] using h10 (by simpa [did] using h), hT⟩
            · have fz7 := h7 (by simp [hdep])
              have fz8 := h8 (by simp [hdep])
              unfold OpSteps
              simp [go_sem, evS, fz8]
              refine (rcmp_v fz7 (HDm.out W hT) HSf.out.2.2.1 HSf.out.2.2.2 HZZ.out.1).mono ?_
              rintro e W' ⟨rfl, hb⟩
              refine ⟨_, rfl, ?_⟩
              exact ⟨fun h => by simpa [sput] using h0 (by simpa [did] using h), fun h => by simpa [sput] using h1 (by simpa [did] using h), fun h => by simpa [sput] using h2 (by simpa [did] using h), fun h => by simpa [sput] using h3 (by simpa [did] using h), fun h => by simpa [sput] using (h4 (by simpa [did] using h)).below hb, fun h => by simpa [sput] using h5 (by simpa [did] using h), fun h => by simpa [sput] using (h6 (by simpa [did] using h)).below hb, fun h => by simpa [sput] using (h7 (by simpa [did] using h)).below hb, fun h => by simpa [sput] using h8 (by simpa [did] using h), fun _ => by simp [sput], fun h => by simpa [sput] using h10 (by simpa [did] using h), below_nx hT hb⟩
            · have fz9 := h9 (by simp [hdep])
              unfold OpSteps
              simp [go_sem, evS, fz9, hsg]
              exact ⟨fun h => by simpa [sput] using h0 (by simpa [did] using h), fun h => by simpa [sput] using h1 (by simpa [did] using h), fun h => by simpa [sput] using h2 (by simpa [did] using h), fun h => by simpa [sput] using h3 (by simpa [did] using h), fun h => by simpa [sput] using h4 (by simpa [did] using h), fun h => by simpa [sput] using h5 (by simpa [did] using h), fun h => by simpa [sput] using h6 (by simpa [did] using h), fun h => by simpa [sput] using h7 (by simpa [did] using h), fun h => by simpa [sput] using h8 (by simpa [did] using h), fun h => by simpa [sput] using h9 (by simpa [did] using h), fun _ => by simpa [sput] using hz0, hT⟩
          intro d s W hJ hd
          obtain ⟨h0, h1, h2, h3, h4, h5, h6, h7, h8, h9, h10, hT⟩ := hJ
          have hs := h10 (hd 10 (by decide))
          have HBz := Lib.hid hT
          clear h0 h1 h2 h3 h4 h5 h6 h7 h8 h9 h10 hT hd
          simp [setAll, hs]
          clear hs
          generalize s 144 = s144
          generalize s 145 = s145
          generalize s 146 = s146
          generalize s 147 = s147
          generalize s 148 = s148
          generalize s 149 = s149
          generalize s 150 = s150
          generalize s 151 = s151
          generalize s 152 = s152
          generalize s 153 = s153
          generalize s 154 = s154
          generalize W = wz at *
          have HBe9 := Lib.hid (below_nx (below_nx HBn.out HBl.out) HBz.out)
          go_wp2_with fail
          go_roundw
          case rel => exact ⟨i + 1, by omega, by go_num, HBe9.out⟩
          case measure => simp [intOf]; omega
    · obtain rfl : i = r := by omega
      have hic : ¬ (i : Int) < (i : Int) := by omega
      go_wp2_with fail
      refine (awake7_any _).mono ?_
      rintro e w9 ⟨rfl, hb⟩
      have HB9 := Lib.hid (below_nx (below_nx HB6.out HBr.out) hb)
      clear hb
      go_wp2_with fail
      go_ret
      exact ⟨rfl, HB9.out⟩
end Go.Proofs.Ytodoibioedelgaa
/-
GemvClose, put together. Conditions: as each says.
-/
set_option linter.unusedVariables false
set_option linter.unusedSimpArgs false
set_option linter.unnecessarySimpa false
namespace Go.Proofs.Ytodoibioedelgaa
open Go.RowKit
attribute [local go_sem ↓] Go.wp_at_zero Go.wp_at_succ


set_option maxRecDepth 100000 in
set_option maxHeartbeats 4000000 in
theorem gemvClose_bad (Al : Option Addr) (nl cl : Nat) (l : List Nat) (Ax : Option Addr) (nx cx : Nat) (x : List Nat) (Ay : Option Addr) (r cy : Nat) (y : List Nat) (q n : Nat) (w : World) (hAl : Row w Al (f64s l)) (hAx : Row w Ax (f64s x)) (hAy : Row w Ay (f64s y)) (hWl : Wds l) (hWx : Wds x) (hWy : Wds y) (hl : l.length = nl) (hx : x.length = nx) (hy : y.length = r)
    (hq : q < 256) (hn : 1 + q % 12 = n) (h : ¬ (n ≤ nx ∧ 1 ≤ r ∧ r ≤ 12 ∧ nx ≤ 60 ∧ nl ≤ 200 ∧ l.all Fl.fin = true ∧ x.all Fl.fin = true ∧ y.all Fl.fin = true)) :
    Calls Try.prog 4 #[.slice Al nl cl, .slice Ax nx cx, .slice Ay r cy, .int .u8 (q : Int)] w fun e w' => e = .returned (.bool true) ∧ Below w.heap.size w w' := by
  obtain ⟨s, HU⟩ := gc_ints hq hn
  obtain ⟨b1, hb1⟩ : ∃ b, decide (nx < n) = b := ⟨_, rfl⟩
  obtain ⟨b2, hb2⟩ : ∃ b, (r == 0) = b := ⟨_, rfl⟩
  obtain ⟨b3, hb3⟩ : ∃ b, decide (12 < r) = b := ⟨_, rfl⟩
  obtain ⟨b4, hb4⟩ : ∃ b, decide (60 < nx) = b := ⟨_, rfl⟩
  obtain ⟨b5, hb5⟩ : ∃ b, decide (200 < nl) = b := ⟨_, rfl⟩
  have i1 : decide ((nx : Int) < (n : Int)) = b1 := by rw [← hb1]; simp
  have i2 : ((r : Int) == 0) = b2 := by rw [← hb2]; exact (beq0 r).symm
  have i3 : decide ((12 : Int) < (r : Int)) = b3 := by rw [← hb3]; exact decide_eq_decide.2 (by omega)
  have i4 : decide ((60 : Int) < (nx : Int)) = b4 := by rw [← hb4]; exact decide_eq_decide.2 (by omega)
  have i5 : decide ((200 : Int) < (nl : Int)) = b5 := by rw [← hb5]; exact decide_eq_decide.2 (by omega)
  cases b1
  rotate_left
  · clear hAl hAx hAy hWl hWx hWy hl hx hy hq hn h
    obtain ⟨c1, c2, ⟨u1, u2⟩, ⟨u3, u4⟩, ⟨u5, u6⟩⟩ := HU.out
    go_enter Try.func4, Try.ntmps4
    go_wp2_with fail
    refine (awake7_any _).mono ?_
    rintro e w1 ⟨rfl, hb⟩
    have HB1 := Lib.hid hb
    clear hb
    go_wp2_with fail
    refine (awake7_any _).mono ?_
    rintro e w9 ⟨rfl, hb⟩
    have HB9 := Lib.hid (below_nx HB1.out hb)
    clear hb
    go_wp2_with fail
    go_ret
    exact ⟨rfl, HB9.out⟩
  cases b2
  rotate_left
  · clear hAl hAx hAy hWl hWx hWy hl hx hy hq hn h
    obtain ⟨c1, c2, ⟨u1, u2⟩, ⟨u3, u4⟩, ⟨u5, u6⟩⟩ := HU.out
    go_enter Try.func4, Try.ntmps4
    go_wp2_with fail
    refine (awake7_any _).mono ?_
    rintro e w1 ⟨rfl, hb⟩
    have HB1 := Lib.hid hb
    clear hb
    go_wp2_with fail
    refine (awake7_any _).mono ?_
    rintro e w9 ⟨rfl, hb⟩
    have HB9 := Lib.hid (below_nx HB1.out hb)
    clear hb
    go_wp2_with fail
    go_ret
    exact ⟨rfl, HB9.out⟩
  cases b3
  rotate_left
  · clear hAl hAx hAy hWl hWx hWy hl hx hy hq hn h
    obtain ⟨c1, c2, ⟨u1, u2⟩, ⟨u3, u4⟩, ⟨u5, u6⟩⟩ := HU.out
    go_enter Try.func4, Try.ntmps4
    go_wp2_with fail
    refine (awake7_any _).mono ?_
    rintro e w1 ⟨rfl, hb⟩
    have HB1 := Lib.hid hb
    clear hb
    go_wp2_with fail
    refine (awake7_any _).mono ?_
    rintro e w9 ⟨rfl, hb⟩
    have HB9 := Lib.hid (below_nx HB1.out hb)
    clear hb
    go_wp2_with fail
    go_ret
    exact ⟨rfl, HB9.out⟩
  cases b4
  rotate_left
  · clear hAl hAx hAy hWl hWx hWy hl hx hy hq hn h
    obtain ⟨c1, c2, ⟨u1, u2⟩, ⟨u3, u4⟩, ⟨u5, u6⟩⟩ := HU.out
    go_enter Try.func4, Try.ntmps4
    go_wp2_with fail
    refine (awake7_any _).mono ?_
    rintro e w1 ⟨rfl, hb⟩
    have HB1 := Lib.hid hb
    clear hb
    go_wp2_with fail
    refine (awake7_any _).mono ?_
    rintro e w9 ⟨rfl, hb⟩
    have HB9 := Lib.hid (below_nx HB1.out hb)
    clear hb
    go_wp2_with fail
    go_ret
    exact ⟨rfl, HB9.out⟩
  cases b5
  rotate_left
  · clear hAl hAx hAy hWl hWx hWy hl hx hy hq hn h
    obtain ⟨c1, c2, ⟨u1, u2⟩, ⟨u3, u4⟩, ⟨u5, u6⟩⟩ := HU.out
    go_enter Try.func4, Try.ntmps4
    go_wp2_with fail
    refine (awake7_any _).mono ?_
    rintro e w1 ⟨rfl, hb⟩
    have HB1 := Lib.hid hb
    clear hb
    go_wp2_with fail
    refine (awake7_any _).mono ?_
    rintro e w9 ⟨rfl, hb⟩
    have HB9 := Lib.hid (below_nx HB1.out hb)
    clear hb
    go_wp2_with fail
    go_ret
    exact ⟨rfl, HB9.out⟩
  have g1 : n ≤ nx := by have := of_decide_eq_false hb1; omega
  have g2 : 1 ≤ r := by have := beq_eq_false_iff_ne.1 hb2; omega
  have g3 : r ≤ 12 := by have := of_decide_eq_false hb3; omega
  have g4 : nx ≤ 60 := by have := of_decide_eq_false hb4; omega
  have g5 : nl ≤ 200 := by have := of_decide_eq_false hb5; omega
  obtain ⟨f1, hf1⟩ : ∃ b, l.all Fl.fin = b := ⟨_, rfl⟩
  obtain ⟨f2, hf2⟩ : ∃ b, x.all Fl.fin = b := ⟨_, rfl⟩
  obtain ⟨f3, hf3⟩ : ∃ b, y.all Fl.fin = b := ⟨_, rfl⟩
  rw [hf1, hf2, hf3] at h
  have HFl := Lib.hid (fun W (hb : Below w.heap.size w W) => show Calls Try.prog 23 #[.slice Al nl cl] W fun e w' => e = .returned (.bool f1) ∧ W = w' from by
    have := rfin_any Al nl cl l W (hAl.below hb) hWl hl (by omega)
    rw [hf1] at this; exact this)
  have HFx := Lib.hid (fun W (hb : Below w.heap.size w W) => show Calls Try.prog 23 #[.slice Ax nx cx] W fun e w' => e = .returned (.bool f2) ∧ W = w' from by
    have := rfin_any Ax nx cx x W (hAx.below hb) hWx hx (by omega)
    rw [hf2] at this; exact this)
  have HFy := Lib.hid (fun W (hb : Below w.heap.size w W) => show Calls Try.prog 23 #[.slice Ay r cy] W fun e w' => e = .returned (.bool f3) ∧ W = w' from by
    have := rfin_any Ay r cy y W (hAy.below hb) hWy hy (by omega)
    rw [hf3] at this; exact this)

  have h6 : f1 = false ∨ f2 = false ∨ f3 = false := by
    cases f1
    · exact .inl rfl
    cases f2
    · exact .inr (.inl rfl)
    cases f3
    · exact .inr (.inr rfl)
    exact (h ⟨g1, g2, g3, g4, g5, rfl, rfl, rfl⟩).elim
  clear hAl hAx hAy hWl hWx hWy hl hx hy hq hn h g1 g2 g3 g4 g5 hf1 hf2 hf3
  cases f1
  · clear h6
    obtain ⟨c1, c2, ⟨u1, u2⟩, ⟨u3, u4⟩, ⟨u5, u6⟩⟩ := HU.out
    go_enter Try.func4, Try.ntmps4
    go_wp2_with fail
    refine (awake7_any _).mono ?_
    rintro e w1 ⟨rfl, hb⟩
    have HB1 := Lib.hid hb
    clear hb
    go_wp2_with fail
    refine (HFl.out _ HB1.out).mono ?_
    rintro e w1b ⟨rfl, rfl⟩
    go_wp2_with fail
    refine (awake7_any _).mono ?_
    rintro e w9 ⟨rfl, hb⟩
    have HB9 := Lib.hid (below_nx HB1.out hb)
    clear hb
    go_wp2_with fail
    go_ret
    exact ⟨rfl, HB9.out⟩
  cases f2
  · clear h6
    obtain ⟨c1, c2, ⟨u1, u2⟩, ⟨u3, u4⟩, ⟨u5, u6⟩⟩ := HU.out
    go_enter Try.func4, Try.ntmps4
    go_wp2_with fail
    refine (awake7_any _).mono ?_
    rintro e w1 ⟨rfl, hb⟩
    have HB1 := Lib.hid hb
    clear hb
    go_wp2_with fail
    refine (HFl.out _ HB1.out).mono ?_
    rintro e w1b ⟨rfl, rfl⟩
    go_wp2_with fail
    refine (HFx.out _ HB1.out).mono ?_
    rintro e w1b ⟨rfl, rfl⟩
    go_wp2_with fail
    refine (awake7_any _).mono ?_
    rintro e w9 ⟨rfl, hb⟩
    have HB9 := Lib.hid (below_nx HB1.out hb)
    clear hb
    go_wp2_with fail
    go_ret
    exact ⟨rfl, HB9.out⟩
  have hf3 : f3 = false := by simpa using h6
  subst hf3
  clear h6
  obtain ⟨c1, c2, ⟨u1, u2⟩, ⟨u3, u4⟩, ⟨u5, u6⟩⟩ := HU.out
  go_enter Try.func4, Try.ntmps4
  go_wp2_with fail
  refine (awake7_any _).mono ?_
  rintro e w1 ⟨rfl, hb⟩
  have HB1 := Lib.hid hb
  clear hb
  go_wp2_with fail
  refine (HFl.out _ HB1.out).mono ?_
  rintro e w1b ⟨rfl, rfl⟩
  go_wp2_with fail
  refine (HFx.out _ HB1.out).mono ?_
  rintro e w1b ⟨rfl, rfl⟩
  go_wp2_with fail
  refine (HFy.out _ HB1.out).mono ?_
  rintro e w1b ⟨rfl, rfl⟩
  go_wp2_with fail
  refine (awake7_any _).mono ?_
  rintro e w9 ⟨rfl, hb⟩
  have HB9 := Lib.hid (below_nx HB1.out hb)
  clear hb
  go_wp2_with fail
  go_ret
  exact ⟨rfl, HB9.out⟩

theorem gemvClose_walk (Al : Option Addr) (cl : Nat) (l : List Nat) (Ax : Option Addr) (cx : Nat) (x : List Nat) (Ay : Option Addr) (cy : Nat) (y : List Nat) (q : Nat) (w : World) (hAl : Row w Al (f64s l)) (hAx : Row w Ax (f64s x)) (hAy : Row w Ay (f64s y)) (hWl : Wds l) (hWx : Wds x) (hWy : Wds y) (hq : q < 256)
    (hfz : ∀ b o, Ax = some ⟨b, o, none⟩ → x ≠ [] → w.frozen? ⟨b, o, none⟩ = false) :
    Calls Try.prog 4 #[.slice Al l.length cl, .slice Ax x.length cx, .slice Ay y.length cy, .int .u8 (q : Int)] w fun e w' => e = .returned (.bool true) ∧ Below w.heap.size w w' := by
  by_cases h : 1 + q % 12 ≤ x.length ∧ 1 ≤ y.length ∧ y.length ≤ 12 ∧ x.length ≤ 60 ∧ l.length ≤ 200 ∧ l.all Fl.fin = true ∧ x.all Fl.fin = true ∧ y.all Fl.fin = true
  · obtain ⟨h1, h2, h3, h4, h5, h6, h7, h8⟩ := h
    exact gemvClose_good Al _ cl l Ax _ cx x Ay _ cy y q _ w hAl hAx hAy hWl hWx hWy rfl rfl rfl hq rfl h1 h2 h3 h4 h5 h6 h7 h8 (fun b o e => hfz b o e (by intro e2; subst e2; simp at h1))
  · exact gemvClose_bad Al _ cl l Ax _ cx x Ay _ cy y q _ w hAl hAx hAy hWl hWx hWy rfl rfl rfl hq rfl h
end Go.Proofs.Ytodoibioedelgaa
