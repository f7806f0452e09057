/-
Gemm: the document's Mul. Conditions: the tables have fewer than 2^20 numbers.
-/
import Derived.Test.YtcdhpoikppfjkaaZYGrE
import Derived.Test.YtcdhpoikppfjkaaWaae
import Derived.Test.YtcdhpoikppfjkaaWaai
import Derived.Test.YtcdhpoikppfjkaaZYGvC
import Derived.Test.YtcdhpoikppfjkaaWaar
import Derived.Test.YtcdhpoikppfjkaaWaan
import Derived.Test.YtcdhpoikppfjkaaWaal
import Derived.Test.YtcdhpoikppfjkaaWaak
set_option linter.unusedVariables false
set_option linter.unusedSimpArgs false
set_option linter.unnecessarySimpa false
namespace Go.Proofs.Ytcdhpoikppfjkaa
open Go.RowKit
attribute [local go_sem ↓] Go.wp_at_zero Go.wp_at_succ

def GeTS (a : Nat) (TX : List Nat) (K : Nat) (TY : List Nat) (C i j k s r : Nat) : Prop := ∃ p, MulR a (TX.getD (i * K + k) 0) (TY.getD (k * C + j) 0) p ∧ Comes .add s p r
def GeT (a b : Nat) (TX : List Nat) (K : Nat) (TY TZ : List Nat) (C i j r : Nat) : Prop := ∃ s, BegR b (TZ.getD (i * C + j) 0) s ∧ Chn (GeTS a TX K TY C i j) s K r

end Go.Proofs.Ytcdhpoikppfjkaa
/-
Gemm: by both the same numbers; the law's example. Conditions: as each says.
-/
set_option linter.unusedVariables false
set_option linter.unusedSimpArgs false
set_option linter.unnecessarySimpa false
namespace Go.Proofs.Ytcdhpoikppfjkaa
open Go.RowKit
attribute [local go_sem ↓] Go.wp_at_zero Go.wp_at_succ

theorem alike_imge {l l' l2 : List Nat} {o R C L : Nat} {P : Nat → Nat → Nat → Prop} {T : Nat → Nat → Nat} (h : Imr l o R C L P l') (h2 : Img l o R C L T l2) (hs : ∀ a, a < R → ∀ b, b < C → ∀ r, P a b r → sameB r (T a b) = true) : Alike l' l2 := by
  refine ⟨h.1.trans h2.1.symm, fun x hx hx2 => ?_⟩
  rw [← getD_of_lt hx, ← getD_of_lt hx2]
  by_cases e : ∃ a, a < R ∧ ∃ b, b < C ∧ x = o + a + b * L
  · obtain ⟨a, ha, b, hb, rfl⟩ := e
    rw [h2.2.1 a ha b hb]
    exact hs a ha b hb _ (h.2.1 a ha b hb)
  · have e2 : ∀ a, a < R → ∀ b, b < C → x ≠ o + a + b * L := fun a ha b hb e3 => e ⟨a, ha, b, hb, e3⟩
    rw [h.2.2 x e2, h2.2.2 x e2]
    exact sameB_refl _
theorem wds_of_getDe {l : List Nat} (h : ∀ k, k < l.length → l.getD k 0 < 18446744073709551616) : Wds l := by
  intro b hb
  obtain ⟨k, hk, rfl⟩ := List.mem_iff_getElem.1 hb
  rw [← getD_of_lt hk]
  exact h k hk
theorem wds_imre {l l' : List Nat} {o R C L : Nat} {P : Nat → Nat → Nat → Prop} (hl : Wds l) (h : Imr l o R C L P l') (hp : ∀ a, a < R → ∀ b, b < C → ∀ r, P a b r → r < 18446744073709551616) : Wds l' := by
  refine wds_of_getDe fun x hx => ?_
  by_cases e : ∃ a, a < R ∧ ∃ b, b < C ∧ x = o + a + b * L
  · obtain ⟨a, ha, b, hb, rfl⟩ := e
    exact hp a ha b hb _ (h.2.1 a ha b hb)
  · rw [h.2.2 x (fun a ha b hb e3 => e ⟨a, ha, b, hb, e3⟩)]
    exact getD_wds hl _
theorem wds_img2e {l l' : List Nat} {o R C L : Nat} {T : Nat → Nat → Nat} (hl : Wds l) (h : Img l o R C L T l') (hp : ∀ a, a < R → ∀ b, b < C → T a b < 18446744073709551616) : Wds l' := by
  refine wds_of_getDe fun x hx => ?_
  by_cases e : ∃ a, a < R ∧ ∃ b, b < C ∧ x = o + a + b * L
  · obtain ⟨a, ha, b, hb, rfl⟩ := e
    rw [h.2.1 a ha b hb]
    exact hp a ha b hb
  · rw [h.2.2 x (fun a ha b hb e3 => e ⟨a, ha, b, hb, e3⟩)]
    exact getD_wds hl _
theorem tab_wdse {l T : List Nat} {o R C L N : Nat} (h : Tab l o R C L N T) (hN : R * C = N) (hl : Wds l) : Wds T := by
  refine wds_of_getDe fun x hx => ?_
  rw [h.1] at hx
  have hC : 0 < C := by
    rcases Nat.eq_zero_or_pos C with e | e
    · subst e; simp at hx
    · exact e
  have hi : x / C < R := Nat.div_lt_of_lt_mul (by rw [Nat.mul_comm]; exact hx)
  have e : x / C * C + x % C = x := by rw [Nat.mul_comm]; exact Nat.div_add_mod x C
  have h1 := tab_get h hN hi (Nat.mod_lt x hC)
  rw [e] at h1
  rw [h1]; exact getD_wds hl _
theorem Is.trans_eq {r z z' : Nat} (h : Is r z) (e : z = z') : Is r z' := e ▸ h
/-- The number that Mul makes. -/
def geF (a b z : Nat) (f g : Nat → Nat) (K : Nat) : Nat := chnF (begF b z) (fun k => fbin .mul (fbin .mul a (g k)) (f k)) K
theorem GeR.is_ {a b : Nat} {l : List Nat} {o L : Nat} {lx : List Nat} {om Lm : Nat} {ly : List Nat} {oy Ly K i j r : Nat} (ha : a < 18446744073709551616) (hb : b < 18446744073709551616) (hW : Wds l) (hx : Wds lx) (hy : Wds ly) (h : GeR a b l o L lx om Lm ly oy Ly K i j r) :
    Is r (geF a b (l.getD (o + i + j * L) 0) (fun k => lx.getD (om + i + k * Lm) 0) (fun k => ly.getD (oy + k + j * Ly) 0) K) := by
  have := MulQ.is_ ha hb hW hx hy h
  unfold geF
  have e : o + j * L + i * 1 = o + i + j * L := by omega
  rw [e] at this
  refine this.trans_eq (chnF_congr _ K fun k _ => ?_)
  have e1 : oy + j * Ly + k * 1 = oy + k + j * Ly := by omega
  have e2 : om + k * Lm + i = om + i + k * Lm := by omega
  rw [e1, e2]
theorem GeT.is_ {a b : Nat} {TX : List Nat} {K : Nat} {TY TZ : List Nat} {C i j r : Nat} (ha : a < 18446744073709551616) (hb : b < 18446744073709551616) (hx : Wds TX) (hy : Wds TY) (hz : Wds TZ) (h : GeT a b TX K TY TZ C i j r) :
    Is r (geF a b (TZ.getD (i * C + j) 0) (fun k => TX.getD (i * K + k) 0) (fun k => TY.getD (k * C + j) 0) K) := by
  obtain ⟨s, h1, h2⟩ := h
  exact Chn.is_ (h1.is_ hb (Is.refl (getD_wds hz _))) (fun k _ s r hS => by
    obtain ⟨p, k1, k2⟩ := hS
    exact ⟨p, MulR.is_ ha (getD_wds hx _) (getD_wds hy _) k1, k2⟩) h2
/-! ### The law's example. -/
/-- A new list; a matrix in a list of its own. -/
def NwL (W : World) (v : Value) (l : List Nat) (n : Nat) : Prop := ∃ g, v = .slice (some ⟨g, 0, none⟩) n n ∧ Own W g l
def NwM (W : World) (v : Value) (z : Nat) (l : List Nat) (n R C D : Nat) : Prop := ∃ g, v = .agg #[.slice (some ⟨g, 0, none⟩) n n, .int .i64 0, .int .i64 (R : Int), .int .i64 (C : Int), .int .i64 (D : Int)] ∧ Own W g l ∧ z ≤ g
theorem NwL.below {W W' : World} {v : Value} {l : List Nat} {n : Nat} (h : NwL W v l n) (hb : Below W.heap.size W W') : NwL W' v l n := by
  obtain ⟨g, h1, h2⟩ := h; exact ⟨g, h1, h2.nxt hb⟩
theorem NwM.below {W W' : World} {v : Value} {z : Nat} {l : List Nat} {n R C D : Nat} (h : NwM W v z l n R C D) (hb : Below W.heap.size W W') : NwM W' v z l n R C D := by
  obtain ⟨g, h1, h2, h3⟩ := h; exact ⟨g, h1, h2.nxt hb, h3⟩

end Go.Proofs.Ytcdhpoikppfjkaa
/-
GemmTells: spans; what its walk holds of boxes and lists. Conditions: as each says.
-/
set_option linter.unusedVariables false
set_option linter.unusedSimpArgs false
set_option linter.unnecessarySimpa false
namespace Go.Proofs.Ytcdhpoikppfjkaa
open Go.RowKit
attribute [local go_sem ↓] Go.wp_at_zero Go.wp_at_succ

def spB (a b c d : Int) : Bool := decide (a ≤ b) && decide (c ≤ d) && decide (a ≤ d) && decide (c ≤ b)
theorem spans_any (a b c d : Int) (w : World) : Calls Try.prog 13 #[.int .i64 a, .int .i64 b, .int .i64 c, .int .i64 d] w fun e w' => e = .returned (.bool (spB a b c d)) ∧ w = w' := by
  unfold spB
  obtain ⟨x1, h1⟩ : ∃ x, decide (a ≤ b) = x := ⟨_, rfl⟩
  obtain ⟨x2, h2⟩ : ∃ x, decide (c ≤ d) = x := ⟨_, rfl⟩
  obtain ⟨x3, h3⟩ : ∃ x, decide (a ≤ d) = x := ⟨_, rfl⟩
  obtain ⟨x4, h4⟩ : ∃ x, decide (c ≤ b) = x := ⟨_, rfl⟩
  rw [h1, h2, h3, h4]
  cases x1
  · go_enter Try.func13, Try.ntmps13
    go_wp2_with fail
    go_ret
    exact ⟨rfl, rfl⟩
  cases x2
  · go_enter Try.func13, Try.ntmps13
    go_wp2_with fail
    go_ret
    exact ⟨rfl, rfl⟩
  cases x3
  · go_enter Try.func13, Try.ntmps13
    go_wp2_with fail
    go_ret
    exact ⟨rfl, rfl⟩
  cases x4 <;>
  · go_enter Try.func13, Try.ntmps13
    go_wp2_with fail
    go_ret
    exact ⟨rfl, rfl⟩
def msA (o R C : Nat) : Int := if R = 0 ∨ C = 0 then 0 else (o : Int)
def msB (o R C L : Nat) : Int := if R = 0 ∨ C = 0 then -1 else ((o + (C - 1) * L + (R - 1) : Nat) : Int)
theorem wr2 {q : Nat} (h : q < 1048578) : wrap64 (q : Int) = (q : Int) ∧ IntKind.i64.wrap (q : Int) = (q : Int) := ⟨by unfold wrap64; omega, wrapi (by omega) (by omega)⟩
theorem beq0 (R : Nat) : (R == 0) = ((R : Int) == 0) := by
  cases R with
  | zero => rfl
  | succ n =>
    have : ((n + 1 : Nat) : Int) ≠ 0 := by omega
    rw [beq_eq_false_iff_ne.2 (Nat.succ_ne_zero n), beq_eq_false_iff_ne.2 this]
theorem mspan_facts {o R C L n : Nat} (hn : n < 1048576) (hRb : R < 1048576) (hCb : C < 1048576) (eR : R ≠ 0) (eC : C ≠ 0) (hr : o + (C - 1) * L + (R - 1) < n) : ∃ k p P S S' : Nat, o + (C - 1) * L + (R - 1) = S' ∧ (C : Int) - 1 = (k : Int) ∧ ((k : Int) * (L : Int)) = (p : Int) ∧ (o : Int) + (p : Int) = (P : Int) ∧ (P : Int) + (R : Int) = (S : Int) ∧ (S : Int) - 1 = (S' : Int) ∧
    (wrap64 (k : Int) = (k : Int) ∧ IntKind.i64.wrap (k : Int) = (k : Int)) ∧ (wrap64 (p : Int) = (p : Int) ∧ IntKind.i64.wrap (p : Int) = (p : Int)) ∧ (wrap64 (P : Int) = (P : Int) ∧ IntKind.i64.wrap (P : Int) = (P : Int)) ∧ (wrap64 (S : Int) = (S : Int) ∧ IntKind.i64.wrap (S : Int) = (S : Int)) ∧ (wrap64 (S' : Int) = (S' : Int) ∧ IntKind.i64.wrap (S' : Int) = (S' : Int)) := by
  have h1 : (((C - 1 : Nat) : Int) * (L : Int)) = (((C - 1) * L : Nat) : Int) := (Int.natCast_mul _ _).symm
  refine ⟨C - 1, (C - 1) * L, o + (C - 1) * L, o + (C - 1) * L + R, o + (C - 1) * L + (R - 1), rfl, by omega, h1, ?_⟩
  clear h1
  generalize (C - 1) * L = p at *
  exact ⟨by omega, by omega, by omega, wr2 (by omega), wr2 (by omega), wr2 (by omega), wr2 (by omega), wr2 (by omega)⟩
set_option maxHeartbeats 1000000 in
set_option maxHeartbeats 1000000 in
theorem mspan_any (A : Option Addr) (n c o R C L : Nat) (w : World) (hn : n < 1048576) (hRb : R < 1048576) (hCb : C < 1048576) (hr : R = 0 ∨ C = 0 ∨ o + (C - 1) * L + (R - 1) < n) :
    Calls Try.prog 12 #[mat A n c o R C L] w fun e w' => e = .returned (.tuple #[.int .i64 (msA o R C), .int .i64 (msB o R C L)]) ∧ Below w.heap.size w w' := by
  have HB := Lib.hid ((Below.refl w.heap.size w).alloc (Nat.le_refl _) (.cells #[.slice A n c, .int .i64 o, .int .i64 R, .int .i64 C, .int .i64 L] 24))
  unfold msA msB
  by_cases e : R = 0 ∨ C = 0
  · rw [if_pos e, if_pos e]
    obtain ⟨x, hx⟩ : ∃ x, ((R : Int) == 0) = x := ⟨_, rfl⟩
    obtain ⟨y, hy⟩ : ∃ y, ((C : Int) == 0) = y := ⟨_, rfl⟩
    have hxn : (R == 0) = x := by rw [← hx]; exact beq0 R
    have hyn : (C == 0) = y := by rw [← hy]; exact beq0 C
    have hxy : x = true ∨ y = true := by
      rcases e with h | h
      · left; rw [← hx]; simp [h]
      · right; rw [← hy]; simp [h]
    clear e hr
    cases x
    · have hy1 : y = true := by simpa using hxy
      subst hy1
      clear hxy
      unfold mat
      go_enter Try.func12, Try.ntmps12
      go_wp2_with fail
      go_ret2
      exact ⟨rfl, HB.out⟩
    · clear hxy hy hyn y
      unfold mat
      go_enter Try.func12, Try.ntmps12
      go_wp2_with fail
      go_ret2
      exact ⟨rfl, HB.out⟩
  · rw [if_neg e, if_neg e]
    have eR : R ≠ 0 := fun h => e (.inl h)
    have eC : C ≠ 0 := fun h => e (.inr h)
    have hr2 : o + (C - 1) * L + (R - 1) < n := (hr.resolve_left eR).resolve_left eC
    obtain ⟨k, p, P, S, S', hS', e1, e2, e3, e4, e5, ⟨a1, a2⟩, ⟨b1, b2⟩, ⟨c1, c2⟩, ⟨d1, d2⟩, ⟨f1, f2⟩⟩ := mspan_facts (L := L) hn hRb hCb eR eC hr2
    rw [hS']
    have t1 : ((R : Int) == 0) = false := by simp [eR]
    have t2 : (R == 0) = false := by simp [eR]
    have t3 : ((C : Int) == 0) = false := by simp [eC]
    have t4 : (C == 0) = false := by simp [eC]
    clear e hr hr2 hS' eR eC hn hRb hCb
    unfold mat
    go_enter Try.func12, Try.ntmps12
    go_wp2_with fail
    go_quiet (fail)
    go_wp2_with fail
    go_ret2
    exact ⟨rfl, below_drewN HB.out _⟩
theorem kpv {d : Nat → Bool} {i j : Nat} {s : Nat → Value} {k : Nat} {dst : Option Nat} {v x : Value} (h : d j = true → s k = x) (hj : j ≠ i) (hk : dst ≠ some k) : did d i j = true → sput s dst v k = x := fun e => by
  rw [did_ne d hj] at e
  unfold sput
  rw [if_neg hk]
  exact h e

theorem kpw {d : Nat → Bool} {i j : Nat} {s : Nat → Value} {k : Nat} {dst : Option Nat} {v x : Value} (h : d j = true → s k = x) (hj : j ≠ i := by decide) (hk : dst ≠ some k := by decide) : did d i j = true → sput s dst v k = x := kpv h hj hk
def OwM (W : World) (v : Value) (z : Nat) (l : List Nat) (n : Nat) (mo mr mk ml : Int) : Prop := ∃ g c, v = .agg #[.slice (some ⟨g, 0, none⟩) n c, .int .i64 mo, .int .i64 mr, .int .i64 mk, .int .i64 ml] ∧ Own W g l ∧ z ≤ g
def NbM (W : World) (v : Value) (z : Nat) : Prop := ∃ p x0 x1 x2 x3 x4, v = .pointer (some ⟨p, 0, none⟩) ∧ Blk W p 24 #[x0, x1, x2, x3, x4] ∧ z ≤ p
section
variable {W W' : World} {v : Value} {z n c : Nat} {l : List Nat} {mo mr mk ml xo xk xi off k inc : Int} {A : Option Addr}
theorem OwM.below (h : OwM W v z l n mo mr mk ml) (hb : Below W.heap.size W W') : OwM W' v z l n mo mr mk ml := by
  obtain ⟨g, c, h1, h2, h3⟩ := h; exact ⟨g, c, h1, h2.nxt hb, h3⟩
theorem NbM.below (h : NbM W v z) (hb : Below W.heap.size W W') : NbM W' v z := by
  obtain ⟨p, x0, x1, x2, x3, x4, h1, h2, h3⟩ := h; exact ⟨p, x0, x1, x2, x3, x4, h1, h2.nxt hb, h3⟩
theorem own_off {g p : Nat} (h : Own W g l) (hne : g ≠ p) (hb : ∀ k, k ≠ p → W'.heap[k]? = W.heap[k]?) : Own W' g l := by
  obtain ⟨cs, hB, ht⟩ := h
  exact ⟨cs, (hb g hne).trans hB, ht⟩
variable {p : Nat} {t : TypeId} {cs : Array Value}
theorem OwM.far (h : OwM W v z l n mo mr mk ml) (hB : Blk W p t cs) (ht : t ≠ 43) (hb : ∀ k, k ≠ p → W'.heap[k]? = W.heap[k]?) : OwM W' v z l n mo mr mk ml := by
  obtain ⟨g, c, h1, h2, h3⟩ := h; exact ⟨g, c, h1, own_off h2 (own_ne h2 hB ht) hb, h3⟩
theorem NbM.far (h : NbM W v z) (hne : v ≠ .pointer (some ⟨p, 0, none⟩)) (hb : ∀ k, k ≠ p → W'.heap[k]? = W.heap[k]?) : NbM W' v z := by
  obtain ⟨q, x0, x1, x2, x3, x4, h1, h2, h3⟩ := h; exact ⟨q, x0, x1, x2, x3, x4, h1, (hb q (fun e => hne (by rw [h1, e]))).trans h2, h3⟩
theorem NbM.ne_ (h : NbM W v z) (hB : Blk W p t cs) (ht : 24 ≠ t) : v ≠ .pointer (some ⟨p, 0, none⟩) := by
  obtain ⟨q, x0, x1, x2, x3, x4, h1, h2, h3⟩ := h
  intro e
  rw [h1] at e
  injection e with e; injection e with e; injection e with e
  exact blk_ne h2 hB ht e
end
def TbG (W : World) (v : Value) (S : List Nat → Prop) (r k N : Nat) : Prop := ∃ g c T, v = .agg #[.int .i64 (r : Int), .int .i64 (k : Int), .slice (some ⟨g, 0, none⟩) N c] ∧ S T ∧ Row W (some ⟨g, 0, none⟩) (f64s T)
def SlG (W : World) (v : Value) (S : List Nat → Prop) (N : Nat) : Prop := ∃ B d X, v = .slice B N d ∧ S X ∧ Row W B (f64s X)
theorem TbG.below {W W' : World} {v : Value} {S : List Nat → Prop} {r k N : Nat} (h : TbG W v S r k N) (hb : Below W.heap.size W W') : TbG W' v S r k N := by
  obtain ⟨g, c, T, h1, h2, h3⟩ := h; exact ⟨g, c, T, h1, h2, Row.below h3 hb⟩
theorem SlG.below {W W' : World} {v : Value} {S : List Nat → Prop} {N : Nat} (h : SlG W v S N) (hb : Below W.heap.size W W') : SlG W' v S N := by
  obtain ⟨B, d, X, h1, h2, h3⟩ := h; exact ⟨B, d, X, h1, h2, Row.below h3 hb⟩
theorem row_ltg {W : World} {g N : Nat} {T : List Nat} (h : Row W (some ⟨g, 0, none⟩) (f64s T)) (hl : T.length = N) (hN : N ≠ 0) : g < W.heap.size := by
  have h0 : 0 < T.length := by omega
  obtain ⟨b, x, e, _, hc⟩ := h.at_ (f64s_get T 0 h0)
  injection e with e; injection e with e _; subst e
  exact block_lt hc
def lbs (v : Option Value) : Nat := match v with | some (Value.slice (some ad) _ _) => ad.block | _ => 0
def lb (v : Value) : Nat := match v with | Value.agg a => lbs (a[0]?) | _ => 0
theorem lb_mat (g n c : Nat) (a b d e : Value) : lb (.agg #[.slice (some ⟨g, 0, none⟩) n c, a, b, d, e]) = g := rfl
theorem OwM.lb_lt {W : World} {v : Value} {z n : Nat} {l : List Nat} {mo mr mk ml : Int} (h : OwM W v z l n mo mr mk ml) : lb v < W.heap.size := by
  obtain ⟨g, c, rfl, h2, _⟩ := h; exact h2.lt
def PqM (W : World) (v : Value) (g z : Nat) (l : List Nat) (n : Nat) (mo mr mk ml : Int) : Prop := ∃ p c, v = .pointer (some ⟨p, 0, none⟩) ∧ Blk W p 24 #[.slice (some ⟨g, 0, none⟩) n c, .int .i64 mo, .int .i64 mr, .int .i64 mk, .int .i64 ml] ∧ Own W g l ∧ z ≤ p ∧ z ≤ g
section
variable {W W' : World} {v : Value} {g z n : Nat} {l : List Nat} {mo mr mk ml xo xk xi : Int} {p : Nat} {t : TypeId} {cs : Array Value}
theorem PqM.below (h : PqM W v g z l n mo mr mk ml) (hb : Below W.heap.size W W') : PqM W' v g z l n mo mr mk ml := by
  obtain ⟨p, c, h1, h2, h3, h4⟩ := h; exact ⟨p, c, h1, h2.nxt hb, h3.nxt hb, h4⟩
theorem PqM.far (h : PqM W v g z l n mo mr mk ml) (hB : Blk W p t cs) (ht : t ≠ 43) (hne : v ≠ .pointer (some ⟨p, 0, none⟩)) (hb : ∀ k, k ≠ p → W'.heap[k]? = W.heap[k]?) : PqM W' v g z l n mo mr mk ml := by
  obtain ⟨q, c, h1, h2, h3, h4⟩ := h
  exact ⟨q, c, h1, (hb q (fun e => hne (by rw [h1, e]))).trans h2, own_off h3 (own_ne h3 hB ht) hb, h4⟩
end
theorem apart_c (A : Option Addr) (n c : Nat) (l : List Nat) (mo mr mk ml : Int) (w : World) (hA : Row w A (f64s l)) (hl : l.length = n) (hn : n ≤ 1000) (W : World) (hb : Below w.heap.size w W) :
    Calls Try.prog 7 #[mat A n c mo mr mk ml] W fun e w' => ∃ g c', e = .returned (mat (some ⟨g, 0, none⟩) n c' mo mr mk ml) ∧ Own w' g l ∧ W.heap.size ≤ g ∧ Below W.heap.size W w' := by
  have := rapart_any A c l mo mr mk ml W (hA.below hb) (by omega)
  rw [hl] at this
  exact this.mono fun e w' ⟨g, c', e1, e2, e3, _, _, e4⟩ => ⟨g, c', e1, e2, e3, e4⟩
theorem all_c (l : List Nat) (n : Nat) (hW : Wds l) (hl : l.length = n) (hn : n ≤ 1000) (W : World) (A B : Option Addr) (c d : Nat) (h1 : Row W A (f64s l)) (h2 : Row W B (f64s l)) :
    Calls Try.prog 14 #[.slice A n c, .slice B n d] W fun e w' => e = .returned (.bool true) ∧ Below W.heap.size W w' := by
  have := rall_any A B c d l l W hW hW h1 h2 (by omega) (Alike.refl l)
  rw [hl] at this; exact this
theorem NbM.new_ne {W : World} {v : Value} {z : Nat} (h : NbM W v z) : v ≠ .pointer (some ⟨W.heap.size, 0, none⟩) := by
  obtain ⟨p, x0, x1, x2, x3, x4, rfl, h2, _⟩ := h
  have := h2.lt
  intro e
  injection e with e
  injection e with e
  injection e with e
  omega
theorem met_mm {n n' o R C L o' R' C' L' : Nat} (hL1 : 1 ≤ L) (hRL : R ≤ L) (hmr : R = 0 ∨ C = 0 ∨ o + (C - 1) * L + (R - 1) < n) (hL1' : 1 ≤ L') (hRL' : R' ≤ L') (hmr' : R' = 0 ∨ C' = 0 ∨ o' + (C' - 1) * L' + (R' - 1) < n') :
    (bothB n (o : Int) (R : Int) (C : Int) (L : Int) n' (o' : Int) (R' : Int) (C' : Int) (L' : Int) && (decide ((o : Int) ≤ lastI (o' : Int) (R' : Int) (C' : Int) (L' : Int)) && decide ((o' : Int) ≤ lastI (o : Int) (R : Int) (C : Int) (L : Int)))) = spB (msA o R C) (msB o R C L) (msA o' R' C') (msB o' R' C' L') := by
  unfold bothB spB msA msB
  rw [mat_right hL1 hRL hmr, mat_right hL1' hRL' hmr']
  by_cases hE : R = 0 ∨ C = 0
  · rw [if_pos hE, if_pos hE]
    have : (!((R : Int) == 0 || (C : Int) == 0)) = false := by rcases hE with h | h <;> simp [h]
    rw [this]
    simp
  · by_cases hE2 : R' = 0 ∨ C' = 0
    · rw [if_neg hE, if_neg hE, if_pos hE2, if_pos hE2]
      have : (!((R' : Int) == 0 || (C' : Int) == 0)) = false := by rcases hE2 with h | h <;> simp [h]
      rw [this]
      simp
    · have hR : R ≠ 0 := fun h => hE (.inl h)
      have hC : C ≠ 0 := fun h => hE (.inr h)
      have hR' : R' ≠ 0 := fun h => hE2 (.inl h)
      have hC' : C' ≠ 0 := fun h => hE2 (.inr h)
      have e1 := last_mat (o := o) (R := R) (C := C) (L := L) hR hC
      have e2 := last_mat (o := o') (R := R') (C := C') (L := L') hR' hC'
      rw [if_neg hE, if_neg hE, if_neg hE2, if_neg hE2, e1, e2]
      have t1 : (!((R : Int) == 0 || (C : Int) == 0)) = true := by simp [hR, hC]
      have t2 : (!((R' : Int) == 0 || (C' : Int) == 0)) = true := by simp [hR', hC']
      rw [t1, t2]
      generalize (C - 1) * L = p
      generalize (C' - 1) * L' = q
      have d1 : decide ((o : Int) ≤ ((o + p + (R - 1) : Nat) : Int)) = true := decide_eq_true (by omega)
      have d2 : decide ((o' : Int) ≤ ((o' + q + (R' - 1) : Nat) : Int)) = true := decide_eq_true (by omega)
      rw [d1, d2]
      simp
theorem sp_away {o R C L o' R' C' L' : Nat} (h : spB (msA o R C) (msB o R C L) (msA o' R' C') (msB o' R' C' L') = false) : Away o R C L o' R' C' L' := by
  unfold Away
  by_cases hE2 : R' = 0 ∨ C' = 0
  · exact .inl hE2
  by_cases hE : R = 0 ∨ C = 0
  · exact .inr (.inl hE)
  unfold spB msA msB at h
  rw [if_neg hE, if_neg hE, if_neg hE2, if_neg hE2] at h
  generalize (C - 1) * L = p at *
  generalize (C' - 1) * L' = q at *
  have d1 : decide ((o : Int) ≤ ((o + p + (R - 1) : Nat) : Int)) = true := decide_eq_true (by omega)
  have d2 : decide ((o' : Int) ≤ ((o' + q + (R' - 1) : Nat) : Int)) = true := decide_eq_true (by omega)
  rw [d1, d2, Bool.true_and, Bool.true_and, Bool.and_eq_false_iff] at h
  right; right
  rcases h with h | h
  · right; have := of_decide_eq_false h; omega
  · left; have := of_decide_eq_false h; omega
end Go.Proofs.Ytcdhpoikppfjkaa
