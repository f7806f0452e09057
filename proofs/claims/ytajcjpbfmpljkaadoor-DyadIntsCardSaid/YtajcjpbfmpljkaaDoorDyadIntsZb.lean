/-
What the proof rests on: laws of floats, lists, memory and the walks of the functions. Conditions: as each says.
-/
import Derived.Test.YtajcjpbfmpljkaaDoorDyadIntsZa
import Derived.Below
import Derived.ChangeSame
import Derived.Laws.Cover2
import Derived.Test.YtajcjpbfmpljkaaDoorRows
import Derived.KernelRfl
import Derived.WalkKit
import Derived.Laws.Rows
import Derived.Deep.Draws
import Derived.Laws.OwnMore
import Derived.Lib.Hide
import Derived.WalkLawsBesides
import Derived.WalkSpells
import Derived.LoopTactic
import Derived.Outline
import Derived.Deep.QuietTactic
import Derived.BigQuiet
import Derived.RegionTactic
import Derived.Lib.BitFns
import Derived.Deep.RegionHeld3
import Derived.Deep.DrawnRows
import Derived.Laws.FloatBits
import GoSem.Core.Float
import Derived.Laws.BitsAllLaws
import Derived.Laws.Externs
import Derived.Deep.RegionWith
import Derived.Shelf.Spec.BitsCarry
import Derived.Deep.OwnRows
import Derived.Deep.DeepCutAuto
import Derived.IntWalk
import Derived.Shelf.Spec.TrailingZeros
import Derived.Lib.LaidTab
import Derived.Lib.ItoaNum
import Derived.Lib.LaidU8
import Derived.Laws.FloatArith
import Derived.Lib.Builder
import Derived.Lib.AppendStr
import Derived.Lib.UnsafeStr
import Derived.Shelf.Strings.Builder1
import Derived.Shelf.Strings.Builder2
import Derived.Shelf.Strings.OnBuilder
import Derived.Shelf.Strings.Trim
import Derived.Shelf.Small.Utf8
import Derived.Shelf.Small.Strs
import Derived.Shelf.Strings.BuilderF
import Derived.Shelf.Strings.BuilderK
import Derived.Shelf.Strconv.Itoa0
import Derived.Shelf.Strconv.Itoa1
import Derived.Shelf.LaysM
import Derived.Shelf.Strconv.Itoa2
import Derived.Shelf.Strings.Search1
import Derived.Shelf.Strings.Prefix
import Derived.Shelf.Strings.Runes
import Derived.Shelf.Strings.AsciiSet
import Derived.Shelf.Bits.Mul64
import Derived.Shelf.Strings.Repeat
import Derived.Shelf.Unicode.DecodeSlow
import Derived.Ground.Names2Prog
import Derived.Shelf.Slices.ReverseS
import Derived.Ground.SlgnProg
import Derived.Shelf.SlicesE.Clone
import Derived.Test.YtajcjpbfmpljkaaDoorProg
import Derived.Laws.IdiomStrings
import Derived.LoopN
import Derived.Maps.AppendAt
import Derived.Deep.CutBlock
import Derived.Laws.AppendOwn
import Derived.Orders
import Derived.RowKit3
set_option linter.unusedVariables false
namespace Go.Proofs.YtajcjpbfmpljkaaDoor
open Go.RowKit
attribute [local go_sem ↓] Go.wp_at_zero Go.wp_at_succ

theorem held4 {w W w' : World} {b0 o0 b1 o1 b2 o2 b3 o3 : Nat} {v0 v1 v2 v3 : Value} (h : W.cell? ⟨b0, o0, none⟩ = some v0 ∧ W.cell? ⟨b1, o1, none⟩ = some v1 ∧ W.cell? ⟨b2, o2, none⟩ = some v2 ∧ W.cell? ⟨b3, o3, none⟩ = some v3 ∧ Below w.heap.size w W) (hb : Below W.heap.size W w') :
    w'.cell? ⟨b0, o0, none⟩ = some v0 ∧ w'.cell? ⟨b1, o1, none⟩ = some v1 ∧ w'.cell? ⟨b2, o2, none⟩ = some v2 ∧ w'.cell? ⟨b3, o3, none⟩ = some v3 ∧ Below w.heap.size w w' :=
  ⟨cell_below h.1 hb, cell_below h.2.1 hb, cell_below h.2.2.1 hb, cell_below h.2.2.2.1 hb, h.2.2.2.2.trans (hb.mono h.2.2.2.2.size)⟩
theorem held4s {w W : World} {b0 o0 b1 o1 b2 o2 b3 o3 : Nat} {v0 v1 v2 v3 : Value} (h : W.cell? ⟨b0, o0, none⟩ = some v0 ∧ W.cell? ⟨b1, o1, none⟩ = some v1 ∧ W.cell? ⟨b2, o2, none⟩ = some v2 ∧ W.cell? ⟨b3, o3, none⟩ = some v3 ∧ Below w.heap.size w W)
    (g : Nat) (h0 : b0 ≠ g) (h1 : b1 ≠ g) (h2 : b2 ≠ g) (h3 : b3 ≠ g) (hg : w.heap.size ≤ g) (x0 x1 x2 x3 : Value) :
    ((((W.setCell ⟨g, 0, none⟩ x0).setCell ⟨g, 1, none⟩ x1).setCell ⟨g, 2, none⟩ x2).setCell ⟨g, 3, none⟩ x3).cell? ⟨b0, o0, none⟩ = some v0 ∧
    ((((W.setCell ⟨g, 0, none⟩ x0).setCell ⟨g, 1, none⟩ x1).setCell ⟨g, 2, none⟩ x2).setCell ⟨g, 3, none⟩ x3).cell? ⟨b1, o1, none⟩ = some v1 ∧
    ((((W.setCell ⟨g, 0, none⟩ x0).setCell ⟨g, 1, none⟩ x1).setCell ⟨g, 2, none⟩ x2).setCell ⟨g, 3, none⟩ x3).cell? ⟨b2, o2, none⟩ = some v2 ∧
    ((((W.setCell ⟨g, 0, none⟩ x0).setCell ⟨g, 1, none⟩ x1).setCell ⟨g, 2, none⟩ x2).setCell ⟨g, 3, none⟩ x3).cell? ⟨b3, o3, none⟩ = some v3 ∧
    Below w.heap.size w ((((W.setCell ⟨g, 0, none⟩ x0).setCell ⟨g, 1, none⟩ x1).setCell ⟨g, 2, none⟩ x2).setCell ⟨g, 3, none⟩ x3) := by
  refine ⟨?_, ?_, ?_, ?_, ((((h.2.2.2.2.setCell hg _).setCell hg _).setCell hg _).setCell hg _)⟩
  · rw [cell_set h0, cell_set h0, cell_set h0, cell_set h0]; exact h.1
  · rw [cell_set h1, cell_set h1, cell_set h1, cell_set h1]; exact h.2.1
  · rw [cell_set h2, cell_set h2, cell_set h2, cell_set h2]; exact h.2.2.1
  · rw [cell_set h3, cell_set h3, cell_set h3, cell_set h3]; exact h.2.2.2.1
theorem Blk.next {w w' : World} {g : Nat} {t : TypeId} {cs : Array Value} (h : Blk w g t cs) (hb : Below w.heap.size w w') : Blk w' g t cs := h.below hb h.lt

theorem halved_all (A : Option Addr) (n c : Nat) (z y : Int) (v : Nat) (w : World) (h : Wh w A n c z) (hn : n ≤ 137438953472) (hz : z = y * 2 ^ v) (hy : y ≠ 0) (hv : v ≤ 8796093022208) :
    Calls Tryd.prog 33 #[.agg #[.bool (ng z), .slice A n c], .int .i64 (v : Int)] w (RetW y w) := by
  rcases Nat.eq_zero_or_pos v with rfl | h0
  · have : z = y := by simpa using hz
    subst this
    exact halved_zero A n c z w h
  · exact halved_any A n c z y v w h hn hz hy hv h0
theorem odd_part (z : Int) (h : z ≠ 0) : ∃ (y : Int) (v : Nat), z = y * 2 ^ v ∧ y % 2 = 1 ∧ z.natAbs = y.natAbs * 2 ^ v ∧ y.natAbs % 2 = 1 ∧ y ≠ 0 := by
  have key : ∀ n : Nat, n ≠ 0 → ∃ k v, n = k * 2 ^ v ∧ k % 2 = 1 := by
    intro n
    induction n using Nat.strongRecOn with
    | ind n ih =>
      intro h0
      by_cases ho : n % 2 = 1
      · exact ⟨n, 0, by simp, ho⟩
      · obtain ⟨k, v, e, hk⟩ := ih (n / 2) (by omega) (by omega)
        exact ⟨k, v + 1, by rw [Nat.pow_succ, ← Nat.mul_assoc, ← e]; omega, hk⟩
  obtain ⟨k, v, e, hk⟩ := key z.natAbs (by omega)
  have hc : ((2 ^ v : Nat) : Int) = 2 ^ v := by simp
  rcases Int.lt_or_le z 0 with hz | hz
  · refine ⟨-(k : Int), v, ?_, by omega, by rw [Int.natAbs_neg, Int.natAbs_natCast]; exact e, by omega, by omega⟩
    rw [Int.neg_mul, ← hc, ← Int.natCast_mul, ← e]; omega
  · refine ⟨(k : Int), v, ?_, by omega, by rw [Int.natAbs_natCast]; exact e, by omega, by omega⟩
    rw [← hc, ← Int.natCast_mul, ← e]; omega
theorem dy_parts {z y e : Int} {v : Nat} (hz : z = y * 2 ^ v) (hy : y % 2 = 1) : mant (dy z e) = y ∧ expo (dy z e) = e + v := by
  rw [hz, dy_pow]
  exact ⟨mant_dy _ _ hy, expo_dy _ _ hy⟩
theorem RetD_def (d : Dyadic) (w : World) (a a' : Bool) (A A' : Option Addr) (n c n' c' : Nat) (m e : Int) (w' : World) (hm : mant d = m) (he : expo d = e) (ha : a = ng m) (ha' : a' = ng e) (h : Wh w' A n c m) (h' : Wh w' A' n' c' e) (hb : Below w.heap.size w w') :
    RetD d w (.returned (.agg #[.bool a, .slice A n c, .bool a', .slice A' n' c'])) w' := by
  subst ha ha' hm he; exact ⟨A, n, c, A', n', c', rfl, ⟨h, h'⟩, hb⟩

set_option maxHeartbeats 1000000 in
theorem canonical_any (A : Option Addr) (n c : Nat) (m : Int) (A' : Option Addr) (n' c' : Nat) (e : Int) (w : World) (h : Wh w A n c m) (h' : Wh w A' n' c' e) (hn : n ≤ 137438953472) (hn' : n' ≤ 137438953472) (hg : Glob w) :
    Calls Tryd.prog 12 #[.agg #[.bool (ng m), .slice A n c], .agg #[.bool (ng e), .slice A' n' c']] w (RetD (dy m e) w) := by
  have H := Lib.hid h
  have H' := Lib.hid h'
  have HG := Lib.hid hg
  have HN := Lib.hid h.1
  have HN' := Lib.hid h'.1
  by_cases h0 : m = 0
  · have HZ := Lib.hid h0
    have hs : m.sign = 0 := by rw [h0]; rfl
    have HS := Lib.hid hs
    clear h h' hg h0 hs
    go_enter Tryd.func12, Tryd.ntmps12
    go_wp2_with fail
    refine (sign_any A n c m _ HN.out).mono ?_
    rintro e1 w1 ⟨rfl, hb⟩
    rw [HS.out]
    obtain ⟨hc, hf⟩ := bcell hb
    have hB := (Blk.new_ ((w.alloc (.cells #[.bool (ng m), .slice A n c] 25)).alloc (.cells #[.bool (ng e), .slice A' n' c'] 25)) 27 #[.bool false, .slice none 0 0, .bool false, .slice none 0 0] (w.heap.size + 1 + 1) (by simp)).next hb
    obtain ⟨r0, r1, r2, r3, f0, f1, f2, f3⟩ := cells4 hB
    have HB := Lib.hid hB
    have HBl := Lib.hid (((((Below.refl w.heap.size w).alloc (Nat.le_refl _) (.cells #[.bool (ng m), .slice A n c] 25)).alloc (by simp) (.cells #[.bool (ng e), .slice A' n' c'] 25)).alloc (by simp <;> omega) (.cells #[.bool false, .slice none 0 0, .bool false, .slice none 0 0] 27)).trans (hb.mono (by simp <;> omega)))
    clear hb hc hf hB
    go_wp2_with fail
    obtain ⟨k0, k1, k2, k3, _⟩ := cells4 (HB.out.store4 (.bool false) (.slice none 0 0) (.bool false) (.slice none 0 0))
    exact bodyPost_ret (v := .agg #[.bool false, .slice none 0 0, .bool false, .slice none 0 0]) (by simp [results, Tryd.results12, go_sem, k0, k1, k2, k3]) rfl
      (RetD_def _ _ _ _ _ _ _ _ _ _ 0 0 _ (by rw [HZ.out]; rfl) (by rw [HZ.out]; rfl) rfl rfl (Wh.zero _ _ _) (Wh.zero _ _ _) ((((HBl.out.setCell (by simp <;> omega) _).setCell (by simp <;> omega) _).setCell (by simp <;> omega) _).setCell (by simp <;> omega) _))
  · obtain ⟨y, v, hz, hy, hza, hya, hy0⟩ := odd_part m h0
    have hs : (m.sign == 0) = false := by
      rcases Int.lt_or_gt_of_ne h0 with hl | hl
      · rw [Int.sign_eq_neg_one_of_neg hl]; rfl
      · rw [Int.sign_eq_one_of_pos hl]; rfl
    have hvb : v ≤ 8796093022208 := by
      have h1 := bl_wl m _ (by rw [← h.1]; exact hn)
      rw [hza, bl_mul (by omega)] at h1
      omega
    obtain ⟨p1, p2⟩ := dy_parts (e := e) hz hy
    have hwv : wl ((v : Nat) : Int) ≤ 137438953472 := by
      refine Nat.le_trans ((wl_le _ 1).2 ?_) (by omega)
      rw [Nat.pow_one, Q_val]; omega
    have HH := Lib.hid (fun W (hb : Below w.heap.size w W) => halved_all A n c m y v W (h.below hb) hn hz hy0 hvb)
    have HE := Lib.hid (fun W (hb : Below w.heap.size w W) => evens_any A n c m y.natAbs v W (h.below hb) (by omega) hza hya (hg.below hb))
    have HP := Lib.hid (fun (B : Option Addr) (k d : Nat) W (hb : Below w.heap.size w W) (hw : Wh W B k d ((v : Nat) : Int)) => plus_any A' n' c' e B k d (v : Int) W (h'.below hb) hw (by rw [← h'.1]; exact hn') hwv)
    have HO := Lib.hid (fun W => wholeOf_any (v : Int) W (by omega) (by omega))
    have HM := Lib.hid p1
    have HX := Lib.hid p2
    clear h h' hg h0 hz hy hza hya hy0 p1 p2 hwv
    go_enter Tryd.func12, Tryd.ntmps12
    go_wp2_with fail
    refine (sign_any A n c m _ HN.out).mono ?_
    rintro e1 w1 ⟨rfl, hb⟩
    have hB := (Blk.new_ ((w.alloc (.cells #[.bool (ng m), .slice A n c] 25)).alloc (.cells #[.bool (ng e), .slice A' n' c'] 25)) 27 #[.bool false, .slice none 0 0, .bool false, .slice none 0 0] (w.heap.size + 1 + 1) (by simp)).next hb
    have hC := (((Blk.new w 25 #[.bool (ng m), .slice A n c]).alloc (.cells #[.bool (ng e), .slice A' n' c'] 25)).alloc (.cells #[.bool false, .slice none 0 0, .bool false, .slice none 0 0] 27)).next hb
    have hD := ((Blk.new_ (w.alloc (.cells #[.bool (ng m), .slice A n c] 25)) 25 #[.bool (ng e), .slice A' n' c'] (w.heap.size + 1) (by simp)).alloc (.cells #[.bool false, .slice none 0 0, .bool false, .slice none 0 0] 27)).next hb
    have hBl : Below w.heap.size w w1 := ((((Below.refl w.heap.size w).alloc (Nat.le_refl _) (.cells #[.bool (ng m), .slice A n c] 25)).alloc (by simp) (.cells #[.bool (ng e), .slice A' n' c'] 25)).alloc (by simp <;> omega) (.cells #[.bool false, .slice none 0 0, .bool false, .slice none 0 0] 27)).trans (hb.mono (by simp <;> omega))
    obtain ⟨a0, a1, _⟩ := cells2 hC
    have HB := Lib.hid hB
    have HC := Lib.hid hC
    have HD := Lib.hid hD
    have HBl := Lib.hid hBl
    clear hb hB hC hD hBl
    go_wp2_with fail
    refine (HE.out _ HBl.out).mono ?_
    rintro e1 w2 ⟨rfl, hb⟩
    have hB := HB.out.next hb
    obtain ⟨c0, c1, _⟩ := cells2 (HC.out.next hb)
    obtain ⟨d0, d1, _⟩ := cells2 (HD.out.next hb)
    have HBl2 := Lib.hid (HBl.out.trans (hb.mono HBl.out.size))
    have hBd : Blk w2.drew (w.heap.size + 1 + 1) 27 #[.bool false, .slice none 0 0, .bool false, .slice none 0 0] := hB
    clear hb hB HB HC HD HBl a0 a1
    go_wp2_with fail
    go_region_held3 (fun w' => w'.cell? ⟨w.heap.size, 0, none⟩ = some (.bool (ng m)) ∧ w'.cell? ⟨w.heap.size, 1, none⟩ = some (.slice A n c) ∧ w'.cell? ⟨w.heap.size + 1, 0, none⟩ = some (.bool (ng e)) ∧ w'.cell? ⟨w.heap.size + 1, 1, none⟩ = some (.slice A' n' c') ∧ Below w.heap.size w w')
      (first | exact ⟨c0, c1, d0, d1, HBl2.out.drew⟩ | exact held4 ‹_ ∧ _ ∧ _ ∧ _ ∧ Below w.heap.size w _› hbP | exact held4 ‹_ ∧ _ ∧ _ ∧ _ ∧ Below w.heap.size w _› hbH | exact held4 ‹_ ∧ _ ∧ _ ∧ _ ∧ Below w.heap.size w _› hbO | exact held4s ‹_ ∧ _ ∧ _ ∧ _ ∧ Below w.heap.size w _› _ (by omega) (by omega) (by omega) (by omega) (by omega) _ _ _ _)
      (first
        | (go_at_call 33; refine (HH.out _ (‹_ ∧ _ ∧ _ ∧ _ ∧ Below w.heap.size w _›).2.2.2.2).mono ?_; rintro e1 wH ⟨BH, kH, dH, rfl, hWH, hbH⟩; have hBH := Blk.next (by assumption) hbH; obtain ⟨r0, r1, r2, r3, f0, f1, f2, f3⟩ := cells4 hBH; skip)
        | (go_at_call 13; refine (HO.out _).mono ?_; rintro e1 wO ⟨BO, kO, dO, rfl, hWO, hbO⟩; have hBO := Blk.next (by assumption) hbO; obtain ⟨r0, r1, r2, r3, f0, f1, f2, f3⟩ := cells4 hBO; skip)
        | (go_at_call 24; refine (HP.out _ _ _ _ (‹_ ∧ _ ∧ _ ∧ _ ∧ Below w.heap.size w _›).2.2.2.2 (by first | exact hWO | exact hWO.below hbH)).mono ?_; rintro e1 wP ⟨BP, kP, dP, rfl, hWP, hbP⟩; have hBP := Blk.next (by assumption) hbP; obtain ⟨r0, r1, r2, r3, f0, f1, f2, f3⟩ := cells4 hBP; skip))
    all_goals
      go_wp2_with fail
      clear r0 r1 r2 r3 f0 f1 f2 f3
    all_goals first
      |
      (obtain ⟨k0, k1, k2, k3, _⟩ := cells4 (Blk.store4 hBP (.bool (ng y)) (.slice BH kH dH) (.bool (ng (e + (v : Int)))) (.slice BP kP dP))
       exact bodyPost_ret (v := .agg #[.bool (ng y), .slice BH kH dH, .bool (ng (e + (v : Int))), .slice BP kP dP]) (by simp [results, Tryd.results12, go_sem, k0, k1, k2, k3]) rfl
         (RetD_def _ _ _ _ _ _ _ _ _ _ y (e + (v : Int)) _ HM.out HX.out rfl rfl (Wh.store4 (hWH.below hbP) hBP _ _ _ _) (Wh.store4 hWP hBP _ _ _ _) (‹_ ∧ _ ∧ _ ∧ _ ∧ Below w.heap.size w _›).2.2.2.2))
      |
      (obtain ⟨k0, k1, k2, k3, _⟩ := cells4 (Blk.store4 hBP (.bool (ng y)) (.slice BH kH dH) (.bool (ng (e + (v : Int)))) (.slice BP kP dP))
       exact bodyPost_ret (v := .agg #[.bool (ng y), .slice BH kH dH, .bool (ng (e + (v : Int))), .slice BP kP dP]) (by simp [results, Tryd.results12, go_sem, k0, k1, k2, k3]) rfl
         (RetD_def _ _ _ _ _ _ _ _ _ _ y (e + (v : Int)) _ HM.out HX.out rfl rfl (Wh.store4 ((hWH.below hbO).below hbP) hBP _ _ _ _) (Wh.store4 hWP hBP _ _ _ _) (‹_ ∧ _ ∧ _ ∧ _ ∧ Below w.heap.size w _›).2.2.2.2))
      |
      (obtain ⟨k0, k1, k2, k3, _⟩ := cells4 (Blk.store4 hBH (.bool (ng y)) (.slice BH kH dH) (.bool (ng (e + (v : Int)))) (.slice BP kP dP))
       exact bodyPost_ret (v := .agg #[.bool (ng y), .slice BH kH dH, .bool (ng (e + (v : Int))), .slice BP kP dP]) (by simp [results, Tryd.results12, go_sem, k0, k1, k2, k3]) rfl
         (RetD_def _ _ _ _ _ _ _ _ _ _ y (e + (v : Int)) _ HM.out HX.out rfl rfl (Wh.store4 hWH hBH _ _ _ _) (Wh.store4 (hWP.below hbH) hBH _ _ _ _) (‹_ ∧ _ ∧ _ ∧ _ ∧ Below w.heap.size w _›).2.2.2.2))
end Go.Proofs.YtajcjpbfmpljkaaDoor
set_option linter.unusedVariables false
namespace Go.Proofs.YtajcjpbfmpljkaaDoor
open Go.RowKit Ieee

/-- A float's digits, with its sign. -/
def fdm (b : Nat) : Int := if Fl.sg b then -(Fl.dm b : Int) else (Fl.dm b : Int)

theorem signed_zero (s : Bool) (n : Nat) : signed s n 0 = if s then -(n : Int) else (n : Int) := by
  cases s <;> simp [signed]
theorem cut_none (s : Bool) (n : Nat) : Toward.zero.cut s n 0 = n := by
  simp [Toward.cut]
theorem fdm_scl {b : Nat} (h0 : Fl.rung b ≠ 0) (hf : Fl.rung b < Fl.INF) : Fl.scale b (-(Fl.de b)) = Fl.wd (Fl.sg b) (1074 * 4503599627370496 + Fl.dm b) := by
  have hd := Fl.dm_bounds h0
  unfold Fl.scale
  rw [if_neg (by omega), Fl.scl_digits, show Fl.de b + 1074 + -(Fl.de b) = ((1074 : Nat) : Int) by omega, Fl.scl_exact _ _ hd.2 (.inl hd.1)]
  congr 1
  unfold Fl.cap Fl.INF
  omega
theorem fdm_int {b : Nat} (h0 : Fl.rung b ≠ 0) (hf : Fl.rung b < Fl.INF) : floatToIntVal .f64 (Fl.scale b (-(Fl.de b))) .i64 = some (fdm b) := by
  have hd := Fl.dm_bounds h0
  obtain ⟨r, hr⟩ : ∃ r, 1074 * 4503599627370496 + Fl.dm b = r := ⟨_, rfl⟩
  have hlt : r < 9223372036854775808 := by omega
  have hread : double.read (Fl.wd (Fl.sg b) r) = .number (Fl.sg b) (Fl.dm b) 0 := by
    rw [Fl.read_eq, Fl.rung_wd _ hlt, Fl.sg_wd _ hlt, if_neg (by omega), if_pos (by unfold Fl.INF; omega)]
    rw [show r % 4503599627370496 = Fl.dm b - 4503599627370496 by omega, show r / 4503599627370496 = 1075 by omega]
    rw [show 4503599627370496 + (Fl.dm b - 4503599627370496) = Fl.dm b by omega]
    rfl
  have htoi : (double.read (Fl.wd (Fl.sg b) r)).toInt .zero = some (fdm b) := by
    rw [hread]
    show some (signed (Fl.sg b) (Toward.zero.cut (Fl.sg b) (Fl.dm b <<< 0) 0) 0) = _
    rw [cut_none, Nat.shiftLeft_zero, signed_zero]
    rfl
  have hb1 : -9223372036854775808 ≤ fdm b ∧ fdm b ≤ 9223372036854775807 := by unfold fdm; split <;> omega
  unfold floatToIntVal
  rw [fdm_scl h0 hf, hr]
  show (match (double.read (Fl.wd (Fl.sg b) r)).toInt .zero with | some n => _ | none => none) = _
  rw [htoi]
  exact if_pos hb1
theorem zero_int {b : Nat} (hb : b < 18446744073709551616) (h0 : Fl.rung b = 0) : floatToIntVal .f64 b .i64 = some 0 := by
  have hx := Fl.wd_parts hb
  rw [h0] at hx
  rw [← hx]
  cases Fl.sg b <;> decide +kernel
theorem fdy_digits {b : Nat} (h0 : Fl.rung b ≠ 0) (hf : Fl.rung b < Fl.INF) : dy (fdm b) (Fl.de b) = fdy b := by
  have key : ∀ s : Int, dy (s * (Fl.dm b : Int)) (Fl.de b) = dy (s * (Fl.mag (Fl.rung b) : Int)) (-1074) := by
    intro s
    unfold Fl.dm Fl.de
    by_cases h1 : Fl.rung b < 4503599627370496
    · rw [if_pos h1, if_pos h1]
      have hm : Fl.mag (Fl.rung b) = Fl.rung b := by unfold Fl.mag; rw [if_pos h1]
      rw [hm]
      generalize 52 - (Fl.rung b).log2 = j
      rw [Int.natCast_mul, Int.natCast_pow, ← Int.mul_assoc]
      have := dy_pow (s * (Fl.rung b : Int)) (-1074 - (j : Int)) j
      rw [show -1074 - (j : Int) + (j : Int) = -1074 by omega] at this
      exact this
    · rw [if_neg h1, if_neg h1, Fl.mag_parts, Int.natCast_mul, Int.natCast_pow, ← Int.mul_assoc]
      exact (dy_pow _ _ _).symm
  unfold fdy fdm Fl.val
  cases Fl.sg b
  · have := key 1
    simpa using this
  · have := key (-1)
    simpa using this
theorem fdy_zero {b : Nat} (h0 : Fl.rung b = 0) : fdy b = 0 := by
  unfold fdy Fl.val
  rw [h0, Fl.mag_zero]
  simp [dy_zero]
end Go.Proofs.YtajcjpbfmpljkaaDoor
set_option linter.unusedVariables false
namespace Go.Proofs.YtajcjpbfmpljkaaDoor
open Go.RowKit
attribute [local go_sem ↓] Go.wp_at_zero Go.wp_at_succ

theorem wl_small {k : Int} (h0 : -9223372036854775808 ≤ k) (h1 : k ≤ 9223372036854775807) : wl k ≤ 1 := (wl_le k 1).2 (by rw [Nat.pow_one, Q_val]; omega)
set_option maxHeartbeats 1000000 in
theorem int_any (k : Int) (w : World) (h0 : -9223372036854775808 ≤ k) (h1 : k ≤ 9223372036854775807) (hg : Glob w) :
    Calls Tryd.prog 5 #[.int .i64 k] w (RetD (dy k 0) w) := by
  have HG := Lib.hid hg
  have HK := Lib.hid (wl_small h0 h1)
  clear hg
  go_enter Tryd.func5, Tryd.ntmps5
  go_wp2_with fail
  refine (wholeOf_any k _ h0 h1).mono ?_
  rintro e w1 ⟨A, n, c, rfl, hW, hb⟩
  have hB := (Blk.new w 27 #[.bool false, .slice none 0 0, .bool false, .slice none 0 0]).next hb
  have HB := Lib.hid hB
  have HW := Lib.hid hW
  have HBl := Lib.hid (((Below.refl w.heap.size w).alloc (Nat.le_refl _) _).trans (hb.mono (by simp)))
  clear hb hB hW
  go_wp2_with fail
  refine (canonical_any A n c k none 0 0 0 _ HW.out (Wh.zero _ _ _) (by have := HW.out.1; have := HK.out; omega) (by omega) (HG.out.below HBl.out)).mono ?_
  rintro e w2 ⟨A1, n1, c1, A2, n2, c2, rfl, hD, hb⟩
  have hB := HB.out.next hb
  have HB2 := Lib.hid hB
  have HD := Lib.hid hD
  have HBl2 := Lib.hid (HBl.out.trans (hb.mono HBl.out.size))
  obtain ⟨r0, r1, r2, r3, f0, f1, f2, f3⟩ := cells4 hB
  clear hb hB hD HB HBl
  go_wp2_with fail
  clear r0 r1 r2 r3 f0 f1 f2 f3
  obtain ⟨k0, k1, k2, k3, _⟩ := cells4 (Blk.store4 HB2.out (.bool (ng (mant (dy k 0)))) (.slice A1 n1 c1) (.bool (ng (expo (dy k 0)))) (.slice A2 n2 c2))
  exact bodyPost_ret (v := .agg #[.bool (ng (mant (dy k 0))), .slice A1 n1 c1, .bool (ng (expo (dy k 0))), .slice A2 n2 c2]) (by simp [results, Tryd.results5, go_sem, k0, k1, k2, k3]) rfl
    (RetD_def _ _ _ _ _ _ _ _ _ _ _ _ _ rfl rfl rfl rfl (Wh.store4 HD.out.1 HB2.out _ _ _ _) (Wh.store4 HD.out.2 HB2.out _ _ _ _) ((((HBl2.out.setCell (by simp) _).setCell (by simp) _).setCell (by simp) _).setCell (by simp) _))

/-- The call returned the dyadic number d, and that it is one. -/
def RetT (d : Dyadic) (r : Int) (w : World) (e : Ending) (w' : World) : Prop :=
  ∃ A n c A' n' c', e = .returned (.tuple #[.agg #[.bool (ng (mant d)), .slice A n c, .bool (ng (expo d)), .slice A' n' c'], .int .i64 r]) ∧ Dr w' A n c A' n' c' d ∧ Below w.heap.size w w'
theorem RetT_def (d : Dyadic) (r : Int) (w : World) (a a' : Bool) (A A' : Option Addr) (n c n' c' : Nat) (m e : Int) (w' : World) (hm : mant d = m) (he : expo d = e) (ha : a = ng m) (ha' : a' = ng e) (h : Wh w' A n c m) (h' : Wh w' A' n' c' e) (hb : Below w.heap.size w w') :
    RetT d r w (.returned (.tuple #[.agg #[.bool a, .slice A n c, .bool a', .slice A' n' c'], .int .i64 r])) w' := by
  subst ha ha' hm he; exact ⟨A, n, c, A', n', c', rfl, ⟨h, h'⟩, hb⟩

/-- Of at a float that isn't finite. -/
theorem of_none (b : Nat) (w : World) (hb : b < 18446744073709551616) (hf : Fl.fin b = false) :
    Calls Tryd.prog 11 #[.float .f64 b] w (RetT 0 8 w) := by
  have HF := Lib.hid hf
  clear hf
  go_enter Tryd.func11, Tryd.ntmps11
  go_wp2_with fail
  refine (finite_one _ _ b _ hb (by simp)).mono ?_
  rintro e w1 ⟨rfl, rfl⟩
  rw [HF.out]
  go_wp2_with fail
  have HB := ((Blk.new w 27 #[.bool false, .slice none 0 0, .bool false, .slice none 0 0]).alloc (.cells #[.float .f64 b] 38))
  obtain ⟨k0, k1, k2, k3, _⟩ := cells4 HB
  exact bodyPost_ret (v := .tuple #[.agg #[.bool false, .slice none 0 0, .bool false, .slice none 0 0], .int .i64 8]) (by simp [results, Tryd.results11, go_sem, k0, k1, k2, k3]) rfl
    (RetT_def 0 8 _ _ _ _ _ _ _ _ _ 0 0 _ rfl rfl rfl rfl (Wh.zero _ _ _) (Wh.zero _ _ _) ((((Below.refl w.heap.size w).alloc (Nat.le_refl _) _)).alloc (by simp) _))
/-- Of, the digits told. -/
theorem of_some (b : Nat) (x k : Int) (w : World) (hb : b < 18446744073709551616) (hf : Fl.fin b = true) (hx : expOf b = k + 52) (hk0 : -1126 ≤ k) (hk1 : k ≤ 971) (hc : floatToIntVal .f64 (Fl.scale b (-k)) .i64 = some x) (hx0 : -9223372036854775808 ≤ x) (hx1 : x ≤ 9223372036854775807) (hg : Glob w) :
    Calls Tryd.prog 11 #[.float .f64 b] w (RetT (dy x k) 0 w) := by
  have HF := Lib.hid hf
  have HG := Lib.hid hg
  have HK := Lib.hid (wl_small hx0 hx1)
  have HK2 := Lib.hid (wl_small (k := k) (by omega) (by omega))
  have hcv : ∀ w, (convert 38 3 (.float .f64 (Fl.scale b (-k)))).run Tryd.prog w = .ok (.int .i64 x) w := fun w => run_convert_float_int w 38 3 .f64 .i64 _ x (by rw [Tryd.underlying38]; rfl) Tryd.underlying3 hc
  have HX := Lib.hid hx
  clear hf hg hc hx
  go_enter Tryd.func11, Tryd.ntmps11
  go_wp2_with fail
  refine (finite_one _ _ b _ hb (by simp)).mono ?_
  rintro e w1 ⟨rfl, rfl⟩
  rw [HF.out]
  go_wp2_with fail
  refine (exp_any b _ hb).mono ?_
  rintro e w1 ⟨rfl, hb1⟩
  rw [HX.out]
  have hB := ((Blk.new w 27 #[.bool false, .slice none 0 0, .bool false, .slice none 0 0]).alloc (.cells #[.float .f64 b] 38)).next hb1
  have HB := Lib.hid hB
  have HBl := Lib.hid ((((Below.refl w.heap.size w).alloc (Nat.le_refl _) _).alloc (by simp) _).trans (hb1.mono (by simp; omega)))
  clear hb1 hB
  go_wp2_with fail
  refine (scale_any b (-k) _ hb).mono ?_
  rintro e w2 ⟨rfl, hb2⟩
  have HB1 := Lib.hid (HB.out.next hb2)
  have HBl1 := Lib.hid (HBl.out.trans (hb2.mono HBl.out.size))
  clear hb2
  go_wp2_with fail
  refine (wholeOf_any x _ hx0 hx1).mono ?_
  rintro e w3 ⟨A, n, c, rfl, hW, hb⟩
  have HB2 := Lib.hid (HB1.out.next hb)
  have HBl2 := Lib.hid (HBl1.out.trans (hb.mono HBl1.out.size))
  have HW := Lib.hid hW
  clear hb hW hcv
  go_wp2_with fail
  refine (wholeOf_any k _ (by omega) (by omega)).mono ?_
  rintro e w4 ⟨A', n', c', rfl, hW, hb⟩
  have HB3 := Lib.hid (HB2.out.next hb)
  have HBl3 := Lib.hid (HBl2.out.trans (hb.mono HBl2.out.size))
  have HW1 := Lib.hid (HW.out.below hb)
  have HW2 := Lib.hid hW
  clear hb hW
  go_wp2_with fail
  refine (canonical_any A n c x A' n' c' k _ HW1.out HW2.out (by have := HW1.out.1; have := HK.out; omega) (by have := HW2.out.1; have := HK2.out; omega) (HG.out.below HBl3.out)).mono ?_
  rintro e w5 ⟨A1, n1, c1, A2, n2, c2, rfl, hD, hb⟩
  have hB := HB3.out.next hb
  have HB4 := Lib.hid hB
  have HD := Lib.hid hD
  have HBl4 := Lib.hid (HBl3.out.trans (hb.mono HBl3.out.size))
  obtain ⟨r0, r1, r2, r3, f0, f1, f2, f3⟩ := cells4 hB
  clear hb hB hD
  go_wp2_with fail
  clear r0 r1 r2 r3 f0 f1 f2 f3
  obtain ⟨k0, k1, k2, k3, _⟩ := cells4 (Blk.store4 HB4.out (.bool (ng (mant (dy x k)))) (.slice A1 n1 c1) (.bool (ng (expo (dy x k)))) (.slice A2 n2 c2))
  exact bodyPost_ret (v := .tuple #[.agg #[.bool (ng (mant (dy x k))), .slice A1 n1 c1, .bool (ng (expo (dy x k))), .slice A2 n2 c2], .int .i64 0]) (by simp [results, Tryd.results11, go_sem, k0, k1, k2, k3]) rfl
    (RetT_def _ _ _ _ _ _ _ _ _ _ _ _ _ _ rfl rfl rfl rfl (Wh.store4 HD.out.1 HB4.out _ _ _ _) (Wh.store4 HD.out.2 HB4.out _ _ _ _) ((((HBl4.out.setCell (by simp) _).setCell (by simp) _).setCell (by simp) _).setCell (by simp) _))

/-- Of. -/
theorem of_any (b : Nat) (w : World) (hb : b < 18446744073709551616) (hg : Glob w) :
    Calls Tryd.prog 11 #[.float .f64 b] w (RetT (if Fl.fin b then fdy b else 0) (if Fl.fin b then 0 else 8) w) := by
  cases hf : Fl.fin b with
  | false => exact of_none b w hb hf
  | true =>
    have hlt : Fl.rung b < Fl.INF := of_decide_eq_true hf
    by_cases h0 : Fl.rung b = 0
    · have hs : Fl.scale b (-(-52)) = b := by unfold Fl.scale; rw [if_pos (.inl h0)]
      have := of_some b 0 (-52) w hb hf (by unfold expOf; rw [if_pos (.inl h0)]; omega) (by omega) (by omega) (by rw [hs]; exact zero_int hb h0) (by omega) (by omega) hg
      rw [dy_zero] at this
      rw [if_pos rfl, if_pos rfl, fdy_zero h0]
      exact this
    · have hd := Fl.dm_bounds h0
      have he := Fl.de_bounds hlt
      have hx : expOf b = Fl.de b + 52 := by rw [Fl.log_digits h0]; unfold expOf; rw [if_neg (by omega)]
      have hr : -9223372036854775808 ≤ fdm b ∧ fdm b ≤ 9223372036854775807 := by unfold fdm; split <;> omega
      have := of_some b (fdm b) (Fl.de b) w hb hf hx he.1 he.2 (fdm_int h0 hlt) hr.1 hr.2 hg
      rw [fdy_digits h0 hlt] at this
      rw [if_pos rfl, if_pos rfl]
      exact this
end Go.Proofs.YtajcjpbfmpljkaaDoor
set_option linter.unusedVariables false
namespace Go.Proofs.YtajcjpbfmpljkaaDoor
open Go.RowKit
attribute [local go_sem ↓] Go.wp_at_zero Go.wp_at_succ

/-- How far a shift goes. -/
def far (k : Int) : Int := if k < -1048576 then -1048576 else if 1048576 < k then 1048576 else k
set_option maxHeartbeats 1000000 in
theorem shift_lo (A : Option Addr) (n c : Nat) (m : Int) (A' : Option Addr) (n' c' : Nat) (e k : Int) (D : Dyadic) (w : World) (k1 : k < -1048576)
    (HP : Hid (∀ (B : Option Addr) (k d : Nat) W, Below w.heap.size w W → Wh W B k d (-1048576) → Calls Tryd.prog 24 #[.agg #[.bool (ng e), .slice A' n' c'], .agg #[.bool (ng (-1048576)), .slice B k d]] W (RetW (e + -1048576) W)))
    (HO : Hid (∀ W, Calls Tryd.prog 13 #[.int .i64 (-1048576)] W (RetW (-1048576) W)))
    (HC : Hid (∀ (B : Option Addr) (k d : Nat) W, Below w.heap.size w W → Wh W B k d (e + -1048576) → Calls Tryd.prog 12 #[.agg #[.bool (ng m), .slice A n c], .agg #[.bool (ng (e + -1048576)), .slice B k d]] W (RetD D W))) :
    Calls Tryd.prog 9 #[.agg #[.bool (ng m), .slice A n c, .bool (ng e), .slice A' n' c'], .int .i64 k] w (RetD D w) := by
  go_enter Tryd.func9, Tryd.ntmps9
  go_wp2_with fail
  have HB := Lib.hid ((Blk.new w 27 #[.bool (ng m), .slice A n c, .bool (ng e), .slice A' n' c']).alloc (.cells #[.bool false, .slice none 0 0, .bool false, .slice none 0 0] 27))
  have hBd := Blk.new_ (w.alloc (.cells #[.bool (ng m), .slice A n c, .bool (ng e), .slice A' n' c'] 27)) 27 #[.bool false, .slice none 0 0, .bool false, .slice none 0 0] (w.heap.size + 1) (by simp)
  have HBl := Lib.hid (((Below.refl w.heap.size w).alloc (Nat.le_refl _) (.cells #[.bool (ng m), .slice A n c, .bool (ng e), .slice A' n' c'] 27)).alloc (by simp) (.cells #[.bool false, .slice none 0 0, .bool false, .slice none 0 0] 27))
  obtain ⟨c0, c1, c2, c3, _⟩ := cells4 HB.out
  go_region_held3 (fun w' => w'.cell? ⟨w.heap.size, 0, none⟩ = some (.bool (ng m)) ∧ w'.cell? ⟨w.heap.size, 1, none⟩ = some (.slice A n c) ∧ w'.cell? ⟨w.heap.size, 2, none⟩ = some (.bool (ng e)) ∧ w'.cell? ⟨w.heap.size, 3, none⟩ = some (.slice A' n' c') ∧ Below w.heap.size w w')
    (first | exact ⟨c0, c1, c2, c3, HBl.out.drew⟩ | exact held4 ‹_ ∧ _ ∧ _ ∧ _ ∧ Below w.heap.size w _› hbC | exact held4 ‹_ ∧ _ ∧ _ ∧ _ ∧ Below w.heap.size w _› hbP | exact held4 ‹_ ∧ _ ∧ _ ∧ _ ∧ Below w.heap.size w _› hbO | exact held4s ‹_ ∧ _ ∧ _ ∧ _ ∧ Below w.heap.size w _› _ (by omega) (by omega) (by omega) (by omega) (by omega) _ _ _ _)
    (first
      | (go_at_call 13; refine (HO.out _).mono ?_; rintro e1 wO ⟨BO, kO, dO, rfl, hWO, hbO⟩; have hBO := Blk.next (by assumption) hbO; obtain ⟨r0, r1, r2, r3, f0, f1, f2, f3⟩ := cells4 hBO; skip)
      | (go_at_call 24; refine (HP.out _ _ _ _ (‹_ ∧ _ ∧ _ ∧ _ ∧ Below w.heap.size w _›).2.2.2.2 (by exact hWO)).mono ?_; rintro e1 wP ⟨BP, kP, dP, rfl, hWP, hbP⟩; have hBP := Blk.next (by assumption) hbP; obtain ⟨r0, r1, r2, r3, f0, f1, f2, f3⟩ := cells4 hBP; skip)
      | (go_at_call 12; refine (HC.out _ _ _ _ (‹_ ∧ _ ∧ _ ∧ _ ∧ Below w.heap.size w _›).2.2.2.2 (by exact hWP)).mono ?_; rintro e1 wC ⟨A1, n1, c1, A2, n2, c2, rfl, hD, hbC⟩; have hBC := Blk.next (by assumption) hbC; obtain ⟨r0, r1, r2, r3, f0, f1, f2, f3⟩ := cells4 hBC; skip))
  go_wp2_with fail
  clear r0 r1 r2 r3 f0 f1 f2 f3
  obtain ⟨k0, k1, k2, k3, _⟩ := cells4 (Blk.store4 hBC (.bool (ng (mant D))) (.slice A1 n1 c1) (.bool (ng (expo D))) (.slice A2 n2 c2))
  exact bodyPost_ret (v := .agg #[.bool (ng (mant D)), .slice A1 n1 c1, .bool (ng (expo D)), .slice A2 n2 c2]) (by simp [results, Tryd.results9, go_sem, k0, k1, k2, k3]) rfl
    (RetD_def _ _ _ _ _ _ _ _ _ _ _ _ _ rfl rfl rfl rfl (Wh.store4 hD.1 hBC _ _ _ _) (Wh.store4 hD.2 hBC _ _ _ _) (‹_ ∧ _ ∧ _ ∧ _ ∧ Below w.heap.size w _›).2.2.2.2)

set_option maxHeartbeats 1000000 in
theorem shift_hi (A : Option Addr) (n c : Nat) (m : Int) (A' : Option Addr) (n' c' : Nat) (e k : Int) (D : Dyadic) (w : World) (k1 : 1048576 < k)
    (HP : Hid (∀ (B : Option Addr) (k d : Nat) W, Below w.heap.size w W → Wh W B k d (1048576) → Calls Tryd.prog 24 #[.agg #[.bool (ng e), .slice A' n' c'], .agg #[.bool (ng (1048576)), .slice B k d]] W (RetW (e + 1048576) W)))
    (HO : Hid (∀ W, Calls Tryd.prog 13 #[.int .i64 (1048576)] W (RetW (1048576) W)))
    (HC : Hid (∀ (B : Option Addr) (k d : Nat) W, Below w.heap.size w W → Wh W B k d (e + 1048576) → Calls Tryd.prog 12 #[.agg #[.bool (ng m), .slice A n c], .agg #[.bool (ng (e + 1048576)), .slice B k d]] W (RetD D W))) :
    Calls Tryd.prog 9 #[.agg #[.bool (ng m), .slice A n c, .bool (ng e), .slice A' n' c'], .int .i64 k] w (RetD D w) := by
  go_enter Tryd.func9, Tryd.ntmps9
  go_wp2_with fail
  have HB := Lib.hid ((Blk.new w 27 #[.bool (ng m), .slice A n c, .bool (ng e), .slice A' n' c']).alloc (.cells #[.bool false, .slice none 0 0, .bool false, .slice none 0 0] 27))
  have hBd := Blk.new_ (w.alloc (.cells #[.bool (ng m), .slice A n c, .bool (ng e), .slice A' n' c'] 27)) 27 #[.bool false, .slice none 0 0, .bool false, .slice none 0 0] (w.heap.size + 1) (by simp)
  have HBl := Lib.hid (((Below.refl w.heap.size w).alloc (Nat.le_refl _) (.cells #[.bool (ng m), .slice A n c, .bool (ng e), .slice A' n' c'] 27)).alloc (by simp) (.cells #[.bool false, .slice none 0 0, .bool false, .slice none 0 0] 27))
  obtain ⟨c0, c1, c2, c3, _⟩ := cells4 HB.out
  have kA : -1048576 ≤ k := by omega
  generalize hL : (1048576 : Int) = L at *
  have kB : ¬ k < -L := by omega
  clear hL
  go_region_held3 (fun w' => w'.cell? ⟨w.heap.size, 0, none⟩ = some (.bool (ng m)) ∧ w'.cell? ⟨w.heap.size, 1, none⟩ = some (.slice A n c) ∧ w'.cell? ⟨w.heap.size, 2, none⟩ = some (.bool (ng e)) ∧ w'.cell? ⟨w.heap.size, 3, none⟩ = some (.slice A' n' c') ∧ Below w.heap.size w w')
    (first | exact ⟨c0, c1, c2, c3, HBl.out.drew⟩ | exact held4 ‹_ ∧ _ ∧ _ ∧ _ ∧ Below w.heap.size w _› hbC | exact held4 ‹_ ∧ _ ∧ _ ∧ _ ∧ Below w.heap.size w _› hbP | exact held4 ‹_ ∧ _ ∧ _ ∧ _ ∧ Below w.heap.size w _› hbO | exact held4s ‹_ ∧ _ ∧ _ ∧ _ ∧ Below w.heap.size w _› _ (by omega) (by omega) (by omega) (by omega) (by omega) _ _ _ _)
    (first
      | (go_at_call 13; refine (HO.out _).mono ?_; rintro e1 wO ⟨BO, kO, dO, rfl, hWO, hbO⟩; have hBO := Blk.next (by assumption) hbO; obtain ⟨r0, r1, r2, r3, f0, f1, f2, f3⟩ := cells4 hBO; skip)
      | (go_at_call 24; refine (HP.out _ _ _ _ (‹_ ∧ _ ∧ _ ∧ _ ∧ Below w.heap.size w _›).2.2.2.2 (by exact hWO)).mono ?_; rintro e1 wP ⟨BP, kP, dP, rfl, hWP, hbP⟩; have hBP := Blk.next (by assumption) hbP; obtain ⟨r0, r1, r2, r3, f0, f1, f2, f3⟩ := cells4 hBP; skip)
      | (go_at_call 12; refine (HC.out _ _ _ _ (‹_ ∧ _ ∧ _ ∧ _ ∧ Below w.heap.size w _›).2.2.2.2 (by exact hWP)).mono ?_; rintro e1 wC ⟨A1, n1, c1, A2, n2, c2, rfl, hD, hbC⟩; have hBC := Blk.next (by assumption) hbC; obtain ⟨r0, r1, r2, r3, f0, f1, f2, f3⟩ := cells4 hBC; skip))
  go_wp2_with fail
  clear r0 r1 r2 r3 f0 f1 f2 f3
  obtain ⟨k0, k1, k2, k3, _⟩ := cells4 (Blk.store4 hBC (.bool (ng (mant D))) (.slice A1 n1 c1) (.bool (ng (expo D))) (.slice A2 n2 c2))
  exact bodyPost_ret (v := .agg #[.bool (ng (mant D)), .slice A1 n1 c1, .bool (ng (expo D)), .slice A2 n2 c2]) (by simp [results, Tryd.results9, go_sem, k0, k1, k2, k3]) rfl
    (RetD_def _ _ _ _ _ _ _ _ _ _ _ _ _ rfl rfl rfl rfl (Wh.store4 hD.1 hBC _ _ _ _) (Wh.store4 hD.2 hBC _ _ _ _) (‹_ ∧ _ ∧ _ ∧ _ ∧ Below w.heap.size w _›).2.2.2.2)

set_option maxHeartbeats 1000000 in
theorem shift_mid (A : Option Addr) (n c : Nat) (m : Int) (A' : Option Addr) (n' c' : Nat) (e k : Int) (D : Dyadic) (w : World) (k1 : -1048576 ≤ k) (k2 : k ≤ 1048576)
    (HP : Hid (∀ (B : Option Addr) (kk d : Nat) W, Below w.heap.size w W → Wh W B kk d k → Calls Tryd.prog 24 #[.agg #[.bool (ng e), .slice A' n' c'], .agg #[.bool (ng k), .slice B kk d]] W (RetW (e + k) W)))
    (HO : Hid (∀ W, Calls Tryd.prog 13 #[.int .i64 k] W (RetW k W)))
    (HC : Hid (∀ (B : Option Addr) (kk d : Nat) W, Below w.heap.size w W → Wh W B kk d (e + k) → Calls Tryd.prog 12 #[.agg #[.bool (ng m), .slice A n c], .agg #[.bool (ng (e + k)), .slice B kk d]] W (RetD D W))) :
    Calls Tryd.prog 9 #[.agg #[.bool (ng m), .slice A n c, .bool (ng e), .slice A' n' c'], .int .i64 k] w (RetD D w) := by
  go_enter Tryd.func9, Tryd.ntmps9
  go_wp2_with fail
  have HB := Lib.hid ((Blk.new w 27 #[.bool (ng m), .slice A n c, .bool (ng e), .slice A' n' c']).alloc (.cells #[.bool false, .slice none 0 0, .bool false, .slice none 0 0] 27))
  have hBd := Blk.new_ (w.alloc (.cells #[.bool (ng m), .slice A n c, .bool (ng e), .slice A' n' c'] 27)) 27 #[.bool false, .slice none 0 0, .bool false, .slice none 0 0] (w.heap.size + 1) (by simp)
  have HBl := Lib.hid (((Below.refl w.heap.size w).alloc (Nat.le_refl _) (.cells #[.bool (ng m), .slice A n c, .bool (ng e), .slice A' n' c'] 27)).alloc (by simp) (.cells #[.bool false, .slice none 0 0, .bool false, .slice none 0 0] 27))
  obtain ⟨c0, c1, c2, c3, _⟩ := cells4 HB.out
  have kA : -1048576 ≤ k := by omega
  generalize hL : (1048576 : Int) = L at *
  have kB : ¬ k < -L := by omega
  have kC : ¬ L < k := by omega
  clear hL
  go_region_held3 (fun w' => w'.cell? ⟨w.heap.size, 0, none⟩ = some (.bool (ng m)) ∧ w'.cell? ⟨w.heap.size, 1, none⟩ = some (.slice A n c) ∧ w'.cell? ⟨w.heap.size, 2, none⟩ = some (.bool (ng e)) ∧ w'.cell? ⟨w.heap.size, 3, none⟩ = some (.slice A' n' c') ∧ Below w.heap.size w w')
    (first | exact ⟨c0, c1, c2, c3, HBl.out.drew⟩ | exact held4 ‹_ ∧ _ ∧ _ ∧ _ ∧ Below w.heap.size w _› hbC | exact held4 ‹_ ∧ _ ∧ _ ∧ _ ∧ Below w.heap.size w _› hbP | exact held4 ‹_ ∧ _ ∧ _ ∧ _ ∧ Below w.heap.size w _› hbO | exact held4s ‹_ ∧ _ ∧ _ ∧ _ ∧ Below w.heap.size w _› _ (by omega) (by omega) (by omega) (by omega) (by omega) _ _ _ _)
    (first
      | (go_at_call 13; refine (HO.out _).mono ?_; rintro e1 wO ⟨BO, kO, dO, rfl, hWO, hbO⟩; have hBO := Blk.next (by assumption) hbO; obtain ⟨r0, r1, r2, r3, f0, f1, f2, f3⟩ := cells4 hBO; skip)
      | (go_at_call 24; refine (HP.out _ _ _ _ (‹_ ∧ _ ∧ _ ∧ _ ∧ Below w.heap.size w _›).2.2.2.2 (by exact hWO)).mono ?_; rintro e1 wP ⟨BP, kP, dP, rfl, hWP, hbP⟩; have hBP := Blk.next (by assumption) hbP; obtain ⟨r0, r1, r2, r3, f0, f1, f2, f3⟩ := cells4 hBP; skip)
      | (go_at_call 12; refine (HC.out _ _ _ _ (‹_ ∧ _ ∧ _ ∧ _ ∧ Below w.heap.size w _›).2.2.2.2 (by exact hWP)).mono ?_; rintro e1 wC ⟨A1, n1, c1, A2, n2, c2, rfl, hD, hbC⟩; have hBC := Blk.next (by assumption) hbC; obtain ⟨r0, r1, r2, r3, f0, f1, f2, f3⟩ := cells4 hBC; skip))
  go_wp2_with fail
  clear r0 r1 r2 r3 f0 f1 f2 f3
  obtain ⟨k0, k1, k2, k3, _⟩ := cells4 (Blk.store4 hBC (.bool (ng (mant D))) (.slice A1 n1 c1) (.bool (ng (expo D))) (.slice A2 n2 c2))
  exact bodyPost_ret (v := .agg #[.bool (ng (mant D)), .slice A1 n1 c1, .bool (ng (expo D)), .slice A2 n2 c2]) (by simp [results, Tryd.results9, go_sem, k0, k1, k2, k3]) rfl
    (RetD_def _ _ _ _ _ _ _ _ _ _ _ _ _ rfl rfl rfl rfl (Wh.store4 hD.1 hBC _ _ _ _) (Wh.store4 hD.2 hBC _ _ _ _) (‹_ ∧ _ ∧ _ ∧ _ ∧ Below w.heap.size w _›).2.2.2.2)

theorem shift_any (A : Option Addr) (n c : Nat) (m : Int) (A' : Option Addr) (n' c' : Nat) (e k : Int) (w : World) (h : Wh w A n c m) (h' : Wh w A' n' c' e) (hn : n ≤ 137438953472) (he : e.natAbs ≤ 1000000000000000000) (hg : Glob w) :
    Calls Tryd.prog 9 #[.agg #[.bool (ng m), .slice A n c, .bool (ng e), .slice A' n' c'], .int .i64 k] w (RetD (dy m (e + far k)) w) := by
  have hwe : wl e ≤ 1 := wl_small (by omega) (by omega)
  have key : ∀ K : Int, -1048576 ≤ K → K ≤ 1048576 →
      Hid (∀ (B : Option Addr) (kk d : Nat) W, Below w.heap.size w W → Wh W B kk d K → Calls Tryd.prog 24 #[.agg #[.bool (ng e), .slice A' n' c'], .agg #[.bool (ng K), .slice B kk d]] W (RetW (e + K) W)) ∧
      Hid (∀ W, Calls Tryd.prog 13 #[.int .i64 K] W (RetW K W)) ∧
      Hid (∀ (B : Option Addr) (kk d : Nat) W, Below w.heap.size w W → Wh W B kk d (e + K) → Calls Tryd.prog 12 #[.agg #[.bool (ng m), .slice A n c], .agg #[.bool (ng (e + K)), .slice B kk d]] W (RetD (dy m (e + K)) W)) := by
    intro K h0 h1
    have hwk : wl K ≤ 1 := wl_small (by omega) (by omega)
    have hws : wl (e + K) ≤ 1 := wl_small (by omega) (by omega)
    exact ⟨Lib.hid fun B kk d W hb hw => plus_any A' n' c' e B kk d K W (h'.below hb) hw (by omega) (by omega),
      Lib.hid fun W => wholeOf_any K W (by omega) (by omega),
      Lib.hid fun B kk d W hb hw => canonical_any A n c m B kk d (e + K) W (h.below hb) hw hn (by rw [hw.1]; omega) (hg.below hb)⟩
  unfold far
  split
  · rename_i hk
    obtain ⟨a, b, d⟩ := key (-1048576) (by omega) (by omega)
    exact shift_lo A n c m A' n' c' e k _ w hk a b d
  · split
    · rename_i hk hk2
      obtain ⟨a, b, d⟩ := key 1048576 (by omega) (by omega)
      exact shift_hi A n c m A' n' c' e k _ w hk2 a b d
    · obtain ⟨a, b, d⟩ := key k (by omega) (by omega)
      exact shift_mid A n c m A' n' c' e k _ w (by omega) (by omega) a b d
end Go.Proofs.YtajcjpbfmpljkaaDoor
set_option linter.unusedVariables false
namespace Go.Proofs.YtajcjpbfmpljkaaDoor
open Go.RowKit

theorem bld_size : (Tryd.prog.info? 45).map (·.size) = some 2 := by kernel_rfl
theorem bld_lies : liesAt Tryd.prog Tryd.prog.depth 45 (2 / Tryd.prog.cellsOf 45) 0 45 1 = true := by kernel_rfl
theorem info_u8 : (Tryd.prog.info? 5).map (fun i => (i.zero, i.size, i.bytes)) = some (some (.int .u8 0), 1, 1) := by kernel_rfl
/-- A builder of the call's own that holds the bytes. -/
@[reducible] def IsBld (B b : Nat) (bs : List Value) (w : World) : Prop := Lib.IsBuilder 45 5 B b bs w

set_option maxHeartbeats 1000000 in
set_option maxRecDepth 100000 in
theorem check_used (b : Nat) (w : World) (h0 : w.cell? ⟨b, 0, none⟩ = some (.pointer (some ⟨b, 0, none⟩))) :
    Calls Tryd.prog 35 #[.pointer (some ⟨b, 0, none⟩)] w fun e w' => e = .returned (.tuple #[]) ∧ w = w' := by
  obtain ⟨j, hj, _⟩ := Option.map_eq_some_iff.1 bld_size
  go_enter Tryd.func35, Tryd.ntmps35
  go_wp2_with fail
  rw [Lib.run_neq_ptr_same w _ Tryd.underlying42 hj]
  go_wp2_with fail
  go_end0
  exact ⟨rfl, rfl⟩
set_option maxHeartbeats 1000000 in
set_option maxRecDepth 100000 in
theorem check_fresh (b : Nat) (w : World) (h0 : w.cell? ⟨b, 0, none⟩ = some (.pointer none)) (hsh : w.shape? b = some (45, 2)) (hfz : w.frozen? ⟨b, 0, none⟩ = false) :
    Calls Tryd.prog 35 #[.pointer (some ⟨b, 0, none⟩)] w fun e w' => e = .returned (.tuple #[]) ∧ w' = w.setCell ⟨b, 0, none⟩ (.pointer (some ⟨b, 0, none⟩)) := by
  obtain ⟨j, hj, hjs⟩ := Option.map_eq_some_iff.1 bld_size
  go_enter Tryd.func35, Tryd.ntmps35
  go_wp2_with fail
  rw [Lib.run_to_unsafe w ⟨b, 0, none⟩ Tryd.underlying42 Tryd.underlying86 hj (by rw [hjs]; decide) hsh (Nat.zero_lt_succ 1)]
  simp only [Result.andThen]
  rw [Oper.upon_value]
  go_wp2_with fail
  rw [run_callFunc_extern Tryd.func52 (by kernel_rfl) (by kernel_rfl) (by kernel_rfl) (e := Extern.AbiNoEscape.same) (by kernel_rfl)]
  rw [Lib.run_noEscape]
  simp only [Result.andThen]
  rw [Oper.upon_value]
  go_wp2_with fail
  rw [Lib.run_from_unsafe w ⟨b, 0, none⟩ Tryd.underlying86 Tryd.underlying42 hj hsh bld_lies]
  simp only [Result.andThen]
  rw [Oper.upon_value]
  go_wp2_with fail
  go_end0
  exact ⟨rfl, rfl⟩
theorem check_any (B b : Nat) (bs : List Value) (w : World) (h : IsBld B b bs w) :
    Calls Tryd.prog 35 #[.pointer (some ⟨b, 0, none⟩)] w fun e w' => e = .returned (.tuple #[]) ∧ (Lib.BuilderAt 45 5 B b (.pointer (some ⟨b, 0, none⟩)) bs w' ∧ Below B w w') := by
  rcases h with h | h
  · refine (check_fresh b w h.cell0 h.shape h.frozen0).mono ?_
    rintro e w' ⟨rfl, rfl⟩
    exact ⟨rfl, h.used _, (Below.refl B w).setCell (p := ⟨b, 0, none⟩) h.1 _⟩
  · refine (check_used b w h.cell0).mono ?_
    rintro e w' ⟨rfl, rfl⟩
    exact ⟨rfl, h, Below.refl B _⟩

set_option maxHeartbeats 1000000 in
set_option maxRecDepth 100000 in
theorem writeByte_any (B b : Nat) (bs : List Value) (c : Int) (w : World) (h : IsBld B b bs w) (hlen : bs.length + 1 ≤ 140737488355328) (hBw : B ≤ w.heap.size) :
    Calls Tryd.prog 17 #[.pointer (some ⟨b, 0, none⟩), .int .u8 c] w fun e w' => e = .returned .nilIface ∧ (IsBld B b (bs ++ [.int .u8 c]) w' ∧ Below B w w') := by
  obtain ⟨i0, hi, hz0, hz1, hz2⟩ := info_parts info_u8
  go_enter Tryd.func17, Tryd.ntmps17
  go_wp2_with fail
  refine (check_any B b bs _ h).mono ?_
  rintro e w1 ⟨rfl, h1, hb1⟩
  obtain ⟨hB, v, hbk, hown, hne⟩ := h1
  have c0 : w1.cell? ⟨b, 0, none⟩ = some (.pointer (some ⟨b, 0, none⟩)) := by rw [Lib.cell_of_heap hbk]; rfl
  have c1 : w1.cell? ⟨b, 1, none⟩ = some v := by rw [Lib.cell_of_heap hbk]; rfl
  go_wp2_with (at_builtin; refine wpList_append_own _ rfl _ _ 43 rfl B 5 i0 (.int .u8 0) 1 1 Tryd.underlying43 hi hz0 hz1 hz2 rfl (by decide) _ _ _ rfl (hown.alloc _) ⟨w1.heap.size, 0, none⟩ 1 1 [.int .u8 c] rfl rfl ?c1 ?c2 ?c3 ?c4 ?c5 ?_)
  case c1 =>
    intro j u hj
    match j, hj with
    | 0, hj => simp at hj; subst hj; simp [Addr.add]
  case c2 => intro u hu; simp at hu; subst hu; rfl
  case c3 => unfold maxLen; omega
  case c4 => omega
  case c5 => have := hb1.size; simp; omega
  intro v' w2 hown' hgrow _
  have hlt : b < w1.heap.size := Blk.lt (cs := #[.pointer (some ⟨b, 0, none⟩), v]) hbk
  have hb2 : w2.heap[b]? = some (.cells #[.pointer (some ⟨b, 0, none⟩), v] 45 (0, 0)) := by
    rw [hgrow.block b (by simp; omega) (fun e => hne e.symm), Below.heap_alloc w1 _ b hlt]
    exact hbk
  have d0 : w2.cell? ⟨b, 0, none⟩ = some (.pointer (some ⟨b, 0, none⟩)) := by rw [Lib.cell_of_heap hb2]; rfl
  have d1 : w2.cell? ⟨b, 1, none⟩ = some v := by rw [Lib.cell_of_heap hb2]; rfl
  have f1 : w2.frozen? ⟨b, 1, none⟩ = false := Lib.frozen_of_heap hb2 1
  obtain ⟨g, cap, rfl⟩ : ∃ g cap, v' = .slice (some ⟨g, 0, none⟩) (bs.length + 1) cap := by
    rcases hown'.2 with ⟨_, h0⟩ | ⟨g, cap, cur, hv, _⟩
    · omega
    · exact ⟨g, cap, hv⟩
  go_wp2_with fail
  go_ret
  refine ⟨rfl, .inr ?_, ?_⟩
  · exact Lib.BuilderAt.put (T := 45) (e := 5) hB hb2 (bs' := bs ++ [.int .u8 c]) (by simpa using hown') (by decide)
  · exact ((hb1.alloc (by have := hb1.size; omega) _).grown hgrow (by have := hb1.size; simp; omega) (fun k hk => (hown.lt k hk).1)).setCell (p := ⟨b, 1, none⟩) hB _

set_option maxHeartbeats 1000000 in
set_option maxRecDepth 100000 in
theorem writeString_any (B b : Nat) (bs : List Value) (s : ByteArray) (w : World) (h : IsBld B b bs w) (hlen : bs.length + s.size ≤ 140737488355328) (hBw : B ≤ w.heap.size) :
    Calls Tryd.prog 15 #[.pointer (some ⟨b, 0, none⟩), .string s] w fun e w' => e = .returned (.tuple #[.int .i64 s.size, .nilIface]) ∧ (IsBld B b (bs ++ Lib.strCells s) w' ∧ Below B w w') := by
  obtain ⟨i0, hi, hz0, hz1, hz2⟩ := info_parts info_u8
  go_enter Tryd.func15, Tryd.ntmps15
  go_wp2_with fail
  refine (check_any B b bs _ h).mono ?_
  rintro e w1 ⟨rfl, h1, hb1⟩
  obtain ⟨hB, v, hbk, hown, hne⟩ := h1
  have c0 : w1.cell? ⟨b, 0, none⟩ = some (.pointer (some ⟨b, 0, none⟩)) := by rw [Lib.cell_of_heap hbk]; rfl
  have c1 : w1.cell? ⟨b, 1, none⟩ = some v := by rw [Lib.cell_of_heap hbk]; rfl
  go_wp2_with (at_builtin; refine Lib.wpList_append_own_string _ rfl _ _ 43 9 rfl B 5 i0 Tryd.underlying43 Tryd.underlying9 hi hz0 hz1 hz2 _ _ _ rfl hown s rfl ?c3 ?c4 ?c5 ?_)
  case c3 => unfold maxLen; omega
  case c4 => omega
  case c5 => have := hb1.size; omega
  intro v' w2 hown' hgrow _
  have hlt : b < w1.heap.size := Blk.lt (cs := #[.pointer (some ⟨b, 0, none⟩), v]) hbk
  have hb2 : w2.heap[b]? = some (.cells #[.pointer (some ⟨b, 0, none⟩), v] 45 (0, 0)) := by
    rw [hgrow.block b hlt (fun e => hne e.symm)]
    exact hbk
  have d0 : w2.cell? ⟨b, 0, none⟩ = some (.pointer (some ⟨b, 0, none⟩)) := by rw [Lib.cell_of_heap hb2]; rfl
  have d1 : w2.cell? ⟨b, 1, none⟩ = some v := by rw [Lib.cell_of_heap hb2]; rfl
  have f1 : w2.frozen? ⟨b, 1, none⟩ = false := Lib.frozen_of_heap hb2 1
  obtain ⟨ao, n', cap, rfl⟩ : ∃ ao n' cap, v' = .slice ao n' cap := by
    rcases hown'.2 with ⟨hv, _⟩ | ⟨g, cap, cur, hv, _⟩
    · exact ⟨_, _, _, hv⟩
    · exact ⟨_, _, _, hv⟩
  go_wp2_with fail
  go_ret2
  refine ⟨rfl, .inr ?_, ?_⟩
  · exact Lib.BuilderAt.put (T := 45) (e := 5) hB hb2 (bs' := bs ++ Lib.strCells s) (by simpa [Lib.strCells_length] using hown') (by decide)
  · exact (hb1.grown hgrow (by have := hb1.size; omega) (fun k hk => (hown.lt k hk).1)).setCell (p := ⟨b, 1, none⟩) hB _
end Go.Proofs.YtajcjpbfmpljkaaDoor
namespace Go.Proofs
open Go.Shelf
def Tryd.lays169_ren : Go.Shelf.Ren := ⟨fun | 169 => 19 | n => n, fun | 70 => 42 | 9 => 9 | 0 => 0 | 72 => 45 | 37 => 43 | 127 => 67 | 3 => 3 | 5 => 5 | n => n, fun | n => n⟩
theorem Tryd.lays169 : Go.Proofs.Lays.n169 Tryd.prog Tryd.lays169_ren := {
  mixed := by kernel_rfl
  f169 := Tryd.func19.trans (congrArg some (by kernel_rfl))
  t0 := Tryd.underlying0
  a0 := Tryd.isAgg0
  z0 := Tryd.sizeOf0
  v0 := Tryd.zeroValue0
  t3 := Tryd.underlying3
  a3 := Tryd.isAgg3
  z3 := Tryd.sizeOf3
  v3 := Tryd.zeroValue3
  t9 := Tryd.underlying9
  a9 := Tryd.isAgg9
  z9 := Tryd.sizeOf9
  v9 := Tryd.zeroValue9
  t37 := Tryd.underlying43
  a37 := Tryd.isAgg43
  z37 := Tryd.sizeOf43
  v37 := Tryd.zeroValue43
  t70 := Tryd.underlying42
  a70 := Tryd.isAgg42
  z70 := Tryd.sizeOf42
  v70 := Tryd.zeroValue42
  t72 := Tryd.underlying45
  a72 := Tryd.isAgg45
  z72 := Tryd.sizeOf45
  v72 := Tryd.zeroValue45
  t127 := Tryd.underlying67
  a127 := Tryd.isAgg67
  z127 := Tryd.sizeOf67
  v127 := Tryd.zeroValue67 }
theorem Tryd.Builder_Extra_169 : Builder.Extra Tryd.prog Tryd.lays169_ren := {
  sizeBuilder := by kernel_rfl
  liesBuilder := by kernel_rfl
  t5 := Tryd.underlying5
  a5 := Tryd.isAgg5
  z5 := Tryd.sizeOf5
  v5 := Tryd.zeroValue5
  infoByte := by kernel_rfl
  cellsByte := by kernel_rfl
  sizeByte := by kernel_rfl
  neB5 := by decide }
open Go.RowKit in
/-- (*strings.Builder).String: "String returns the accumulated string.": WHATEVER THE BUILDER HOLDS. (LAID: no walk: one application.) -/
theorem Tryd.Builder_String_any (B b : Nat) (l : List UInt8) (w : World) (h : Lib.IsBuilder 45 5 B b (Lib.byteCells l) w) (hBw : B ≤ w.heap.size) :
    Calls Tryd.prog 19 #[.pointer (some ⟨b, 0, none⟩)] w fun e w' => e = .returned (.string ⟨l.toArray⟩) ∧ Below B w w' := Any.Builder_String_any Tryd.lays169 Tryd.Builder_Extra_169 B b l w h hBw
def Tryd.lays156_ren : Go.Shelf.Ren := ⟨fun | 156 => 43 | 165 => 57 | 166 => 15 | 169 => 19 | 240 => 35 | 241 => 73 | 276 => 52 | 277 => 83 | n => n, fun | 31 => 68 | 9 => 9 | 3 => 3 | 4 => 4 | 0 => 0 | 20 => 20 | 72 => 45 | 76 => 48 | 70 => 42 | 37 => 43 | 75 => 47 | 127 => 67 | 164 => 86 | 5 => 5 | 80 => 29 | n => n, fun | n => n⟩
theorem Tryd.lays156 : Go.Proofs.Lays.n156 Tryd.prog Tryd.lays156_ren := {
  mixed := by kernel_rfl
  f156 := Tryd.func43.trans (congrArg some (by kernel_rfl))
  f165 := Tryd.func57.trans (congrArg some (by kernel_rfl))
  f166 := Tryd.func15.trans (congrArg some (by kernel_rfl))
  f169 := Tryd.func19.trans (congrArg some (by kernel_rfl))
  f240 := Tryd.func35.trans (congrArg some (by kernel_rfl))
  f241 := Tryd.func73.trans (congrArg some (by kernel_rfl))
  f276 := Tryd.func52.trans (congrArg some (by kernel_rfl))
  f277 := Tryd.func83.trans (congrArg some (by kernel_rfl))
  t0 := Tryd.underlying0
  a0 := Tryd.isAgg0
  z0 := Tryd.sizeOf0
  v0 := Tryd.zeroValue0
  t3 := Tryd.underlying3
  a3 := Tryd.isAgg3
  z3 := Tryd.sizeOf3
  v3 := Tryd.zeroValue3
  t4 := Tryd.underlying4
  a4 := Tryd.isAgg4
  z4 := Tryd.sizeOf4
  v4 := Tryd.zeroValue4
  t9 := Tryd.underlying9
  a9 := Tryd.isAgg9
  z9 := Tryd.sizeOf9
  v9 := Tryd.zeroValue9
  t20 := Tryd.underlying20
  a20 := Tryd.isAgg20
  z20 := Tryd.sizeOf20
  v20 := Tryd.zeroValue20
  t31 := Tryd.underlying68
  a31 := Tryd.isAgg68
  z31 := Tryd.sizeOf68
  v31 := Tryd.zeroValue68
  t37 := Tryd.underlying43
  a37 := Tryd.isAgg43
  z37 := Tryd.sizeOf43
  v37 := Tryd.zeroValue43
  t70 := Tryd.underlying42
  a70 := Tryd.isAgg42
  z70 := Tryd.sizeOf42
  v70 := Tryd.zeroValue42
  t72 := Tryd.underlying45
  a72 := Tryd.isAgg45
  z72 := Tryd.sizeOf45
  v72 := Tryd.zeroValue45
  t75 := Tryd.underlying47
  a75 := Tryd.isAgg47
  z75 := Tryd.sizeOf47
  v75 := Tryd.zeroValue47
  t76 := Tryd.underlying48
  a76 := Tryd.isAgg48
  z76 := Tryd.sizeOf48
  v76 := Tryd.zeroValue48
  t127 := Tryd.underlying67
  a127 := Tryd.isAgg67
  z127 := Tryd.sizeOf67
  v127 := Tryd.zeroValue67
  t164 := Tryd.underlying86
  a164 := Tryd.isAgg86
  z164 := Tryd.sizeOf86
  v164 := Tryd.zeroValue86 }
theorem Tryd.Builder_Extra_156 : Builder.Extra Tryd.prog Tryd.lays156_ren := {
  sizeBuilder := by kernel_rfl
  liesBuilder := by kernel_rfl
  t5 := Tryd.underlying5
  a5 := Tryd.isAgg5
  z5 := Tryd.sizeOf5
  v5 := Tryd.zeroValue5
  infoByte := by kernel_rfl
  cellsByte := by kernel_rfl
  sizeByte := by kernel_rfl
  neB5 := by decide }
open Go.RowKit in
/-- strings.Join: "Join concatenates the elements of its first argument to create a single string. The separator string sep is placed between elements in the resulting string.": HOWEVER MANY ELEMENTS. Below the heap's end the world is as it was. (LAID: no walk: one application.) -/
theorem Tryd.strings_Join (bk o c : Nat) (xs : List ByteArray) (sep : ByteArray) (w : World) (hcells : ∀ (j : Nat) x, xs[j]? = some x → w.cell? ⟨bk, o + j, none⟩ = some (.string x)) (hbk : bk < w.heap.size) (hN : xs.length ≤ 140737488355328) (hcap : xs.length ≤ c) (hlen : (Lib.join (xs.map (·.data.toList)) sep.data.toList).length ≤ 140737488355328) :
    Calls Tryd.prog 43 #[.slice (some ⟨bk, o, none⟩) xs.length c, .string sep] w fun e w' => e = .returned (.string ⟨(Lib.join (xs.map (·.data.toList)) sep.data.toList).toArray⟩) ∧ Below w.heap.size w w' := Any.strings_Join Tryd.lays156 Tryd.Builder_Extra_156 bk o c xs sep w hcells hbk hN hcap hlen
def Tryd.lays161_ren : Go.Shelf.Ren := ⟨fun | 161 => 42 | 231 => 59 | 227 => 60 | 233 => 61 | 235 => 62 | 228 => 74 | 197 => 75 | 151 => 76 | 260 => 84 | 152 => 85 | 137 => 87 | 119 => 88 | 224 => 89 | 225 => 90 | 217 => 91 | 266 => 92 | n => n, fun | 9 => 9 | 4 => 4 | 3 => 3 | 5 => 5 | 117 => 96 | 116 => 95 | 0 => 0 | 124 => 99 | 105 => 112 | 21 => 21 | 119 => 123 | 46 => 88 | 139 => 126 | 138 => 125 | n => n, fun | 3 => 6 | 4 => 7 | n => n⟩
theorem Tryd.lays161 : Go.Proofs.Lays.n161 Tryd.prog Tryd.lays161_ren := {
  mixed := by kernel_rfl
  f119 := Tryd.func88.trans (congrArg some (by kernel_rfl))
  f137 := Tryd.func87.trans (congrArg some (by kernel_rfl))
  f151 := Tryd.func76.trans (congrArg some (by kernel_rfl))
  f152 := Tryd.func85.trans (congrArg some (by kernel_rfl))
  f161 := Tryd.func42.trans (congrArg some (by kernel_rfl))
  f197 := Tryd.func75.trans (congrArg some (by kernel_rfl))
  f217 := Tryd.func91.trans (congrArg some (by kernel_rfl))
  f224 := Tryd.func89.trans (congrArg some (by kernel_rfl))
  f225 := Tryd.func90.trans (congrArg some (by kernel_rfl))
  f227 := Tryd.func60.trans (congrArg some (by kernel_rfl))
  f228 := Tryd.func74.trans (congrArg some (by kernel_rfl))
  f231 := Tryd.func59.trans (congrArg some (by kernel_rfl))
  f233 := Tryd.func61.trans (congrArg some (by kernel_rfl))
  f235 := Tryd.func62.trans (congrArg some (by kernel_rfl))
  f260 := Tryd.func84.trans (congrArg some (by kernel_rfl))
  f266 := Tryd.func92.trans (congrArg some (by kernel_rfl))
  t0 := Tryd.underlying0
  a0 := Tryd.isAgg0
  z0 := Tryd.sizeOf0
  v0 := Tryd.zeroValue0
  t3 := Tryd.underlying3
  a3 := Tryd.isAgg3
  z3 := Tryd.sizeOf3
  v3 := Tryd.zeroValue3
  t4 := Tryd.underlying4
  a4 := Tryd.isAgg4
  z4 := Tryd.sizeOf4
  v4 := Tryd.zeroValue4
  t5 := Tryd.underlying5
  a5 := Tryd.isAgg5
  z5 := Tryd.sizeOf5
  v5 := Tryd.zeroValue5
  t9 := Tryd.underlying9
  a9 := Tryd.isAgg9
  z9 := Tryd.sizeOf9
  v9 := Tryd.zeroValue9
  t21 := Tryd.underlying21
  a21 := Tryd.isAgg21
  z21 := Tryd.sizeOf21
  v21 := Tryd.zeroValue21
  t46 := Tryd.underlying88
  a46 := Tryd.isAgg88
  z46 := Tryd.sizeOf88
  v46 := Tryd.zeroValue88
  t105 := Tryd.underlying112
  a105 := Tryd.isAgg112
  z105 := Tryd.sizeOf112
  v105 := Tryd.zeroValue112
  t116 := Tryd.underlying95
  a116 := Tryd.isAgg95
  z116 := Tryd.sizeOf95
  t117 := Tryd.underlying96
  a117 := Tryd.isAgg96
  z117 := Tryd.sizeOf96
  v117 := Tryd.zeroValue96
  t119 := Tryd.underlying123
  a119 := Tryd.isAgg123
  z119 := Tryd.sizeOf123
  t124 := Tryd.underlying99
  a124 := Tryd.isAgg99
  z124 := Tryd.sizeOf99
  v124 := Tryd.zeroValue99
  t138 := Tryd.underlying125
  a138 := Tryd.isAgg125
  z138 := Tryd.sizeOf125
  v138 := Tryd.zeroValue125
  t139 := Tryd.underlying126
  a139 := Tryd.isAgg126
  z139 := Tryd.sizeOf126
  v139 := Tryd.zeroValue126
  g3 := by kernel_rfl
  g4 := by kernel_rfl }
open Go.RowKit in
/-- strings.TrimLeft: "TrimLeft returns a slice of the string s with all leading Unicode code points contained in cutset removed.": AT A cutset OF ONE ASCII BYTE. The world is as it was. (LAID: no walk: one application.) -/
theorem Tryd.strings_TrimLeft_one (s : ByteArray) (c : UInt8) (hc : c.toNat < 128) (w : World) :
    Calls Tryd.prog 42 #[.string s, .string ⟨#[c]⟩] w fun e w' => e = .returned (.string ⟨(Lib.trimLeftB s.data.toList c).toArray⟩) ∧ w' = w := Any.strings_TrimLeft_one Tryd.lays161 s c hc w
open Go.RowKit in
def Tryd.lays283_ren : Go.Shelf.Ren := ⟨fun | 283 => 66 | n => n, fun | 3 => 3 | 9 => 9 | 4 => 4 | n => n, fun | n => n⟩
theorem Tryd.lays283 : Go.Proofs.Lays.n283 Tryd.prog Tryd.lays283_ren := {
  mixed := by kernel_rfl
  f283 := Tryd.func66.trans (congrArg some (by kernel_rfl))
  t3 := Tryd.underlying3
  a3 := Tryd.isAgg3
  z3 := Tryd.sizeOf3
  v3 := Tryd.zeroValue3
  t4 := Tryd.underlying4
  a4 := Tryd.isAgg4
  z4 := Tryd.sizeOf4
  v4 := Tryd.zeroValue4
  t9 := Tryd.underlying9
  a9 := Tryd.isAgg9
  z9 := Tryd.sizeOf9
  v9 := Tryd.zeroValue9 }
open Go.Lib in
/-- internal/strconv.small: "small returns the string for an i with 0 <= i < nSmalls.": i's decimal numeral. The world is as it was. (LAID: no walk: one application.) -/
theorem Tryd.internal_strconv_small (i : Nat) (h : i < 100) (w : World) :
    Calls Tryd.prog 66 #[.int .i64 i] w fun e w' => e = .returned (.string ⟨(Lib.decDigits i).toArray⟩) ∧ w' = w := Any.internal_strconv_small Tryd.lays283 i h w
def Tryd.laysM284_ren : Go.Shelf.Ren := ⟨fun | 284 => 67 | 129 => 53 | 317 => 79 | 318 => 80 | n => n, fun | 53 => 51 | 3 => 3 | 212 => 116 | 0 => 0 | 4 => 4 | 46 => 88 | 5 => 5 | 9 => 9 | n => n, fun | 17 => 4 | n => n⟩
theorem Tryd.laysM284 : Go.Proofs.LaysM.n284 Tryd.prog Tryd.laysM284_ren := {
  mixed := by kernel_rfl
  f129 := Tryd.func53.trans (congrArg some (by kernel_rfl))
  f284 := Tryd.func67.trans (congrArg some (by kernel_rfl))
  f317 := Tryd.func79.trans (congrArg some (by kernel_rfl))
  f318 := Tryd.func80.trans (congrArg some (by kernel_rfl))
  t0 := Tryd.underlying0
  a0 := Tryd.isAgg0
  z0 := Tryd.sizeOf0
  v0 := Tryd.zeroValue0
  t3 := Tryd.underlying3
  a3 := Tryd.isAgg3
  z3 := Tryd.sizeOf3
  v3 := Tryd.zeroValue3
  t4 := Tryd.underlying4
  a4 := Tryd.isAgg4
  z4 := Tryd.sizeOf4
  v4 := Tryd.zeroValue4
  t5 := Tryd.underlying5
  a5 := Tryd.isAgg5
  z5 := Tryd.sizeOf5
  v5 := Tryd.zeroValue5
  t9 := Tryd.underlying9
  a9 := Tryd.isAgg9
  z9 := Tryd.sizeOf9
  v9 := Tryd.zeroValue9
  t46 := Tryd.underlying88
  a46 := Tryd.isAgg88
  z46 := Tryd.sizeOf88
  v46 := Tryd.zeroValue88
  t53 := Tryd.underlying51
  a53 := Tryd.isAgg51
  z53 := Tryd.sizeOf51
  v53 := Tryd.zeroValue51
  t212 := Tryd.underlying116
  a212 := Tryd.isAgg116
  z212 := Tryd.sizeOf116
  v212 := Tryd.zeroValue116
  g17 := by kernel_rfl
  i0 := by kernel_rfl
  i3 := by kernel_rfl
  i4 := by kernel_rfl
  i5 := by kernel_rfl
  i9 := by kernel_rfl
  i46 := by kernel_rfl
  i53 := by kernel_rfl
  i212 := by kernel_rfl
  m17 := by kernel_rfl }
open Go.Lib in
/-- internal/strconv.numDigits, at a d that is not 0: THE NUMBER OF d's DECIMAL DIGITS. The world is as it was. (LAID: no walk: one application.) -/
theorem Tryd.internal_strconv_numDigits (u : Nat) (h1 : 1 ≤ u) (h2 : u < 18446744073709551616) (w : World) (htab : Lib.TabIs Tryd.prog w "internal/strconv.uint64pow10" .u64 Lib.pow10Tab) :
    Calls Tryd.prog 67 #[.int .u64 u] w fun e w' => e = .returned (.int .i64 (Lib.nDigits u)) ∧ w' = w := Any.internal_strconv_numDigits Tryd.laysM284 u h1 h2 w htab
def Tryd.lays285_ren : Go.Shelf.Ren := ⟨fun | 285 => 68 | n => n, fun | 37 => 43 | 53 => 51 | 3 => 3 | 4 => 4 | 51 => 107 | 9 => 9 | 5 => 5 | 0 => 0 | n => n, fun | n => n⟩
theorem Tryd.lays285 : Go.Proofs.Lays.n285 Tryd.prog Tryd.lays285_ren := {
  mixed := by kernel_rfl
  f285 := Tryd.func68.trans (congrArg some (by kernel_rfl))
  t0 := Tryd.underlying0
  a0 := Tryd.isAgg0
  z0 := Tryd.sizeOf0
  v0 := Tryd.zeroValue0
  t3 := Tryd.underlying3
  a3 := Tryd.isAgg3
  z3 := Tryd.sizeOf3
  v3 := Tryd.zeroValue3
  t4 := Tryd.underlying4
  a4 := Tryd.isAgg4
  z4 := Tryd.sizeOf4
  v4 := Tryd.zeroValue4
  t5 := Tryd.underlying5
  a5 := Tryd.isAgg5
  z5 := Tryd.sizeOf5
  v5 := Tryd.zeroValue5
  t9 := Tryd.underlying9
  a9 := Tryd.isAgg9
  z9 := Tryd.sizeOf9
  v9 := Tryd.zeroValue9
  t37 := Tryd.underlying43
  a37 := Tryd.isAgg43
  z37 := Tryd.sizeOf43
  v37 := Tryd.zeroValue43
  t51 := Tryd.underlying107
  a51 := Tryd.isAgg107
  z51 := Tryd.sizeOf107
  v51 := Tryd.zeroValue107
  t53 := Tryd.underlying51
  a53 := Tryd.isAgg51
  z53 := Tryd.sizeOf51
  v53 := Tryd.zeroValue51 }
open Go.RowKit Go.Sort Go.Lib in
/-- internal/strconv.formatBase10: "formatBase10 formats the decimal representation of u into a. The caller is responsible for ensuring that a is big enough to hold u. If a is too big, leading zeros will be filled in as needed.": THE ROW HOLDS u's DIGITS ('FmtInv .. 0 ..': every place t holds 'dg u (len - 1 - t)'); all else is as it was but for the count of draws. (LAID: no walk: one application.) -/
theorem Tryd.internal_strconv_formatBase10 (blk off cap : Nat) (u : Nat) (d : Array UInt8) (w : World) (hH : Holds (fun (b : UInt8) => Value.int .u8 (b.toNat : Int)) w blk off d) (hu : u < 10 ^ d.size) (hu64 : u < 18446744073709551616) (hsz : d.size < 4611686018427387904) :
    Calls Tryd.prog 68 #[.slice (some ⟨blk, off, none⟩) d.size cap, .int .u64 u] w fun e w' =>
      e = .returned (.tuple #[]) ∧ ∃ (n v' : Nat) (dk : Array UInt8), w' = (putRow (fun (b : UInt8) => Value.int .u8 (b.toNat : Int)) w blk off dk).drewN n ∧ FmtInv d.size u 0 v' dk := Any.internal_strconv_formatBase10 Tryd.lays285 blk off cap u d w hH hu hu64 hsz
def Tryd.lays105_ren : Go.Shelf.Ren := ⟨fun | 105 => 40 | 212 => 55 | 99 => 56 | 165 => 57 | 166 => 15 | 170 => 58 | 169 => 19 | 263 => 70 | 264 => 71 | 206 => 72 | 240 => 35 | 241 => 73 | 276 => 52 | 277 => 83 | n => n, fun | 9 => 9 | 3 => 3 | 4 => 4 | 20 => 20 | 0 => 0 | 46 => 88 | 109 => 89 | 5 => 5 | 72 => 45 | 76 => 48 | 51 => 107 | 146 => 108 | 53 => 51 | 148 => 69 | 70 => 42 | 37 => 43 | 75 => 47 | 127 => 67 | 164 => 86 | 80 => 29 | n => n, fun | n => n⟩
theorem Tryd.lays105 : Go.Proofs.Lays.n105 Tryd.prog Tryd.lays105_ren := {
  mixed := by kernel_rfl
  f99 := Tryd.func56.trans (congrArg some (by kernel_rfl))
  f105 := Tryd.func40.trans (congrArg some (by kernel_rfl))
  f165 := Tryd.func57.trans (congrArg some (by kernel_rfl))
  f166 := Tryd.func15.trans (congrArg some (by kernel_rfl))
  f169 := Tryd.func19.trans (congrArg some (by kernel_rfl))
  f170 := Tryd.func58.trans (congrArg some (by kernel_rfl))
  f206 := Tryd.func72.trans (congrArg some (by kernel_rfl))
  f212 := Tryd.func55.trans (congrArg some (by kernel_rfl))
  f240 := Tryd.func35.trans (congrArg some (by kernel_rfl))
  f241 := Tryd.func73.trans (congrArg some (by kernel_rfl))
  f263 := Tryd.func70.trans (congrArg some (by kernel_rfl))
  f264 := Tryd.func71.trans (congrArg some (by kernel_rfl))
  f276 := Tryd.func52.trans (congrArg some (by kernel_rfl))
  f277 := Tryd.func83.trans (congrArg some (by kernel_rfl))
  t0 := Tryd.underlying0
  a0 := Tryd.isAgg0
  z0 := Tryd.sizeOf0
  v0 := Tryd.zeroValue0
  t3 := Tryd.underlying3
  a3 := Tryd.isAgg3
  z3 := Tryd.sizeOf3
  v3 := Tryd.zeroValue3
  t4 := Tryd.underlying4
  a4 := Tryd.isAgg4
  z4 := Tryd.sizeOf4
  v4 := Tryd.zeroValue4
  t5 := Tryd.underlying5
  a5 := Tryd.isAgg5
  z5 := Tryd.sizeOf5
  v5 := Tryd.zeroValue5
  t9 := Tryd.underlying9
  a9 := Tryd.isAgg9
  z9 := Tryd.sizeOf9
  v9 := Tryd.zeroValue9
  t20 := Tryd.underlying20
  a20 := Tryd.isAgg20
  z20 := Tryd.sizeOf20
  v20 := Tryd.zeroValue20
  t37 := Tryd.underlying43
  a37 := Tryd.isAgg43
  z37 := Tryd.sizeOf43
  v37 := Tryd.zeroValue43
  t46 := Tryd.underlying88
  a46 := Tryd.isAgg88
  z46 := Tryd.sizeOf88
  v46 := Tryd.zeroValue88
  t51 := Tryd.underlying107
  a51 := Tryd.isAgg107
  z51 := Tryd.sizeOf107
  v51 := Tryd.zeroValue107
  t53 := Tryd.underlying51
  a53 := Tryd.isAgg51
  z53 := Tryd.sizeOf51
  v53 := Tryd.zeroValue51
  t70 := Tryd.underlying42
  a70 := Tryd.isAgg42
  z70 := Tryd.sizeOf42
  v70 := Tryd.zeroValue42
  t72 := Tryd.underlying45
  a72 := Tryd.isAgg45
  z72 := Tryd.sizeOf45
  v72 := Tryd.zeroValue45
  t75 := Tryd.underlying47
  a75 := Tryd.isAgg47
  z75 := Tryd.sizeOf47
  v75 := Tryd.zeroValue47
  t76 := Tryd.underlying48
  a76 := Tryd.isAgg48
  z76 := Tryd.sizeOf48
  v76 := Tryd.zeroValue48
  t109 := Tryd.underlying89
  a109 := Tryd.isAgg89
  z109 := Tryd.sizeOf89
  v109 := Tryd.zeroValue89
  t127 := Tryd.underlying67
  a127 := Tryd.isAgg67
  z127 := Tryd.sizeOf67
  v127 := Tryd.zeroValue67
  t146 := Tryd.underlying108
  a146 := Tryd.isAgg108
  z146 := Tryd.sizeOf108
  v146 := Tryd.zeroValue108
  t148 := Tryd.underlying69
  a148 := Tryd.isAgg69
  z148 := Tryd.sizeOf69
  v148 := Tryd.zeroValue69
  t164 := Tryd.underlying86
  a164 := Tryd.isAgg86
  z164 := Tryd.sizeOf86
  v164 := Tryd.zeroValue86 }
theorem Tryd.Builder_Extra_105 : Builder.Extra Tryd.prog Tryd.lays105_ren := {
  sizeBuilder := by kernel_rfl
  liesBuilder := by kernel_rfl
  t5 := Tryd.underlying5
  a5 := Tryd.isAgg5
  z5 := Tryd.sizeOf5
  v5 := Tryd.zeroValue5
  infoByte := by kernel_rfl
  cellsByte := by kernel_rfl
  sizeByte := by kernel_rfl
  neB5 := by decide }
open Go.RowKit Go.Lib in
/-- **strings.Repeat: count ≥ 0, the result within one allocation: count copies of s.** (LAID: no walk: one application.) -/
theorem Tryd.strings_Repeat (s : ByteArray) (c : Nat) (w : World) (hc : c ≤ 9223372036854775807) (hlen : s.size * c ≤ 140737488355328) :
    Calls Tryd.prog 40 #[.string s, .int .i64 c] w fun e w' => e = .returned (.string ⟨(Lib.repeatL s.data.toList c).toArray⟩) ∧ Below w.heap.size w w' := Any.strings_Repeat Tryd.lays105 Tryd.Builder_Extra_105 s c w hc hlen
def Tryd.laysNm217_ren : Go.Shelf.Ren := ⟨fun | 17 => 41 | n => n, fun | 24 => 68 | 9 => 9 | 3 => 3 | 4 => 4 | 0 => 0 | n => n, fun | n => n⟩
theorem Tryd.laysNm217 : Go.Proofs.Lays2.n17 Tryd.prog Tryd.laysNm217_ren := {
  mixed := by kernel_rfl
  f17 := Tryd.func41.trans (congrArg some (by kernel_rfl))
  t0 := Tryd.underlying0
  a0 := Tryd.isAgg0
  z0 := Tryd.sizeOf0
  v0 := Tryd.zeroValue0
  t3 := Tryd.underlying3
  a3 := Tryd.isAgg3
  z3 := Tryd.sizeOf3
  v3 := Tryd.zeroValue3
  t4 := Tryd.underlying4
  a4 := Tryd.isAgg4
  z4 := Tryd.sizeOf4
  v4 := Tryd.zeroValue4
  t9 := Tryd.underlying9
  a9 := Tryd.isAgg9
  z9 := Tryd.sizeOf9
  v9 := Tryd.zeroValue9
  t24 := Tryd.underlying68
  a24 := Tryd.isAgg68
  z24 := Tryd.sizeOf68
  v24 := Tryd.zeroValue68 }
open Go.RowKit Go.Lib Go.Sort in
/-- slices.Reverse at []string: "Reverse reverses the elements of the slice in place.": THE SLICE's CELLS HOLD 'zs.reverse' BEHIND THE CALL; all else is as it was, but for the count of draws (the exchange 's[i], s[j] = s[j], s[i]' draws its order, once a round). IN THE WORDS OF slices.Sort's CONTRACT: 'Holds': the cells hold zs and none is frozen; 'putRow': the world with those cells holding another array. A slice of length 0 that is not nil is among them ('zs = []'); nil: '.._nil'. (LAID: no walk: one application.) -/
theorem Tryd.slices_Reverse_string (blk off cap : Nat) (zs : List (List UInt8)) (w : World) (hH : Holds encStr w blk off zs.toArray) (hsz : zs.length ≤ 9223372036854775807) :
    Calls Tryd.prog 41 #[.slice (some ⟨blk, off, none⟩) zs.length cap] w fun e w' => e = .returned (.tuple #[]) ∧ ∃ n, w' = putRow encStr (Sort.ahead w n) blk off zs.reverse.toArray := Any.slices_Reverse_string Tryd.laysNm217 blk off cap zs w hH hsz
def Tryd.laysSlE041_f37_ren : Go.Shelf.Ren := ⟨fun | 41 => 37 | n => n, fun | 22 => 23 | 23 => 51 | 4 => 4 | n => n, fun | n => n⟩
theorem Tryd.laysSlE041_f37 : Go.Proofs.SlLaysE0.n41 Tryd.prog Tryd.laysSlE041_f37_ren := {
  mixed := by kernel_rfl
  f41 := ⟨Tryd.f37.name, by decide, Tryd.func37.trans (congrArg some (by kernel_rfl))⟩
  t4 := Tryd.underlying4
  a4 := Tryd.isAgg4
  z4 := Tryd.sizeOf4
  v4 := Tryd.zeroValue4
  t22 := Tryd.underlying23
  a22 := Tryd.isAgg23
  z22 := Tryd.sizeOf23
  v22 := Tryd.zeroValue23 }
open Go.RowKit Go.Lib in
/-- slices.Clone: "Clone returns a copy of the slice. The elements are copied using assignment, so this is a shallow clone. The result may have additional unused capacity. The result preserves the nilness of s.": OF A SLICE THAT IS NOT nil IT RETURNS A SLICE THAT IS NOT nil, OF THE SAME CELLS, IN MEMORY OF THE CALL's OWN ('ownsRow': the how-to's 6f); below the heap's size at the call all is as it was. (LAID AT THE INSTANCE 'slices.Clone[[]uint64,uint64]': no walk: one application.) -/
theorem Tryd.slices_Clone (i0 : TypeInfo) (z : Value) (size bytes : Nat) (hi : Tryd.prog.info? 51 = some i0) (hz0 : i0.zero = some z) (hz1 : i0.size = size) (hz2 : i0.bytes = bytes) (hzs : z.cells.size = size) (hsz : 0 < size) (z23 : ∀ w, (Go.sizeOf 51).run Tryd.prog w = .ok size w) (b off n c : Nat) (news : List Value) (w : World) (hl : news.length = n * size) (hn : n ≤ maxLen) (hbig : n * bytes ≤ 140737488355328) (hc : ∀ j u, news[j]? = some u → w.cell? ⟨b, off + j, none⟩ = some u) (h1 : ∀ u ∈ news, u.oneCell' = true) :
    Calls Tryd.prog 37 #[.slice (some ⟨b, off, none⟩) n c] w fun e w' => ∃ v', e = .returned v' ∧ w'.ownsRow w.heap.size 51 size v' n news ∧ v' ≠ .slice none 0 0 ∧ Below w.heap.size w w' := AnyE.slices_Clone Tryd.laysSlE041_f37 i0 z size bytes hi hz0 hz1 hz2 hzs hsz z23 b off n c news w hl hn hbig hc h1
end Go.Proofs
set_option linter.unusedVariables false
namespace Go.Proofs.YtajcjpbfmpljkaaDoor
open Go.RowKit Go.Sort Go.Lib

theorem below_mapBlock {w : World} {b : Nat} (f : Array Value → Array Value) (B : Nat) (hB : B ≤ b) : Below B w (mapBlock w b f) := by
  refine ⟨rfl, rfl, rfl, by simp [mapBlock], fun k hk => ?_⟩
  show (w.heap.modify b (onCells f))[k]? = _
  rw [Array.getElem?_modify, if_neg (by omega)]

/-- Twenty-four bytes that are 0. -/
def z24 : Array Value := #[.int .u8 0, .int .u8 0, .int .u8 0, .int .u8 0, .int .u8 0, .int .u8 0, .int .u8 0, .int .u8 0, .int .u8 0, .int .u8 0, .int .u8 0, .int .u8 0, .int .u8 0, .int .u8 0, .int .u8 0, .int .u8 0, .int .u8 0, .int .u8 0, .int .u8 0, .int .u8 0, .int .u8 0, .int .u8 0, .int .u8 0, .int .u8 0]
theorem z24_get (j : Fin 24) : z24[j.val]? = some (.int .u8 0) := by
  have e : z24 = Array.replicate 24 (.int .u8 0) := rfl
  rw [e, Array.getElem?_replicate, if_pos j.isLt]
theorem fmt10 (W : World) (g : Nat) (hg : W.heap.size = g) (t : TypeId) (u L : Nat) (hu : u < 18446744073709551616) (hL : Lib.nDigits u = L) (hL2 : L ≤ 24) :
    Calls Tryd.prog 68 #[.slice (some ⟨g, 0, none⟩) L 24, .int .u64 u] (W.alloc (.cells z24 t)) fun e w' =>
      e = .returned (.tuple #[]) ∧ Below g (W.alloc (.cells z24 t)) w' ∧ ∀ j, j < L → w'.cell? ⟨g, j, none⟩ = some (.int .u8 (((Lib.decDigits u).getD j 0).toNat : Int)) := by
  subst hg
  have hB := Blk.new W t z24
  have hH : Holds (fun (b : UInt8) => Value.int .u8 (b.toNat : Int)) (W.alloc (.cells z24 t)) W.heap.size 0 (Array.replicate L (0 : UInt8)) := by
    intro j hj
    rw [Array.size_replicate] at hj
    refine ⟨?_, hB.frozen _⟩
    rw [Nat.zero_add, hB.cell j, z24_get ⟨j, by omega⟩]
    rw [getElem!_pos _ j (by simpa using hj), Array.getElem_replicate]
    rfl
  have hf := Tryd.internal_strconv_formatBase10 W.heap.size 0 24 u (Array.replicate L 0) _ hH (by rw [Array.size_replicate, ← hL]; exact Lib.lt_pow_nDigits u) hu (by rw [Array.size_replicate]; omega)
  rw [Array.size_replicate] at hf
  refine hf.mono ?_
  rintro e w' ⟨rfl, n, v', dk, rfl, hinv⟩
  refine ⟨rfl, below_drewN (below_mapBlock _ _ (Nat.le_refl _)) _, fun j hj => ?_⟩
  have hc := cell?_putRow (fun (b : UInt8) => Value.int .u8 (b.toNat : Int)) (W.alloc (.cells z24 t)) W.heap.size 0 (Array.replicate L (0 : UInt8)) dk hH (by rw [hinv.size, Array.size_replicate]) j (by rw [hinv.size]; exact hj)
  rw [Nat.zero_add] at hc
  show (putRow (fun (b : UInt8) => Value.int .u8 (b.toNat : Int)) (W.alloc (.cells z24 t)) W.heap.size 0 dk).cell? ⟨W.heap.size, j, none⟩ = _
  rw [hc, hinv.done j (by omega) hj, Lib.decDigits_eq, hL]
  congr 3
  simp [List.getD, hj]

set_option maxHeartbeats 1000000 in
set_option maxRecDepth 100000 in
theorem fmtU_any (u : Nat) (w : World) (hu : u < 18446744073709551616) (hg : Glob w) :
    Calls Tryd.prog 54 #[.int .u64 u, .int .i64 10] w fun e w' => e = .returned (.string ⟨(Lib.decDigits u).toArray⟩) ∧ Below w.heap.size w w' := by
  have HG := Lib.hid hg
  clear hg
  by_cases h : u < 100
  · have hd : decide (u < 100) = true := by simp [h]
    go_enter Tryd.func54, Tryd.ntmps54
    go_wp2_with fail
    refine (Tryd.internal_strconv_small u h _).mono ?_
    rintro e w1 ⟨rfl, rfl⟩
    go_wp2_with fail
    go_ret
    exact ⟨rfl, Below.refl _ _⟩
  · have h1 : 1 ≤ u := by omega
    have hn : 1 ≤ Lib.nDigits u := Lib.nDigits_pos u
    have hn2 : Lib.nDigits u ≤ 20 := by
      obtain ⟨e1, e2⟩ := Lib.numDigits_eq u h1 hu
      rw [← e1]; split <;> omega
    have hlt := Lib.lt_pow_nDigits u
    have hdd := Lib.decDigits_eq u
    generalize hL : Lib.nDigits u = L at *
    have HL := Lib.hid hL
    have HLt := Lib.hid hlt
    have HD := Lib.hid hdd
    clear hL hlt hdd
    have ht : decide (u < 100) = false := by simp [h]
    have hb1 : (L : Int) ≤ 24 := by omega
    have hb2 : L ≤ 24 := by omega
    have hb3 : ((L : Int)).toNat = L := by omega
    go_enter Tryd.func54, Tryd.ntmps54
    go_wp2_with fail
    refine (Tryd.internal_strconv_numDigits u h1 hu _ (HG.out.below ((Below.refl _ _).alloc (Nat.le_refl _) _)).tab).mono ?_
    rintro e w1 ⟨rfl, rfl⟩
    rw [HL.out]
    go_wp2_with fail
    refine (fmt10 w w.heap.size rfl 103 u L hu HL.out hb2).mono ?_
    rintro e w1 ⟨rfl, hbl, hcells⟩
    have hlen : (Lib.decDigits u).length = L := by rw [Lib.decDigits_length, HL.out]
    have hcv := run_convert_bytes_back (P := Tryd.prog) w1 43 9 5 ⟨w.heap.size, 0, none⟩ 24 (Lib.decDigits u) Tryd.underlying43 Tryd.underlying5 Tryd.underlying9 (by
        intro j hj
        rw [hlen] at hj
        have := hcells j hj
        have ha : (⟨w.heap.size, 0, none⟩ : Addr).add j = ⟨w.heap.size, j, none⟩ := by
          unfold Addr.add; split
          · rename_i h; subst h; rfl
          · simp
        rw [ha, this]
        simp [List.getD, hlen, hj])
    rw [hlen] at hcv
    have HBl := Lib.hid hbl
    clear hbl hcells hlen
    go_wp2_with fail
    go_ret
    exact ⟨rfl, ((RowKit.Below.refl _ _).alloc (Nat.le_refl _) _).trans HBl.out⟩
theorem fmt_any (u : Nat) (w : World) (hu : u < 18446744073709551616) (hg : Glob w) :
    Calls Tryd.prog 39 #[.int .u64 u, .int .i64 10] w fun e w' => e = .returned (.string ⟨(Lib.decDigits u).toArray⟩) ∧ RowKit.Below w.heap.size w w' := by
  have HG := Lib.hid hg
  clear hg
  go_enter Tryd.func39, Tryd.ntmps39
  go_wp2_with fail
  refine (fmtU_any u _ hu HG.out).mono ?_
  rintro e w1 ⟨rfl, hb⟩
  go_wp2_with fail
  go_ret
  exact ⟨rfl, hb⟩
end Go.Proofs.YtajcjpbfmpljkaaDoor
set_option linter.unusedVariables false
namespace Go.Proofs.YtajcjpbfmpljkaaDoor
open Go.RowKit

set_option maxHeartbeats 1000000 in
set_option maxRecDepth 100000 in
theorem div_any (x : Nat) (w : World) (hx : x < 10000000000000000000) :
    Calls Tryd.prog 38 #[.int .u64 0, .int .u64 x, .int .u64 10000000000000000000] w fun e w' => e = .returned (.tuple #[.int .u64 0, .int .u64 x]) ∧ Below w.heap.size w w' := by
  have h1 : (x : Int) / 10000000000000000000 = 0 := Int.ediv_eq_zero_of_lt (by omega) (by omega)
  have h2 : (x : Int) % 10000000000000000000 = (x : Int) := Int.emod_eq_of_lt (by omega) (by omega)
  have H2 := Lib.hid h2
  clear h2
  go_enter Tryd.func38, Tryd.ntmps38
  go_wp2_with fail
  go_quiet (fail)
  rw [H2.out]
  clear h1 H2
  go_wp2_with fail
  go_ret2
  exact ⟨rfl, below_drewN (Below.refl _ _) _⟩
end Go.Proofs.YtajcjpbfmpljkaaDoor
set_option linter.unusedVariables false
namespace Go.Proofs.YtajcjpbfmpljkaaDoor
open Go.RowKit
attribute [local go_sem ↓] Go.wp_at_zero Go.wp_at_succ

theorem info_str : (Tryd.prog.info? 9).map (fun i => (i.zero, i.size, i.bytes)) = some (some (.string ⟨#[]⟩), 1, 16) := by kernel_rfl
theorem size_u64 : ∀ w, (Go.sizeOf 51).run Tryd.prog w = .ok 1 w := fun w => Tryd.sizeOf51 w
/-- A copy of one word. -/
theorem clone_one (b o : Nat) (c x : Nat) (w : World) (hc : w.cell? ⟨b, o, none⟩ = some (.int .u64 (x : Int))) :
    Calls Tryd.prog 37 #[.slice (some ⟨b, o, none⟩) 1 c] w fun e w' =>
      ∃ g cap rest, e = .returned (.slice (some ⟨g, 0, none⟩) 1 cap) ∧ Blk w' g 51 (.int .u64 (x : Int) :: rest).toArray ∧ w.heap.size ≤ g ∧ 1 ≤ cap ∧ cap ≤ 9223372036854775807 ∧ Below w.heap.size w w' := by
  obtain ⟨i0, hi, hz0, hz1, hz2⟩ := info_parts info_u64
  refine (Tryd.slices_Clone i0 _ 1 8 hi hz0 hz1 hz2 rfl (by omega) size_u64 b o 1 c [.int .u64 (x : Int)] w rfl (by unfold maxLen; omega) (by omega) (by
    intro j u hj
    match j, hj with
    | 0, hj => simp at hj; subst hj; simpa using hc) (by intro u hu; simp at hu; subst hu; rfl)).mono ?_
  rintro e w' ⟨v', rfl, hown, hne, hb⟩
  rcases hown.2 with ⟨h0, _⟩ | ⟨g, cap, cur, rfl, hg, hh, hnc, hcm, hcs, htake⟩
  · exact absurd h0 hne
  · have hl : 1 ≤ cur.toList.length := by simp; omega
    obtain ⟨rest, hr⟩ : ∃ rest, cur.toList = .int .u64 (x : Int) :: rest := by
      cases hcl : cur.toList with
      | nil => rw [hcl] at hl; simp at hl
      | cons a l =>
        rw [hcl] at htake
        simp at htake
        exact ⟨l, by rw [htake]⟩
    refine ⟨g, cap, rest, rfl, ?_, hg, hnc, hcm, hb⟩
    unfold Blk
    rw [← hr]
    exact hh
end Go.Proofs.YtajcjpbfmpljkaaDoor
set_option linter.unusedVariables false
namespace Go.Proofs.YtajcjpbfmpljkaaDoor
open Go.RowKit
attribute [local go_sem ↓] Go.wp_at_zero Go.wp_at_succ

theorem nd_le : ∀ (k u : Nat), u < 10 ^ (k + 1) → Lib.nDigits u ≤ k + 1
  | 0, u, h => by rw [Lib.nDigits_small (by simpa using h)]; omega
  | k + 1, u, h => by
    by_cases h10 : u < 10
    · rw [Lib.nDigits_small h10]; omega
    · rw [Lib.nDigits_big h10]
      have := nd_le k (u / 10) (by rw [Nat.pow_succ] at h; omega)
      omega
theorem nd_ge (u : Nat) (h : u ≠ 0) : 10 ^ (Lib.nDigits u - 1) ≤ u := by
  induction u using Nat.strongRecOn with
  | ind u ih =>
    by_cases h10 : u < 10
    · rw [Lib.nDigits_small h10]; simp; omega
    · rw [Lib.nDigits_big h10]
      have h1 := ih (u / 10) (by omega) (by omega)
      have h2 := Lib.nDigits_pos (u / 10)
      rw [show Lib.nDigits (u / 10) + 1 - 1 = (Lib.nDigits (u / 10) - 1) + 1 by omega, Nat.pow_succ]
      omega
/-- The digits don't begin with a nought. -/
theorem digits_head (u : Nat) (h : u ≠ 0) : (Lib.decDigits u).head? ≠ some 48 := by
  have hp := Lib.nDigits_pos u
  have h1 := nd_ge u h
  have h2 := Lib.lt_pow_nDigits u
  rw [Lib.decDigits_eq]
  obtain ⟨k, hk⟩ : ∃ k, Lib.nDigits u = k + 1 := ⟨Lib.nDigits u - 1, by omega⟩
  rw [hk] at h1 h2 ⊢
  rw [List.range_succ_eq_map, List.map_cons, List.head?_cons]
  intro e
  injection e with e
  unfold Lib.dg at e
  have h3 : 1 ≤ u / 10 ^ k := (Nat.le_div_iff_mul_le (Nat.pow_pos (by omega))).2 (by simpa using h1)
  have h4 : u / 10 ^ k < 10 := (Nat.div_lt_iff_lt_mul (Nat.pow_pos (by omega))).2 (by rw [Nat.mul_comm, ← Nat.pow_succ]; exact h2)
  have h5 : k + 1 - 1 - 0 = k := by omega
  rw [h5] at e
  generalize u / 10 ^ k = q at *
  have : (UInt8.ofNat (48 + q % 10)).toNat = 48 := by rw [e]; rfl
  simp at this
  omega
theorem trim_chunk (x k : Nat) (h : x ≠ 0) : Lib.trimLeftB (Lib.repeatL [48] k ++ Lib.decDigits x) 48 = Lib.decDigits x := by
  unfold Lib.trimLeftB
  induction k with
  | zero =>
    show (([] : List UInt8) ++ Lib.decDigits x).dropWhile (· == 48) = _
    rw [List.nil_append]
    have hh := digits_head x h
    cases hd : Lib.decDigits x with
    | nil => rfl
    | cons a l =>
      rw [hd] at hh
      rw [List.dropWhile_cons, if_neg (by simpa using hh)]
  | succ k ih =>
    show ((48 :: Lib.repeatL [48] k) ++ Lib.decDigits x).dropWhile (· == 48) = _
    rw [List.cons_append, List.dropWhile_cons, if_pos (by rfl), ih]
theorem text_zero (A : Option Addr) (n c : Nat) (w : World) (h : Wh w A n c 0) :
    Calls Tryd.prog 20 #[.agg #[.bool (ng 0), .slice A n c]] w fun e w' => e = .returned (.string ⟨(Lib.itoa 0).toArray⟩) ∧ Below w.heap.size w w' := by
  obtain rfl : n = 0 := by rw [h.1]; exact (wl_zero 0).2 rfl
  have HV := Lib.hid (show Lib.itoa 0 = [48] from by
    show Lib.decDigits 0 = [48]
    exact Lib.decDigits_one (i := 0) (by omega))
  clear h
  go_enter Tryd.func20, Tryd.ntmps20
  go_wp2_with fail
  go_ret
  refine ⟨?_, (Below.refl _ _).alloc (Nat.le_refl _) _⟩
  rw [HV.out]
  rfl

/-- One text turned about stays. -/
theorem rev_one (g cap : Nat) (ch : List UInt8) (w : World) (hc : w.cell? ⟨g, 0, none⟩ = some (.string ⟨ch.toArray⟩)) (hf : w.frozen? ⟨g, 0, none⟩ = false) :
    Calls Tryd.prog 41 #[.slice (some ⟨g, 0, none⟩) 1 cap] w fun e w' => e = .returned (.tuple #[]) ∧ Only g w w' ∧ w'.cell? ⟨g, 0, none⟩ = some (.string ⟨ch.toArray⟩) := by
  have hHold : Go.Sort.Holds encStr w g 0 #[ch] := by
    intro j hj
    have : j = 0 := by simpa using hj
    subst this
    exact ⟨hc, hf⟩
  refine (Tryd.slices_Reverse_string g 0 cap [ch] w hHold (by simp)).mono ?_
  rintro e w' ⟨rfl, n, rfl⟩
  have hH2 : Go.Sort.Holds encStr (Go.Sort.ahead w n) g 0 #[ch] := hHold
  refine ⟨rfl, ⟨rfl, rfl, rfl, by simp [Go.Sort.putRow, Go.Sort.mapBlock, Go.Sort.ahead], fun k hk hne => ?_⟩, ?_⟩
  · show ((Go.Sort.ahead w n).heap.modify g _)[k]? = _
    rw [Array.getElem?_modify, if_neg (fun e => hne (by rw [e]))]
    rfl
  · have := Go.Sort.cell?_putRow encStr (Go.Sort.ahead w n) g 0 #[ch] [ch].reverse.toArray hH2 rfl 0 (by simp)
    simpa using this
theorem join_one (ch : List UInt8) : Lib.join [ch] [] = ch := by simp [Lib.join, List.intercalate]
set_option maxHeartbeats 2000000 in
set_option maxRecDepth 100000 in
theorem text_any (A : Option Addr) (n c : Nat) (z : Int) (w : World) (h : Wh w A n c z) (hz : z.natAbs < 10000000000000000000) (h0 : z ≠ 0) (hg : Glob w) :
    Calls Tryd.prog 20 #[.agg #[.bool (ng z), .slice A n c]] w fun e w' => e = .returned (.string ⟨(Lib.itoa z).toArray⟩) ∧ Below w.heap.size w w' := by
  have hn1 : n ≤ 1 := by rw [h.1]; exact (wl_le z 1).2 (by rw [Nat.pow_one, Q_val]; omega)
  have hn0 : n ≠ 0 := fun e => h0 ((wl_zero z).1 (by rw [← h.1]; exact e))
  obtain rfl : n = 1 := by omega
  have hl : 0 < (dig z).length := by have := h.1; unfold wl at this; omega
  obtain ⟨b, o, rfl, _, hcell⟩ := h.2.2.at_ (u64s_get _ 0 hl)
  have hd : (dig z)[0] = z.natAbs := by
    rw [dig_get z 0 hl, Nat.pow_zero, Nat.div_one]
    exact Nat.mod_eq_of_lt (by rw [Q_val]; omega)
  rw [hd] at hcell
  obtain ⟨x, hx⟩ : ∃ x, z.natAbs = x := ⟨_, rfl⟩
  rw [hx] at hcell hz
  have hx0 : x ≠ 0 := by omega
  have hc1 : w.cell? ⟨b, o, none⟩ = some (.int .u64 (x : Int)) := by simpa using hcell
  have HX := Lib.hid hx
  have HG := Lib.hid hg
  have HH0 := Lib.hid h0
  clear h hd hcell hl hx hg hn1 hn0 h0
  go_enter Tryd.func20, Tryd.ntmps20
  go_wp2_with fail
  refine (clone_one b o c x _ (cell_below hc1 ((Below.refl _ _).alloc (Nat.le_refl _) _))).mono ?_
  rintro e w1 ⟨g, cap, rest, rfl, hB, hgl, hcap, hcapm, hb1⟩
  have hb1' : Below w.heap.size w w1 := ((Below.refl _ _).alloc (Nat.le_refl _) _).trans (hb1.mono (by simp))
  have hgw : w.heap.size + 1 ≤ g := by simpa using hgl
  have hBx := (Blk.new w 25 #[.bool (ng z), .slice (some ⟨b, o, none⟩) 1 c]).next hb1
  obtain ⟨k0, k1, _⟩ := cells2 hBx
  have HBx := Lib.hid hBx
  have HB1 := Lib.hid hb1'
  have HB := Lib.hid hB
  have hg0 := hB.cell 0
  have hgf := hB.frozen 0
  simp only [List.getElem?_toArray, List.getElem?_cons_zero] at hg0
  clear hb1 hb1' hB hgl hBx
  go_wp2_with fail
  refine wp_loop_rounds 2 ?_
  rw [rounds_succ]
  go_wp2_with fail
  refine wp_loop_rounds 2 ?_
  rw [rounds_succ]
  go_wp2_with fail
  refine (div_any x _ hz).mono ?_
  rintro e w2 ⟨rfl, hb⟩
  obtain ⟨hc, hf⟩ := bcell hb
  have hgl := HB.out.lt
  have hB2 := HB.out.next hb
  have hg0 := hB2.cell 0
  have hgf := hB2.frozen 0
  simp only [List.getElem?_toArray, List.getElem?_cons_zero] at hg0
  have HBx2 := Lib.hid (HBx.out.next hb)
  have HB2 := Lib.hid hB2
  have HB3 := Lib.hid (HB1.out.trans (hb.mono HB1.out.size))
  clear hc hf hb hB2
  go_wp2_with fail
  rw [rounds_succ]
  go_wp2_with fail
  have HB4 := Lib.hid (HB2.out.set_ 0 (.int .u64 0))
  have HBx3 := Lib.hid (HBx2.out.other (p := ⟨g, 0, none⟩) (by show w.heap.size ≠ g; omega) (.int .u64 0))
  have HB5 := Lib.hid (HB3.out.setCell (p := ⟨g, 0, none⟩) (by show w.heap.size ≤ g; omega) (.int .u64 0))
  have hlen := Lib.decDigits_length x
  have hnd : Lib.nDigits x ≤ 19 := nd_le 18 x (by omega)
  obtain ⟨s, hs⟩ : ∃ s : ByteArray, s = ⟨(Lib.decDigits x).toArray⟩ := ⟨_, rfl⟩
  have hsz : s.size ≤ 19 := by rw [hs]; show (Lib.decDigits x).toArray.size ≤ 19; rw [List.size_toArray, hlen]; exact hnd
  have HSs := Lib.hid hs
  refine (fmt_any x _ (by omega) (HG.out.below HB5.out)).mono ?_
  rintro e w3 ⟨rfl, hb⟩
  rw [← hs]
  have HBx4 := Lib.hid (HBx3.out.next hb)
  have HB6 := Lib.hid (HB4.out.next hb)
  have HB7 := Lib.hid (HB5.out.trans (hb.mono HB5.out.size))
  clear hb hs hlen hnd hc1 k0 k1 hg0 hgf
  obtain ⟨i0, hi, hz0, hz1, hz2⟩ := info_parts info_str
  go_wp2_with fail
  rw [show (19 - (s.size : Int)) = ((19 - s.size : Nat) : Int) by omega]
  refine (Tryd.strings_Repeat ⟨#[48]⟩ (19 - s.size) _ (by omega) (by
    have : (⟨#[48]⟩ : ByteArray).size = 1 := rfl
    rw [this]; omega)).mono ?_
  rintro e w4 ⟨rfl, hb⟩
  generalize hrl : Lib.repeatL _ (19 - s.size) = rl
  have hrlen : rl.length ≤ 19 := by rw [← hrl, Lib.repeatL_length]; simp
  have hcat : rl.length + s.size ≤ 9223372036854775807 := by omega
  have HRl := Lib.hid (show Lib.repeatL [48] (19 - s.size) = rl from hrl)
  clear hrl
  have HBx5 := Lib.hid (HBx4.out.next hb)
  have HB8 := Lib.hid (HB6.out.next hb)
  have HB9 := Lib.hid (HB7.out.trans (hb.mono HB7.out.size))
  clear hb
  go_wp2_with (at_builtin; refine wpList_append_own _ rfl _ _ 68 rfl w.heap.size 9 i0 (.string ⟨#[]⟩) 1 16 Tryd.underlying68 hi hz0 hz1 hz2 rfl (by decide) (.slice none 0 0) 0 [] rfl ⟨by simp, .inl ⟨rfl, rfl⟩⟩ ⟨w4.heap.size, 0, none⟩ 1 1 [.string (⟨rl.toArray⟩ ++ s)] rfl rfl ?c1 ?c2 ?c3 ?c4 ?c5 ?_)
  case c1 =>
    intro j u hj
    match j, hj with
    | 0, hj => simp at hj; subst hj; simp [Addr.add]
  case c2 => intro u hu; simp at hu; subst hu; rfl
  case c3 => unfold maxLen; omega
  case c4 => omega
  case c5 => have := HB9.out.size; simp; omega
  intro v' w5 hown' hgrow _
  have hch : (⟨rl.toArray⟩ ++ s : ByteArray) = ⟨(rl ++ Lib.decDigits x).toArray⟩ := by
    rw [HSs.out]
    apply ByteArray.ext
    rw [ByteArray.data_append]
    simp
  have hb5 : Below (w4.alloc (.cells #[.string (⟨rl.toArray⟩ ++ s)] 9)).heap.size (w4.alloc (.cells #[.string (⟨rl.toArray⟩ ++ s)] 9)) w5 :=
    ⟨hgrow.os, hgrow.tape, hgrow.output, hgrow.size, fun k hk => hgrow.block k hk (by simp [Value.ownBlock])⟩
  rw [hch] at hown'
  have htrim : Lib.trimLeftB (rl ++ Lib.decDigits x) 48 = Lib.decDigits x := by rw [← HRl.out]; exact trim_chunk x _ hx0
  have hchl : (rl ++ Lib.decDigits x).length ≤ 38 := by
    have h1 := Lib.decDigits_length x
    have h2 := nd_le 18 x (by omega)
    rw [List.length_append]; omega
  generalize rl ++ Lib.decDigits x = ch at *
  have HTrim := Lib.hid htrim
  clear htrim
  obtain ⟨g2, cap2, rfl, hg2, hh2, hcp2⟩ : ∃ g2 cap2, v' = .slice (some ⟨g2, 0, none⟩) 1 cap2 ∧ w.heap.size ≤ g2 ∧ w5.cell? ⟨g2, 0, none⟩ = some (.string ⟨ch.toArray⟩) ∧ 1 ≤ cap2 := by
    rcases hown'.2 with ⟨_, h0⟩ | ⟨g2, cap2, cur, rfl, hg2, hh, hnc, _⟩
    · omega
    · exact ⟨g2, cap2, rfl, hg2, hown'.cells (g := g2) rfl 0 _ rfl, by omega⟩
  have hfz2 := hown'.frozenAt 0
  have hx5 := (HBx5.out.alloc (.cells #[.string (⟨rl.toArray⟩ ++ s)] 9)).next hb5
  have hg5 := (HB8.out.alloc (.cells #[.string (⟨rl.toArray⟩ ++ s)] 9)).next hb5
  have hb6 : Below w.heap.size w w5 := (HB9.out.alloc HB9.out.size _).trans (hb5.mono (by have := HB9.out.size; simp; omega))
  have hrow : Row w5 (some ⟨g, 0, none⟩) (u64s [0]) := by
    refine .inr ⟨g, 0, rfl, fun i v hi => ?_⟩
    match i, hi with
    | 0, hi =>
      have := hg5.cell 0
      simp [u64s] at hi
      subst hi
      simpa using this
    | i + 1, hi => simp [u64s] at hi
  have htl : tl [0] = 0 := by
    unfold tl
    have : ofd Q [0] = 0 := rfl
    rw [this, digs_zero]; rfl
  have htr := trim_any g 0 1 cap [0] w5 rfl hcap (by omega) (Digs.cons (by unfold Q; omega) (Digs.nil _)) hrow
  rw [htl] at htr
  have HTr := Lib.hid htr
  have HX5 := Lib.hid hx5
  have HB6 := Lib.hid hb6
  have hne2 : w.heap.size ≠ g2 := by
    rintro rfl
    have := hx5.cell 0
    rw [hh2] at this
    simp at this
  have HRev := Lib.hid (rev_one g2 cap2 ch w5 hh2 hfz2)
  have hg2l := block_lt hh2
  clear hown' hgrow hb5 hx5 hg5 hb6 hrow htl htr hch hfz2 hh2
  go_wp2_with fail
  refine HTr.out.mono ?_
  rintro e w6 ⟨rfl, rfl⟩
  go_wp2_with fail
  rw [rounds_succ]
  go_wp2_with fail
  refine HRev.out.mono ?_
  rintro e w7 ⟨rfl, hO, hcc⟩
  have HX7 := Lib.hid (hO.blk hne2 HX5.out)
  have HB7 := Lib.hid (hO.below HB6.out HB6.out.size hg2)
  have hl7 := block_lt hcc
  have HCC := Lib.hid hcc
  clear hO hcc
  go_wp2_with fail
  refine (Tryd.strings_Join g2 0 cap2 [⟨ch.toArray⟩] ⟨#[]⟩ _ (by
    intro j y hj
    match j, hj with
    | 0, hj => simp at hj; subst hj; exact HCC.out) hl7 (by simp) hcp2 (by
    show (Lib.join [ch] []).length ≤ _
    rw [join_one]; omega)).mono ?_
  rintro e w8 ⟨rfl, hb⟩
  rw [show Lib.join (List.map (fun x => x.data.toList) [(⟨ch.toArray⟩ : ByteArray)]) (⟨#[]⟩ : ByteArray).data.toList = ch from join_one ch]
  obtain ⟨k0, k1, _⟩ := cells2 (HX7.out.next hb)
  have HB8' := Lib.hid (HB7.out.trans (hb.mono HB7.out.size))
  clear hb
  go_wp2_with fail
  refine (Tryd.strings_TrimLeft_one ⟨ch.toArray⟩ 48 (by decide) _).mono ?_
  rintro e w9 ⟨rfl, rfl⟩
  rw [show Lib.trimLeftB (⟨ch.toArray⟩ : ByteArray).data.toList 48 = Lib.decDigits x from HTrim.out]
  have hdlen : (Lib.decDigits x).length ≤ 19 := by rw [Lib.decDigits_length]; exact nd_le 18 x (by omega)
  have hit : (ng z = true → Lib.itoa z = 45 :: Lib.decDigits x) ∧ (ng z = false → Lib.itoa z = Lib.decDigits x) := by
    have hx := HX.out
    unfold ng Lib.itoa
    constructor <;> intro h
    · have hl : z < 0 := by simpa using h
      rw [if_pos hl, hx]
    · have hl : ¬ z < 0 := by simpa using h
      rw [if_neg hl, show z.toNat = x by omega]
  generalize Lib.decDigits x = dl at *
  have HIt := Lib.hid hit
  clear hit
  have hcat2 : 1 + dl.length ≤ 9223372036854775807 := by omega
  by_cases hng : ng z = true
  · have HI := Lib.hid (HIt.out.1 hng)
    go_wp2_with fail
    go_ret
    refine ⟨?_, HB8'.out⟩
    rw [HI.out]
    refine congrArg (fun s => Ending.returned (.string s)) ?_
    apply ByteArray.ext
    show ((⟨#[45]⟩ : ByteArray) ++ ⟨dl.toArray⟩).data = _
    rw [ByteArray.data_append]
    simp
  · have hng' : ng z = false := by simpa using hng
    have HI := Lib.hid (HIt.out.2 hng')
    clear hng
    go_wp2_with fail
    go_ret
    refine ⟨?_, HB8'.out⟩
    rw [HI.out]
    rfl
end Go.Proofs.YtajcjpbfmpljkaaDoor
set_option linter.unusedVariables false
namespace Go.Proofs.YtajcjpbfmpljkaaDoor
open Go.RowKit
attribute [local go_sem ↓] Go.wp_at_zero Go.wp_at_succ
attribute [local go_sem ↓] ib_and_15

theorem dsign_any (A : Option Addr) (n c : Nat) (m : Int) (a' : Bool) (A' : Option Addr) (n' c' : Nat) (w : World) (hn : n = wl m) :
    Calls Tryd.prog 14 #[.agg #[.bool (ng m), .slice A n c, .bool a', .slice A' n' c']] w fun e w' => e = .returned (.int .i64 m.sign) ∧ Below w.heap.size w w' := by
  have HN := Lib.hid hn
  clear hn
  go_enter Tryd.func14, Tryd.ntmps14
  go_wp2_with fail
  refine (sign_any A n c m _ HN.out).mono ?_
  rintro e w1 ⟨rfl, hb⟩
  go_wp2_with fail
  go_ret
  exact ⟨rfl, ((Below.refl _ _).alloc (Nat.le_refl _) _).trans (hb.mono (by simp))⟩

/-- The digit of a number below 16. -/
def hexch (n : Nat) : UInt8 := if n < 10 then UInt8.ofNat (48 + n) else UInt8.ofNat (87 + n)
def hexs : ByteArray := ⟨#[48, 49, 50, 51, 52, 53, 54, 55, 56, 57, 97, 98, 99, 100, 101, 102]⟩
theorem hexs_fin : ∀ n : Fin 16, hexs.data[n.val]? = some (hexch n.val) := by decide +kernel
theorem hexs_get (n : Nat) (h : n < hexs.size) : hexs[n] = hexch n := by
  have h16 : hexs.size = 16 := by decide
  have := hexs_fin ⟨n, by omega⟩
  have e : hexs.data[n]? = some hexs[n] := by
    rw [Array.getElem?_eq_getElem (by simpa using h)]; rfl
  rw [e] at this
  simpa using this
/-- How many digits to base 16. -/
def nibs (x : Nat) : Nat := (bl x + 3) / 4
/-- A number's digits to base 16. -/
def hexN (x : Nat) : List UInt8 := (List.range (nibs x)).map fun j => hexch (x / 16 ^ (nibs x - 1 - j) % 16)
theorem hexN_length (x : Nat) : (hexN x).length = nibs x := by simp [hexN]
theorem hexN_take (x k : Nat) (hk : 1 ≤ k) (h : k ≤ nibs x) : (hexN x).take (nibs x - k) ++ [hexch (x / 16 ^ (k - 1) % 16)] = (hexN x).take (nibs x - (k - 1)) := by
  have hl := hexN_length x
  have e : nibs x - (k - 1) = (nibs x - k) + 1 := by omega
  rw [e, List.take_succ_eq_append_getElem (by omega)]
  congr 2
  simp only [hexN, List.getElem_map, List.getElem_range]
  rw [show nibs x - 1 - (nibs x - k) = k - 1 by omega]
/-- A dyadic number's text. -/
def txt (d : Dyadic) : List UInt8 := if mant d = 0 then [48] else (if ng (mant d) = true then [45] else []) ++ hexN (mant d).natAbs ++ [112] ++ Lib.itoa (expo d)

theorem bld_new (W : World) (g : Nat) (hg : W.heap.size = g) : IsBld g g [] (W.alloc (.cells #[.pointer none, .slice none 0 0] 45)) := by
  subst hg
  exact .inl ⟨Nat.le_refl _, .slice none 0 0, heap_alloc_new W _, ⟨by simp, .inl ⟨rfl, rfl⟩⟩, by simp [Value.ownBlock]⟩
theorem bld_below {B b : Nat} {bs : List Value} {w w' : World} (h : IsBld B b bs w) (hb : Below w.heap.size w w') : IsBld B b bs w' := by
  have key : ∀ p, Lib.BuilderAt 45 5 B b p bs w → Lib.BuilderAt 45 5 B b p bs w' := by
    intro p hp
    have hlt := hp.lt
    obtain ⟨h1, v, h2, h3, h4⟩ := hp
    refine ⟨h1, v, (hb.block b hlt).trans h2, h3.kept (row := none) ⟨hb.os, hb.tape, hb.output, hb.size, fun k hk _ => hb.block k hk⟩ ?_, h4⟩
    cases hv : v.ownBlock with
    | none => exact .inl rfl
    | some x => exact .inr (by simp)
  rcases h with h | h
  · exact .inl (key _ h)
  · exact .inr (key _ h)
theorem byteCells_snoc (l : List UInt8) (c : UInt8) : Lib.byteCells l ++ [.int .u8 (c.toNat : Int)] = Lib.byteCells (l ++ [c]) := by simp [Lib.byteCells]
theorem byteCells_len (l : List UInt8) : (Lib.byteCells l).length = l.length := by simp [Lib.byteCells]

theorem win_nib (x k : Nat) : win x (k * 4) % 16 = x / 16 ^ k % 16 := by
  unfold win
  rw [Nat.mod_mod_of_dvd _ (show 16 ∣ 18446744073709551616 by decide), Nat.mul_comm, Nat.pow_mul]
end Go.Proofs.YtajcjpbfmpljkaaDoor
set_option linter.unusedVariables false
namespace Go.Proofs.YtajcjpbfmpljkaaDoor
open Go.RowKit
attribute [local go_sem ↓] Go.wp_at_zero Go.wp_at_succ
attribute [local go_sem ↓] ib_and_15

theorem dtext_zero (A : Option Addr) (n c : Nat) (a' : Bool) (A' : Option Addr) (n' c' : Nat) (w : World) (hn : n = wl 0) :
    Calls Tryd.prog 6 #[.agg #[.bool (ng 0), .slice A n c, .bool a', .slice A' n' c']] w fun e w' => e = .returned (.string ⟨#[48]⟩) ∧ Below w.heap.size w w' := by
  have HN := Lib.hid hn
  clear hn
  go_enter Tryd.func6, Tryd.ntmps6
  go_wp2_with fail
  refine (dsign_any A n c 0 a' A' n' c' _ HN.out).mono ?_
  rintro e w1 ⟨rfl, hb⟩
  rw [Int.sign_zero]
  go_wp2_with fail
  go_ret
  exact ⟨rfl, ((Below.refl _ _).alloc (Nat.le_refl _) _).trans (hb.mono (by simp))⟩

theorem itoa_le (e : Int) (h : e.natAbs < 10000000000000000000) : (⟨(Lib.itoa e).toArray⟩ : ByteArray).size ≤ 20 := by
  show (Lib.itoa e).toArray.size ≤ 20
  rw [List.size_toArray]
  have := nd_le 18 e.natAbs (by omega)
  unfold Lib.itoa
  split
  · rw [List.length_cons, Lib.decDigits_length]; omega
  · rw [Lib.decDigits_length, show e.toNat = e.natAbs by omega]; omega
/-- What stands ahead of the digits. -/
def pre (m : Int) : List UInt8 := if ng m = true then [45] else []
set_option maxHeartbeats 4000000 in
set_option maxRecDepth 100000 in
theorem dtext_digits (A : Option Addr) (n c : Nat) (m : Int) (A' : Option Addr) (n' c' : Nat) (e : Int) (w : World) (h : Wh w A n c m) (h' : Wh w A' n' c' e) (hn : n ≤ 137438953472) (h0 : m ≠ 0) (he : e.natAbs < 10000000000000000000) (hg : Glob w) :
    Calls Tryd.prog 6 #[.agg #[.bool (ng m), .slice A n c, .bool (ng e), .slice A' n' c']] w fun e' w' => e' = .returned (.string ⟨(pre m ++ hexN m.natAbs ++ [112] ++ Lib.itoa e).toArray⟩) ∧ Below w.heap.size w w' := by
  have hblb : bl m.natAbs ≤ 64 * 137438953472 := bl_wl m _ (by rw [← h.1]; exact hn)
  have hbl1 : 1 ≤ bl m.natAbs := by unfold bl; rw [if_neg (by omega)]; omega
  obtain ⟨T, hT⟩ : ∃ T, nibs m.natAbs = T := ⟨_, rfl⟩
  have hT1 : 1 ≤ T := by rw [← hT]; unfold nibs; omega
  have hTb : T ≤ 2199023255552 := by rw [← hT]; unfold nibs; omega
  have hTi : ((bl m.natAbs : Int) - 1) / 4 = (T : Int) - 1 := by rw [← hT]; unfold nibs; omega
  have hs : (m.sign == 0) = false := by
    rcases Int.lt_or_gt_of_ne h0 with hl | hl
    · rw [Int.sign_eq_neg_one_of_neg hl]; rfl
    · rw [Int.sign_eq_one_of_pos hl]; rfl
  have hsl : decide (m.sign < 0) = ng m := by
    unfold ng; congr 1
    rcases Int.lt_or_gt_of_ne h0 with hl | hl
    · rw [Int.sign_eq_neg_one_of_neg hl]; simp [hl]
    · rw [Int.sign_eq_one_of_pos hl]; simp; omega
  have hN1 := h.1
  have H := Lib.hid h
  have H' := Lib.hid h'
  have HG := Lib.hid hg
  have HN := Lib.hid hN1
  have HT := Lib.hid hT
  have HE := Lib.hid he
  have HS := Lib.hid hsl
  clear h h' hg h0 hT he hsl hN1
  go_enter Tryd.func6, Tryd.ntmps6
  go_wp2_with fail
  refine (dsign_any A n c m (ng e) A' n' c' _ HN.out).mono ?_
  rintro e1 w1 ⟨rfl, hb⟩
  have hB := (Blk.new w 27 #[.bool (ng m), .slice A n c, .bool (ng e), .slice A' n' c']).next hb
  have hB0 : Below w.heap.size w w1 := ((Below.refl _ _).alloc (Nat.le_refl _) _).trans (hb.mono (by simp))
  have hsz : w.heap.size + 1 ≤ w1.heap.size := by have := hb.size; simpa using this
  obtain ⟨k0, k1, k2, k3, _⟩ := cells4 (hB.alloc (.cells #[.pointer none, .slice none 0 0] 45))
  have HB := Lib.hid hB
  have HB0 := Lib.hid hB0
  clear hb hB hB0
  go_wp2_with fail
  refine (dsign_any A n c m (ng e) A' n' c' _ HN.out).mono ?_
  rintro e1 w2 ⟨rfl, hb⟩
  have HI := Lib.hid (bld_below (bld_new w1 _ rfl) hb)
  have hB := (HB.out.alloc (.cells #[.pointer none, .slice none 0 0] 45)).next hb
  have hbd : Below w1.heap.size w1 w2 := ((Below.refl _ _).alloc (Nat.le_refl _) _).trans (hb.mono (by simp))
  have hsz2 : w1.heap.size + 1 ≤ w2.heap.size := by have := hb.size; simpa using this
  obtain ⟨k0, k1, k2, k3, _⟩ := cells4 hB
  have HB2 := Lib.hid hB
  have HB3 := Lib.hid (HB0.out.trans (hbd.mono HB0.out.size))
  generalize hbb : w1.heap.size = b at *
  clear hb hB hbd HB HB0
  go_upto_if 10 with fail
  go_cut [] (fun wx => IsBld b b (Lib.byteCells (pre m)) wx ∧ Blk wx w.heap.size 27 #[.bool (ng m), .slice A n c, .bool (ng e), .slice A' n' c'] ∧ Below w.heap.size w wx ∧ b < wx.heap.size)
  case first =>
    clear k0 k1 k2 k3
    by_cases hng : ng m = true
    · have hml : m < 0 := by unfold ng at hng; simpa using hng
      have HP := Lib.hid (show pre m = [45] by unfold pre; rw [if_pos hng])
      have HNg := Lib.hid hng
      clear hng
      go_wp2_with fail
      refine (writeString_any b b [] ⟨#[45]⟩ _ (by simpa [Lib.byteCells] using HI.out) (by decide) (by omega)).mono ?_
      rintro e1 w3 ⟨rfl, hI3, hb⟩
      go_wp2_with fail
      go_meet
      refine ⟨?_, HB2.out.below hb (by omega), HB3.out.trans (hb.mono (by omega)), by have := hb.size; omega⟩
      rw [HP.out]
      exact hI3
    · have hng' : ng m = false := by simpa using hng
      have hml : 0 ≤ m := by unfold ng at hng'; simpa using hng'
      have hml2 : ¬ m < 0 := by omega
      have HP := Lib.hid (show pre m = [] by unfold pre; rw [if_neg hng])
      have HNg := Lib.hid hng'
      clear hng hng'
      go_wp2_with fail
      go_meet
      refine ⟨?_, HB2.out, HB3.out, by omega⟩
      rw [HP.out]
      exact HI.out
  case rest =>
    obtain ⟨hI, hB, hbw, hbl⟩ := hcut
    have H''' := Lib.hid (H.out.below hbw)
    have HIn := Lib.hid hI
    have HBn := Lib.hid hB
    have HBw := Lib.hid hbw
    obtain ⟨c0, c1, c2, c3, _⟩ := cells4 hB
    clear hI hB hbw HI HB2 HB3 k0 k1 k2 k3
    rename_i wx
    go_wp2_with fail
    refine (width_any A n c m _ H'''.out (by omega)).mono ?_
    rintro e1 w3 ⟨rfl, hb3⟩
    have hB3 := Lib.hid (HBn.out.next hb3)
    have hI3 := Lib.hid (bld_below HIn.out hb3)
    have hW3 := Lib.hid (HBw.out.trans (hb3.mono HBw.out.size))
    have hL3 := Nat.lt_of_lt_of_le hbl hb3.size
    have hpre : (pre m).length ≤ 1 := by unfold pre; split <;> simp
    have HPL := Lib.hid hpre
    clear hb3 c0 c1 c2 c3 HIn HBn HBw H''' hpre hs
    go_wp2_with fail
    rw [hTi]
    clear hTi hbl1 hblb
    go_loopw [4] (fun i wr => ∃ k : Nat, k ≤ T ∧ i = .int .i64 ((k : Int) - 1) ∧ IsBld b b (Lib.byteCells (pre m ++ (hexN m.natAbs).take (T - k))) wr ∧ Blk wr w.heap.size 27 #[.bool (ng m), .slice A n c, .bool (ng e), .slice A' n' c'] ∧ Below w.heap.size w wr ∧ b < wr.heap.size) (fun i _ => (intOf i + 1).toNat)
    case atStart =>
      refine ⟨T, Nat.le_refl _, rfl, ?_, hB3.out, hW3.out, hL3⟩
      rw [Nat.sub_self, List.take_zero, List.append_nil]
      exact hI3.out
    case round =>
      obtain ⟨k, hk, rfl, hI, hB, hbw, hbl⟩ := hrel
      obtain ⟨c0, c1, c2, c3, _⟩ := cells4 hB
      have HW := Lib.hid (H.out.below hbw)
      have HIn := Lib.hid hI
      have HBn := Lib.hid hB
      have HBw := Lib.hid hbw
      clear hI hB hbw hB3 hI3 hW3
      by_cases hk0 : 1 ≤ k
      · go_wp2_with fail
        rw [show ((k : Int) - 1) * 4 = (((k - 1) * 4 : Nat) : Int) by omega]
        refine (window_any A n c m ((k - 1) * 4) _ HW.out (by omega) (by omega)).mono ?_
        rintro e1 w4 ⟨rfl, hb4⟩
        have hBn4 := Lib.hid (HBn.out.next hb4)
        have hIn4 := Lib.hid (bld_below HIn.out hb4)
        have hBw4 := Lib.hid (HBw.out.trans (hb4.mono HBw.out.size))
        have hL4 := Nat.lt_of_lt_of_le hbl hb4.size
        clear hb4 c0 c1 c2 c3 HIn HBn HBw HW
        obtain ⟨v, hv⟩ : ∃ v, win m.natAbs ((k - 1) * 4) = v := ⟨_, rfl⟩
        have hvn : v % 16 = m.natAbs / 16 ^ (k - 1) % 16 := by rw [← hv, win_nib]
        have hvQ : v < 18446744073709551616 := by rw [← hv]; unfold win; exact Nat.mod_lt _ (by decide)
        rw [hv]
        have HV := Lib.hid hvn
        clear hv hvn
        go_wp2_with fail
        rw [show (⟨#[48, 49, 50, 51, 52, 53, 54, 55, 56, 57, 97, 98, 99, 100, 101, 102]⟩ : ByteArray)[v % 16]'(by
          have h16 : (⟨#[48, 49, 50, 51, 52, 53, 54, 55, 56, 57, 97, 98, 99, 100, 101, 102]⟩ : ByteArray).size = 16 := by decide
          omega) = hexch (v % 16) from hexs_get (v % 16) _]
        have hlen : (Lib.byteCells (pre m ++ (hexN m.natAbs).take (T - k))).length + 1 ≤ 140737488355328 := by
          have := HPL.out
          have h2 := List.length_take_le (T - k) (hexN m.natAbs)
          rw [byteCells_len, List.length_append]
          omega
        refine (writeByte_any b b _ _ _ hIn4.out hlen (by omega)).mono ?_
        rintro e1 w5 ⟨rfl, hI5, hb⟩
        have hB5 := Lib.hid (hBn4.out.below hb (by omega))
        have hW5 := Lib.hid (hBw4.out.trans (hb.mono (by omega)))
        have hL5 := Nat.lt_of_lt_of_le hL4 hb.size
        have hI6 : IsBld b b (Lib.byteCells (pre m ++ (hexN m.natAbs).take (T - (k - 1)))) w5 := by
          rw [byteCells_snoc, List.append_assoc, HV.out] at hI5
          have := hexN_take m.natAbs k hk0 (by rw [HT.out]; exact hk)
          rw [HT.out] at this
          rw [this] at hI5
          exact hI5
        have hI6 := Lib.hid hI6
        clear hI5 hb hlen hIn4 hBn4 hBw4
        go_wp2_with fail
        go_roundw
        case rel => exact ⟨k - 1, by omega, by go_num, hI6.out, hB5.out, hW5.out, hL5⟩
        case measure => simp [intOf]; omega
      · obtain rfl : k = 0 := by omega
        clear c0 c1
        have HPc := Lib.hid (show IsBld b b (Lib.byteCells (pre m ++ hexN m.natAbs)) wr by
          have := HIn.out
          rw [Nat.sub_zero, ← HT.out, ← hexN_length, List.take_length] at this
          exact this)
        obtain ⟨P, hP⟩ : ∃ P, pre m ++ hexN m.natAbs = P := ⟨_, rfl⟩
        obtain ⟨s, hs⟩ : ∃ s : ByteArray, (⟨(Lib.itoa e).toArray⟩ : ByteArray) = s := ⟨_, rfl⟩
        have hPl : P.length ≤ 2199023255553 := by
          have := HPL.out
          rw [← hP, List.length_append, hexN_length, HT.out]
          omega
        have hsl : s.size ≤ 20 := by rw [← hs]; exact itoa_le e HE.out
        have hc1 : P.length + 1 ≤ 9223372036854775807 := by omega
        have hc3 : P.length ≤ 9223372036854775806 := by omega
        have hc2 : P.length + 1 + s.size ≤ 9223372036854775807 := by omega
        rw [hP] at HPc
        have HP := Lib.hid hP
        have HSs := Lib.hid hs
        clear hP hPl hsl
        have HTx : ∀ w' : World, Below w.heap.size w w' → Calls Tryd.prog 20 #[.agg #[.bool (ng e), .slice A' n' c']] w' fun e' w'' => e' = .returned (.string s) ∧ Below w'.heap.size w' w'' := by
          intro w' hb
          rw [← hs]
          by_cases he0 : e = 0
          · subst he0
            exact text_zero A' n' c' _ (H'.out.below hb)
          · exact text_any A' n' c' e _ (H'.out.below hb) HE.out he0 (HG.out.below hb)
        have HTy := Lib.hid HTx
        clear hs HTx
        go_wp2_with fail
        have hbb2 : w.heap.size < b := by omega
        have HBd := Lib.hid HBw.out.drew
        go_region_with (first
              | (go_at_call 19; refine (Tryd.Builder_String_any b b P _ (by exact HPc.out) (by show b ≤ wr.heap.size; omega)).mono ?_; rintro e1 wS ⟨rfl, hbS⟩; have r2 := (hbS.cell (p := ⟨w.heap.size, 2, none⟩) hbb2).trans c2; have r3 := (hbS.cell (p := ⟨w.heap.size, 3, none⟩) hbb2).trans c3; have HBS := Lib.hid (HBd.out.trans (hbS.mono (Nat.le_of_lt hbb2))); clear hbS; skip)
              | (go_at_call 20; refine (HTy.out _ HBS.out).mono ?_; rintro e1 wT ⟨rfl, hbT⟩; skip))
        all_goals
          clear c2 c3 r2 r3
          go_wp2_with fail
          go_ret
          refine ⟨?_, HBS.out.trans (hbT.mono HBS.out.size)⟩
          rw [HP.out, ← HSs.out]
          refine congrArg (fun s => Ending.returned (.string s)) (ByteArray.ext ?_)
          rw [ByteArray.data_append, ByteArray.data_append]
          simp

/-- A dyadic number's text. -/
theorem dtext_any (A : Option Addr) (n c : Nat) (m : Int) (A' : Option Addr) (n' c' : Nat) (e : Int) (w : World) (h : Wh w A n c m) (h' : Wh w A' n' c' e) (hn : n ≤ 137438953472) (he : e.natAbs < 10000000000000000000) (d : Dyadic) (hm : mant d = m) (hx : expo d = e) (hg : Glob w) :
    Calls Tryd.prog 6 #[.agg #[.bool (ng m), .slice A n c, .bool (ng e), .slice A' n' c']] w fun e' w' => e' = .returned (.string ⟨(txt d).toArray⟩) ∧ Below w.heap.size w w' := by
  subst hm hx
  by_cases h0 : mant d = 0
  · have ht : txt d = [48] := by unfold txt; rw [if_pos h0]
    rw [ht, h0]
    rw [h0] at h
    exact dtext_zero A n c _ A' n' c' w h.1
  · have ht : txt d = pre (mant d) ++ hexN (mant d).natAbs ++ [112] ++ Lib.itoa (expo d) := by unfold txt pre; rw [if_neg h0]
    rw [ht]
    exact dtext_digits A n c _ A' n' c' _ w h h' hn h0 he hg
end Go.Proofs.YtajcjpbfmpljkaaDoor
set_option linter.unusedVariables false
namespace Go.Proofs.YtajcjpbfmpljkaaDoor
open Go.RowKit
attribute [local go_sem ↓] Go.wp_at_zero Go.wp_at_succ

def ints (l : List Nat) : List Value := l.map fun (d : Nat) => Value.int .i64 (d : Int)
theorem ints_get (l : List Nat) (i : Nat) (h : i < l.length) : (ints l)[i]? = some (.int .i64 (l[i] : Int)) := by simp [ints, h]
/-- The number that the digits to base 65536 make. -/
def rdy (neg : Bool) (l : List Nat) (e : Int) : Dyadic := dy (if neg then -(ofd 65536 l : Int) else (ofd 65536 l : Int)) (16 * e)
/-- Neither end is a nought. -/
def Neat (neg : Bool) (l : List Nat) (e : Int) : Prop := (l = [] ∧ neg = false ∧ e = 0) ∨ (l ≠ [] ∧ l.head? ≠ some 0 ∧ l.getLast? ≠ some 0)
/-- The block is one of ints. -/
def IntB (w : World) (b : Nat) : Prop := ∃ cs fr, w.heap[b]? = some (.cells cs 3 fr)
theorem IntB.lt {w : World} {b : Nat} (h : IntB w b) : b < w.heap.size := by
  obtain ⟨cs, fr, h⟩ := h
  exact (Array.getElem?_eq_some_iff.1 h).1
theorem IntB.below {w w' : World} {b : Nat} (h : IntB w b) (hb : Below w.heap.size w w') : IntB w' b := by
  obtain ⟨cs, fr, h1⟩ := h
  exact ⟨cs, fr, (hb.block b (IntB.lt ⟨cs, fr, h1⟩)).trans h1⟩
theorem IntB.of_blk {w : World} {b : Nat} {cs : Array Value} (h : Blk w b 3 cs) : IntB w b := ⟨cs, _, h⟩
theorem IntB.ne {w : World} {b g : Nat} {t : TypeId} {cs : Array Value} (h : IntB w b) (hB : Blk w g t cs) (ht : t ≠ 3) : b ≠ g := by
  rintro rfl
  obtain ⟨cs', fr, h1⟩ := h
  unfold Blk at hB
  rw [h1] at hB
  injection hB with hB
  injection hB with _ e _
  exact ht e.symm
/-- The slice holds the digits. -/
def Rd (w : World) (A : Option Addr) (n c : Nat) (l : List Nat) : Prop := n = l.length ∧ n ≤ c ∧ Row w A (ints l) ∧ Digs 65536 l ∧ ∀ b y, A = some ⟨b, y, none⟩ → l ≠ [] → IntB w b
theorem Rd.below {w w' : World} {A : Option Addr} {n c : Nat} {l : List Nat} (h : Rd w A n c l) (hb : Below w.heap.size w w') : Rd w' A n c l := ⟨h.1, h.2.1, h.2.2.1.below hb, h.2.2.2.1, fun b y e hl => (h.2.2.2.2 b y e hl).below hb⟩
/-- The call returned the number. -/
def RetR (d : Dyadic) (w : World) (e : Ending) (w' : World) : Prop :=
  ∃ (neg : Bool) (A : Option Addr) (n c : Nat) (E : Int) (l : List Nat), e = .returned (.agg #[.bool neg, .slice A n c, .int .i64 E]) ∧ Rd w' A n c l ∧ Neat neg l E ∧ rdy neg l E = d ∧ Below w.heap.size w w'
theorem rdy_drop (neg : Bool) (l : List Nat) (e : Int) : rdy neg (0 :: l) e = rdy neg l (e + 1) := by
  unfold rdy
  have h := dy_pow (if neg then -(ofd 65536 l : Int) else (ofd 65536 l : Int)) (16 * e) 16
  rw [show 16 * (e + 1) = 16 * e + ((16 : Nat) : Int) by omega, ← h, ofd_cons]
  congr 1
  cases neg <;> simp <;> omega
theorem rdy_take (neg : Bool) (l : List Nat) (e : Int) : rdy neg (l ++ [0]) e = rdy neg l e := by
  unfold rdy
  rw [ofd_snoc, Nat.mul_zero, Nat.add_zero]
theorem rdy_nil (neg : Bool) (e : Int) : rdy neg [] e = 0 := by
  unfold rdy
  rw [ofd_nil]
  cases neg <;> rfl

theorem floor_any (k : Int) (w : World) (h0 : -1000000000000000000 ≤ k) (h1 : k ≤ 1000000000000000000) :
    Calls Tryd.prog 25 #[.int .i64 k] w fun e w' => e = .returned (.tuple #[.int .i64 (k / 16), .int .i64 (k % 16)]) ∧ w = w' := by
  go_enter Tryd.func25, Tryd.ntmps25
  go_wp2_with fail
  go_ret2
  refine ⟨?_, rfl⟩
  have e0 : ∃ t, k.tmod 16 = t ∧ -15 ≤ t ∧ t ≤ 15 ∧ (t + 16) % 16 = k % 16 := by
    rcases Int.le_total 0 k with h | h
    · exact ⟨k % 16, Int.tmod_eq_emod_of_nonneg h, by omega, by omega, by omega⟩
    · refine ⟨-((-k) % 16), ?_, by omega, by omega, by omega⟩
      rw [← Int.tmod_eq_emod_of_nonneg (show 0 ≤ -k by omega), Int.neg_tmod, Int.neg_neg]
  obtain ⟨t, ht, t1, t2, t3⟩ := e0
  have e1 : wrap64 (k.tmod 16 + 16) = t + 16 := by rw [ht]; unfold wrap64; omega
  have e2 : (t + 16).tmod 16 = k % 16 := by rw [Int.tmod_eq_emod_of_nonneg (by omega)]; exact t3
  have e3 : wrap64 (k - k % 16) = 16 * (k / 16) := by unfold wrap64; omega
  have e4 : (16 * (k / 16)).tdiv 16 = k / 16 := Int.mul_tdiv_cancel_left _ (by decide)
  have e5 : wrap64 (k / 16) = k / 16 := by unfold wrap64; omega
  show Ending.returned (.tuple #[.int .i64 (wrap64 ((wrap64 (k - (wrap64 (k.tmod 16 + 16)).tmod 16)).tdiv 16)), .int .i64 ((wrap64 (k.tmod 16 + 16)).tmod 16)]) = _
  rw [e1, e2, e3, e4, e5]
theorem power_any (k : Nat) (w : World) (hk : k ≤ 16) :
    Calls Tryd.prog 26 #[.int .i64 (k : Int)] w fun e w' => e = .returned (.int .i64 ((2 ^ k : Nat) : Int)) ∧ w = w' := by
  go_enter Tryd.func26, Tryd.ntmps26
  go_wp2_with fail
  go_loop [3, 4] (fun n i => ∃ j N : Nat, j ≤ k ∧ N ≤ 65536 ∧ n = .int .i64 (N : Int) ∧ i = .int .i64 (j : Int) ∧ Hid (N = 2 ^ j)) (fun _ i => k - (intOf i).toNat)
  case atStart => exact ⟨0, 1, Nat.zero_le _, by omega, rfl, rfl, Lib.hid rfl⟩
  case round =>
    obtain ⟨j, N, hj, hN, rfl, rfl, HN⟩ := hrel
    by_cases hlt : j < k
    · have hb : N * 2 ≤ 65536 := by
        have : 2 ^ (j + 1) ≤ 2 ^ 16 := Nat.pow_le_pow_right (by omega) (by omega)
        rw [HN.out, ← Nat.pow_succ]; exact this
      go_wp2_with fail
      go_round
      case rel => exact ⟨j + 1, N * 2, by omega, hb, by go_num, by go_num, Lib.hid (by rw [HN.out, Nat.pow_succ])⟩
      case measure => simp [intOf]; omega
    · have HJ := Lib.hid (show j = k by omega)
      go_wp2_with fail
      go_ret
      refine ⟨?_, rfl⟩
      show Ending.returned (.int .i64 (N : Int)) = _
      rw [HN.out, HJ.out, Int.natCast_pow]
      rfl
end Go.Proofs.YtajcjpbfmpljkaaDoor
set_option linter.unusedVariables false
namespace Go.Proofs.YtajcjpbfmpljkaaDoor
open Go.RowKit
attribute [local go_sem ↓] Go.wp_at_zero Go.wp_at_succ

theorem Rd.tail {w : World} {b o c d : Nat} {l : List Nat} (h : Rd w (some ⟨b, o, none⟩) (l.length + 1) c (d :: l)) : Rd w (some ⟨b, o + 1, none⟩) l.length (c - 1) l := by
  refine ⟨rfl, by have := h.2.1; omega, ?_, h.2.2.2.1.tail, fun b' y' e' _ => by
    injection e' with e'; injection e' with e1 e2
    subst e1
    exact h.2.2.2.2 b o rfl (by simp)⟩
  rcases h.2.2.1 with h | ⟨b', o', e, hc⟩
  · simp [ints] at h
  · injection e with e
    injection e with e1 e2
    subst e1 e2
    refine .inr ⟨b, o + 1, rfl, fun i v hi => ?_⟩
    have := hc (i + 1) v (by simpa [ints] using hi)
    rw [show o + 1 + i = o + (i + 1) by omega]
    exact this
theorem Rd.tail_ {w : World} {b o c d k : Nat} {l : List Nat} (h : Rd w (some ⟨b, o, none⟩) (k + 1) c (d :: l)) : Rd w (if c = 1 then some ⟨b, o, none⟩ else some ⟨b, o + 1, none⟩) k (c - 1) l := by
  have hk : k = l.length := by have := h.1; simpa using this
  subst hk
  by_cases hc : c = 1
  · have : l = [] := List.eq_nil_of_length_eq_zero (by have := h.2.1; omega)
    subst this
    exact ⟨rfl, Nat.zero_le _, .inl rfl, (fun x hx => by cases hx), fun _ _ _ hne => absurd rfl hne⟩
  · rw [if_neg hc]
    exact h.tail
theorem Rd.init {w : World} {A : Option Addr} {n c : Nat} {d : Nat} {l : List Nat} (h : Rd w A n c (l ++ [d])) : Rd w A l.length c l := by
  refine ⟨rfl, by have := h.2.1; have := h.1; simp at this; omega, ?_, fun x hx => h.2.2.2.1 x (List.mem_append_left _ hx), fun b y e _ => h.2.2.2.2 b y e (by simp)⟩
  rcases h.2.2.1 with h | ⟨b', o', e, hc⟩
  · simp [ints] at h
  · refine .inr ⟨b', o', e, fun i v hi => hc i v ?_⟩
    have hl : i < l.length := by
      rcases Nat.lt_or_ge i l.length with h | h
      · exact h
      · simp [ints, h] at hi
    rw [show ints (l ++ [d]) = ints l ++ [.int .i64 d] by simp [ints], List.getElem?_append_left (by simpa [ints] using hl)]
    exact hi
theorem Rd.at0 {w : World} {A : Option Addr} {n c : Nat} {d : Nat} {l : List Nat} (h : Rd w A n c (d :: l)) : ∃ b o, A = some ⟨b, o, none⟩ ∧ w.cell? ⟨b, o, none⟩ = some (.int .i64 (d : Int)) := by
  obtain ⟨b, o, e, _, hc⟩ := h.2.2.1.at_ (ints_get (d :: l) 0 (by simp))
  exact ⟨b, o, e, by simpa using hc⟩
theorem Rd.last {w : World} {A : Option Addr} {n c : Nat} {d : Nat} {l : List Nat} (h : Rd w A n c (l ++ [d])) : ∃ b o, A = some ⟨b, o, none⟩ ∧ w.cell? ⟨b, o + l.length, none⟩ = some (.int .i64 (d : Int)) := by
  obtain ⟨b, o, e, _, hc⟩ := h.2.2.1.at_ (ints_get (l ++ [d]) l.length (by simp))
  exact ⟨b, o, e, by simpa using hc⟩

theorem cells3 {w : World} {g : Nat} {t : TypeId} {x0 x1 x2 : Value} (h : Blk w g t #[x0, x1, x2]) : w.cell? ⟨g, 0, none⟩ = some x0 ∧ w.cell? ⟨g, 1, none⟩ = some x1 ∧ w.cell? ⟨g, 2, none⟩ = some x2 :=
  ⟨h.cell 0, h.cell 1, h.cell 2⟩
theorem Blk.store3 {w : World} {g : Nat} {t : TypeId} {x0 x1 x2 : Value} (h : Blk w g t #[x0, x1, x2]) (u0 u1 u2 : Value) : Blk (((w.setCell ⟨g, 0, none⟩ u0).setCell ⟨g, 1, none⟩ u1).setCell ⟨g, 2, none⟩ u2) g t #[u0, u1, u2] := by
  have := ((h.set_ 0 u0).set_ 1 u1).set_ 2 u2
  simpa using this
set_option maxHeartbeats 2000000 in
theorem made_any (neg : Bool) (A : Option Addr) (n c : Nat) (l : List Nat) (e : Int) (w : World) (h : Rd w A n c l) (hn : n ≤ 1099511627776) (he : e.natAbs ≤ 1000000000000000000) (hc : c ≤ 9223372036854775807) :
    Calls Tryd.prog 27 #[.bool neg, .slice A n c, .int .i64 e] w (RetR (rdy neg l e) w) := by
  obtain ⟨D, hD⟩ : ∃ D, rdy neg l e = D := ⟨_, rfl⟩
  rw [hD]
  have HD := Lib.hid hD
  have H := Lib.hid h
  clear hD h
  go_enter Tryd.func27, Tryd.ntmps27
  go_upto_block 0 with fail
  go_cut [1, 2] (fun a b wx => ∃ (A' : Option Addr) (n' c' : Nat) (l' : List Nat) (E : Int), a = .slice A' n' c' ∧ b = .int .i64 E ∧ n' ≤ n ∧ c' ≤ 9223372036854775807 ∧ E.natAbs ≤ 2000000000000000000 ∧ Rd w A' n' c' l' ∧ rdy neg l' E = D ∧ l'.head? ≠ some 0 ∧ wx = w.alloc (.cells #[.bool false, .slice none 0 0, .int .i64 0] 32))
  case first =>
    go_wp2_with fail
    go_loop [1, 2] (fun a b => ∃ (A' : Option Addr) (n' c' : Nat) (l' : List Nat) (E : Int), a = .slice A' n' c' ∧ b = .int .i64 E ∧ n' ≤ n ∧ c' ≤ 9223372036854775807 ∧ E.natAbs + n' ≤ 1000000000000000000 + n ∧ Hid (Rd w A' n' c' l' ∧ rdy neg l' E = D)) (fun a _ => match a with | .slice _ n _ => n | _ => 0)
    case atStart => exact ⟨A, n, c, l, e, rfl, rfl, Nat.le_refl _, hc, by omega, Lib.hid ⟨H.out, HD.out⟩⟩
    case round =>
      obtain ⟨A', n', c', l', E, rfl, rfl, hn', hc', hE, HR⟩ := hrel
      cases l' with
      | nil =>
        have h0 : n' = 0 := HR.out.1.1
        subst h0
        go_wp2_with fail
        go_meet
        exact ⟨A', 0, c', [], E, rfl, rfl, Nat.zero_le _, hc', by omega, HR.out.1, HR.out.2, by simp, rfl⟩
      | cons d t =>
        obtain ⟨b, o, rfl, hcell⟩ := HR.out.1.at0
        obtain ⟨k, rfl⟩ : ∃ k, n' = k + 1 := ⟨t.length, HR.out.1.1⟩
        have hcell' := (Below.refl w.heap.size w).alloc (Nat.le_refl _) (.cells #[.bool false, .slice none 0 0, .int .i64 0] 32)
        have hcell2 := cell_below hcell hcell'
        by_cases hd : d = 0
        · have ht : ((d : Int) == 0) = true := by simp [hd]
          have HD0 := Lib.hid hd
          clear hd hcell hcell'
          go_wp2_with fail
          go_round
          case rel => exact ⟨_, k, c' - 1, t, E + 1, rfl, rfl, by omega, by omega, by omega, Lib.hid ⟨HR.out.1.tail_, by have := HR.out.2; rw [HD0.out, rdy_drop] at this; exact this⟩⟩
          case measure => simp
        · have ht : ((d : Int) == 0) = false := by simp; omega
          have HD0 := Lib.hid hd
          clear hcell hcell' hd
          go_wp2_with fail
          go_meet
          exact ⟨_, k + 1, c', d :: t, E, rfl, rfl, hn', hc', by omega, HR.out.1, HR.out.2, by simpa using HD0.out, rfl⟩
  case rest =>
    obtain ⟨A', n', c', l', E, rfl, rfl, hn', hc', hE, hR, hDe, hh, rfl⟩ := hcut
    have HR := Lib.hid hR
    have HDe := Lib.hid hDe
    have HH := Lib.hid hh
    clear hR hDe hh
    go_wp2_with fail
    go_loop [1] (fun a => ∃ (A'' : Option Addr) (n'' c'' : Nat) (l'' : List Nat), a = .slice A'' n'' c'' ∧ n'' ≤ n ∧ c'' ≤ 9223372036854775807 ∧ Hid (Rd w A'' n'' c'' l'' ∧ rdy neg l'' E = D ∧ l''.head? ≠ some 0)) (fun a => match a with | .slice _ n _ => n | _ => 0)
    case atStart => exact ⟨A', n', c', l', rfl, hn', hc', Lib.hid ⟨HR.out, HDe.out, HH.out⟩⟩
    case round =>
      obtain ⟨A'', n'', c'', l'', rfl, hn'', hc'', HS⟩ := hrel
      have hB := Blk.new w 32 #[.bool false, .slice none 0 0, .int .i64 0]
      have HB := Lib.hid hB
      have f0 := hB.frozen 0
      have f1 := hB.frozen 1
      have f2 := hB.frozen 2
      clear hB
      rcases List.eq_nil_or_concat l'' with rfl | ⟨t, d, rfl⟩
      · have h0 : n'' = 0 := HS.out.1.1
        subst h0
        go_wp2_with fail
        obtain ⟨r0, r1, r2⟩ := cells3 HB.out
        refine bodyPost_ret (v := .agg #[.bool false, .slice none 0 0, .int .i64 0]) (by simp [results, Tryd.results27, go_sem, r0, r1, r2]) rfl
          ⟨false, none, 0, 0, 0, [], rfl, ⟨rfl, Nat.le_refl _, .inl rfl, (fun x hx => by cases hx), fun _ _ _ hne => absurd rfl hne⟩, .inl ⟨rfl, rfl, rfl⟩, ?_, (Below.refl w.heap.size w).alloc (Nat.le_refl _) _⟩
        rw [← HS.out.2.1, rdy_nil, rdy_nil]
      · rw [List.concat_eq_append] at HS
        obtain ⟨b, o, rfl, hcell⟩ := HS.out.1.last
        obtain ⟨k, hk⟩ : ∃ k, t.length = k := ⟨_, rfl⟩
        have hn2 : n'' = k + 1 := by have := HS.out.1.1; simp at this; omega
        subst hn2
        rw [hk] at hcell
        have hcell2 := cell_below hcell ((Below.refl w.heap.size w).alloc (Nat.le_refl _) (.cells #[.bool false, .slice none 0 0, .int .i64 0] 32))
        have hkc : (k : Int) ≤ (c'' : Int) := by have := HS.out.1.2.1; omega
        have hkc2 : k ≤ c'' := by omega
        clear hcell
        have HK := Lib.hid hk
        clear hk
        by_cases hd : d = 0
        · have ht : ((d : Int) == 0) = true := by simp [hd]
          have HD0 := Lib.hid hd
          clear hd
          go_wp2_with fail
          go_round
          case rel =>
            refine ⟨_, k, c'', t, rfl, by omega, hc'', Lib.hid ⟨?_, ?_, ?_⟩⟩
            · have := HS.out.1.init
              rw [HK.out] at this
              exact this
            · have := HS.out.2.1
              rw [HD0.out, rdy_take] at this
              exact this
            · have := HS.out.2.2
              cases t with
              | nil => simp
              | cons x y => simpa using this
          case measure => simp
        · have ht : ((d : Int) == 0) = false := by simp; omega
          have HD0 := Lib.hid hd
          clear hd
          go_wp2_with fail
          obtain ⟨r0, r1, r2⟩ := cells3 (Blk.new w 32 #[.bool neg, .slice (some ⟨b, o, none⟩) (k + 1) c'', .int .i64 E])
          have hbl := (Below.refl w.heap.size w).alloc (Nat.le_refl _) (.cells #[.bool neg, .slice (some ⟨b, o, none⟩) (k + 1) c'', .int .i64 E] 32)
          exact bodyPost_ret (v := .agg #[.bool neg, .slice (some ⟨b, o, none⟩) (k + 1) c'', .int .i64 E]) (by simp [results, Tryd.results27, go_sem, r0, r1, r2]) rfl
            ⟨neg, _, k + 1, c'', E, t ++ [d], rfl, HS.out.1.below hbl, .inr ⟨by simp, HS.out.2.2, by simpa using HD0.out⟩, HS.out.2.1, hbl⟩
end Go.Proofs.YtajcjpbfmpljkaaDoor
set_option linter.unusedVariables false
namespace Go.Proofs.YtajcjpbfmpljkaaDoor
open Go.RowKit
attribute [local go_sem ↓] Go.wp_at_zero Go.wp_at_succ

theorem info_i64 : (Tryd.prog.info? 3).map (fun i => (i.zero, i.size, i.bytes)) = some (some (.int .i64 0), 1, 8) := by kernel_rfl
theorem own_rd {w : World} {B : Nat} {v : Value} {n : Nat} {L : List Nat} (h : w.ownsRow B 3 1 v n (ints L)) (hD : Digs 65536 L) : ∃ A c, v = .slice A n c ∧ Rd w A n c L ∧ c ≤ 9223372036854775807 := by
  have hl : n = L.length := by have := h.1; simp [ints] at this; omega
  rcases h.2 with ⟨rfl, hn⟩ | ⟨g, cap, cur, rfl, hB, hg, hc, hm, hs, hx⟩
  · subst hn
    have : L = [] := List.eq_nil_of_length_eq_zero hl.symm
    subst this
    exact ⟨none, 0, rfl, ⟨rfl, Nat.le_refl _, .inl rfl, hD, fun _ _ _ hne => absurd rfl hne⟩, by omega⟩
  · refine ⟨_, cap, rfl, ⟨hl, hc, .inr ⟨g, 0, rfl, fun i v hi => ?_⟩, hD, fun b' y' e' _ => by
      injection e' with e'; injection e' with e1 e2
      subst e1
      exact ⟨_, _, hg⟩⟩, by unfold maxLen at hm; omega⟩
    have := World.ownsRow.cells h (g := g) rfl i v hi
    by_cases h0 : i = 0
    · subst h0; simpa [Addr.add] using this
    · simpa [Addr.add, h0] using this

theorem IntB.set_ {w : World} {b : Nat} (h : IntB w b) (p : Addr) (u : Value) : IntB (w.setCell p u) b := by
  obtain ⟨cs, fr, h1⟩ := h
  by_cases e : b = p.block
  · subst e
    unfold IntB World.setCell
    simp only [Array.getElem?_modify, h1]
    exact ⟨_, _, rfl⟩
  · exact ⟨cs, fr, (Below.heap_setCell w p u b e).trans h1⟩
/-- The digits don't lie where the answer does. -/
theorem Rd.store3 {w : World} {A : Option Addr} {n c : Nat} {L : List Nat} (h : Rd w A n c L) {neg : Bool} {E : Int} (hN : Neat neg L E) {g : Nat} {t : TypeId} {a : Bool} {A' : Option Addr} {n' c' : Nat} (hB : Blk w g t #[.bool a, .slice A' n' c', .int .i64 0]) (u0 u1 u2 : Value) :
    Rd (((w.setCell ⟨g, 0, none⟩ u0).setCell ⟨g, 1, none⟩ u1).setCell ⟨g, 2, none⟩ u2) A n c L := by
  refine ⟨h.1, h.2.1, ?_, h.2.2.2.1, fun b y e hl => ?_⟩
  rotate_left
  · exact IntB.set_ (IntB.set_ (IntB.set_ (h.2.2.2.2 b y e hl) _ _) _ _) _ _
  rcases h.2.2.1 with h0 | ⟨b, o, rfl, hc⟩
  · exact .inl h0
  · rcases hN with ⟨rfl, _⟩ | ⟨hne, hh, _⟩
    · exact .inl rfl
    · have hb : b ≠ g := by
        rintro rfl
        cases L with
        | nil => exact hne rfl
        | cons d l =>
          have h1 := hc 0 (.int .i64 (d : Int)) (by simp [ints])
          rw [Nat.add_zero, hB.cell o] at h1
          match o, h1 with
          | 0, h1 => simp at h1
          | 1, h1 => simp at h1
          | 2, h1 =>
            simp at h1
            exact hh (by simp; omega)
          | k + 3, h1 => simp at h1
      refine .inr ⟨b, o, rfl, fun i v hi => ?_⟩
      rw [cell_set hb, cell_set hb, cell_set hb]
      exact hc i v hi
/-- What is left of a number, and its digits so far. -/
def Part (m M : Nat) (L : List Nat) : Prop := M < 18446744073709551616 ∧ M * 65536 ^ L.length + ofd 65536 L = m ∧ Digs 65536 L ∧ L.length ≤ 4
set_option maxHeartbeats 2000000 in
set_option maxRecDepth 100000 in
theorem whole_any (neg : Bool) (m : Nat) (w : World) (hm : m < 18446744073709551616) :
    Calls Tryd.prog 21 #[.bool neg, .int .u64 (m : Int)] w (RetR (dy (if neg then -(m : Int) else (m : Int)) 0) w) := by
  obtain ⟨i0, hi, hz0, hz1, hz2⟩ := info_parts info_i64
  obtain ⟨D, hD⟩ : ∃ D, dy (if neg then -(m : Int) else (m : Int)) 0 = D := ⟨_, rfl⟩
  rw [hD]
  have HD := Lib.hid hD
  clear hD
  go_enter Tryd.func21, Tryd.ntmps21
  go_wp2_with fail
  have HM := Lib.hid hm
  clear hm
  go_loopw [1, 5] (fun x v wr => ∃ (M : Nat) (L : List Nat), x = .int .u64 (M : Int) ∧ Part m M L ∧ wr.ownsRow (w.heap.size + 1) 3 1 v L.length (ints L) ∧ Below (w.heap.size + 1) (w.alloc (.cells #[.bool false, .slice none 0 0, .int .i64 0] 32)) wr) (fun x _ _ => (intOf x).toNat)
  case atStart => exact ⟨m, [], rfl, ⟨HM.out, by simp [ofd_nil], Digs.nil _, by simp⟩, World.ownsRow_nil _ _ _ _, Below.refl _ _⟩
  case round =>
    obtain ⟨M, L, rfl, ⟨hM, hE, hDg, hL⟩, hown, hbl⟩ := hrel
    have HE := Lib.hid hE
    have HDg := Lib.hid hDg
    clear hE hDg
    have hB := (Blk.new w 32 #[.bool false, .slice none 0 0, .int .i64 0]).below hbl (by omega)
    have hws : w.heap.size + 1 ≤ wr.heap.size := by have := hbl.size; simpa using this
    by_cases h0 : M = 0
    · subst h0
      obtain ⟨A, c, rfl, hR, hc⟩ := own_rd hown HDg.out
      go_wp2_with fail
      refine (made_any neg A L.length c L 0 wr hR (by omega) (by omega) hc).mono ?_
      rintro e w2 ⟨ng', A', n', c', E, L', rfl, hR', hN, hd, hb⟩
      have hB2 := hB.next hb
      have HB2 := Lib.hid hB2
      have f0 := hB2.frozen 0
      have f1 := hB2.frozen 1
      have f2 := hB2.frozen 2
      obtain ⟨r0, r1, r2⟩ := cells3 hB2
      have HR := Lib.hid hR'
      have HN := Lib.hid hN
      have HDd := Lib.hid hd
      have HBl := Lib.hid ((((Below.refl w.heap.size w).alloc (Nat.le_refl _) (.cells #[.bool false, .slice none 0 0, .int .i64 0] 32)).trans (hbl.mono (by omega))).trans (hb.mono (by omega)))
      clear hb hB2 hB hR' hN hd hR hown hbl
      go_wp2_with fail
      obtain ⟨q0, q1, q2⟩ := cells3 (Blk.store3 HB2.out (.bool ng') (.slice A' n' c') (.int .i64 E))
      exact bodyPost_ret (v := .agg #[.bool ng', .slice A' n' c', .int .i64 E]) (by simp [results, Tryd.results21, go_sem, q0, q1, q2]) rfl
        ⟨ng', A', n', c', E, L', rfl, Rd.store3 HR.out HN.out HB2.out _ _ _, HN.out, HDd.out.trans (by
          rw [← HD.out, ← HE.out]; unfold rdy; simp), ((HBl.out.setCell (p := ⟨w.heap.size, 0, none⟩) (Nat.le_refl _) _).setCell (p := ⟨w.heap.size, 1, none⟩) (Nat.le_refl _) _).setCell (p := ⟨w.heap.size, 2, none⟩) (Nat.le_refl _) _⟩
    · have hL3 : L.length ≤ 3 := by
        rcases Nat.lt_or_ge L.length 4 with h | h
        · omega
        · have h4 : L.length = 4 := by omega
          have := HE.out
          rw [h4] at this
          rw [show 65536 ^ 4 = 18446744073709551616 by decide] at this
          have := HM.out
          omega
      go_wp2_with (at_builtin; refine wpList_append_own _ rfl _ _ 30 rfl (w.heap.size + 1) 3 i0 (.int .i64 0) 1 8 Tryd.underlying30 hi hz0 hz1 hz2 rfl (by decide) _ _ _ rfl (hown.alloc _) ⟨wr.heap.size, 0, none⟩ 1 1 [.int .i64 ((M : Int) % 65536)] rfl rfl ?c1 ?c2 ?c3 ?c4 ?c5 ?_)
      case c1 =>
        intro j u hj
        match j, hj with
        | 0, hj => simp at hj; subst hj; simp [Addr.add]
      case c2 => intro u hu; simp at hu; subst hu; rfl
      case c3 => unfold maxLen; omega
      case c4 => omega
      case c5 => simp; omega
      intro v' w2 hown' hgrow _
      go_wp2_with fail
      go_roundw
      case rel =>
        refine ⟨M / 65536, L ++ [M % 65536], by go_num, ⟨by omega, ?_, ?_, by simp; omega⟩, ?_, ?_⟩
        · rw [ofd_snoc, List.length_append, List.length_singleton, Nat.pow_succ, ← HE.out]
          generalize 65536 ^ L.length = P
          have := Nat.div_add_mod M 65536
          have h2 : M * P = (65536 * (M / 65536) + M % 65536) * P := by rw [this]
          rw [h2, Nat.add_mul]
          ac_rfl
        · exact Digs.append HDg.out (Digs.cons (Nat.mod_lt _ (by omega)) (Digs.nil _))
        · rw [List.length_append, List.length_singleton]
          have : ints (L ++ [M % 65536]) = ints L ++ [.int .i64 ((M : Int) % 65536)] := by simp [ints]
          rw [this]
          exact hown'
        · exact (hbl.alloc (by omega) _).grown hgrow (by simp; omega) (fun k hk => (hown.lt k hk).1)
      case measure => simp [intOf]; omega
end Go.Proofs.YtajcjpbfmpljkaaDoor
set_option linter.unusedVariables false
namespace Go.Proofs.YtajcjpbfmpljkaaDoor

/-- The list when i digits have been shifted by r. -/
def Sh (l : List Nat) (r i : Nat) (M : List Nat) : Prop := M.length = l.length + 1 ∧ Digs 65536 M ∧ M.getD i 0 < 2 ^ r ∧ (∀ j, i < j → M.getD j 0 = 0) ∧ ofd 65536 (M.take (i + 1)) = ofd 65536 (l.take i) * 2 ^ r
theorem Sh.zero (l : List Nat) (r : Nat) : Sh l r 0 (List.replicate (l.length + 1) 0) := by
  have hg : ∀ j, (List.replicate (l.length + 1) 0).getD j 0 = 0 := by
    intro j
    simp only [List.getD, List.getElem?_replicate]
    split <;> rfl
  refine ⟨by simp, Digs.replicate (by omega) _, by rw [hg]; exact Nat.pos_of_ne_zero (by simp), fun j _ => hg j, ?_⟩
  rw [List.take_replicate, ofd_replicate]; simp [ofd_nil]

/-- What a digit comes to, split at 65536. -/
theorem shift_room {d r c : Nat} (hd : d < 65536) (hr : r ≤ 15) (hc : c < 2 ^ r) : c + d * 2 ^ r % 65536 < 65536 ∧ d * 2 ^ r / 65536 < 2 ^ r := by
  have hp : 2 ^ r * 2 ^ (16 - r) = 65536 := by rw [← Nat.pow_add, show r + (16 - r) = 16 by omega]
  constructor
  · have h1 : d * 2 ^ r % 65536 = 2 ^ r * (d % 2 ^ (16 - r)) := by
      rw [← hp, Nat.mul_comm d, Nat.mul_mod_mul_left]
    rw [h1]
    have h2 : d % 2 ^ (16 - r) < 2 ^ (16 - r) := Nat.mod_lt _ (Nat.pos_of_ne_zero (by simp))
    have h3 : 2 ^ r * (d % 2 ^ (16 - r) + 1) ≤ 2 ^ r * 2 ^ (16 - r) := Nat.mul_le_mul_left _ h2
    rw [hp, Nat.mul_add, Nat.mul_one] at h3
    omega
  · rw [Nat.div_lt_iff_lt_mul (by omega), Nat.mul_comm (2 ^ r)]
    exact Nat.mul_lt_mul_of_pos_right hd (Nat.pos_of_ne_zero (by simp))

theorem Sh.step {l M : List Nat} {r i : Nat} (h : Sh l r i M) (hD : Digs 65536 l) (hi : i < l.length) (hr : r ≤ 15) :
    Sh l r (i + 1) ((M.set i (M.getD i 0 + l[i] * 2 ^ r % 65536)).set (i + 1) (l[i] * 2 ^ r / 65536)) := by
  obtain ⟨hl, hd, hc, hz, ho⟩ := h
  obtain ⟨r1, r2⟩ := shift_room (hD.get i hi) hr hc
  have hi1 : i + 1 < (M.set i (M.getD i 0 + l[i] * 2 ^ r % 65536)).length := by rw [List.length_set, hl]; omega
  have h3 : (2 : Nat) ^ r ≤ 2 ^ 15 := Nat.pow_le_pow_right (by omega) hr
  have h4 : l[i] * 2 ^ r / 65536 < 65536 := by omega
  refine ⟨by simp [hl], (hd.set i r1).set (i + 1) h4, ?_, ?_, ?_⟩
  · rw [List.getD, List.getElem?_set_self hi1]; exact r2
  · intro j hj
    rw [List.getD, List.getElem?_set_ne (by omega), List.getElem?_set_ne (by omega)]
    have := hz j (by omega)
    rwa [List.getD] at this
  · rw [ofd_take_set 65536 _ (i + 1) _ hi1, ofd_take_set 65536 M i _ (by omega), ofd_take_succ 65536 l i hi, Nat.add_mul, ← ho,
      ofd_take_succ 65536 M i (by omega)]
    have hg : M.getD i 0 = M[i]'(by omega) := by simp [List.getD, show i < M.length by omega]
    rw [hg]
    have hm := Nat.div_add_mod (l[i] * 2 ^ r) 65536
    generalize l[i] * 2 ^ r / 65536 = q at *
    generalize hx : l[i] * 2 ^ r % 65536 = m at *
    have hv : 65536 ^ i * l[i] * 2 ^ r = 65536 ^ i * m + 65536 ^ (i + 1) * q := by
      rw [Nat.mul_assoc, ← hm, Nat.mul_add, Nat.pow_succ, Nat.mul_assoc, Nat.add_comm]
    rw [hv, Nat.mul_add]
    omega
theorem Sh.done {l M : List Nat} {r : Nat} (h : Sh l r l.length M) : Digs 65536 M ∧ ofd 65536 M = ofd 65536 l * 2 ^ r := by
  obtain ⟨hl, hd, _, _, ho⟩ := h
  rw [List.take_of_length_le (by omega), List.take_of_length_le (Nat.le_refl _)] at ho
  exact ⟨hd, ho⟩
end Go.Proofs.YtajcjpbfmpljkaaDoor
set_option linter.unusedVariables false
namespace Go.Proofs.YtajcjpbfmpljkaaDoor
open Go.RowKit
attribute [local go_sem ↓] Go.wp_at_zero Go.wp_at_succ

theorem ints_arr (M : List Nat) (i : Nat) (h : i < M.length) : (ints M).toArray[i]? = some (.int .i64 (M[i] : Int)) := by
  rw [List.getElem?_toArray]; exact ints_get M i h
theorem ints_set (M : List Nat) (i v : Nat) : (ints M).toArray.setIfInBounds i (.int .i64 (v : Int)) = (ints (M.set i v)).toArray := by
  simp [ints, List.map_set]
theorem imade_zero (n : Nat) : madeCells #[.int .i64 0] n = (ints (List.replicate n 0)).toArray := by
  refine Array.ext_getElem? fun i => ?_
  rw [List.getElem?_toArray]
  unfold madeCells ints
  by_cases h : i < n
  · simp [h, Nat.mod_one]
  · simp [h]
theorem irun_make (n : Nat) (hn : n ≤ 1099511627776) (W : World) :
    (Instr.makeSlice 30 (.int .i64 (n : Int)) (.int .i64 (n : Int))).run Tryd.prog W = .ok (.slice (some ⟨W.heap.size, 0, none⟩) n n) (W.alloc (.cells (ints (List.replicate n 0)).toArray 3)) := by
  rw [← imade_zero]
  exact run_make_row' _ _ _ 8 Tryd.underlying30 info_i64 rfl _ _ n (by omega) (by omega) W
theorem pow15 {r : Nat} (h : r ≤ 15) : 2 ^ r ≤ 32768 := Nat.pow_le_pow_right (by omega) h
theorem wrap_small {y : Nat} (h : y ≤ 4294967296) : wrap64 (y : Int) = (y : Int) := by unfold wrap64; omega
theorem wrap_mid {E q : Int} (h : q.natAbs ≤ 10000000000000000) (h' : E.natAbs ≤ 100000000000000000) : wrap64 (E + q) = E + q := by unfold wrap64; omega
theorem rdy_shift {neg : Bool} {l M : List Nat} {E k : Int} {r : Nat} (hr : (r : Int) = k % 16) (h : ofd 65536 M = ofd 65536 l * 2 ^ r) :
    rdy neg M (E + k / 16) = dy (if neg then -(ofd 65536 l : Int) else (ofd 65536 l : Int)) (16 * E + k) := by
  unfold rdy
  rw [h, show 16 * E + k = 16 * (E + k / 16) + (r : Int) by omega, ← dy_pow]
  congr 1
  cases neg <;> simp [Int.neg_mul]

set_option maxHeartbeats 2000000 in
theorem rshift_any (neg : Bool) (A : Option Addr) (n c : Nat) (l : List Nat) (E k : Int) (w : World) (h : Rd w A n c l) (hn : n ≤ 1073741824) (hE : E.natAbs ≤ 100000000000000000) (hk : k.natAbs ≤ 100000000000000000) :
    Calls Tryd.prog 10 #[.agg #[.bool neg, .slice A n c, .int .i64 E], .int .i64 k] w (RetR (dy (if neg then -(ofd 65536 l : Int) else (ofd 65536 l : Int)) (16 * E + k)) w) := by
  obtain ⟨r, hr⟩ : ∃ r : Nat, (r : Int) = k % 16 := ⟨(k % 16).toNat, by omega⟩
  obtain ⟨q, hq⟩ : ∃ q : Int, k / 16 = q := ⟨_, rfl⟩
  have hr15 : r ≤ 15 := by omega
  obtain ⟨m, hm⟩ : ∃ m, n + 1 = m := ⟨_, rfl⟩
  have hmk := fun V => irun_make m (by omega) V
  have H := Lib.hid h
  obtain ⟨D, hD⟩ : ∃ D, dy (if neg then -(ofd 65536 l : Int) else (ofd 65536 l : Int)) (16 * E + k) = D := ⟨_, rfl⟩
  have HD := Lib.hid hD
  have HR := Lib.hid hr
  have HQ := Lib.hid hq
  have HE := Lib.hid (show q.natAbs ≤ 10000000000000000 ∧ E.natAbs ≤ 100000000000000000 by omega)
  have HF := Lib.hid (fun W => floor_any k W (by omega) (by omega))
  rw [hq, ← hr] at HF
  rw [hD]
  have en : (n : Int) + 1 = (m : Int) := by omega
  have HM := Lib.hid hm
  clear hD hE hk hr hq h hm
  go_enter Tryd.func10, Tryd.ntmps10
  go_wp2_with fail
  refine (HF.out _).mono ?_
  rintro e w' ⟨rfl, rfl⟩
  go_wp2_with fail
  have hb0 := ((Blk.new w 32 #[.bool neg, .slice A n c, .int .i64 E]).alloc (.cells #[.bool false, .slice none 0 0, .int .i64 0] 32)).alloc (.cells (ints (List.replicate m 0)).toArray 3)
  have hb1 := (Blk.new_ (w.alloc (.cells #[.bool neg, .slice A n c, .int .i64 E] 32)) 32 #[.bool false, .slice none 0 0, .int .i64 0] (w.heap.size + 1) (by simp)).alloc (.cells (ints (List.replicate m 0)).toArray 3)
  have hb2 := Blk.new_ ((w.alloc (.cells #[.bool neg, .slice A n c, .int .i64 E] 32)).alloc (.cells #[.bool false, .slice none 0 0, .int .i64 0] 32)) 3 (ints (List.replicate m 0)).toArray (w.heap.size + 1 + 1) (by simp)
  have hbl : Below w.heap.size w _ := (((Below.refl w.heap.size w).alloc (Nat.le_refl _) (.cells #[.bool neg, .slice A n c, .int .i64 E] 32)).alloc (by simp) (.cells #[.bool false, .slice none 0 0, .int .i64 0] 32)).alloc (by simp; omega) (.cells (ints (List.replicate m 0)).toArray 3)
  have HB0 := Lib.hid hb0
  have HB1 := Lib.hid hb1
  have HB2 := Lib.hid hb2
  have HBl := Lib.hid hbl
  clear hb0 hb1 hb2 hbl
  go_loopw [8] (fun i wr => ∃ (a : Nat) (M : List Nat), a ≤ n ∧ i = .int .i64 (a : Int) ∧ Hid (Sh l r a M ∧ Blk wr (w.heap.size + 1 + 1) 3 (ints M).toArray ∧ Blk wr w.heap.size 32 #[.bool neg, .slice A n c, .int .i64 E] ∧ Blk wr (w.heap.size + 1) 32 #[.bool false, .slice none 0 0, .int .i64 0] ∧ Below w.heap.size w wr)) (fun i _ => n - (intOf i).toNat)
  case atStart => exact ⟨0, List.replicate m 0, Nat.zero_le _, rfl, Lib.hid ⟨by rw [← HM.out, H.out.1]; exact Sh.zero l r, HB2.out, HB0.out, HB1.out, HBl.out⟩⟩
  case round =>
    obtain ⟨a, M, han, rfl, HS⟩ := hrel
    obtain ⟨c0, c1, c2⟩ := cells3 HS.out.2.2.1
    by_cases hlt : a < n
    · have hal : a < l.length := by rw [← H.out.1]; exact hlt
      have hlt1 : (a : Int) < (n : Int) := by omega
      obtain ⟨b, o, rfl, hbw, hcell0⟩ := H.out.2.2.1.at_ (ints_get l a hal)
      have hcell := cell_below hcell0 HS.out.2.2.2.2
      have hstep := HS.out.1.step H.out.2.2.2.1 hal hr15
      have hroom := shift_room (H.out.2.2.2.1.get a hal) hr15 HS.out.1.2.2.1
      have hMl := HS.out.1.1
      have haM : a < M.length := by omega
      have hMa : M.getD a 0 = M[a] := by simp [List.getD, haM]
      have hd := H.out.2.2.2.1.get a hal
      rw [hMa] at hstep hroom
      have x0 := HS.out.2.1.cell a
      rw [ints_arr M a haM] at x0
      have x1 := HS.out.2.1.frozen a
      generalize l[a] = d at *
      generalize hx : M[a] = x at *
      obtain ⟨p, hp⟩ : ∃ p, 2 ^ r = p := ⟨_, rfl⟩
      have HPw := Lib.hid (fun W => power_any r W (by omega))
      rw [hp] at HPw hstep hroom
      have hpb : p ≤ 32768 := by rw [← hp]; exact pow15 hr15
      obtain ⟨v, hv⟩ : ∃ v, d * p = v := ⟨_, rfl⟩
      rw [hv] at hstep hroom
      have hvb : v ≤ 2147483648 := by rw [← hv]; exact Nat.mul_le_mul (Nat.le_of_lt hd) hpb
      have e1 : (d : Int) * (p : Int) = (v : Int) := by rw [← hv]; simp
      obtain ⟨v1, hv1⟩ : ∃ v1, v % 65536 = v1 := ⟨_, rfl⟩
      obtain ⟨v2, hv2⟩ : ∃ v2, v / 65536 = v2 := ⟨_, rfl⟩
      obtain ⟨y, hy⟩ : ∃ y, x + v1 = y := ⟨_, rfl⟩
      rw [hv1, hv2] at hroom hstep
      rw [hy] at hroom hstep
      have e2 : (v : Int) % 65536 = (v1 : Int) := by omega
      have e3 : (v : Int) / 65536 = (v2 : Int) := by omega
      have e4 : (x : Int) + (v1 : Int) = (y : Int) := by omega
      have e5 : IntKind.i64.wrap (v : Int) = (v : Int) := IntWalk.i64_in _ (by omega)
      have e6 : (a : Int) + 1 = ((a + 1 : Nat) : Int) := by omega
      have e7 : a < m := by have := HM.out; omega
      have e8 : a + 1 < m := by have := HM.out; omega
      have ha1 : a + 1 < M.length := by omega
      have x2 := HS.out.2.1.cell (a + 1)
      rw [ints_arr M (a + 1) ha1] at x2
      have x3 := HS.out.2.1.frozen (a + 1)
      generalize M[a + 1] = x' at *
      have e9 : wrap64 (y : Int) = (y : Int) := wrap_small (by omega)
      have e10 : wrap64 (v2 : Int) = (v2 : Int) := wrap_small (by omega)
      have HStep := Lib.hid hstep
      have hs1 := HS.out.2.1.set_ a (.int .i64 (y : Int))
      rw [ints_set] at hs1
      have HC := Lib.hid (⟨c1, hcell⟩ : _ ∧ _)
      have HS1 := Lib.hid hs1
      have HLT := Lib.hid (And.intro hlt han)
      clear hstep hs1 hroom hv hv1 hv2 hy hp hMa hMl hcell0 hvb hpb e6
      go_wp2_with fail
      go_region_held3 (fun w' => w'.cell? ⟨w.heap.size, 1, none⟩ = some (.slice (some ⟨b, o, none⟩) n c) ∧ w'.cell? ⟨b, o + a, none⟩ = some (.int .i64 (d : Int)))
        (first | go_keep | exact ⟨c1, hcell⟩)
        ((go_at_call 26; refine (HPw.out _).mono ?_; rintro e wp ⟨rfl, rfl⟩; skip))
      go_wp2_with fail
      go_roundw
      case rel =>
        have hlt := HLT.out.1
        refine ⟨a + 1, (M.set a y).set (a + 1) v2, by omega, by go_num, Lib.hid ⟨HStep.out, ?_, ?_, ?_, ?_⟩⟩
        · have h2 := HS1.out.set_ (a + 1) (.int .i64 (v2 : Int))
          rw [ints_set] at h2
          exact h2.drew
        · exact ((HS.out.2.2.1.other (by simp; omega) _).other (by simp; omega) _).drew
        · exact ((HS.out.2.2.2.1.other (by simp) _).other (by simp) _).drew
        · exact ((HS.out.2.2.2.2.setCell (by simp; omega) _).setCell (by simp; omega) _).drew
      case measure => have := HLT.out.1; simp [intOf]; omega
    · obtain rfl : a = n := by omega
      have hbb : ¬ (a : Int) < (a : Int) := by omega
      have hE1 : wrap64 (E + q) = E + q := wrap_mid HE.out.1 HE.out.2
      have hdone := HS.out.1
      rw [H.out.1] at hdone
      obtain ⟨hDg, hof⟩ := hdone.done
      have hlm : m = M.length := by rw [HS.out.1.1, ← H.out.1, HM.out]
      have hRd : Rd wr (some ⟨w.heap.size + 1 + 1, 0, none⟩) m m M := ⟨hlm, Nat.le_refl _, .inr ⟨w.heap.size + 1 + 1, 0, rfl, fun i v hi => by
        rw [Nat.zero_add, HS.out.2.1.cell i, List.getElem?_toArray]; exact hi⟩, hDg, fun b y e _ => by
        injection e with e; injection e with e1 e2
        subst e1
        exact IntB.of_blk HS.out.2.1⟩
      have hval : rdy neg M (E + q) = D := by
        rw [← HQ.out, rdy_shift HR.out hof]; exact HD.out
      have HRd := Lib.hid hRd
      have HVal := Lib.hid hval
      have HBd := Lib.hid (show m ≤ 1099511627776 ∧ (E + q).natAbs ≤ 1000000000000000000 by have := HE.out; have := HM.out; omega)
      have HB1' := Lib.hid HS.out.2.2.2.1
      have HBl' := Lib.hid HS.out.2.2.2.2
      clear hRd hval hDg hof hdone hlm
      go_wp2_with fail
      refine (made_any neg _ m m M (E + q) wr HRd.out HBd.out.1 HBd.out.2 (by have := HBd.out.1; omega)).mono ?_
      rintro e w2 ⟨ng', A', n', c', E', L', rfl, hR', hN, hd, hb⟩
      have hB2 := HB1'.out.next hb
      have HB2 := Lib.hid hB2
      have f0 := hB2.frozen 0
      have f1 := hB2.frozen 1
      have f2 := hB2.frozen 2
      obtain ⟨r0, r1, r2⟩ := cells3 hB2
      have HR' := Lib.hid hR'
      have HN := Lib.hid hN
      have HDd := Lib.hid hd
      have HBl2 := Lib.hid (HBl'.out.trans (hb.mono HBl'.out.size))
      clear hb hB2 hR' hN hd c0 c1 c2
      go_wp2_with fail
      obtain ⟨q0, q1, q2⟩ := cells3 (Blk.store3 HB2.out (.bool ng') (.slice A' n' c') (.int .i64 E'))
      exact bodyPost_ret (v := .agg #[.bool ng', .slice A' n' c', .int .i64 E']) (by simp [results, Tryd.results10, go_sem, q0, q1, q2]) rfl
        ⟨ng', A', n', c', E', L', rfl, Rd.store3 HR'.out HN.out HB2.out _ _ _, HN.out, HDd.out.trans HVal.out, ((HBl2.out.setCell (p := ⟨w.heap.size + 1, 0, none⟩) (by simp) _).setCell (p := ⟨w.heap.size + 1, 1, none⟩) (by simp) _).setCell (p := ⟨w.heap.size + 1, 2, none⟩) (by simp) _⟩
end Go.Proofs.YtajcjpbfmpljkaaDoor
set_option linter.unusedVariables false
namespace Go.Proofs.YtajcjpbfmpljkaaDoor

/-- The number that binary digits make, the highest first. -/
def hv (b : List Nat) : Nat := b.foldl (fun a x => 2 * a + x) 0
theorem hv_snoc (b : List Nat) (x : Nat) : hv (b ++ [x]) = 2 * hv b + x := by simp [hv, List.foldl_append]
theorem hv_zero (b : List Nat) : hv (0 :: b) = hv b := by simp [hv]
theorem hv_last (b : List Nat) : hv (b ++ [0]) = 2 * hv b := by rw [hv_snoc, Nat.add_zero]
/-- All are 0 or 1. -/
def Two (b : List Nat) : Prop := ∀ x ∈ b, x < 2
theorem Two.nil : Two [] := fun _ h => by cases h
theorem Two.snoc {b : List Nat} (h : Two b) {x : Nat} (hx : x < 2) : Two (b ++ [x]) := fun y hy => by
  rcases List.mem_append.1 hy with hy | hy
  · exact h y hy
  · simp at hy; omega
theorem Two.tail {b : List Nat} {x : Nat} (h : Two (x :: b)) : Two b := fun y hy => h y (List.mem_cons_of_mem _ hy)
theorem Two.init {b : List Nat} {x : Nat} (h : Two (b ++ [x])) : Two b := fun y hy => h y (List.mem_append_left _ hy)

/-- What stands there when the digits from i + 1 on, and of digit i the binary digits down to k, have been taken. -/
def Half2 (l : List Nat) (i k : Nat) (b : List Nat) : Prop := Two b ∧ b.length = 16 * (l.length - (i + 1)) + (16 - k) ∧ hv b = ofd 65536 (l.drop (i + 1)) * 2 ^ (16 - k) + l.getD i 0 / 2 ^ k
theorem Half2.begin {l b : List Nat} {i : Nat} (hT : Two b) (hl : b.length = 16 * (l.length - (i + 1))) (h : hv b = ofd 65536 (l.drop (i + 1))) (hD : Digs 65536 l) : Half2 l i 16 b := by
  refine ⟨hT, by omega, ?_⟩
  have : l.getD i 0 < 65536 := by
    by_cases hi : i < l.length
    · simpa [List.getD, hi] using hD.get i hi
    · simp [List.getD, List.getElem?_eq_none (Nat.le_of_not_lt hi)]
  rw [show (16 : Nat) - 16 = 0 from rfl, Nat.pow_zero, Nat.mul_one, Nat.div_eq_of_lt (show l.getD i 0 < 2 ^ 16 from this), h]; rfl
theorem Half2.step {l b : List Nat} {i k : Nat} (h : Half2 l i (k + 1) b) (hk : k < 16) : Half2 l i k (b ++ [l.getD i 0 / 2 ^ k % 2]) := by
  obtain ⟨hT, hl, hv1⟩ := h
  refine ⟨hT.snoc (Nat.mod_lt _ (by omega)), by rw [List.length_append, hl]; simp; omega, ?_⟩
  rw [hv_snoc, hv1, Nat.mul_add]
  have h1 : 2 ^ (16 - k) = 2 * 2 ^ (16 - (k + 1)) := by
    rw [show 16 - k = (16 - (k + 1)) + 1 by omega, Nat.pow_succ, Nat.mul_comm]
  have h2 : l.getD i 0 / 2 ^ (k + 1) = l.getD i 0 / 2 ^ k / 2 := by rw [Nat.pow_succ, Nat.div_div_eq_div_mul]
  rw [h1, h2]
  have h3 := Nat.div_add_mod (l.getD i 0 / 2 ^ k) 2
  generalize l.getD i 0 / 2 ^ k = q at *
  have h4 : ofd 65536 (l.drop (i + 1)) * (2 * 2 ^ (16 - (k + 1))) = 2 * (ofd 65536 (l.drop (i + 1)) * 2 ^ (16 - (k + 1))) := by
    rw [Nat.mul_left_comm]
  rw [h4]
  omega
theorem Half2.next {l b : List Nat} {i : Nat} (h : Half2 l i 0 b) (hi : i < l.length) : Two b ∧ b.length = 16 * (l.length - i) ∧ hv b = ofd 65536 (l.drop i) := by
  obtain ⟨hT, hl, hv1⟩ := h
  refine ⟨hT, by omega, ?_⟩
  rw [hv1, ofd_drop_succ 65536 l i hi]
  have hg : l.getD i 0 = l[i] := by simp [List.getD, hi]
  rw [hg, Nat.pow_zero, Nat.div_one, show (16 : Nat) - 0 = 16 from rfl, show (2 : Nat) ^ 16 = 65536 by decide, Nat.mul_comm, Nat.add_comm]
end Go.Proofs.YtajcjpbfmpljkaaDoor
set_option linter.unusedVariables false
namespace Go.Proofs.YtajcjpbfmpljkaaDoor
open Go.RowKit

theorem pow16 (a : Nat) : 65536 ^ a = 2 ^ (16 * a) := by rw [show 65536 = 2 ^ 16 by decide, ← Nat.pow_mul]
/-- The sign laid on. -/
def sgd (neg : Bool) (m : Nat) : Int := if neg then -(m : Int) else (m : Int)
theorem rdy_sgd (neg : Bool) (l : List Nat) (E : Int) : rdy neg l E = dy (sgd neg (ofd 65536 l)) (16 * E) := by unfold rdy sgd; rfl
/-! ### Carries. -/
/-! ### Signs. -/
theorem sgd_zero (neg : Bool) : sgd neg 0 = 0 := by unfold sgd; cases neg <;> rfl
end Go.Proofs.YtajcjpbfmpljkaaDoor
set_option linter.unusedVariables false
namespace Go.Proofs.YtajcjpbfmpljkaaDoor

theorem hv_from : ∀ (b : List Nat) (a : Nat), b.foldl (fun a x => 2 * a + x) a = a * 2 ^ b.length + b.foldl (fun a x => 2 * a + x) 0
  | [], a => by simp
  | x :: t, a => by
    rw [List.foldl_cons, List.foldl_cons, hv_from t (2 * a + x), hv_from t (2 * 0 + x), List.length_cons, Nat.pow_succ]
    rw [Nat.add_mul, Nat.add_mul, show 2 * a * 2 ^ t.length = a * (2 ^ t.length * 2) by rw [Nat.mul_comm 2 a, Nat.mul_assoc, Nat.mul_comm 2]]
    omega
theorem hv_append (a b : List Nat) : hv (a ++ b) = hv a * 2 ^ b.length + hv b := by
  unfold hv
  rw [List.foldl_append, hv_from]
theorem hv_cons (x : Nat) (t : List Nat) : hv (x :: t) = x * 2 ^ t.length + hv t := by
  rw [show x :: t = [x] ++ t from rfl, hv_append]
  simp [hv]
theorem hv_lt : ∀ {b : List Nat}, Two b → hv b < 2 ^ b.length
  | [], _ => by simp [hv]
  | x :: t, h => by
    have h1 := hv_lt h.tail
    have h2 := h x List.mem_cons_self
    rw [hv_cons, List.length_cons, Nat.pow_succ]
    have h3 : x * 2 ^ t.length ≤ 1 * 2 ^ t.length := Nat.mul_le_mul_right _ (by omega)
    omega
theorem hv_odd {b : List Nat} (h : b.getLast? = some 1) : hv b % 2 = 1 := by
  rcases List.eq_nil_or_concat b with rfl | ⟨t, d, rfl⟩
  · cases h
  · rw [List.concat_eq_append] at h ⊢
    simp at h
    subst h
    rw [hv_snoc]; omega
theorem hv_bl {b : List Nat} (hT : Two b) (h : b.head? = some 1) : bl (hv b) = b.length := by
  cases b with
  | nil => cases h
  | cons x t =>
    simp at h
    subst h
    have h1 := hv_lt hT
    have h2 : 2 ^ t.length ≤ hv (1 :: t) := by rw [hv_cons]; omega
    have h0 : hv (1 :: t) ≠ 0 := by have := Nat.two_pow_pos t.length; omega
    rw [List.length_cons] at h1 ⊢
    have e : (hv (1 :: t)).log2 = t.length := by
      have a1 : (hv (1 :: t)).log2 < t.length + 1 := (Nat.log2_lt h0).2 h1
      have a2 : t.length ≤ (hv (1 :: t)).log2 := (Nat.le_log2 h0).2 h2
      omega
    unfold bl
    rw [if_neg h0, e]
theorem nib_at {b : List Nat} (hT : Two b) {N j : Nat} (hl : b.length = 4 * N) (hj : j < N) :
    hv b / 16 ^ (N - 1 - j) % 16 = 8 * b.getD (4 * j) 0 + 4 * b.getD (4 * j + 1) 0 + 2 * b.getD (4 * j + 2) 0 + b.getD (4 * j + 3) 0 := by
  have g : ∀ i, i < 4 * N → b.getD i 0 = b.getD i 0 := fun _ _ => rfl
  have hd : ∀ i, i < b.length → b.drop i = b.getD i 0 :: b.drop (i + 1) := fun i hi => by
    rw [List.drop_eq_getElem_cons hi]
    simp [List.getD, hi]
  have h2 : ∀ i, i < b.length → b.getD i 0 < 2 := fun i hi => by
    have : b.getD i 0 = b[i] := by simp [List.getD, hi]
    rw [this]; exact hT _ (List.getElem_mem hi)
  have e : b = b.take (4 * j) ++ b.drop (4 * j) := (List.take_append_drop _ _).symm
  have hb : hv b = hv (b.take (4 * j)) * 2 ^ (b.drop (4 * j)).length + hv (b.drop (4 * j)) := by
    conv => lhs; rw [e]
    exact hv_append _ _
  have l4 : (b.drop (4 * j + 4)).length = 4 * (N - 1 - j) := by rw [List.length_drop]; omega
  have hlt : hv (b.drop (4 * j + 4)) < 2 ^ (4 * (N - 1 - j)) := by
    have := hv_lt (b := b.drop (4 * j + 4)) (fun x hx => hT x (List.mem_of_mem_drop hx))
    rwa [l4] at this
  have hq : hv (b.drop (4 * j)) = (8 * b.getD (4 * j) 0 + 4 * b.getD (4 * j + 1) 0 + 2 * b.getD (4 * j + 2) 0 + b.getD (4 * j + 3) 0) * 2 ^ (4 * (N - 1 - j)) + hv (b.drop (4 * j + 4)) := by
    rw [hd (4 * j) (by omega), hd (4 * j + 1) (by omega), hd (4 * j + 1 + 1) (by omega), hd (4 * j + 1 + 1 + 1) (by omega), hv_cons, hv_cons, hv_cons, hv_cons]
    simp only [List.length_cons, List.length_drop, hl]
    rw [show 4 * N - (4 * j + 1 + 1 + 1 + 1) = 4 * (N - 1 - j) by omega]
    rw [Nat.pow_succ, Nat.pow_succ, Nat.pow_succ]
    generalize 2 ^ (4 * (N - 1 - j)) = P
    rw [Nat.add_mul, Nat.add_mul, Nat.add_mul]
    rw [show b.getD (4 * j) 0 * (P * 2 * 2 * 2) = 8 * b.getD (4 * j) 0 * P by rw [Nat.mul_assoc 8, Nat.mul_left_comm 8]; congr 1; omega]
    rw [show b.getD (4 * j + 1) 0 * (P * 2 * 2) = 4 * b.getD (4 * j + 1) 0 * P by rw [Nat.mul_assoc 4, Nat.mul_left_comm 4]; congr 1; omega]
    rw [show b.getD (4 * j + 1 + 1) 0 * (P * 2) = 2 * b.getD (4 * j + 2) 0 * P by rw [Nat.mul_assoc 2, Nat.mul_left_comm 2]; congr 1; omega]
    rw [show 4 * j + 1 + 1 + 1 = 4 * j + 3 by omega, show 4 * j + 1 + 1 + 1 + 1 = 4 * j + 4 by omega]
    omega
  have l0 : (b.drop (4 * j)).length = 4 * (N - 1 - j) + 4 := by rw [List.length_drop]; omega
  have x0 := h2 (4 * j) (by omega)
  have x1 := h2 (4 * j + 1) (by omega)
  have x2 := h2 (4 * j + 2) (by omega)
  have x3 := h2 (4 * j + 3) (by omega)
  rw [hb, hq, l0, Nat.pow_add, show (16 : Nat) ^ (N - 1 - j) = 2 ^ (4 * (N - 1 - j)) by rw [show (16 : Nat) = 2 ^ 4 by decide, ← Nat.pow_mul]]
  generalize hv (b.take (4 * j)) = T at *
  generalize hv (b.drop (4 * j + 4)) = R at *
  generalize b.getD (4 * j) 0 = d0 at *
  generalize b.getD (4 * j + 1) 0 = d1 at *
  generalize b.getD (4 * j + 2) 0 = d2 at *
  generalize b.getD (4 * j + 3) 0 = d3 at *
  have hp : 0 < 2 ^ (4 * (N - 1 - j)) := Nat.two_pow_pos _
  generalize 2 ^ (4 * (N - 1 - j)) = P at *
  have e1 : T * (P * 2 ^ 4) + ((8 * d0 + 4 * d1 + 2 * d2 + d3) * P + R) = P * (T * 16 + (8 * d0 + 4 * d1 + 2 * d2 + d3)) + R := by
    rw [Nat.mul_add, show (2 : Nat) ^ 4 = 16 by decide, Nat.mul_left_comm, Nat.mul_comm P (8 * d0 + 4 * d1 + 2 * d2 + d3)]
    omega
  rw [e1, Nat.mul_add_div hp, Nat.div_eq_of_lt hlt]
  omega
end Go.Proofs.YtajcjpbfmpljkaaDoor
set_option linter.unusedVariables false
set_option linter.unusedSimpArgs false
namespace Go.Proofs.YtajcjpbfmpljkaaDoor
open Go.RowKit
attribute [local go_sem ↓] Go.wp_at_zero Go.wp_at_succ

/-- Stores into a block that isn't one of ints don't touch the digits. -/
theorem Rd.far {w : World} {A : Option Addr} {n c : Nat} {L : List Nat} (h : Rd w A n c L) {g : Nat} {t : TypeId} {cs : Array Value} (hB : Blk w g t cs) (ht : t ≠ 3) (i : Nat) (u : Value) : Rd (w.setCell ⟨g, i, none⟩ u) A n c L := by
  refine ⟨h.1, h.2.1, ?_, h.2.2.2.1, fun b y e hl => (h.2.2.2.2 b y e hl).set_ _ _⟩
  cases L with
  | nil => exact .inl rfl
  | cons x L =>
    rcases h.2.2.1 with h0 | ⟨b, o, e, hc⟩
    · simp [ints] at h0
    · exact .inr ⟨b, o, e, fun j v hj => (cell_set ((h.2.2.2.2 b o e (by simp)).ne hB ht) u).trans (hc j v hj)⟩
theorem iwrap_in {z : Int} (h : z.natAbs ≤ 8796093022208) : IntKind.i64.wrap z = z := IntWalk.i64_in _ (by omega)
theorem wrap64_in {z : Int} (h : z.natAbs ≤ 8796093022208) : wrap64 z = z := by unfold wrap64; omega
end Go.Proofs.YtajcjpbfmpljkaaDoor
set_option linter.unusedVariables false
namespace Go.Proofs.YtajcjpbfmpljkaaDoor
open Go.RowKit

/-- Number i has come up, too. -/
def did (d : Nat → Bool) (i : Nat) : Nat → Bool := fun j => if j = i then true else d j
/-- What an operation is handed, by the temporaries. -/
def evS (s : Nat → Value) : Operand → Value
  | .tmp t => s t
  | .const v => v
  | .global g => .pointer (some ⟨g, 0, none⟩)
  | .func f => .func (.func f) #[] #[]
theorem evS_of (a : Act) : a.eval = evS (fun k => a.tmps.getD k undef) := by
  funext x; cases x <;> rfl
def sput (s : Nat → Value) (dst : Option Tmp) (v : Value) : Nat → Value := fun k => if dst = some k then v else s k
/-- An operation that yields a value, or a call that returns one. -/
def OpSteps (P : Program) (o : Oper) (ev : Operand → Value) (w : World) (K : Value → World → Prop) : Prop :=
  match (execOp ev o).run P w with
  | .ok (.value v) w' => K v w'
  | .ok .skip w' => K undef w'
  | .ok (.enter f args) w' => Calls P f args w' fun e w'' => ∃ v, e = .returned v ∧ K v w''
  | _ => False
/-- Each waits for earlier ones alone, is not guarded, and writes one of these temporaries. -/
def plainB (L : List Nat) (n : Nat) : Nat → List Oper → Bool
  | _, [] => true
  | i, o :: r => o.after.all (fun e => !Region.binds .any e || decide (e.on < i)) && o.guard.isNone && (match o.dst with | some k => L.contains k && decide (k < n) | none => true) && plainB L n (i + 1) r
theorem plainB_at {L : List Nat} {n : Nat} : ∀ {i : Nat} {ops : List Oper}, plainB L n i ops = true → ∀ {j : Nat} {o : Oper}, ops[j]? = some o → (∀ e ∈ o.after, Region.binds .any e = true → e.on < i + j) ∧ o.guard = none ∧ ∀ k, o.dst = some k → k ∈ L ∧ k < n
  | i, [], _, j, o, h => by simp at h
  | i, x :: r, h, j, o, ho => by
    simp only [plainB, Bool.and_eq_true] at h
    obtain ⟨⟨⟨h1, h2⟩, h3⟩, h4⟩ := h
    cases j with
    | zero =>
      simp at ho
      subst ho
      refine ⟨fun e he hbd => ?_, by simpa using h2, fun k hk => ?_⟩
      · have := Array.all_eq_true_iff_forall_mem.1 h1 e he
        rw [hbd] at this
        simpa using this
      · rw [hk] at h3
        simpa using h3
    | succ j =>
      have := plainB_at h4 (j := j) (o := o) (by simpa using ho)
      refine ⟨fun e he hbd => ?_, this.2⟩
      have := this.1 e he hbd
      omega
/-- What is to be shown of each operation. -/
def AllSteps (P : Program) (t0 : Array Value) (L : List Nat) (J : (Nat → Bool) → (Nat → Value) → World → Prop) : Nat → List Oper → Prop
  | _, [] => True
  | i, o :: r => (∀ d s w, J d s w → (∀ k, k ∉ L → s k = t0.getD k undef) → d i = false → (∀ e ∈ o.after.toList, Region.binds .any e = true → d e.on = true) → OpSteps P o (evS s) w (fun v w' => J (did d i) (sput s o.dst v) w')) ∧ AllSteps P t0 L J (i + 1) r
theorem AllSteps.at_ {P : Program} {t0 : Array Value} {L : List Nat} {J : (Nat → Bool) → (Nat → Value) → World → Prop} : ∀ {i : Nat} {ops : List Oper}, AllSteps P t0 L J i ops → ∀ {j : Nat} {o : Oper}, ops[j]? = some o →
    ∀ d s w, J d s w → (∀ k, k ∉ L → s k = t0.getD k undef) → d (i + j) = false → (∀ e ∈ o.after.toList, Region.binds .any e = true → d e.on = true) → OpSteps P o (evS s) w (fun v w' => J (did d (i + j)) (sput s o.dst v) w')
  | i, [], _, j, o, h => by simp at h
  | i, x :: r, h, j, o, ho => by
    cases j with
    | zero => simp at ho; subst ho; exact h.1
    | succ j =>
      have := AllSteps.at_ h.2 (j := j) (o := o) (by simpa using ho)
      rw [show i + (j + 1) = i + 1 + j by omega]
      exact this
/-- The temporaries behind the region. -/
def setAll (t : Array Value) (s : Nat → Value) : List Nat → Array Value
  | [] => t
  | k :: L => (setAll t s L).setIfInBounds k (s k)
theorem setAll_size (t : Array Value) (s : Nat → Value) (L : List Nat) : (setAll t s L).size = t.size := by
  induction L with
  | nil => rfl
  | cons k L ih => simp [setAll, ih]
theorem setAll_getD (t : Array Value) (s : Nat → Value) (L : List Nat) (k : Nat) (hk : k < t.size) : (setAll t s L).getD k undef = if k ∈ L then s k else t.getD k undef := by
  induction L with
  | nil => simp [setAll]
  | cons x L ih =>
    have hs := setAll_size t s L
    by_cases e : x = k
    · subst e
      simp [setAll, Array.getD, hs, hk]
    · have : (setAll t s (x :: L)).getD k undef = (setAll t s L).getD k undef := by
        simp only [setAll, Array.getD_eq_getD_getElem?]
        rw [Array.getElem?_setIfInBounds_ne e]
      rw [this, ih]
      have e' : ¬ k = x := fun h => e h.symm
      simp [e']
theorem arr_getD (t : Array Value) {i : Nat} (h : i < t.size) : t.getD i undef = t[i] := by simp [Array.getD, h]
structure Fr (a0 : Act) (L : List Nat) (a : Act) : Prop where
  defers : a.defers = a0.defers
  size : a.tmps.size = a0.tmps.size
  keep : ∀ k, k ∉ L → a.tmps.getD k undef = a0.tmps.getD k undef
theorem Fr.eq_ {a0 a : Act} {L : List Nat} (h : Fr a0 L a) : a = ⟨setAll a0.tmps (fun k => a.tmps.getD k undef) L, a0.defers⟩ := by
  obtain ⟨t, df⟩ := a
  obtain ⟨h1, h2, h3⟩ := h
  simp only at h1 h2 h3
  subst h1
  congr 1
  refine Array.ext (by rw [setAll_size, h2]) fun i hi hi' => ?_
  have hi0 : i < a0.tmps.size := by rw [← h2]; exact hi
  have hg := setAll_getD a0.tmps (fun k => t.getD k undef) L i hi0
  have e1 := arr_getD (setAll a0.tmps (fun k => t.getD k undef) L) hi'
  have e2 := arr_getD t hi
  rw [e1] at hg
  refine Eq.trans e2.symm (Eq.trans ?_ hg.symm)
  by_cases hn : i ∈ L
  · rw [if_pos hn]
  · rw [if_neg hn]; exact h3 i hn
theorem Fr.put_ {a0 a : Act} {L : List Nat} (h : Fr a0 L a) {dst : Option Tmp} (hd : ∀ k, dst = some k → k ∈ L) (v : Value) : Fr a0 L (a.put dst v) := by
  cases dst with
  | none => exact h
  | some k =>
    refine ⟨h.defers, by simpa [Act.put] using h.size, fun x hx => ?_⟩
    have : k ≠ x := fun e => hx (e ▸ hd k rfl)
    have e : (a.put (some k) v).tmps.getD x undef = a.tmps.getD x undef := by
      simp only [Act.put, Array.getD_eq_getD_getElem?]
      rw [Array.getElem?_setIfInBounds_ne this]
    rw [e]; exact h.keep x hx
theorem put_slots {a : Act} {n : Nat} (hn : a.tmps.size = n) {dst : Option Tmp} (hd : ∀ k, dst = some k → k < n) (v : Value) : (fun k => (a.put dst v).tmps.getD k undef) = sput (fun k => a.tmps.getD k undef) dst v := by
  funext x
  cases dst with
  | none => simp [Act.put, sput]
  | some k =>
    have hk := hd k rfl
    unfold sput
    by_cases e : k = x
    · subst e
      simp [Act.put, Array.getD, hn, hk]
    · rw [if_neg (by simpa using e)]
      simp only [Act.put, Array.getD_eq_getD_getElem?]
      rw [Array.getElem?_setIfInBounds_ne e]

section
variable {P : Program} {ops : Array Oper} {Q : Exit → Act → World → Prop} {a0 : Act} {L : List Nat} {J : (Nat → Bool) → (Nat → Value) → World → Prop}
theorem wpOp_inv (hp : plainB L a0.tmps.size 0 ops.toList = true) (hs : AllSteps P a0.tmps L J 0 ops.toList) {d : Nat → Bool} {a : Act} {w : World} (hF : Fr a0 L a) (hJ : J d (fun k => a.tmps.getD k undef) w) {i : Nat} {o : Oper} (ho : ops[i]? = some o) (hd : d i = false)
    (hdep : ∀ e ∈ o.after, Region.binds .any e = true → d e.on = true) : wpOp P ops Q i (fun a' w' => Fr a0 L a' ∧ J (did d i) (fun k => a'.tmps.getD k undef) w') a w := by
  have ho' : ops.toList[i]? = some o := by simpa using ho
  obtain ⟨_, hg, hdst⟩ := plainB_at hp ho'
  have h := hs.at_ ho' d _ w hJ (fun k hk => hF.keep k hk) (by simpa using hd) (fun e he => hdep e (by simpa using he))
  rw [Nat.zero_add] at h
  have hput : ∀ v w', J (did d i) (sput (fun k => a.tmps.getD k undef) o.dst v) w' → Fr a0 L (a.put o.dst v) ∧ J (did d i) (fun k => (a.put o.dst v).tmps.getD k undef) w' := fun v w' hj =>
    ⟨hF.put_ (fun k hk => (hdst k hk).1) v, by rw [put_slots hF.size (fun k hk => (hdst k hk).2)]; exact hj⟩
  unfold wpOp
  simp only [ho]
  have hw : Region.wanted o (yielded ops a.tmps) = true := by unfold Region.wanted; rw [hg]
  rw [hw, if_pos rfl]
  refine .inl ?_
  unfold Oper.wp
  rw [evS_of a]
  unfold OpSteps at h
  generalize (execOp (evS fun k => a.tmps.getD k undef) o).run P w = r at *
  cases r with
  | halt x w' => exact h.elim
  | ok n w' =>
    cases n <;> simp only [Oper.upon] at h ⊢
    case value v => exact hput v w' h
    case skip => exact hput undef w' h
    case enter f args =>
      refine Calls.mono h fun e w'' he => ?_
      obtain ⟨v, rfl, hj⟩ := he
      exact hput v w'' hj

theorem wpAny_inv (hp : plainB L a0.tmps.size 0 ops.toList = true) (hs : AllSteps P a0.tmps L J 0 ops.toList)
    (done : ∀ d a w, Fr a0 L a → J d (fun k => a.tmps.getD k undef) w → (∀ i, i < ops.size → d i = true) → Q .normal a w) :
    ∀ (fuel : Nat) (listed : Array Bool) (l : List Nat) (a : Act) (w : World), listed.size = ops.size → l.Nodup → (∀ i, i ∈ l ↔ listed.getD i true = false) → l.length ≤ fuel →
      Fr a0 L a → J (fun j => listed.getD j false) (fun k => a.tmps.getD k undef) w → wpAny P .any ops Q fuel listed a w := by
  have hnone : ∀ (listed : Array Bool), listed.size = ops.size → Region.ready .any ops listed = [] → ∀ i, i < ops.size → listed.getD i false = true := by
    intro listed hsz hr i
    induction i using Nat.strongRecOn with
    | ind i ih =>
      intro hi
      cases hb : listed.getD i false
      · exfalso
        have : i ∈ Region.ready .any ops listed := mem_ready.2 ⟨by simpa [Array.getD, hsz, hi] using hb, ops[i], Array.getElem?_eq_getElem hi, fun e he hbd => by
          have h1 := (plainB_at hp (j := i) (o := ops[i]) (by simp [hi])).1 e he hbd
          exact ih e.on (by omega) (by omega)⟩
        rw [hr] at this; cases this
      · rfl
  intro fuel
  induction fuel with
  | zero =>
    intro listed l a w hsz hnd hl hlen hF hJ
    have hl0 : l = [] := List.length_eq_zero_iff.1 (by omega)
    subst hl0
    have hr : Region.ready .any ops listed = [] := by
      refine List.eq_nil_iff_forall_not_mem.2 fun i hi => ?_
      have := (hl i).2 (mem_ready.1 hi).1
      cases this
    exact ⟨hr, done _ a w hF hJ (hnone listed hsz hr)⟩
  | succ fuel ih =>
    intro listed l a w hsz hnd hl hlen hF hJ
    refine ⟨fun hr => done _ a w hF hJ (hnone listed hsz hr), fun i hi => ?_⟩
    obtain ⟨h0, o, ho, hdep⟩ := mem_ready.1 hi
    have hi2 : i < listed.size := by
      rcases Nat.lt_or_ge i listed.size with h | h
      · exact h
      · simp [Array.getD, Nat.not_lt.2 h] at h0
    have h0' : listed.getD i false = false := by simpa [Array.getD, hi2] using h0
    refine wpOp_mono (fun a' w' h => ?_) (wpOp_inv hp hs hF hJ ho h0' hdep)
    refine ih (listed.setIfInBounds i true) (l.erase i) a' w' (by simp [hsz]) (hnd.erase i) (fun j => ?_) ?_ h.1 ?_
    · rw [hnd.mem_erase_iff, hl j]
      by_cases e : j = i
      · subst e
        simp [Array.getD, hi2]
      · simp only [Array.getD_eq_getD_getElem?]
        rw [Array.getElem?_setIfInBounds_ne (fun h => e h.symm)]
        simp [e]
    · rw [List.length_erase_of_mem ((hl i).2 h0)]; omega
    · have e : (fun j => (listed.setIfInBounds i true).getD j false) = did (fun j => listed.getD j false) i := by
        funext j
        unfold did
        by_cases e : j = i
        · subst e; simp [Array.getD, hi2]
        · rw [if_neg e]
          simp only [Array.getD_eq_getD_getElem?]
          rw [Array.getElem?_setIfInBounds_ne (fun h => e h.symm)]
      rw [e]; exact h.2

/-- THE RULE. -/
theorem wp_region_inv {id : Nat} {t0 : Array Value} {df : List Deferred} {w : World} (L : List Nat) (J : (Nat → Bool) → (Nat → Value) → World → Prop) (hm : P.follows .mixedOrders = true) (hp : plainB L t0.size 0 ops.toList = true)
    (start : J (fun _ => false) (fun k => t0.getD k undef) w.drew) (hs : AllSteps P t0 L J 0 ops.toList)
    (done : ∀ d s w', J d s w' → (∀ i, i < ops.size → d i = true) → Q .normal ⟨setAll t0 s L, df⟩ w') : (Code.region id ops true).wp P Q ⟨t0, df⟩ w := by
  refine wp_region_any hm ?_
  refine wpAny_inv (a0 := ⟨t0, df⟩) (L := L) (J := J) hp hs (fun d a w' hF hJ hd => ?_) ops.size (Array.replicate ops.size false) (List.range ops.size) _ _ (by simp) List.nodup_range (fun i => ?_) (by simp) ⟨rfl, rfl, fun _ _ => rfl⟩ ?_
  · rw [hF.eq_]
    exact done d _ w' hJ hd
  · rw [List.mem_range]
    by_cases h : i < ops.size
    · simp [Array.getD, h]
    · simp [Array.getD, h]
  · have e : (fun j => (Array.replicate ops.size false).getD j false) = fun _ => false := by
      funext j
      simp only [Array.getD_eq_getD_getElem?]
      by_cases h : j < ops.size
      · simp [h]
      · simp [h]
    rw [e]; exact start
end
end Go.Proofs.YtajcjpbfmpljkaaDoor
set_option linter.unusedVariables false
namespace Go.Proofs.YtajcjpbfmpljkaaDoor
open Go.RowKit

/-- An append. -/
theorem opSteps_append {P : Program} {o : Oper} {ev : Operand → Value} {w : World} {K : Value → World → Prop} (s x : Operand) (t : TypeId) (ho : o.op = .call { callee := .builtin .append, args := #[s, x], argTypes := #[t, t] })
    {a b v' : Value} {w' : World} (hs : ev s = a) (hx : ev x = b) (hr : (Builtin.append_ #[t, t] o.type #[a, b]).run P w = .ok v' w') (h : K v' w') : OpSteps P o ev w K := by
  unfold OpSteps execOp
  simp only [ho, resolve, invoke, builtin, Sem.run_bind, Sem.run_pure, Result.andThen_ok, List.map_toArray, List.map_cons, List.map_nil, hs, hx, hr]
  exact h
/-- The Bool of a guard. -/
def yieldS (ops : Array Oper) (s : Nat → Value) (j : Nat) : Option Bool :=
  match (ops[j]?).bind (·.dst) with
  | some k => (match s k with | .bool b => some b | _ => none)
  | none => none
/-- One operation: it is carried out, or passed by. -/
def StepG (P : Program) (ops : Array Oper) (o : Oper) (s : Nat → Value) (w : World) (K : Value → World → Prop) : Prop :=
  if Region.wanted o (yieldS ops s) = true then OpSteps P o (evS s) w K else K undef w
/-- What is to be shown of each operation. -/
def AllStepsG (P : Program) (ops : Array Oper) (t0 : Array Value) (L : List Nat) (J : (Nat → Bool) → (Nat → Value) → World → Prop) : Nat → List Oper → Prop
  | _, [] => True
  | i, o :: r => (∀ d s w, J d s w → (∀ k, k ∉ L → s k = t0.getD k undef) → d i = false → (∀ e ∈ o.after.toList, Region.binds .any e = true → d e.on = true) → StepG P ops o s w (fun v w' => J (did d i) (sput s o.dst v) w')) ∧ AllStepsG P ops t0 L J (i + 1) r
theorem AllStepsG.at_ {P : Program} {ops : Array Oper} {t0 : Array Value} {L : List Nat} {J : (Nat → Bool) → (Nat → Value) → World → Prop} : ∀ {i : Nat} {os : List Oper}, AllStepsG P ops t0 L J i os → ∀ {j : Nat} {o : Oper}, os[j]? = some o →
    ∀ d s w, J d s w → (∀ k, k ∉ L → s k = t0.getD k undef) → d (i + j) = false → (∀ e ∈ o.after.toList, Region.binds .any e = true → d e.on = true) → StepG P ops o s w (fun v w' => J (did d (i + j)) (sput s o.dst v) w')
  | i, [], _, j, o, h => by simp at h
  | i, x :: r, h, j, o, ho => by
    cases j with
    | zero => simp at ho; subst ho; exact h.1
    | succ j =>
      have := AllStepsG.at_ h.2 (j := j) (o := o) (by simpa using ho)
      rw [show i + (j + 1) = i + 1 + j by omega]
      exact this
section
variable {P : Program} {ops : Array Oper} {Q : Exit → Act → World → Prop} {a0 : Act} {L : List Nat} {J : (Nat → Bool) → (Nat → Value) → World → Prop}
end
end Go.Proofs.YtajcjpbfmpljkaaDoor
