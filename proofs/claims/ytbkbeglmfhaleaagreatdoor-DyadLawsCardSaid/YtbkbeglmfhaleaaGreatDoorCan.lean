/-
canonical: m times 2^e. Conditions: as each says.
-/
import Derived.Test.YtbkbeglmfhaleaaGreatDoorW7
set_option linter.unusedVariables false
namespace Go.Proofs.YtbkbeglmfhaleaaGreatDoor
open Go.RowKit
attribute [local go_sem ↓] Go.wp_at_zero Go.wp_at_succ

theorem held4c {w W w' : World} {b0 o0 b1 o1 b2 o2 b3 o3 : Nat} {v0 v1 v2 v3 : Value} (h : W.cell? ⟨b0, o0, none⟩ = some v0 ∧ W.cell? ⟨b1, o1, none⟩ = some v1 ∧ W.cell? ⟨b2, o2, none⟩ = some v2 ∧ W.cell? ⟨b3, o3, none⟩ = some v3 ∧ Below w.heap.size w W) (hb : Below W.heap.size W w') :
    w'.cell? ⟨b0, o0, none⟩ = some v0 ∧ w'.cell? ⟨b1, o1, none⟩ = some v1 ∧ w'.cell? ⟨b2, o2, none⟩ = some v2 ∧ w'.cell? ⟨b3, o3, none⟩ = some v3 ∧ Below w.heap.size w w' :=
  ⟨cell_below h.1 hb, cell_below h.2.1 hb, cell_below h.2.2.1 hb, cell_below h.2.2.2.1 hb, h.2.2.2.2.trans (hb.mono h.2.2.2.2.size)⟩
theorem held4s {w W : World} {b0 o0 b1 o1 b2 o2 b3 o3 : Nat} {v0 v1 v2 v3 : Value} (h : W.cell? ⟨b0, o0, none⟩ = some v0 ∧ W.cell? ⟨b1, o1, none⟩ = some v1 ∧ W.cell? ⟨b2, o2, none⟩ = some v2 ∧ W.cell? ⟨b3, o3, none⟩ = some v3 ∧ Below w.heap.size w W)
    (g : Nat) (h0 : b0 ≠ g) (h1 : b1 ≠ g) (h2 : b2 ≠ g) (h3 : b3 ≠ g) (hg : w.heap.size ≤ g) (x0 x1 x2 x3 : Value) :
    ((((W.setCell ⟨g, 0, none⟩ x0).setCell ⟨g, 1, none⟩ x1).setCell ⟨g, 2, none⟩ x2).setCell ⟨g, 3, none⟩ x3).cell? ⟨b0, o0, none⟩ = some v0 ∧
    ((((W.setCell ⟨g, 0, none⟩ x0).setCell ⟨g, 1, none⟩ x1).setCell ⟨g, 2, none⟩ x2).setCell ⟨g, 3, none⟩ x3).cell? ⟨b1, o1, none⟩ = some v1 ∧
    ((((W.setCell ⟨g, 0, none⟩ x0).setCell ⟨g, 1, none⟩ x1).setCell ⟨g, 2, none⟩ x2).setCell ⟨g, 3, none⟩ x3).cell? ⟨b2, o2, none⟩ = some v2 ∧
    ((((W.setCell ⟨g, 0, none⟩ x0).setCell ⟨g, 1, none⟩ x1).setCell ⟨g, 2, none⟩ x2).setCell ⟨g, 3, none⟩ x3).cell? ⟨b3, o3, none⟩ = some v3 ∧
    Below w.heap.size w ((((W.setCell ⟨g, 0, none⟩ x0).setCell ⟨g, 1, none⟩ x1).setCell ⟨g, 2, none⟩ x2).setCell ⟨g, 3, none⟩ x3) := by
  refine ⟨?_, ?_, ?_, ?_, ((((h.2.2.2.2.setCell hg _).setCell hg _).setCell hg _).setCell hg _)⟩
  · rw [cell_set h0, cell_set h0, cell_set h0, cell_set h0]; exact h.1
  · rw [cell_set h1, cell_set h1, cell_set h1, cell_set h1]; exact h.2.1
  · rw [cell_set h2, cell_set h2, cell_set h2, cell_set h2]; exact h.2.2.1
  · rw [cell_set h3, cell_set h3, cell_set h3, cell_set h3]; exact h.2.2.2.1
theorem Blk.next {w w' : World} {g : Nat} {t : TypeId} {cs : Array Value} (h : Blk w g t cs) (hb : Below w.heap.size w w') : Blk w' g t cs := h.below hb h.lt

theorem halved_all (A : Option Addr) (n c : Nat) (z y : Int) (v : Nat) (w : World) (h : Wh w A n c z) (hn : n ≤ 137438953472) (hz : z = y * 2 ^ v) (hy : y ≠ 0) (hv : v ≤ 8796093022208) :
    Calls Tryz.prog 89 #[.agg #[.bool (ng z), .slice A n c], .int .i64 (v : Int)] w (RetW y w) := by
  rcases Nat.eq_zero_or_pos v with rfl | h0
  · have : z = y := by simpa using hz
    subst this
    exact halved_zero A n c z w h
  · exact halved_any A n c z y v w h hn hz hy hv h0
theorem odd_part (z : Int) (h : z ≠ 0) : ∃ (y : Int) (v : Nat), z = y * 2 ^ v ∧ y % 2 = 1 ∧ z.natAbs = y.natAbs * 2 ^ v ∧ y.natAbs % 2 = 1 ∧ y ≠ 0 := by
  have key : ∀ n : Nat, n ≠ 0 → ∃ k v, n = k * 2 ^ v ∧ k % 2 = 1 := by
    intro n
    induction n using Nat.strongRecOn with
    | ind n ih =>
      intro h0
      by_cases ho : n % 2 = 1
      · exact ⟨n, 0, by simp, ho⟩
      · obtain ⟨k, v, e, hk⟩ := ih (n / 2) (by omega) (by omega)
        exact ⟨k, v + 1, by rw [Nat.pow_succ, ← Nat.mul_assoc, ← e]; omega, hk⟩
  obtain ⟨k, v, e, hk⟩ := key z.natAbs (by omega)
  have hc : ((2 ^ v : Nat) : Int) = 2 ^ v := by simp
  rcases Int.lt_or_le z 0 with hz | hz
  · refine ⟨-(k : Int), v, ?_, by omega, by rw [Int.natAbs_neg, Int.natAbs_natCast]; exact e, by omega, by omega⟩
    rw [Int.neg_mul, ← hc, ← Int.natCast_mul, ← e]; omega
  · refine ⟨(k : Int), v, ?_, by omega, by rw [Int.natAbs_natCast]; exact e, by omega, by omega⟩
    rw [← hc, ← Int.natCast_mul, ← e]; omega
theorem dy_parts {z y e : Int} {v : Nat} (hz : z = y * 2 ^ v) (hy : y % 2 = 1) : mant (dy z e) = y ∧ expo (dy z e) = e + v := by
  rw [hz, dy_pow]
  exact ⟨mant_dy _ _ hy, expo_dy _ _ hy⟩
theorem RetD_def (d : Dyadic) (w : World) (a a' : Bool) (A A' : Option Addr) (n c n' c' : Nat) (m e : Int) (w' : World) (hm : mant d = m) (he : expo d = e) (ha : a = ng m) (ha' : a' = ng e) (h : Wh w' A n c m) (h' : Wh w' A' n' c' e) (hb : Below w.heap.size w w') :
    RetD d w (.returned (.agg #[.bool a, .slice A n c, .bool a', .slice A' n' c'])) w' := by
  subst ha ha' hm he; exact ⟨A, n, c, A', n', c', rfl, ⟨h, h'⟩, hb⟩

set_option maxHeartbeats 1000000 in
theorem canonical_any (A : Option Addr) (n c : Nat) (m : Int) (A' : Option Addr) (n' c' : Nat) (e : Int) (w : World) (h : Wh w A n c m) (h' : Wh w A' n' c' e) (hn : n ≤ 137438953472) (hn' : n' ≤ 137438953472) (hg : Glob w) :
    Calls Tryz.prog 54 #[.agg #[.bool (ng m), .slice A n c], .agg #[.bool (ng e), .slice A' n' c']] w (RetD (dy m e) w) := by
  have H := Lib.hid h
  have H' := Lib.hid h'
  have HG := Lib.hid hg
  have HN := Lib.hid h.1
  have HN' := Lib.hid h'.1
  by_cases h0 : m = 0
  · have HZ := Lib.hid h0
    have hs : m.sign = 0 := by rw [h0]; rfl
    have HS := Lib.hid hs
    clear h h' hg h0 hs
    go_enter Tryz.func54, Tryz.ntmps54
    go_wp2_with fail
    refine (sign_any A n c m _ HN.out).mono ?_
    rintro e1 w1 ⟨rfl, hb⟩
    rw [HS.out]
    obtain ⟨hc, hf⟩ := bcell hb
    have hB := (Blk.new_ ((w.alloc (.cells #[.bool (ng m), .slice A n c] 35)).alloc (.cells #[.bool (ng e), .slice A' n' c'] 35)) 37 #[.bool false, .slice none 0 0, .bool false, .slice none 0 0] (w.heap.size + 1 + 1) (by simp)).next hb
    obtain ⟨r0, r1, r2, r3, f0, f1, f2, f3⟩ := cells4 hB
    have HB := Lib.hid hB
    have HBl := Lib.hid (((((Below.refl w.heap.size w).alloc (Nat.le_refl _) (.cells #[.bool (ng m), .slice A n c] 35)).alloc (by simp) (.cells #[.bool (ng e), .slice A' n' c'] 35)).alloc (by simp <;> omega) (.cells #[.bool false, .slice none 0 0, .bool false, .slice none 0 0] 37)).trans (hb.mono (by simp <;> omega)))
    clear hb hc hf hB
    go_wp2_with fail
    obtain ⟨k0, k1, k2, k3, _⟩ := cells4 (HB.out.store4 (.bool false) (.slice none 0 0) (.bool false) (.slice none 0 0))
    exact bodyPost_ret (v := .agg #[.bool false, .slice none 0 0, .bool false, .slice none 0 0]) (by simp [results, Tryz.results54, go_sem, k0, k1, k2, k3]) rfl
      (RetD_def _ _ _ _ _ _ _ _ _ _ 0 0 _ (by rw [HZ.out]; rfl) (by rw [HZ.out]; rfl) rfl rfl (Wh.zero _ _ _) (Wh.zero _ _ _) ((((HBl.out.setCell (by simp <;> omega) _).setCell (by simp <;> omega) _).setCell (by simp <;> omega) _).setCell (by simp <;> omega) _))
  · obtain ⟨y, v, hz, hy, hza, hya, hy0⟩ := odd_part m h0
    have hs : (m.sign == 0) = false := by
      rcases Int.lt_or_gt_of_ne h0 with hl | hl
      · rw [Int.sign_eq_neg_one_of_neg hl]; rfl
      · rw [Int.sign_eq_one_of_pos hl]; rfl
    have hvb : v ≤ 8796093022208 := by
      have h1 := bl_wl m _ (by rw [← h.1]; exact hn)
      rw [hza, bl_mul (by omega)] at h1
      omega
    obtain ⟨p1, p2⟩ := dy_parts (e := e) hz hy
    have hwv : wl ((v : Nat) : Int) ≤ 137438953472 := by
      refine Nat.le_trans ((wl_le _ 1).2 ?_) (by omega)
      rw [Nat.pow_one, Q_val]; omega
    have HH := Lib.hid (fun W (hb : Below w.heap.size w W) => halved_all A n c m y v W (h.below hb) hn hz hy0 hvb)
    have HE := Lib.hid (fun W (hb : Below w.heap.size w W) => evens_any A n c m y.natAbs v W (h.below hb) (by omega) hza hya (hg.below hb))
    have HP := Lib.hid (fun (B : Option Addr) (k d : Nat) W (hb : Below w.heap.size w W) (hw : Wh W B k d ((v : Nat) : Int)) => plus_any A' n' c' e B k d (v : Int) W (h'.below hb) hw (by rw [← h'.1]; exact hn') hwv)
    have HO := Lib.hid (fun W => wholeOf_any (v : Int) W (by omega) (by omega))
    have HM := Lib.hid p1
    have HX := Lib.hid p2
    clear h h' hg h0 hz hy hza hya hy0 p1 p2 hwv
    go_enter Tryz.func54, Tryz.ntmps54
    go_wp2_with fail
    refine (sign_any A n c m _ HN.out).mono ?_
    rintro e1 w1 ⟨rfl, hb⟩
    have hB := (Blk.new_ ((w.alloc (.cells #[.bool (ng m), .slice A n c] 35)).alloc (.cells #[.bool (ng e), .slice A' n' c'] 35)) 37 #[.bool false, .slice none 0 0, .bool false, .slice none 0 0] (w.heap.size + 1 + 1) (by simp)).next hb
    have hC := (((Blk.new w 35 #[.bool (ng m), .slice A n c]).alloc (.cells #[.bool (ng e), .slice A' n' c'] 35)).alloc (.cells #[.bool false, .slice none 0 0, .bool false, .slice none 0 0] 37)).next hb
    have hD := ((Blk.new_ (w.alloc (.cells #[.bool (ng m), .slice A n c] 35)) 35 #[.bool (ng e), .slice A' n' c'] (w.heap.size + 1) (by simp)).alloc (.cells #[.bool false, .slice none 0 0, .bool false, .slice none 0 0] 37)).next hb
    have hBl : Below w.heap.size w w1 := ((((Below.refl w.heap.size w).alloc (Nat.le_refl _) (.cells #[.bool (ng m), .slice A n c] 35)).alloc (by simp) (.cells #[.bool (ng e), .slice A' n' c'] 35)).alloc (by simp <;> omega) (.cells #[.bool false, .slice none 0 0, .bool false, .slice none 0 0] 37)).trans (hb.mono (by simp <;> omega))
    obtain ⟨a0, a1, _⟩ := cells2 hC
    have HB := Lib.hid hB
    have HC := Lib.hid hC
    have HD := Lib.hid hD
    have HBl := Lib.hid hBl
    clear hb hB hC hD hBl
    go_wp2_with fail
    refine (HE.out _ HBl.out).mono ?_
    rintro e1 w2 ⟨rfl, hb⟩
    have hB := HB.out.next hb
    obtain ⟨c0, c1, _⟩ := cells2 (HC.out.next hb)
    obtain ⟨d0, d1, _⟩ := cells2 (HD.out.next hb)
    have HBl2 := Lib.hid (HBl.out.trans (hb.mono HBl.out.size))
    have hBd : Blk w2.drew (w.heap.size + 1 + 1) 37 #[.bool false, .slice none 0 0, .bool false, .slice none 0 0] := hB
    clear hb hB HB HC HD HBl a0 a1
    go_wp2_with fail
    go_region_held3 (fun w' => w'.cell? ⟨w.heap.size, 0, none⟩ = some (.bool (ng m)) ∧ w'.cell? ⟨w.heap.size, 1, none⟩ = some (.slice A n c) ∧ w'.cell? ⟨w.heap.size + 1, 0, none⟩ = some (.bool (ng e)) ∧ w'.cell? ⟨w.heap.size + 1, 1, none⟩ = some (.slice A' n' c') ∧ Below w.heap.size w w')
      (first | exact ⟨c0, c1, d0, d1, HBl2.out.drew⟩ | exact held4c ‹_ ∧ _ ∧ _ ∧ _ ∧ Below w.heap.size w _› hbP | exact held4c ‹_ ∧ _ ∧ _ ∧ _ ∧ Below w.heap.size w _› hbH | exact held4c ‹_ ∧ _ ∧ _ ∧ _ ∧ Below w.heap.size w _› hbO | exact held4s ‹_ ∧ _ ∧ _ ∧ _ ∧ Below w.heap.size w _› _ (by omega) (by omega) (by omega) (by omega) (by omega) _ _ _ _)
      (first
        | (go_at_call 89; refine (HH.out _ (‹_ ∧ _ ∧ _ ∧ _ ∧ Below w.heap.size w _›).2.2.2.2).mono ?_; rintro e1 wH ⟨BH, kH, dH, rfl, hWH, hbH⟩; have hBH := Blk.next (by assumption) hbH; obtain ⟨r0, r1, r2, r3, f0, f1, f2, f3⟩ := cells4 hBH; skip)
        | (go_at_call 55; refine (HO.out _).mono ?_; rintro e1 wO ⟨BO, kO, dO, rfl, hWO, hbO⟩; have hBO := Blk.next (by assumption) hbO; obtain ⟨r0, r1, r2, r3, f0, f1, f2, f3⟩ := cells4 hBO; skip)
        | (go_at_call 53; refine (HP.out _ _ _ _ (‹_ ∧ _ ∧ _ ∧ _ ∧ Below w.heap.size w _›).2.2.2.2 (by first | exact hWO | exact hWO.below hbH)).mono ?_; rintro e1 wP ⟨BP, kP, dP, rfl, hWP, hbP⟩; have hBP := Blk.next (by assumption) hbP; obtain ⟨r0, r1, r2, r3, f0, f1, f2, f3⟩ := cells4 hBP; skip))
    all_goals
      go_wp2_with fail
      clear r0 r1 r2 r3 f0 f1 f2 f3
    all_goals first
      |
      (obtain ⟨k0, k1, k2, k3, _⟩ := cells4 (Blk.store4 hBP (.bool (ng y)) (.slice BH kH dH) (.bool (ng (e + (v : Int)))) (.slice BP kP dP))
       exact bodyPost_ret (v := .agg #[.bool (ng y), .slice BH kH dH, .bool (ng (e + (v : Int))), .slice BP kP dP]) (by simp [results, Tryz.results54, go_sem, k0, k1, k2, k3]) rfl
         (RetD_def _ _ _ _ _ _ _ _ _ _ y (e + (v : Int)) _ HM.out HX.out rfl rfl (Wh.store4 (hWH.below hbP) hBP _ _ _ _) (Wh.store4 hWP hBP _ _ _ _) (‹_ ∧ _ ∧ _ ∧ _ ∧ Below w.heap.size w _›).2.2.2.2))
      |
      (obtain ⟨k0, k1, k2, k3, _⟩ := cells4 (Blk.store4 hBP (.bool (ng y)) (.slice BH kH dH) (.bool (ng (e + (v : Int)))) (.slice BP kP dP))
       exact bodyPost_ret (v := .agg #[.bool (ng y), .slice BH kH dH, .bool (ng (e + (v : Int))), .slice BP kP dP]) (by simp [results, Tryz.results54, go_sem, k0, k1, k2, k3]) rfl
         (RetD_def _ _ _ _ _ _ _ _ _ _ y (e + (v : Int)) _ HM.out HX.out rfl rfl (Wh.store4 ((hWH.below hbO).below hbP) hBP _ _ _ _) (Wh.store4 hWP hBP _ _ _ _) (‹_ ∧ _ ∧ _ ∧ _ ∧ Below w.heap.size w _›).2.2.2.2))
      |
      (obtain ⟨k0, k1, k2, k3, _⟩ := cells4 (Blk.store4 hBH (.bool (ng y)) (.slice BH kH dH) (.bool (ng (e + (v : Int)))) (.slice BP kP dP))
       exact bodyPost_ret (v := .agg #[.bool (ng y), .slice BH kH dH, .bool (ng (e + (v : Int))), .slice BP kP dP]) (by simp [results, Tryz.results54, go_sem, k0, k1, k2, k3]) rfl
         (RetD_def _ _ _ _ _ _ _ _ _ _ y (e + (v : Int)) _ HM.out HX.out rfl rfl (Wh.store4 hWH hBH _ _ _ _) (Wh.store4 (hWP.below hbH) hBH _ _ _ _) (‹_ ∧ _ ∧ _ ∧ _ ∧ Below w.heap.size w _›).2.2.2.2))
end Go.Proofs.YtbkbeglmfhaleaaGreatDoor
