/-
Shift: a dyadic number times 2^k. Conditions: its exponent is within 10^18.
-/
import Derived.Test.YtbkbeglmfhaleaaGreatDoorInt
set_option linter.unusedVariables false
namespace Go.Proofs.YtbkbeglmfhaleaaGreatDoor
open Go.RowKit
attribute [local go_sem ↓] Go.wp_at_zero Go.wp_at_succ

/-- How far a shift goes. -/
def far (k : Int) : Int := if k < -1048576 then -1048576 else if 1048576 < k then 1048576 else k
set_option maxHeartbeats 1000000 in
theorem shift_lo (A : Option Addr) (n c : Nat) (m : Int) (A' : Option Addr) (n' c' : Nat) (e k : Int) (D : Dyadic) (w : World) (k1 : k < -1048576)
    (HP : Hid (∀ (B : Option Addr) (k d : Nat) W, Below w.heap.size w W → Wh W B k d (-1048576) → Calls Tryz.prog 53 #[.agg #[.bool (ng e), .slice A' n' c'], .agg #[.bool (ng (-1048576)), .slice B k d]] W (RetW (e + -1048576) W)))
    (HO : Hid (∀ W, Calls Tryz.prog 55 #[.int .i64 (-1048576)] W (RetW (-1048576) W)))
    (HC : Hid (∀ (B : Option Addr) (k d : Nat) W, Below w.heap.size w W → Wh W B k d (e + -1048576) → Calls Tryz.prog 54 #[.agg #[.bool (ng m), .slice A n c], .agg #[.bool (ng (e + -1048576)), .slice B k d]] W (RetD D W))) :
    Calls Tryz.prog 21 #[.agg #[.bool (ng m), .slice A n c, .bool (ng e), .slice A' n' c'], .int .i64 k] w (RetD D w) := by
  go_enter Tryz.func21, Tryz.ntmps21
  go_wp2_with fail
  have HB := Lib.hid ((Blk.new w 37 #[.bool (ng m), .slice A n c, .bool (ng e), .slice A' n' c']).alloc (.cells #[.bool false, .slice none 0 0, .bool false, .slice none 0 0] 37))
  have hBd := Blk.new_ (w.alloc (.cells #[.bool (ng m), .slice A n c, .bool (ng e), .slice A' n' c'] 37)) 37 #[.bool false, .slice none 0 0, .bool false, .slice none 0 0] (w.heap.size + 1) (by simp)
  have HBl := Lib.hid (((Below.refl w.heap.size w).alloc (Nat.le_refl _) (.cells #[.bool (ng m), .slice A n c, .bool (ng e), .slice A' n' c'] 37)).alloc (by simp) (.cells #[.bool false, .slice none 0 0, .bool false, .slice none 0 0] 37))
  obtain ⟨c0, c1, c2, c3, _⟩ := cells4 HB.out
  go_region_held3 (fun w' => w'.cell? ⟨w.heap.size, 0, none⟩ = some (.bool (ng m)) ∧ w'.cell? ⟨w.heap.size, 1, none⟩ = some (.slice A n c) ∧ w'.cell? ⟨w.heap.size, 2, none⟩ = some (.bool (ng e)) ∧ w'.cell? ⟨w.heap.size, 3, none⟩ = some (.slice A' n' c') ∧ Below w.heap.size w w')
    (first | exact ⟨c0, c1, c2, c3, HBl.out.drew⟩ | exact held4c ‹_ ∧ _ ∧ _ ∧ _ ∧ Below w.heap.size w _› hbC | exact held4c ‹_ ∧ _ ∧ _ ∧ _ ∧ Below w.heap.size w _› hbP | exact held4c ‹_ ∧ _ ∧ _ ∧ _ ∧ Below w.heap.size w _› hbO | exact held4s ‹_ ∧ _ ∧ _ ∧ _ ∧ Below w.heap.size w _› _ (by omega) (by omega) (by omega) (by omega) (by omega) _ _ _ _)
    (first
      | (go_at_call 55; refine (HO.out _).mono ?_; rintro e1 wO ⟨BO, kO, dO, rfl, hWO, hbO⟩; have hBO := Blk.next (by assumption) hbO; obtain ⟨r0, r1, r2, r3, f0, f1, f2, f3⟩ := cells4 hBO; skip)
      | (go_at_call 53; refine (HP.out _ _ _ _ (‹_ ∧ _ ∧ _ ∧ _ ∧ Below w.heap.size w _›).2.2.2.2 (by exact hWO)).mono ?_; rintro e1 wP ⟨BP, kP, dP, rfl, hWP, hbP⟩; have hBP := Blk.next (by assumption) hbP; obtain ⟨r0, r1, r2, r3, f0, f1, f2, f3⟩ := cells4 hBP; skip)
      | (go_at_call 54; refine (HC.out _ _ _ _ (‹_ ∧ _ ∧ _ ∧ _ ∧ Below w.heap.size w _›).2.2.2.2 (by exact hWP)).mono ?_; rintro e1 wC ⟨A1, n1, c1, A2, n2, c2, rfl, hD, hbC⟩; have hBC := Blk.next (by assumption) hbC; obtain ⟨r0, r1, r2, r3, f0, f1, f2, f3⟩ := cells4 hBC; skip))
  go_wp2_with fail
  clear r0 r1 r2 r3 f0 f1 f2 f3
  obtain ⟨k0, k1, k2, k3, _⟩ := cells4 (Blk.store4 hBC (.bool (ng (mant D))) (.slice A1 n1 c1) (.bool (ng (expo D))) (.slice A2 n2 c2))
  exact bodyPost_ret (v := .agg #[.bool (ng (mant D)), .slice A1 n1 c1, .bool (ng (expo D)), .slice A2 n2 c2]) (by simp [results, Tryz.results21, go_sem, k0, k1, k2, k3]) rfl
    (RetD_def _ _ _ _ _ _ _ _ _ _ _ _ _ rfl rfl rfl rfl (Wh.store4 hD.1 hBC _ _ _ _) (Wh.store4 hD.2 hBC _ _ _ _) (‹_ ∧ _ ∧ _ ∧ _ ∧ Below w.heap.size w _›).2.2.2.2)

set_option maxHeartbeats 1000000 in
theorem shift_hi (A : Option Addr) (n c : Nat) (m : Int) (A' : Option Addr) (n' c' : Nat) (e k : Int) (D : Dyadic) (w : World) (k1 : 1048576 < k)
    (HP : Hid (∀ (B : Option Addr) (k d : Nat) W, Below w.heap.size w W → Wh W B k d (1048576) → Calls Tryz.prog 53 #[.agg #[.bool (ng e), .slice A' n' c'], .agg #[.bool (ng (1048576)), .slice B k d]] W (RetW (e + 1048576) W)))
    (HO : Hid (∀ W, Calls Tryz.prog 55 #[.int .i64 (1048576)] W (RetW (1048576) W)))
    (HC : Hid (∀ (B : Option Addr) (k d : Nat) W, Below w.heap.size w W → Wh W B k d (e + 1048576) → Calls Tryz.prog 54 #[.agg #[.bool (ng m), .slice A n c], .agg #[.bool (ng (e + 1048576)), .slice B k d]] W (RetD D W))) :
    Calls Tryz.prog 21 #[.agg #[.bool (ng m), .slice A n c, .bool (ng e), .slice A' n' c'], .int .i64 k] w (RetD D w) := by
  go_enter Tryz.func21, Tryz.ntmps21
  go_wp2_with fail
  have HB := Lib.hid ((Blk.new w 37 #[.bool (ng m), .slice A n c, .bool (ng e), .slice A' n' c']).alloc (.cells #[.bool false, .slice none 0 0, .bool false, .slice none 0 0] 37))
  have hBd := Blk.new_ (w.alloc (.cells #[.bool (ng m), .slice A n c, .bool (ng e), .slice A' n' c'] 37)) 37 #[.bool false, .slice none 0 0, .bool false, .slice none 0 0] (w.heap.size + 1) (by simp)
  have HBl := Lib.hid (((Below.refl w.heap.size w).alloc (Nat.le_refl _) (.cells #[.bool (ng m), .slice A n c, .bool (ng e), .slice A' n' c'] 37)).alloc (by simp) (.cells #[.bool false, .slice none 0 0, .bool false, .slice none 0 0] 37))
  obtain ⟨c0, c1, c2, c3, _⟩ := cells4 HB.out
  have kA : -1048576 ≤ k := by omega
  generalize hL : (1048576 : Int) = L at *
  have kB : ¬ k < -L := by omega
  clear hL
  go_region_held3 (fun w' => w'.cell? ⟨w.heap.size, 0, none⟩ = some (.bool (ng m)) ∧ w'.cell? ⟨w.heap.size, 1, none⟩ = some (.slice A n c) ∧ w'.cell? ⟨w.heap.size, 2, none⟩ = some (.bool (ng e)) ∧ w'.cell? ⟨w.heap.size, 3, none⟩ = some (.slice A' n' c') ∧ Below w.heap.size w w')
    (first | exact ⟨c0, c1, c2, c3, HBl.out.drew⟩ | exact held4c ‹_ ∧ _ ∧ _ ∧ _ ∧ Below w.heap.size w _› hbC | exact held4c ‹_ ∧ _ ∧ _ ∧ _ ∧ Below w.heap.size w _› hbP | exact held4c ‹_ ∧ _ ∧ _ ∧ _ ∧ Below w.heap.size w _› hbO | exact held4s ‹_ ∧ _ ∧ _ ∧ _ ∧ Below w.heap.size w _› _ (by omega) (by omega) (by omega) (by omega) (by omega) _ _ _ _)
    (first
      | (go_at_call 55; refine (HO.out _).mono ?_; rintro e1 wO ⟨BO, kO, dO, rfl, hWO, hbO⟩; have hBO := Blk.next (by assumption) hbO; obtain ⟨r0, r1, r2, r3, f0, f1, f2, f3⟩ := cells4 hBO; skip)
      | (go_at_call 53; refine (HP.out _ _ _ _ (‹_ ∧ _ ∧ _ ∧ _ ∧ Below w.heap.size w _›).2.2.2.2 (by exact hWO)).mono ?_; rintro e1 wP ⟨BP, kP, dP, rfl, hWP, hbP⟩; have hBP := Blk.next (by assumption) hbP; obtain ⟨r0, r1, r2, r3, f0, f1, f2, f3⟩ := cells4 hBP; skip)
      | (go_at_call 54; refine (HC.out _ _ _ _ (‹_ ∧ _ ∧ _ ∧ _ ∧ Below w.heap.size w _›).2.2.2.2 (by exact hWP)).mono ?_; rintro e1 wC ⟨A1, n1, c1, A2, n2, c2, rfl, hD, hbC⟩; have hBC := Blk.next (by assumption) hbC; obtain ⟨r0, r1, r2, r3, f0, f1, f2, f3⟩ := cells4 hBC; skip))
  go_wp2_with fail
  clear r0 r1 r2 r3 f0 f1 f2 f3
  obtain ⟨k0, k1, k2, k3, _⟩ := cells4 (Blk.store4 hBC (.bool (ng (mant D))) (.slice A1 n1 c1) (.bool (ng (expo D))) (.slice A2 n2 c2))
  exact bodyPost_ret (v := .agg #[.bool (ng (mant D)), .slice A1 n1 c1, .bool (ng (expo D)), .slice A2 n2 c2]) (by simp [results, Tryz.results21, go_sem, k0, k1, k2, k3]) rfl
    (RetD_def _ _ _ _ _ _ _ _ _ _ _ _ _ rfl rfl rfl rfl (Wh.store4 hD.1 hBC _ _ _ _) (Wh.store4 hD.2 hBC _ _ _ _) (‹_ ∧ _ ∧ _ ∧ _ ∧ Below w.heap.size w _›).2.2.2.2)

set_option maxHeartbeats 1000000 in
theorem shift_mid (A : Option Addr) (n c : Nat) (m : Int) (A' : Option Addr) (n' c' : Nat) (e k : Int) (D : Dyadic) (w : World) (k1 : -1048576 ≤ k) (k2 : k ≤ 1048576)
    (HP : Hid (∀ (B : Option Addr) (kk d : Nat) W, Below w.heap.size w W → Wh W B kk d k → Calls Tryz.prog 53 #[.agg #[.bool (ng e), .slice A' n' c'], .agg #[.bool (ng k), .slice B kk d]] W (RetW (e + k) W)))
    (HO : Hid (∀ W, Calls Tryz.prog 55 #[.int .i64 k] W (RetW k W)))
    (HC : Hid (∀ (B : Option Addr) (kk d : Nat) W, Below w.heap.size w W → Wh W B kk d (e + k) → Calls Tryz.prog 54 #[.agg #[.bool (ng m), .slice A n c], .agg #[.bool (ng (e + k)), .slice B kk d]] W (RetD D W))) :
    Calls Tryz.prog 21 #[.agg #[.bool (ng m), .slice A n c, .bool (ng e), .slice A' n' c'], .int .i64 k] w (RetD D w) := by
  go_enter Tryz.func21, Tryz.ntmps21
  go_wp2_with fail
  have HB := Lib.hid ((Blk.new w 37 #[.bool (ng m), .slice A n c, .bool (ng e), .slice A' n' c']).alloc (.cells #[.bool false, .slice none 0 0, .bool false, .slice none 0 0] 37))
  have hBd := Blk.new_ (w.alloc (.cells #[.bool (ng m), .slice A n c, .bool (ng e), .slice A' n' c'] 37)) 37 #[.bool false, .slice none 0 0, .bool false, .slice none 0 0] (w.heap.size + 1) (by simp)
  have HBl := Lib.hid (((Below.refl w.heap.size w).alloc (Nat.le_refl _) (.cells #[.bool (ng m), .slice A n c, .bool (ng e), .slice A' n' c'] 37)).alloc (by simp) (.cells #[.bool false, .slice none 0 0, .bool false, .slice none 0 0] 37))
  obtain ⟨c0, c1, c2, c3, _⟩ := cells4 HB.out
  have kA : -1048576 ≤ k := by omega
  generalize hL : (1048576 : Int) = L at *
  have kB : ¬ k < -L := by omega
  have kC : ¬ L < k := by omega
  clear hL
  go_region_held3 (fun w' => w'.cell? ⟨w.heap.size, 0, none⟩ = some (.bool (ng m)) ∧ w'.cell? ⟨w.heap.size, 1, none⟩ = some (.slice A n c) ∧ w'.cell? ⟨w.heap.size, 2, none⟩ = some (.bool (ng e)) ∧ w'.cell? ⟨w.heap.size, 3, none⟩ = some (.slice A' n' c') ∧ Below w.heap.size w w')
    (first | exact ⟨c0, c1, c2, c3, HBl.out.drew⟩ | exact held4c ‹_ ∧ _ ∧ _ ∧ _ ∧ Below w.heap.size w _› hbC | exact held4c ‹_ ∧ _ ∧ _ ∧ _ ∧ Below w.heap.size w _› hbP | exact held4c ‹_ ∧ _ ∧ _ ∧ _ ∧ Below w.heap.size w _› hbO | exact held4s ‹_ ∧ _ ∧ _ ∧ _ ∧ Below w.heap.size w _› _ (by omega) (by omega) (by omega) (by omega) (by omega) _ _ _ _)
    (first
      | (go_at_call 55; refine (HO.out _).mono ?_; rintro e1 wO ⟨BO, kO, dO, rfl, hWO, hbO⟩; have hBO := Blk.next (by assumption) hbO; obtain ⟨r0, r1, r2, r3, f0, f1, f2, f3⟩ := cells4 hBO; skip)
      | (go_at_call 53; refine (HP.out _ _ _ _ (‹_ ∧ _ ∧ _ ∧ _ ∧ Below w.heap.size w _›).2.2.2.2 (by exact hWO)).mono ?_; rintro e1 wP ⟨BP, kP, dP, rfl, hWP, hbP⟩; have hBP := Blk.next (by assumption) hbP; obtain ⟨r0, r1, r2, r3, f0, f1, f2, f3⟩ := cells4 hBP; skip)
      | (go_at_call 54; refine (HC.out _ _ _ _ (‹_ ∧ _ ∧ _ ∧ _ ∧ Below w.heap.size w _›).2.2.2.2 (by exact hWP)).mono ?_; rintro e1 wC ⟨A1, n1, c1, A2, n2, c2, rfl, hD, hbC⟩; have hBC := Blk.next (by assumption) hbC; obtain ⟨r0, r1, r2, r3, f0, f1, f2, f3⟩ := cells4 hBC; skip))
  go_wp2_with fail
  clear r0 r1 r2 r3 f0 f1 f2 f3
  obtain ⟨k0, k1, k2, k3, _⟩ := cells4 (Blk.store4 hBC (.bool (ng (mant D))) (.slice A1 n1 c1) (.bool (ng (expo D))) (.slice A2 n2 c2))
  exact bodyPost_ret (v := .agg #[.bool (ng (mant D)), .slice A1 n1 c1, .bool (ng (expo D)), .slice A2 n2 c2]) (by simp [results, Tryz.results21, go_sem, k0, k1, k2, k3]) rfl
    (RetD_def _ _ _ _ _ _ _ _ _ _ _ _ _ rfl rfl rfl rfl (Wh.store4 hD.1 hBC _ _ _ _) (Wh.store4 hD.2 hBC _ _ _ _) (‹_ ∧ _ ∧ _ ∧ _ ∧ Below w.heap.size w _›).2.2.2.2)

theorem shift_any (A : Option Addr) (n c : Nat) (m : Int) (A' : Option Addr) (n' c' : Nat) (e k : Int) (w : World) (h : Wh w A n c m) (h' : Wh w A' n' c' e) (hn : n ≤ 137438953472) (he : e.natAbs ≤ 1000000000000000000) (hg : Glob w) :
    Calls Tryz.prog 21 #[.agg #[.bool (ng m), .slice A n c, .bool (ng e), .slice A' n' c'], .int .i64 k] w (RetD (dy m (e + far k)) w) := by
  have hwe : wl e ≤ 1 := wl_small (by omega) (by omega)
  have key : ∀ K : Int, -1048576 ≤ K → K ≤ 1048576 →
      Hid (∀ (B : Option Addr) (kk d : Nat) W, Below w.heap.size w W → Wh W B kk d K → Calls Tryz.prog 53 #[.agg #[.bool (ng e), .slice A' n' c'], .agg #[.bool (ng K), .slice B kk d]] W (RetW (e + K) W)) ∧
      Hid (∀ W, Calls Tryz.prog 55 #[.int .i64 K] W (RetW K W)) ∧
      Hid (∀ (B : Option Addr) (kk d : Nat) W, Below w.heap.size w W → Wh W B kk d (e + K) → Calls Tryz.prog 54 #[.agg #[.bool (ng m), .slice A n c], .agg #[.bool (ng (e + K)), .slice B kk d]] W (RetD (dy m (e + K)) W)) := by
    intro K h0 h1
    have hwk : wl K ≤ 1 := wl_small (by omega) (by omega)
    have hws : wl (e + K) ≤ 1 := wl_small (by omega) (by omega)
    exact ⟨Lib.hid fun B kk d W hb hw => plus_any A' n' c' e B kk d K W (h'.below hb) hw (by omega) (by omega),
      Lib.hid fun W => wholeOf_any K W (by omega) (by omega),
      Lib.hid fun B kk d W hb hw => canonical_any A n c m B kk d (e + K) W (h.below hb) hw hn (by rw [hw.1]; omega) (hg.below hb)⟩
  unfold far
  split
  · rename_i hk
    obtain ⟨a, b, d⟩ := key (-1048576) (by omega) (by omega)
    exact shift_lo A n c m A' n' c' e k _ w hk a b d
  · split
    · rename_i hk hk2
      obtain ⟨a, b, d⟩ := key 1048576 (by omega) (by omega)
      exact shift_hi A n c m A' n' c' e k _ w hk2 a b d
    · obtain ⟨a, b, d⟩ := key k (by omega) (by omega)
      exact shift_mid A n c m A' n' c' e k _ w (by omega) (by omega) a b d
end Go.Proofs.YtbkbeglmfhaleaaGreatDoor
