/-
Gemv: a column of a matrix; what is added to a number, column by column. Conditions: as each says.
-/
import Derived.Test.YtcdhpoikppfjkaaZYGvA
import Derived.Test.YtcdhpoikppfjkaaWaai
import Derived.Test.YtcdhpoikppfjkaaWaal
import Derived.Test.YtcdhpoikppfjkaaWaaf
set_option linter.unusedVariables false
set_option linter.unusedSimpArgs false
set_option linter.unnecessarySimpa false
namespace Go.Proofs.Ytcdhpoikppfjkaa
open Go.RowKit
attribute [local go_sem ↓] Go.wp_at_zero Go.wp_at_succ

/-- A column that is there. -/
def colOff (off r ld j : Int) : Int := if r = 0 then off else off + j * ld
set_option maxHeartbeats 1000000 in
theorem vcol_some (A : Option Addr) (n c : Nat) (off r k ld j : Int) (w : World) (hn : n < 9223372036854775808) (ho : I64 off) (hr : I64 r) (hk : I64 k) (hi : I64 ld) (h1 : I64 j) (hm : matB n off r k ld = true) (h : 0 ≤ j ∧ j < k) :
    Calls Try.prog 54 #[mat A n c off r k ld, .int .i64 j] w fun e w' => e = .returned (vec A n c (colOff off r ld j) r 1) ∧ Below w.heap.size w w' := by
  have q1 := of_decide_eq_true hm
  have hk' := hk
  have hr' := hr
  unfold I64 at hk' hr'
  have HG := Lib.hid (fun W => good_any A n c off r k ld W hn ho hr hk hi)
  rw [hm] at HG
  have HW := Lib.hid (fun W => within_any j k W)
  have hww : (decide (0 ≤ j) && decide (j < k)) = true := by simp; omega
  rw [hww] at HW
  have HPt := Lib.hid (fun W => part_some A n c off r k ld 0 j r 1 W hn ho hr hk hi (by unfold I64; omega) h1 hr (by unfold I64; omega) (by
    unfold partB
    rw [hm]
    have e1 : fitsB 0 r r = true := decide_eq_true (by omega)
    have e2 : fitsB j 1 k = true := decide_eq_true (by omega)
    rw [e1, e2]; rfl))
  have hpo : partOff off ld 0 j r 1 = colOff off r ld j := by
    unfold partOff colOff
    by_cases e : r = 0
    · rw [if_pos (by omega), if_pos e]
    · rw [if_neg (by omega), if_neg e]; omega
  rw [hpo] at HPt
  generalize colOff off r ld j = p at *
  clear hn ho hr hk hi h1 hm h q1 hk' hr' hpo hww
  unfold mat vec at *
  go_enter Try.func54, Try.ntmps54
  have HZ0 := Lib.hid ((Blk.new w 24 #[.slice A n c, .int .i64 off, .int .i64 r, .int .i64 k, .int .i64 ld]).alloc (.cells #[.slice none 0 0, .int .i64 0, .int .i64 0, .int .i64 0] 66))
  have HZ1 := Lib.hid (Blk.new_ (w.alloc (.cells #[.slice A n c, .int .i64 off, .int .i64 r, .int .i64 k, .int .i64 ld] 24)) 66 #[.slice none 0 0, .int .i64 0, .int .i64 0, .int .i64 0] (w.heap.size + 1) (by simp))
  have HB0 := Lib.hid (((Below.refl w.heap.size w).alloc (Nat.le_refl _) (.cells #[.slice A n c, .int .i64 off, .int .i64 r, .int .i64 k, .int .i64 ld] 24)).alloc (by simp) (.cells #[.slice none 0 0, .int .i64 0, .int .i64 0, .int .i64 0] 66))
  go_wp2_with fail
  refine (HG.out _).mono ?_
  rintro e w1 ⟨rfl, hb⟩
  have HZ2 := Lib.hid (HZ0.out.nxt hb)
  have HZ3 := Lib.hid (HZ1.out.nxt hb)
  have HB1 := Lib.hid (HB0.out.trans (hb.mono HB0.out.size))
  clear hb
  obtain ⟨c0, c1, c2, c3, c4⟩ := cells5 HZ2.out
  go_wp2_with fail
  refine (HW.out _).mono ?_
  rintro e w2 ⟨rfl, rfl⟩
  go_wp2_with fail
  have hbd : Blk w1.drew (w.heap.size + 1) 66 #[.slice none 0 0, .int .i64 0, .int .i64 0, .int .i64 0] := HZ3.out
  have hne : w.heap.size ≠ w.heap.size + 1 := by omega
  go_region_held3 (fun w' => w'.cell? ⟨w.heap.size, 0, none⟩ = some (.slice A n c) ∧ w'.cell? ⟨w.heap.size, 1, none⟩ = some (.int .i64 off) ∧ w'.cell? ⟨w.heap.size, 2, none⟩ = some (.int .i64 r) ∧ w'.cell? ⟨w.heap.size, 3, none⟩ = some (.int .i64 k) ∧ w'.cell? ⟨w.heap.size, 4, none⟩ = some (.int .i64 ld) ∧ Below w.heap.size w w')
    (first | exact ⟨c0, c1, c2, c3, c4, HB1.out.drew⟩ | (with_reducible exact held5 ‹_ ∧ _ ∧ _ ∧ _ ∧ _ ∧ Below w.heap.size w _› hbA) | exact heldW5 (R := fun W => Below w.heap.size w W) ‹_ ∧ _ ∧ _ ∧ _ ∧ _ ∧ Below w.heap.size w _› (fun b o h => cell_sets4 h _ _ _ _) hne hne hne hne hne (fun h => below_sets4 h (by omega) _ _ _ _))
    (first
      | (go_at_call 53; refine (HPt.out _).mono ?_; rintro e1 wA ⟨rfl, hbA⟩; have hbR := Blk.nxt hbd hbA; obtain ⟨r0, r1, r2, r3⟩ := cells4w hbR; obtain ⟨f0, f1, f2, f3⟩ := frozen4w hbR; skip))
  go_wp2_with fail
  obtain ⟨j0, j1, j2, j3⟩ := cells4w (Blk.store4v hbR (.slice A n c) (.int .i64 p) (.int .i64 r) (.int .i64 1))
  exact bodyPost_ret (v := .agg #[.slice A n c, .int .i64 p, .int .i64 r, .int .i64 1]) (by simp [results, Try.results54, go_sem, j0, j1, j2, j3]) rfl ⟨rfl, (‹_ ∧ _ ∧ _ ∧ _ ∧ _ ∧ Below w.heap.size w _›).2.2.2.2.2⟩

set_option maxRecDepth 100000 in
set_option maxHeartbeats 1000000 in
/-- What byColumns does to a number. -/
theorem gvbyc_one (F : FuncId) (caps : Array Value) (I : World → Prop) (Q : Nat → Prop) (x f y : Nat) (pf px po b y0 n c o K i k : Nat) (w : World) (hF : ∀ args W, (callFunc F args).run Try.prog W = .ok (.enter F args) W)
    (hI : I w) (hIb : ∀ W W', I W → Below W.heap.size W W' → I W') (hC : ∀ W, I W → Calls Try.prog F (#[.float .f64 x, .float .f64 f] ++ caps) W fun e w' => ∃ p, e = .returned (.float .f64 p) ∧ Q p ∧ Below W.heap.size W w')
    (hf : w.cell? ⟨pf, 0, none⟩ = some (.func (.func F) #[] caps)) (hx : Blk w px 66 #[.slice (some ⟨b, y0, none⟩) n c, .int .i64 o, .int .i64 K, .int .i64 i]) (ho : w.cell? ⟨po, 0, none⟩ = some (.float .f64 f))
    (hc : w.cell? ⟨b, y0 + (o + k * i), none⟩ = some (.float .f64 x)) (hP : o + k * i < n) (hn : n < 1048576) :
    Calls Try.prog 77 #[.int .i64 (k : Int), .float .f64 y, .pointer (some ⟨pf, 0, none⟩), .pointer (some ⟨px, 0, none⟩), .pointer (some ⟨po, 0, none⟩)] w fun e w' => ∃ p r, e = .returned (.float .f64 r) ∧ Q p ∧ Comes .add y p r ∧ Below w.heap.size w w' := by
  have HP := Lib.hid (fun W => gvplace_any (some ⟨b, y0, none⟩) n c o K i k W (by omega))
  unfold vec at HP
  obtain ⟨P, hPd⟩ : ∃ P, o + k * i = P := ⟨_, rfl⟩
  rw [hPd] at HP hc hP
  have b2 := hP
  have HF := Lib.hid hF
  have HI := Lib.hid hI
  have HIb := Lib.hid hIb
  have HCa := Lib.hid hC
  have HFc := Lib.hid hf
  have HOc := Lib.hid ho
  have HX := Lib.hid hx
  have HC := Lib.hid hc
  clear hF hI hIb hC hf ho hx hc hPd hP hn
  go_enter Try.func77, Try.ntmps77
  go_wp2_with fail
  refine wp_region_inv [8, 9, 10, 11, 12, 13, 14, 15, 16, 17, 18, 19, 7] (fun d s W => (d 0 = true → s 8 = .float .f64 y) ∧ (d 1 = true → s 9 = .func (.func F) #[] caps) ∧ (d 2 = true → s 10 = .pointer (some ⟨px, 0, none⟩)) ∧ (d 3 = true → s 11 = .slice (some ⟨b, y0, none⟩) n c) ∧ (d 4 = true → s 12 = .agg #[.slice (some ⟨b, y0, none⟩) n c, .int .i64 (o : Int), .int .i64 (K : Int), .int .i64 (i : Int)]) ∧ (d 5 = true → s 13 = .int .i64 (k : Int)) ∧ (d 6 = true → s 14 = .int .i64 (P : Int)) ∧ (d 7 = true → s 15 = .pointer (some ⟨b, y0 + P, none⟩)) ∧ (d 8 = true → s 16 = .float .f64 x) ∧ (d 9 = true → s 17 = .float .f64 f) ∧ (d 10 = true → ∃ p, s 18 = .float .f64 p ∧ Q p) ∧ (d 11 = true → ∃ p r, s 19 = .float .f64 r ∧ Q p ∧ Comes .add y p r) ∧ (d 12 = true → ∃ p r, s 7 = .float .f64 r ∧ Q p ∧ Comes .add y p r) ∧ Below w.heap.size w W)
    rfl (by kernel_rfl) ?_ ?_ ?_
  · exact ⟨by simp, by simp, by simp, by simp, by simp, by simp, by simp, by simp, by simp, by simp, by simp, by simp, by simp, (Below.refl _ _).drew⟩
  · refine ⟨?_, ?_, ?_, ?_, ?_, ?_, ?_, ?_, ?_, ?_, ?_, ?_, ?_, trivial⟩
    all_goals
      intro d s W hJ hfr hd hdep
      simp only [List.mem_cons, forall_eq_or_imp, List.not_mem_nil, false_implies, implies_true, and_true, Region.binds] at hdep
      have f0 := hfr 0 (by decide)
      have f1 := hfr 1 (by decide)
      have f2 := hfr 2 (by decide)
      have f3 := hfr 3 (by decide)
      have f4 := hfr 4 (by decide)
      simp at f0 f1 f2 f3 f4 hdep
      obtain ⟨h0, h1, h2, h3, h4, h5, h6, h7, h8, h9, h10, h11, h12, hT⟩ := hJ
    · unfold OpSteps
      simp [go_sem, evS, f1]
      exact ⟨fun _ => by simp [sput], fun h => by simpa [sput] using h1 (by simpa [did] using h), fun h => by simpa [sput] using h2 (by simpa [did] using h), fun h => by simpa [sput] using h3 (by simpa [did] using h), fun h => by simpa [sput] using h4 (by simpa [did] using h), fun h => by simpa [sput] using h5 (by simpa [did] using h), fun h => by simpa [sput] using h6 (by simpa [did] using h), fun h => by simpa [sput] using h7 (by simpa [did] using h), fun h => by simpa [sput] using h8 (by simpa [did] using h), fun h => by simpa [sput] using h9 (by simpa [did] using h), fun h => by simpa [sput] using h10 (by simpa [did] using h), fun h => by simpa [sput] using h11 (by simpa [did] using h), fun h => by simpa [sput] using h12 (by simpa [did] using h), hT⟩
    · unfold OpSteps
      have pc := cell_below HFc.out hT
      simp [go_sem, evS, f2, pc]
      exact ⟨fun h => by simpa [sput] using h0 (by simpa [did] using h), fun _ => by simp [sput], fun h => by simpa [sput] using h2 (by simpa [did] using h), fun h => by simpa [sput] using h3 (by simpa [did] using h), fun h => by simpa [sput] using h4 (by simpa [did] using h), fun h => by simpa [sput] using h5 (by simpa [did] using h), fun h => by simpa [sput] using h6 (by simpa [did] using h), fun h => by simpa [sput] using h7 (by simpa [did] using h), fun h => by simpa [sput] using h8 (by simpa [did] using h), fun h => by simpa [sput] using h9 (by simpa [did] using h), fun h => by simpa [sput] using h10 (by simpa [did] using h), fun h => by simpa [sput] using h11 (by simpa [did] using h), fun h => by simpa [sput] using h12 (by simpa [did] using h), hT⟩
    · unfold OpSteps
      simp [go_sem, evS, f3]
      exact ⟨fun h => by simpa [sput] using h0 (by simpa [did] using h), fun h => by simpa [sput] using h1 (by simpa [did] using h), fun _ => by simp [sput], fun h => by simpa [sput] using h3 (by simpa [did] using h), fun h => by simpa [sput] using h4 (by simpa [did] using h), fun h => by simpa [sput] using h5 (by simpa [did] using h), fun h => by simpa [sput] using h6 (by simpa [did] using h), fun h => by simpa [sput] using h7 (by simpa [did] using h), fun h => by simpa [sput] using h8 (by simpa [did] using h), fun h => by simpa [sput] using h9 (by simpa [did] using h), fun h => by simpa [sput] using h10 (by simpa [did] using h), fun h => by simpa [sput] using h11 (by simpa [did] using h), fun h => by simpa [sput] using h12 (by simpa [did] using h), hT⟩
    · have g2 := h2 (by simp [hdep])
      unfold OpSteps
      obtain ⟨p0, p1, p2, p3⟩ := cells4w (HX.out.below hT HX.out.lt)
      simp [go_sem, evS, g2, p0, p1, p2, p3]
      exact ⟨fun h => by simpa [sput] using h0 (by simpa [did] using h), fun h => by simpa [sput] using h1 (by simpa [did] using h), fun h => by simpa [sput] using h2 (by simpa [did] using h), fun _ => by simp [sput], fun h => by simpa [sput] using h4 (by simpa [did] using h), fun h => by simpa [sput] using h5 (by simpa [did] using h), fun h => by simpa [sput] using h6 (by simpa [did] using h), fun h => by simpa [sput] using h7 (by simpa [did] using h), fun h => by simpa [sput] using h8 (by simpa [did] using h), fun h => by simpa [sput] using h9 (by simpa [did] using h), fun h => by simpa [sput] using h10 (by simpa [did] using h), fun h => by simpa [sput] using h11 (by simpa [did] using h), fun h => by simpa [sput] using h12 (by simpa [did] using h), hT⟩
    · unfold OpSteps
      obtain ⟨p0, p1, p2, p3⟩ := cells4w (HX.out.below hT HX.out.lt)
      simp [go_sem, evS, f3, p0, p1, p2, p3]
      exact ⟨fun h => by simpa [sput] using h0 (by simpa [did] using h), fun h => by simpa [sput] using h1 (by simpa [did] using h), fun h => by simpa [sput] using h2 (by simpa [did] using h), fun h => by simpa [sput] using h3 (by simpa [did] using h), fun _ => by simp [sput], fun h => by simpa [sput] using h5 (by simpa [did] using h), fun h => by simpa [sput] using h6 (by simpa [did] using h), fun h => by simpa [sput] using h7 (by simpa [did] using h), fun h => by simpa [sput] using h8 (by simpa [did] using h), fun h => by simpa [sput] using h9 (by simpa [did] using h), fun h => by simpa [sput] using h10 (by simpa [did] using h), fun h => by simpa [sput] using h11 (by simpa [did] using h), fun h => by simpa [sput] using h12 (by simpa [did] using h), hT⟩
    · unfold OpSteps
      simp [go_sem, evS, f0]
      exact ⟨fun h => by simpa [sput] using h0 (by simpa [did] using h), fun h => by simpa [sput] using h1 (by simpa [did] using h), fun h => by simpa [sput] using h2 (by simpa [did] using h), fun h => by simpa [sput] using h3 (by simpa [did] using h), fun h => by simpa [sput] using h4 (by simpa [did] using h), fun _ => by simp [sput], fun h => by simpa [sput] using h6 (by simpa [did] using h), fun h => by simpa [sput] using h7 (by simpa [did] using h), fun h => by simpa [sput] using h8 (by simpa [did] using h), fun h => by simpa [sput] using h9 (by simpa [did] using h), fun h => by simpa [sput] using h10 (by simpa [did] using h), fun h => by simpa [sput] using h11 (by simpa [did] using h), fun h => by simpa [sput] using h12 (by simpa [did] using h), hT⟩
    · have g4 := h4 (by simp [hdep])
      have g5 := h5 (by simp [hdep])
      unfold OpSteps
      simp [go_sem, evS, g4, g5]
      refine (HP.out W).mono ?_
      rintro e W' ⟨rfl, hb⟩
      refine ⟨_, rfl, ?_⟩
      exact ⟨fun h => by simpa [sput] using h0 (by simpa [did] using h), fun h => by simpa [sput] using h1 (by simpa [did] using h), fun h => by simpa [sput] using h2 (by simpa [did] using h), fun h => by simpa [sput] using h3 (by simpa [did] using h), fun h => by simpa [sput] using h4 (by simpa [did] using h), fun h => by simpa [sput] using h5 (by simpa [did] using h), fun _ => by simp [sput], fun h => by simpa [sput] using h7 (by simpa [did] using h), fun h => by simpa [sput] using h8 (by simpa [did] using h), fun h => by simpa [sput] using h9 (by simpa [did] using h), fun h => by simpa [sput] using h10 (by simpa [did] using h), fun h => by simpa [sput] using h11 (by simpa [did] using h), fun h => by simpa [sput] using h12 (by simpa [did] using h), below_nx hT hb⟩
    · have g3 := h3 (by simp [hdep])
      have g6 := h6 (by simp [hdep])
      unfold OpSteps
      simp [go_sem, evS, g3, g6, b2]
      exact ⟨fun h => by simpa [sput] using h0 (by simpa [did] using h), fun h => by simpa [sput] using h1 (by simpa [did] using h), fun h => by simpa [sput] using h2 (by simpa [did] using h), fun h => by simpa [sput] using h3 (by simpa [did] using h), fun h => by simpa [sput] using h4 (by simpa [did] using h), fun h => by simpa [sput] using h5 (by simpa [did] using h), fun h => by simpa [sput] using h6 (by simpa [did] using h), fun _ => by simp [sput], fun h => by simpa [sput] using h8 (by simpa [did] using h), fun h => by simpa [sput] using h9 (by simpa [did] using h), fun h => by simpa [sput] using h10 (by simpa [did] using h), fun h => by simpa [sput] using h11 (by simpa [did] using h), fun h => by simpa [sput] using h12 (by simpa [did] using h), hT⟩
    · have g7 := h7 (by simp [hdep])
      unfold OpSteps
      have pc := cell_below HC.out hT
      simp [go_sem, evS, g7, pc]
      exact ⟨fun h => by simpa [sput] using h0 (by simpa [did] using h), fun h => by simpa [sput] using h1 (by simpa [did] using h), fun h => by simpa [sput] using h2 (by simpa [did] using h), fun h => by simpa [sput] using h3 (by simpa [did] using h), fun h => by simpa [sput] using h4 (by simpa [did] using h), fun h => by simpa [sput] using h5 (by simpa [did] using h), fun h => by simpa [sput] using h6 (by simpa [did] using h), fun h => by simpa [sput] using h7 (by simpa [did] using h), fun _ => by simp [sput], fun h => by simpa [sput] using h9 (by simpa [did] using h), fun h => by simpa [sput] using h10 (by simpa [did] using h), fun h => by simpa [sput] using h11 (by simpa [did] using h), fun h => by simpa [sput] using h12 (by simpa [did] using h), hT⟩
    · unfold OpSteps
      have pc := cell_below HOc.out hT
      simp [go_sem, evS, f4, pc]
      exact ⟨fun h => by simpa [sput] using h0 (by simpa [did] using h), fun h => by simpa [sput] using h1 (by simpa [did] using h), fun h => by simpa [sput] using h2 (by simpa [did] using h), fun h => by simpa [sput] using h3 (by simpa [did] using h), fun h => by simpa [sput] using h4 (by simpa [did] using h), fun h => by simpa [sput] using h5 (by simpa [did] using h), fun h => by simpa [sput] using h6 (by simpa [did] using h), fun h => by simpa [sput] using h7 (by simpa [did] using h), fun h => by simpa [sput] using h8 (by simpa [did] using h), fun _ => by simp [sput], fun h => by simpa [sput] using h10 (by simpa [did] using h), fun h => by simpa [sput] using h11 (by simpa [did] using h), fun h => by simpa [sput] using h12 (by simpa [did] using h), hT⟩
    · have g1 := h1 (by simp [hdep])
      have g8 := h8 (by simp [hdep])
      have g9 := h9 (by simp [hdep])
      unfold OpSteps
      simp [go_sem, evS, g1, g8, g9, HF.out]
      refine (HCa.out W (HIb.out _ _ HI.out hT)).mono ?_
      rintro e W' ⟨p, rfl, hp, hb⟩
      refine ⟨_, rfl, ?_⟩
      exact ⟨fun h => by simpa [sput] using h0 (by simpa [did] using h), fun h => by simpa [sput] using h1 (by simpa [did] using h), fun h => by simpa [sput] using h2 (by simpa [did] using h), fun h => by simpa [sput] using h3 (by simpa [did] using h), fun h => by simpa [sput] using h4 (by simpa [did] using h), fun h => by simpa [sput] using h5 (by simpa [did] using h), fun h => by simpa [sput] using h6 (by simpa [did] using h), fun h => by simpa [sput] using h7 (by simpa [did] using h), fun h => by simpa [sput] using h8 (by simpa [did] using h), fun h => by simpa [sput] using h9 (by simpa [did] using h), fun _ => ⟨p, by simp [sput], hp⟩, fun h => by simpa [sput] using h11 (by simpa [did] using h), fun h => by simpa [sput] using h12 (by simpa [did] using h), below_nx hT hb⟩
    · have g0 := h0 (by simp [hdep])
      have g10 := h10 (by simp [hdep])
      unfold OpSteps
      obtain ⟨p, gp, hp⟩ := g10
      simp [go_sem, evS, g0, gp]
      exact ⟨fun h => by simpa [sput] using h0 (by simpa [did] using h), fun h => by simpa [sput] using h1 (by simpa [did] using h), fun h => by simpa [sput] using h2 (by simpa [did] using h), fun h => by simpa [sput] using h3 (by simpa [did] using h), fun h => by simpa [sput] using h4 (by simpa [did] using h), fun h => by simpa [sput] using h5 (by simpa [did] using h), fun h => by simpa [sput] using h6 (by simpa [did] using h), fun h => by simpa [sput] using h7 (by simpa [did] using h), fun h => by simpa [sput] using h8 (by simpa [did] using h), fun h => by simpa [sput] using h9 (by simpa [did] using h), fun h => by simpa [sput] using h10 (by simpa [did] using h), fun _ => ⟨p, fres .add W y p, by simp [sput], hp, fres_comes _ _ _ _⟩, fun h => by simpa [sput] using h12 (by simpa [did] using h), below_drewN hT _⟩
    · have g11 := h11 (by simp [hdep])
      unfold OpSteps
      obtain ⟨p, r, gp, hp⟩ := g11
      simp [go_sem, evS, gp]
      exact ⟨fun h => by simpa [sput] using h0 (by simpa [did] using h), fun h => by simpa [sput] using h1 (by simpa [did] using h), fun h => by simpa [sput] using h2 (by simpa [did] using h), fun h => by simpa [sput] using h3 (by simpa [did] using h), fun h => by simpa [sput] using h4 (by simpa [did] using h), fun h => by simpa [sput] using h5 (by simpa [did] using h), fun h => by simpa [sput] using h6 (by simpa [did] using h), fun h => by simpa [sput] using h7 (by simpa [did] using h), fun h => by simpa [sput] using h8 (by simpa [did] using h), fun h => by simpa [sput] using h9 (by simpa [did] using h), fun h => by simpa [sput] using h10 (by simpa [did] using h), fun h => by simpa [sput] using h11 (by simpa [did] using h), fun _ => ⟨p, r, by simp [sput], hp⟩, hT⟩
  intro d s W hJ hd
  obtain ⟨h0, h1, h2, h3, h4, h5, h6, h7, h8, h9, h10, h11, h12, hT⟩ := hJ
  obtain ⟨p, r, hs, hp, hr⟩ := h12 (hd 12 (by decide))
  have HR := Lib.hid (And.intro hp hr)
  have HBe := Lib.hid hT
  clear h0 h1 h2 h3 h4 h5 h6 h7 h8 h9 h10 h11 h12 hT hd hp hr
  simp [setAll, hs]
  clear hs
  go_wp2_with fail
  go_ret
  exact ⟨p, r, rfl, HR.out.1, HR.out.2, HBe.out⟩
end Go.Proofs.Ytcdhpoikppfjkaa
