/-
TrsvSolves, put together. Conditions: as each says.
-/
import Derived.Test.YtlhdcajamempoaaZTrKb0
import Derived.Test.YtlhdcajamempoaaZTrKb1
import Derived.Test.YtlhdcajamempoaaZTrKb3
import Derived.Test.YtlhdcajamempoaaZTrKs0
import Derived.Test.YtlhdcajamempoaaZTrKs1
import Derived.Test.YtlhdcajamempoaaZTrKs3
import Derived.Test.YtlhdcajamempoaaZTrKz0
import Derived.Test.YtlhdcajamempoaaZTrKz1
import Derived.Test.YtlhdcajamempoaaZTrKz3
import Derived.Test.YtlhdcajamempoaaZTrKk0
import Derived.Test.YtlhdcajamempoaaZTrKk1
import Derived.Test.YtlhdcajamempoaaZTrKk3
import Derived.Test.YtlhdcajamempoaaZTrKm
set_option linter.unusedVariables false
set_option linter.unusedSimpArgs false
set_option linter.unnecessarySimpa false
namespace Go.Proofs.Ytlhdcajamempoaa
open Go.RowKit
attribute [local go_sem ↓] Go.wp_at_zero Go.wp_at_succ


set_option maxRecDepth 100000 in
theorem trs_case0 (kd : Int) (Am : Option Addr) (nm cm : Nat) (lm : List Nat) (mo mr mk ml : Int) (Ax : Option Addr) (nx cx : Nat) (lx : List Nat) (xo xk xi : Int) (w : World) (hAm : Row w Am (f64s lm)) (hAx : Row w Ax (f64s lx)) (hWm : Wds lm) (hWx : Wds lx) (hlm : lm.length = nm) (hlx : lx.length = nx) (hnm : nm ≤ 1000) (hnx : nx ≤ 1000) (hG : greatB nm mr mk = false) (hLx : longB nx xk = false)  (hmo : I64 mo) (hmr : I64 mr) (hmk : I64 mk) (hml : I64 ml) (hxo : I64 xo) (hxk : I64 xk) (hxi : I64 xi) (hm20 : mr ≤ 20 ∧ mk ≤ 20) :
    Calls Try.prog 4 #[.int .i64 kd, mat Am nm cm mo mr mk ml, vec Ax nx cx xo xk xi, .bool false] w fun e w' => e = .returned (.bool true) ∧ Below w.heap.size w w' := by
  cases h : ((trK kd && matB nm mo mr mk ml) && vecB nx xo xk xi)
  · exact trs_bad0 kd Am nm cm lm mo mr mk ml Ax nx cx lx xo xk xi w hAm hAx hWm hWx hlm hlx hnm hnx hG hLx  hmo hmr hmk hml hxo hxk hxi h
  by_cases hs : mr = xk ∧ mk = xk
  · have h2 := h
    simp only [Bool.and_eq_true] at h2
    obtain ⟨⟨g1, g2⟩, g3⟩ := h2
    obtain ⟨o, R, C, L, rfl, rfl, rfl, rfl, hL1, hRL, hmr2⟩ := mat_nat g2
    obtain ⟨ox, K, ix, rfl, rfl, rfl, hix, hxr⟩ := vec_nat g3
    obtain ⟨s1, s2⟩ := hs
    have s1 : R = K := by omega
    have s2 : C = K := by omega
    subst s1
    subst s2
    unfold trK at g1
    simp at g1
    obtain ⟨q, rfl⟩ : ∃ q : Nat, kd = q := ⟨kd.toNat, by omega⟩
    cases hz : trHZ q (fun i k => lm.getD (o + i + k * L) 0) C
    · exact trs_ok0 q (by omega) Am nm cm lm Ax nx cx lx o _ L ox ix w hAm hAx hWm hWx hlm hlx hnm hnx hG hLx  (by omega) hmo hml hxo hxi hL1 hRL hmr2 hix hxr hz
    · exact trs_zero0 q (by omega) Am nm cm lm Ax nx cx lx o _ L ox ix w hAm hAx hWm hWx hlm hlx hnm hnx hG hLx  (by omega) hmo hml hxo hxi hL1 hRL hmr2 hix hxr hz
  · exact trs_size0 kd Am nm cm lm mo mr mk ml Ax nx cx lx xo xk xi w hAm hAx hWm hWx hlm hlx hnm hnx hG hLx  hmo hmr hmk hml hxo hxk hxi h (by simp; omega)

set_option maxRecDepth 100000 in
theorem trs_case1 (kd : Int) (Am : Option Addr) (nm cm : Nat) (lm : List Nat) (mo mr mk ml : Int) (Ax : Option Addr) (nx cx : Nat) (lx : List Nat) (xo xk xi : Int) (w : World) (hAm : Row w Am (f64s lm)) (hAx : Row w Ax (f64s lx)) (hWm : Wds lm) (hWx : Wds lx) (hlm : lm.length = nm) (hlx : lx.length = nx) (hnm : nm ≤ 1000) (hnx : nx ≤ 1000) (hG : greatB nm mr mk = false) (hLx : longB nx xk = false) (hn0 : 0 < nm) (hmo : I64 mo) (hmr : I64 mr) (hmk : I64 mk) (hml : I64 ml) (hxo : I64 xo) (hxk : I64 xk) (hxi : I64 xi) (hm20 : mr ≤ 20 ∧ mk ≤ 20) :
    Calls Try.prog 4 #[.int .i64 kd, mat Am nm cm mo mr mk ml, vec Ax nx cx xo xk xi, .bool true] w fun e w' => e = .returned (.bool true) ∧ Below w.heap.size w w' := by
  cases h : ((trK kd && matB nm mo mr mk ml) && vecB nm xo xk xi)
  · exact trs_bad1 kd Am nm cm lm mo mr mk ml Ax nx cx lx xo xk xi w hAm hAx hWm hWx hlm hlx hnm hnx hG hLx hn0 hmo hmr hmk hml hxo hxk hxi h
  by_cases hs : mr = xk ∧ mk = xk
  · have h2 := h
    simp only [Bool.and_eq_true] at h2
    obtain ⟨⟨g1, g2⟩, g3⟩ := h2
    obtain ⟨o, R, C, L, rfl, rfl, rfl, rfl, hL1, hRL, hmr2⟩ := mat_nat g2
    obtain ⟨ox, K, ix, rfl, rfl, rfl, hix, hxr⟩ := vec_nat g3
    obtain ⟨s1, s2⟩ := hs
    have s1 : R = K := by omega
    have s2 : C = K := by omega
    subst s1
    subst s2
    unfold trK at g1
    simp at g1
    obtain ⟨q, rfl⟩ : ∃ q : Nat, kd = q := ⟨kd.toNat, by omega⟩
    cases hsp : spB (vsA ox C) (vsB ox C ix) (msA o C C) (msB o C C L)
    · cases hz : trHZ q (fun i k => lm.getD (o + i + k * L) 0) C
      · exact trs_ok1 q (by omega) Am nm cm lm Ax nx cx lx o _ L ox ix w hAm hAx hWm hWx hlm hlx hnm hnx hG hLx hn0 (by omega) hmo hml hxo hxi hL1 hRL hmr2 hix hxr hsp hz
      · exact trs_zero1 q (by omega) Am nm cm lm Ax nx cx lx o _ L ox ix w hAm hAx hWm hWx hlm hlx hnm hnx hG hLx hn0 (by omega) hmo hml hxo hxi hL1 hRL hmr2 hix hxr hsp hz
    · cases hz : trHZ q (fun i k => lm.getD (o + i + k * L) 0) C
      · exact trs_meet1 q (by omega) Am nm cm lm Ax nx cx lx o _ L ox ix w hAm hAx hWm hWx hlm hlx hnm hnx hG hLx hn0 (by omega) hmo hml hxo hxi hL1 hRL hmr2 hix hxr hsp hz
      · exact trs_meetz1 q (by omega) Am nm cm lm Ax nx cx lx o _ L ox ix w hAm hAx hWm hWx hlm hlx hnm hnx hG hLx hn0 (by omega) hmo hml hxo hxi hL1 hRL hmr2 hix hxr hsp hz
  · exact trs_size1 kd Am nm cm lm mo mr mk ml Ax nx cx lx xo xk xi w hAm hAx hWm hWx hlm hlx hnm hnx hG hLx hn0 hmo hmr hmk hml hxo hxk hxi h (by simp; omega)

set_option maxRecDepth 100000 in
theorem trs_case3 (kd : Int) (Am : Option Addr) (nm cm : Nat) (lm : List Nat) (mo mr mk ml : Int) (Ax : Option Addr) (nx cx : Nat) (lx : List Nat) (xo xk xi : Int) (w : World) (hAm : Row w Am (f64s lm)) (hAx : Row w Ax (f64s lx)) (hWm : Wds lm) (hWx : Wds lx) (hlm : lm.length = nm) (hlx : lx.length = nx) (hnm : nm ≤ 1000) (hnx : nx ≤ 1000) (hG : greatB nm mr mk = false) (hLx : longB nx xk = false) (hn0 : nm = 0) (hmo : I64 mo) (hmr : I64 mr) (hmk : I64 mk) (hml : I64 ml) (hxo : I64 xo) (hxk : I64 xk) (hxi : I64 xi) (hm20 : mr ≤ 20 ∧ mk ≤ 20) :
    Calls Try.prog 4 #[.int .i64 kd, mat Am nm cm mo mr mk ml, vec Ax nx cx xo xk xi, .bool true] w fun e w' => e = .returned (.bool true) ∧ Below w.heap.size w w' := by
  cases h : ((trK kd && matB nm mo mr mk ml) && vecB nx xo xk xi)
  · exact trs_bad3 kd Am nm cm lm mo mr mk ml Ax nx cx lx xo xk xi w hAm hAx hWm hWx hlm hlx hnm hnx hG hLx hn0 hmo hmr hmk hml hxo hxk hxi h
  by_cases hs : mr = xk ∧ mk = xk
  · have h2 := h
    simp only [Bool.and_eq_true] at h2
    obtain ⟨⟨g1, g2⟩, g3⟩ := h2
    obtain ⟨o, R, C, L, rfl, rfl, rfl, rfl, hL1, hRL, hmr2⟩ := mat_nat g2
    obtain ⟨ox, K, ix, rfl, rfl, rfl, hix, hxr⟩ := vec_nat g3
    obtain ⟨s1, s2⟩ := hs
    have s1 : R = K := by omega
    have s2 : C = K := by omega
    subst s1
    subst s2
    unfold trK at g1
    simp at g1
    obtain ⟨q, rfl⟩ : ∃ q : Nat, kd = q := ⟨kd.toNat, by omega⟩
    cases hz : trHZ q (fun i k => lm.getD (o + i + k * L) 0) C
    · exact trs_ok3 q (by omega) Am nm cm lm Ax nx cx lx o _ L ox ix w hAm hAx hWm hWx hlm hlx hnm hnx hG hLx hn0 (by omega) hmo hml hxo hxi hL1 hRL hmr2 hix hxr hz
    · exact trs_zero3 q (by omega) Am nm cm lm Ax nx cx lx o _ L ox ix w hAm hAx hWm hWx hlm hlx hnm hnx hG hLx hn0 (by omega) hmo hml hxo hxi hL1 hRL hmr2 hix hxr hz
  · exact trs_size3 kd Am nm cm lm mo mr mk ml Ax nx cx lx xo xk xi w hAm hAx hWm hWx hlm hlx hnm hnx hG hLx hn0 hmo hmr hmk hml hxo hxk hxi h (by simp; omega)

set_option maxRecDepth 100000 in
set_option maxHeartbeats 4000000 in
theorem trs_great (kd : Int) (Am : Option Addr) (nm cm : Nat) (mo mr mk ml : Int) (Ax : Option Addr) (nx cx : Nat) (xo xk xi : Int) (one : Bool) (w : World) (h : (greatB nm mr mk || longB nx xk) = true) :
    Calls Try.prog 4 #[.int .i64 kd, mat Am nm cm mo mr mk ml, vec Ax nx cx xo xk xi, .bool one] w fun e w' => e = .returned (.bool true) ∧ Below w.heap.size w w' := by
  have HGr := Lib.hid (fun W => great_any Am nm cm mo mr mk ml W)
  have HLx := Lib.hid (fun W => long_any Ax nx cx xo xk xi W)
  generalize greatB nm mr mk = b1 at *
  generalize longB nx xk = b2 at *
  cases b1
  · have hb2 : b2 = true := by simpa using h
    subst hb2
    clear h
    unfold mat vec at *
    go_enter Try.func4, Try.ntmps4
    have Hm0 := Lib.hid ((Blk.new w 26 #[.slice Am nm cm, .int .i64 mo, .int .i64 mr, .int .i64 mk, .int .i64 ml]).alloc (.cells #[.slice Ax nx cx, .int .i64 xo, .int .i64 xk, .int .i64 xi] 32))
    have Hx0 := Lib.hid (Blk.new_ (w.alloc (.cells #[.slice Am nm cm, .int .i64 mo, .int .i64 mr, .int .i64 mk, .int .i64 ml] 26)) 32 #[.slice Ax nx cx, .int .i64 xo, .int .i64 xk, .int .i64 xi] (w.heap.size + 1) (by simp))
    have HB0 := Lib.hid (((Below.refl w.heap.size w).alloc (Nat.le_refl _) (.cells #[.slice Am nm cm, .int .i64 mo, .int .i64 mr, .int .i64 mk, .int .i64 ml] 26)).alloc (by simp) (.cells #[.slice Ax nx cx, .int .i64 xo, .int .i64 xk, .int .i64 xi] 32))
    obtain ⟨m0, m1, m2, m3, m4⟩ := cells5 Hm0.out
    obtain ⟨x0, x1, x2, x3⟩ := cells4w Hx0.out
    go_wp2_with fail
    refine (awake9_any _).mono ?_
    rintro e w1 ⟨rfl, hb⟩
    have Hm1 := Lib.hid (Hm0.out.nxt hb)
    have Hx1 := Lib.hid (Hx0.out.nxt hb)
    have HB1 := Lib.hid (below_nx HB0.out hb)
    clear hb
    clear m0 m1 m2 m3 m4 x0 x1 x2 x3
    obtain ⟨m0, m1, m2, m3, m4⟩ := cells5 Hm1.out
    obtain ⟨x0, x1, x2, x3⟩ := cells4w Hx1.out
    go_wp2_with fail
    refine (HGr.out _).mono ?_
    rintro e w2 ⟨rfl, hb⟩
    have Hm2 := Lib.hid (Hm1.out.nxt hb)
    have Hx2 := Lib.hid (Hx1.out.nxt hb)
    have HB2 := Lib.hid (below_nx HB1.out hb)
    clear hb
    clear m0 m1 m2 m3 m4 x0 x1 x2 x3
    obtain ⟨m0, m1, m2, m3, m4⟩ := cells5 Hm2.out
    obtain ⟨x0, x1, x2, x3⟩ := cells4w Hx2.out
    go_wp2_with fail
    refine (HLx.out _).mono ?_
    rintro e w3 ⟨rfl, hb⟩
    have Hm3 := Lib.hid (Hm2.out.nxt hb)
    have Hx3 := Lib.hid (Hx2.out.nxt hb)
    have HB3 := Lib.hid (below_nx HB2.out hb)
    clear hb
    clear m0 m1 m2 m3 m4 x0 x1 x2 x3
    obtain ⟨m0, m1, m2, m3, m4⟩ := cells5 Hm3.out
    obtain ⟨x0, x1, x2, x3⟩ := cells4w Hx3.out
    go_wp2_with fail
    refine (awake9_any _).mono ?_
    rintro e w5 ⟨rfl, hb⟩
    have Hm4 := Lib.hid (Hm3.out.nxt hb)
    have Hx4 := Lib.hid (Hx3.out.nxt hb)
    have HB4 := Lib.hid (below_nx HB3.out hb)
    clear hb
    clear m0 m1 m2 m3 m4 x0 x1 x2 x3
    obtain ⟨m0, m1, m2, m3, m4⟩ := cells5 Hm4.out
    obtain ⟨x0, x1, x2, x3⟩ := cells4w Hx4.out
    go_wp2_with fail
    go_ret
    exact ⟨rfl, HB4.out⟩
  · clear h
    unfold mat vec at *
    go_enter Try.func4, Try.ntmps4
    have Hm0 := Lib.hid ((Blk.new w 26 #[.slice Am nm cm, .int .i64 mo, .int .i64 mr, .int .i64 mk, .int .i64 ml]).alloc (.cells #[.slice Ax nx cx, .int .i64 xo, .int .i64 xk, .int .i64 xi] 32))
    have Hx0 := Lib.hid (Blk.new_ (w.alloc (.cells #[.slice Am nm cm, .int .i64 mo, .int .i64 mr, .int .i64 mk, .int .i64 ml] 26)) 32 #[.slice Ax nx cx, .int .i64 xo, .int .i64 xk, .int .i64 xi] (w.heap.size + 1) (by simp))
    have HB0 := Lib.hid (((Below.refl w.heap.size w).alloc (Nat.le_refl _) (.cells #[.slice Am nm cm, .int .i64 mo, .int .i64 mr, .int .i64 mk, .int .i64 ml] 26)).alloc (by simp) (.cells #[.slice Ax nx cx, .int .i64 xo, .int .i64 xk, .int .i64 xi] 32))
    obtain ⟨m0, m1, m2, m3, m4⟩ := cells5 Hm0.out
    obtain ⟨x0, x1, x2, x3⟩ := cells4w Hx0.out
    go_wp2_with fail
    refine (awake9_any _).mono ?_
    rintro e w1 ⟨rfl, hb⟩
    have Hm1 := Lib.hid (Hm0.out.nxt hb)
    have Hx1 := Lib.hid (Hx0.out.nxt hb)
    have HB1 := Lib.hid (below_nx HB0.out hb)
    clear hb
    clear m0 m1 m2 m3 m4 x0 x1 x2 x3
    obtain ⟨m0, m1, m2, m3, m4⟩ := cells5 Hm1.out
    obtain ⟨x0, x1, x2, x3⟩ := cells4w Hx1.out
    go_wp2_with fail
    refine (HGr.out _).mono ?_
    rintro e w2 ⟨rfl, hb⟩
    have Hm2 := Lib.hid (Hm1.out.nxt hb)
    have Hx2 := Lib.hid (Hx1.out.nxt hb)
    have HB2 := Lib.hid (below_nx HB1.out hb)
    clear hb
    clear m0 m1 m2 m3 m4 x0 x1 x2 x3
    obtain ⟨m0, m1, m2, m3, m4⟩ := cells5 Hm2.out
    obtain ⟨x0, x1, x2, x3⟩ := cells4w Hx2.out
    go_wp2_with fail
    refine (awake9_any _).mono ?_
    rintro e w5 ⟨rfl, hb⟩
    have Hm3 := Lib.hid (Hm2.out.nxt hb)
    have Hx3 := Lib.hid (Hx2.out.nxt hb)
    have HB3 := Lib.hid (below_nx HB2.out hb)
    clear hb
    clear m0 m1 m2 m3 m4 x0 x1 x2 x3
    obtain ⟨m0, m1, m2, m3, m4⟩ := cells5 Hm3.out
    obtain ⟨x0, x1, x2, x3⟩ := cells4w Hx3.out
    go_wp2_with fail
    go_ret
    exact ⟨rfl, HB3.out⟩

theorem trs_walk (kd : Int) (Am : Option Addr) (cm : Nat) (lm : List Nat) (mo mr mk ml : Int) (Ax : Option Addr) (cx : Nat) (lx : List Nat) (xo xk xi : Int) (one : Bool) (w : World) (hAm : Row w Am (f64s lm)) (hWm : Wds lm) (hmo : I64 mo) (hmr : I64 mr) (hmk : I64 mk) (hml : I64 ml) (hAx : Row w Ax (f64s lx)) (hWx : Wds lx) (hxo : I64 xo) (hxk : I64 xk) (hxi : I64 xi) :
    Calls Try.prog 4 #[.int .i64 kd, mat Am lm.length cm mo mr mk ml, vec Ax lx.length cx xo xk xi, .bool one] w fun e w' => e = .returned (.bool true) ∧ Below w.heap.size w w' := by
  cases hG : greatB lm.length mr mk
  · cases hLx : longB lx.length xk
    · have q1 : lm.length ≤ 1000 ∧ mr ≤ 20 ∧ mk ≤ 20 := by have h := hG; unfold greatB at h; simp at h; omega
      have q2 : lx.length ≤ 1000 ∧ xk ≤ 60 := by have h := hLx; unfold longB at h; simp at h; omega
      cases one
      · exact trs_case0 kd Am _ cm lm mo mr mk ml Ax _ cx lx xo xk xi w hAm hAx hWm hWx rfl rfl q1.1 q2.1 hG hLx hmo hmr hmk hml hxo hxk hxi q1.2
      · rcases Nat.eq_zero_or_pos lm.length with h0 | h0
        · exact trs_case3 kd Am _ cm lm mo mr mk ml Ax _ cx lx xo xk xi w hAm hAx hWm hWx rfl rfl q1.1 q2.1 hG hLx h0 hmo hmr hmk hml hxo hxk hxi q1.2
        · exact trs_case1 kd Am _ cm lm mo mr mk ml Ax _ cx lx xo xk xi w hAm hAx hWm hWx rfl rfl q1.1 q2.1 hG hLx h0 hmo hmr hmk hml hxo hxk hxi q1.2
    · exact trs_great kd Am _ cm mo mr mk ml Ax _ cx xo xk xi one w (by rw [hG, hLx]; rfl)
  · exact trs_great kd Am _ cm mo mr mk ml Ax _ cx xo xk xi one w (by rw [hG]; rfl)
end Go.Proofs.Ytlhdcajamempoaa
