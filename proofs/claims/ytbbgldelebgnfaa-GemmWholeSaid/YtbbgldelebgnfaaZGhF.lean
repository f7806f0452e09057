/-
GemmWhole: its walk. Conditions: as each says.
-/
import Derived.Test.YtbbgldelebgnfaaUbad
set_option linter.unusedVariables false
set_option linter.unusedSimpArgs false
set_option linter.unnecessarySimpa false
namespace Go.Proofs.Ytbbgldelebgnfaa
open Go.RowKit
attribute [local go_sem ↓] Go.wp_at_zero Go.wp_at_succ

theorem allx_keep {d : Nat → Bool} {i L m : Nat} (x : d L = true → ∀ j, j < L → j ≠ m → d j = true) (hi : L ≠ i) : did d i L = true → ∀ j, j < L → j ≠ m → did d i j = true := fun h j hj hm => by
  rw [did_ne d hi] at h
  by_cases e : j = i
  · subst e; simp [did]
  · rw [did_ne d e]; exact x h j hj hm
theorem kc {d : Nat → Bool} {i j L : Nat} {s : Nat → Value} {k : Nat} {dst : Option Nat} {v : Value} {P Q : Value → Prop} (h : d j = true → d L = false → P (s k)) (hj : j ≠ i) (hk : dst ≠ some k) (hl : d L = false) (f : ∀ v, P v → Q v) : did d i j = true → did d i L = false → Q (sput s dst v k) := fun e _ => by
  rw [did_ne d hj] at e
  unfold sput
  rw [if_neg hk]
  exact f _ (h e hl)
theorem kcd {d : Nat → Bool} {i j L : Nat} {s : Nat → Value} {k : Nat} {dst : Option Nat} {v : Value} {P : Value → Prop} (h : d j = true → d L = false → P (s k)) (hj : j ≠ i) (hk : dst ≠ some k) (hL : L ≠ i) : did d i j = true → did d i L = false → P (sput s dst v k) := fun e e2 => by
  rw [did_ne d hj] at e
  rw [did_ne d hL] at e2
  unfold sput
  rw [if_neg hk]
  exact h e e2
def n4 (n0 n1 n2 n3 : Nat) : Nat → Array Value
  | 0 => #[.int .i64 0, .int .i64 0, .int .i64 0, .int .i64 0]
  | 1 => #[.int .i64 (n0 : Int), .int .i64 0, .int .i64 0, .int .i64 0]
  | 2 => #[.int .i64 (n0 : Int), .int .i64 (n1 : Int), .int .i64 0, .int .i64 0]
  | 3 => #[.int .i64 (n0 : Int), .int .i64 (n1 : Int), .int .i64 (n2 : Int), .int .i64 0]
  | _ + 4 => #[.int .i64 (n0 : Int), .int .i64 (n1 : Int), .int .i64 (n2 : Int), .int .i64 (n3 : Int)]
theorem cl4 {w : World} {b : Nat} {t : TypeId} {v0 v1 v2 v3 : Value} (h : Blk w b t #[v0, v1, v2, v3]) : w.cell? ⟨b, 0, none⟩ = some v0 ∧ w.cell? ⟨b, 1, none⟩ = some v1 ∧ w.cell? ⟨b, 2, none⟩ = some v2 ∧ w.cell? ⟨b, 3, none⟩ = some v3 := ⟨h.cell 0, h.cell 1, h.cell 2, h.cell 3⟩
theorem fz4 {w : World} {b : Nat} {t : TypeId} {v0 v1 v2 v3 : Value} (h : Blk w b t #[v0, v1, v2, v3]) : w.frozen? ⟨b, 0, none⟩ = false ∧ w.frozen? ⟨b, 1, none⟩ = false ∧ w.frozen? ⟨b, 2, none⟩ = false ∧ w.frozen? ⟨b, 3, none⟩ = false := ⟨h.frozen 0, h.frozen 1, h.frozen 2, h.frozen 3⟩
set_option maxRecDepth 100000 in
set_option maxHeartbeats 60000000 in
theorem gemmWhole_walk (A : Option Addr) (n cc : Nat) (l : List Int) (z0 z1 z2 z3 n0 n1 n2 n3 : Nat) (w : World) (hA : Row w A (i8s l)) (hl : l.length = n) (hn : n < 9223372036854775808) (hI : ∀ z ∈ l, I8 z) (hz0 : z0 < 256) (hz1 : z1 < 256) (hz2 : z2 < 256) (hz3 : z3 < 256) (h0 : 1 + z0 % 6 = n0) (h1 : 1 + z1 % 6 = n1) (h2 : 1 + z2 % 6 = n2) (h3 : 1 + z3 % 6 = n3) :
    Calls Try.prog 5 #[.slice A n cc, .agg #[.int .u8 (z0 : Int), .int .u8 (z1 : Int), .int .u8 (z2 : Int), .int .u8 (z3 : Int)]] w fun e w' => e = .returned (.bool true) ∧ Below w.heap.size w w' := by
  obtain ⟨s0, HU0, hn0⟩ := ge_int hz0 h0
  obtain ⟨s1, HU1, hn1⟩ := ge_int hz1 h1
  obtain ⟨s2, HU2, hn2⟩ := ge_int hz2 h2
  obtain ⟨s3, HU3, hn3⟩ := ge_int hz3 h3
  have HN := Lib.hid (And.intro hn0 (And.intro hn1 (And.intro hn2 hn3)))
  have HA := Lib.hid hA
  have HI := Lib.hid hI
  have Hl := Lib.hid hl
  clear hA hI hl hz0 hz1 hz2 hz3 h0 h1 h2 h3 hn0 hn1 hn2 hn3
  go_enter Try.func5, Try.ntmps5
  have Hl0 := Lib.hid ((Blk.new w 45 #[.slice A n cc]).alloc (.cells #[.int .u8 (z0 : Int), .int .u8 (z1 : Int), .int .u8 (z2 : Int), .int .u8 (z3 : Int)] 46))
  have Hs0 := Lib.hid (Blk.new_ (w.alloc (.cells #[.slice A n cc] 45)) 46 #[.int .u8 (z0 : Int), .int .u8 (z1 : Int), .int .u8 (z2 : Int), .int .u8 (z3 : Int)] (w.heap.size + 1) (by simp))
  have HB0 := Lib.hid (((Below.refl w.heap.size w).alloc (Nat.le_refl _) (.cells #[.slice A n cc] 45)).alloc (by simp) (.cells #[.int .u8 (z0 : Int), .int .u8 (z1 : Int), .int .u8 (z2 : Int), .int .u8 (z3 : Int)] 46))
  go_wp2_with fail
  refine (awake11_any _).mono ?_
  rintro e w1 ⟨rfl, hb⟩
  have Hl1 := Lib.hid ((Hl0.out.nxt hb).alloc (.cells #[.int .i64 0, .int .i64 0, .int .i64 0, .int .i64 0] 47))
  have Hs1 := Lib.hid ((Hs0.out.nxt hb).alloc (.cells #[.int .i64 0, .int .i64 0, .int .i64 0, .int .i64 0] 47))
  have Hn1 := Lib.hid (Blk.new w1 47 #[.int .i64 0, .int .i64 0, .int .i64 0, .int .i64 0])
  have HB1 := Lib.hid (below_al (below_nx HB0.out hb) (o := .cells #[.int .i64 0, .int .i64 0, .int .i64 0, .int .i64 0] 47))
  have hsz := hb.size
  clear hb Hl0 Hs0 HB0
  go_wp2_with fail
  generalize hw2 : w1.alloc (.cells #[.int .i64 0, .int .i64 0, .int .i64 0, .int .i64 0] 47) = w2 at *
  generalize hnb : w1.heap.size = nb at *
  obtain ⟨lb, hlb⟩ : ∃ lb, w.heap.size = lb := ⟨_, rfl⟩
  obtain ⟨sb, hsb⟩ : ∃ sb, w.heap.size + 1 = sb := ⟨_, rfl⟩
  have HP0 := Lib.hid (show lb < sb ∧ sb < nb ∧ w.heap.size = lb ∧ w.heap.size + 1 = sb from ⟨by omega, by simp at hsz; omega, hlb, hsb⟩)
  have Hl2 : Hid (Blk w2 lb 45 #[.slice A n cc]) := Lib.hid (by rw [← hlb]; exact Hl1.out)
  have Hs2 : Hid (Blk w2 sb 46 #[.int .u8 (z0 : Int), .int .u8 (z1 : Int), .int .u8 (z2 : Int), .int .u8 (z3 : Int)]) := Lib.hid (by rw [← hsb]; exact Hs1.out)
  rw [hsb, hlb]
  clear hw2 hnb hsz hlb hsb Hl1 Hs1
  go_loopw [6] (fun a wr => ∃ q : Nat, q ≤ 4 ∧ a = .int .i64 (q : Int) ∧ Hid (Blk wr nb 47 (n4 n0 n1 n2 n3 q) ∧ Blk wr lb 45 #[.slice A n cc] ∧ Blk wr sb 46 #[.int .u8 (z0 : Int), .int .u8 (z1 : Int), .int .u8 (z2 : Int), .int .u8 (z3 : Int)] ∧ Below w.heap.size w wr)) (fun a _ => 5 - (intOf a).toNat)
  case atStart => exact ⟨0, Nat.zero_le _, rfl, Lib.hid ⟨Hn1.out, Hl2.out, Hs2.out, HB1.out⟩⟩
  case round =>
    clear Hl2 Hs2 Hn1 HB1
    obtain ⟨q, hq, rfl, HH⟩ := hrel
    obtain ⟨p1, p2, p3, p4⟩ := HH.out
    obtain ⟨c0, c1, c2, c3⟩ := cl4 p3
    clear HH
    rcases (show q = 0 ∨ q = 1 ∨ q = 2 ∨ q = 3 ∨ q = 4 by omega) with rfl | rfl | rfl | rfl | rfl
    · have p1' : Blk wr nb 47 #[.int .i64 0, .int .i64 0, .int .i64 0, .int .i64 0] := p1
      obtain ⟨m0, m1, m2, m3⟩ := cl4 p1'
      obtain ⟨f0, f1, f2, f3⟩ := fz4 p1'
      have HQ := Lib.hid (And.intro p1' (And.intro p2 (And.intro p3 p4)))
      obtain ⟨e1, e2, ⟨e3, e4⟩, ⟨e5, e6⟩, ⟨e7, e8⟩⟩ := HU0.out
      clear p1 p1' p2 p3 p4
      go_wp2_with fail
      clear m0 m1 m2 m3 f0 f1 f2 f3 c0 c1 c2 c3 e1 e2 e3 e4 e5 e6 e7 e8
      obtain ⟨p1, p2, p3, p4⟩ := HQ.out
      have HR := Lib.hid (show Blk (wr.setCell ⟨nb, 0, none⟩ (.int .i64 (n0 : Int))) nb 47 (n4 n0 n1 n2 n3 1) ∧ Blk (wr.setCell ⟨nb, 0, none⟩ (.int .i64 (n0 : Int))) lb 45 #[.slice A n cc] ∧ Blk (wr.setCell ⟨nb, 0, none⟩ (.int .i64 (n0 : Int))) sb 46 #[.int .u8 (z0 : Int), .int .u8 (z1 : Int), .int .u8 (z2 : Int), .int .u8 (z3 : Int)] ∧ Below w.heap.size w (wr.setCell ⟨nb, 0, none⟩ (.int .i64 (n0 : Int))) from ⟨show Blk _ nb _ #[.int .i64 (n0 : Int), .int .i64 0, .int .i64 0, .int .i64 0] from by simpa using p1.set_ 0 (.int .i64 (n0 : Int)), p2.other (p := ⟨nb, 0, none⟩) (by have := HP0.out; simp; omega) _, p3.other (p := ⟨nb, 0, none⟩) (by have := HP0.out; simp; omega) _, p4.setCell (p := ⟨nb, 0, none⟩) (by have := HP0.out; simp; omega) _⟩)
      clear p1 p2 p3 p4 HQ
      go_roundw
      case rel => exact ⟨1, by omega, rfl, HR⟩
      case measure => simp [intOf] <;> omega
    · have p1' : Blk wr nb 47 #[.int .i64 (n0 : Int), .int .i64 0, .int .i64 0, .int .i64 0] := p1
      obtain ⟨m0, m1, m2, m3⟩ := cl4 p1'
      obtain ⟨f0, f1, f2, f3⟩ := fz4 p1'
      have HQ := Lib.hid (And.intro p1' (And.intro p2 (And.intro p3 p4)))
      obtain ⟨e1, e2, ⟨e3, e4⟩, ⟨e5, e6⟩, ⟨e7, e8⟩⟩ := HU1.out
      clear p1 p1' p2 p3 p4
      go_wp2_with fail
      clear m0 m1 m2 m3 f0 f1 f2 f3 c0 c1 c2 c3 e1 e2 e3 e4 e5 e6 e7 e8
      obtain ⟨p1, p2, p3, p4⟩ := HQ.out
      have HR := Lib.hid (show Blk (wr.setCell ⟨nb, 1, none⟩ (.int .i64 (n1 : Int))) nb 47 (n4 n0 n1 n2 n3 2) ∧ Blk (wr.setCell ⟨nb, 1, none⟩ (.int .i64 (n1 : Int))) lb 45 #[.slice A n cc] ∧ Blk (wr.setCell ⟨nb, 1, none⟩ (.int .i64 (n1 : Int))) sb 46 #[.int .u8 (z0 : Int), .int .u8 (z1 : Int), .int .u8 (z2 : Int), .int .u8 (z3 : Int)] ∧ Below w.heap.size w (wr.setCell ⟨nb, 1, none⟩ (.int .i64 (n1 : Int))) from ⟨show Blk _ nb _ #[.int .i64 (n0 : Int), .int .i64 (n1 : Int), .int .i64 0, .int .i64 0] from by simpa using p1.set_ 1 (.int .i64 (n1 : Int)), p2.other (p := ⟨nb, 1, none⟩) (by have := HP0.out; simp; omega) _, p3.other (p := ⟨nb, 1, none⟩) (by have := HP0.out; simp; omega) _, p4.setCell (p := ⟨nb, 1, none⟩) (by have := HP0.out; simp; omega) _⟩)
      clear p1 p2 p3 p4 HQ
      go_roundw
      case rel => exact ⟨2, by omega, rfl, HR⟩
      case measure => simp [intOf] <;> omega
    · have p1' : Blk wr nb 47 #[.int .i64 (n0 : Int), .int .i64 (n1 : Int), .int .i64 0, .int .i64 0] := p1
      obtain ⟨m0, m1, m2, m3⟩ := cl4 p1'
      obtain ⟨f0, f1, f2, f3⟩ := fz4 p1'
      have HQ := Lib.hid (And.intro p1' (And.intro p2 (And.intro p3 p4)))
      obtain ⟨e1, e2, ⟨e3, e4⟩, ⟨e5, e6⟩, ⟨e7, e8⟩⟩ := HU2.out
      clear p1 p1' p2 p3 p4
      go_wp2_with fail
      clear m0 m1 m2 m3 f0 f1 f2 f3 c0 c1 c2 c3 e1 e2 e3 e4 e5 e6 e7 e8
      obtain ⟨p1, p2, p3, p4⟩ := HQ.out
      have HR := Lib.hid (show Blk (wr.setCell ⟨nb, 2, none⟩ (.int .i64 (n2 : Int))) nb 47 (n4 n0 n1 n2 n3 3) ∧ Blk (wr.setCell ⟨nb, 2, none⟩ (.int .i64 (n2 : Int))) lb 45 #[.slice A n cc] ∧ Blk (wr.setCell ⟨nb, 2, none⟩ (.int .i64 (n2 : Int))) sb 46 #[.int .u8 (z0 : Int), .int .u8 (z1 : Int), .int .u8 (z2 : Int), .int .u8 (z3 : Int)] ∧ Below w.heap.size w (wr.setCell ⟨nb, 2, none⟩ (.int .i64 (n2 : Int))) from ⟨show Blk _ nb _ #[.int .i64 (n0 : Int), .int .i64 (n1 : Int), .int .i64 (n2 : Int), .int .i64 0] from by simpa using p1.set_ 2 (.int .i64 (n2 : Int)), p2.other (p := ⟨nb, 2, none⟩) (by have := HP0.out; simp; omega) _, p3.other (p := ⟨nb, 2, none⟩) (by have := HP0.out; simp; omega) _, p4.setCell (p := ⟨nb, 2, none⟩) (by have := HP0.out; simp; omega) _⟩)
      clear p1 p2 p3 p4 HQ
      go_roundw
      case rel => exact ⟨3, by omega, rfl, HR⟩
      case measure => simp [intOf] <;> omega
    · have p1' : Blk wr nb 47 #[.int .i64 (n0 : Int), .int .i64 (n1 : Int), .int .i64 (n2 : Int), .int .i64 0] := p1
      obtain ⟨m0, m1, m2, m3⟩ := cl4 p1'
      obtain ⟨f0, f1, f2, f3⟩ := fz4 p1'
      have HQ := Lib.hid (And.intro p1' (And.intro p2 (And.intro p3 p4)))
      obtain ⟨e1, e2, ⟨e3, e4⟩, ⟨e5, e6⟩, ⟨e7, e8⟩⟩ := HU3.out
      clear p1 p1' p2 p3 p4
      go_wp2_with fail
      clear m0 m1 m2 m3 f0 f1 f2 f3 c0 c1 c2 c3 e1 e2 e3 e4 e5 e6 e7 e8
      obtain ⟨p1, p2, p3, p4⟩ := HQ.out
      have HR := Lib.hid (show Blk (wr.setCell ⟨nb, 3, none⟩ (.int .i64 (n3 : Int))) nb 47 (n4 n0 n1 n2 n3 4) ∧ Blk (wr.setCell ⟨nb, 3, none⟩ (.int .i64 (n3 : Int))) lb 45 #[.slice A n cc] ∧ Blk (wr.setCell ⟨nb, 3, none⟩ (.int .i64 (n3 : Int))) sb 46 #[.int .u8 (z0 : Int), .int .u8 (z1 : Int), .int .u8 (z2 : Int), .int .u8 (z3 : Int)] ∧ Below w.heap.size w (wr.setCell ⟨nb, 3, none⟩ (.int .i64 (n3 : Int))) from ⟨show Blk _ nb _ #[.int .i64 (n0 : Int), .int .i64 (n1 : Int), .int .i64 (n2 : Int), .int .i64 (n3 : Int)] from by simpa using p1.set_ 3 (.int .i64 (n3 : Int)), p2.other (p := ⟨nb, 3, none⟩) (by have := HP0.out; simp; omega) _, p3.other (p := ⟨nb, 3, none⟩) (by have := HP0.out; simp; omega) _, p4.setCell (p := ⟨nb, 3, none⟩) (by have := HP0.out; simp; omega) _⟩)
      clear p1 p2 p3 p4 HQ
      go_roundw
      case rel => exact ⟨4, by omega, rfl, HR⟩
      case measure => simp [intOf] <;> omega
    · have p1' : Blk wr nb 47 #[.int .i64 (n0 : Int), .int .i64 (n1 : Int), .int .i64 (n2 : Int), .int .i64 (n3 : Int)] := p1
      have HQ := Lib.hid (And.intro p1' (And.intro p2 (And.intro p3 p4)))
      clear p1 p1' p2 p3 p4 c0 c1 c2 c3 HU0 HU1 HU2 HU3
      go_wp2_with fail
      obtain ⟨p1, p2, p3, p4⟩ := HQ.out
      have HBn := Lib.hid (p1.alloc (.cells #[.int .i64 0] 3))
      have HBl := Lib.hid (p2.alloc (.cells #[.int .i64 0] 3))
      have HBk := Lib.hid (Blk.new wr 3 #[.int .i64 0])
      have HB3 := Lib.hid (below_al p4 (o := .cells #[.int .i64 0] 3))
      have hsz3 : nb < wr.heap.size := p1.lt
      clear p1 p2 p3 p4 HQ
      generalize hw3 : wr.alloc (.cells #[.int .i64 0] 3) = w3 at *
      generalize hkb : wr.heap.size = kb at *
      have hkz : kb < w3.heap.size := HBk.out.lt
      have hPP := HP0.out
      have hnk : nb ∉ [kb] := by simp; omega
      have hlk : lb ≠ kb := by omega
      have hwk : w.heap.size ≤ kb := by omega
      clear hw3 hkb hPP
      obtain ⟨N01, hN01⟩ : ∃ N, n0 * n1 = N := ⟨_, rfl⟩
      obtain ⟨N12, hN12⟩ : ∃ N, n1 * n2 = N := ⟨_, rfl⟩
      obtain ⟨N23, hN23⟩ : ∃ N, n2 * n3 = N := ⟨_, rfl⟩
      have HNN := Lib.hid (And.intro hN01 (And.intro hN12 hN23))
      have HM0 := Lib.hid (fun W (h : GeKB kb n w3 W) => gemk_any n0 n1 N01 kb lb A n cc l w w3 W h HB3.out hwk hlk HBl.out HA.out Hl.out hn HI.out hN01 HN.out.1 HN.out.2.1)
      have HM1 := Lib.hid (fun W (h : GeKB kb n w3 W) => gemk_any n1 n2 N12 kb lb A n cc l w w3 W h HB3.out hwk hlk HBl.out HA.out Hl.out hn HI.out hN12 HN.out.2.1 HN.out.2.2.1)
      have HM2 := Lib.hid (fun W (h : GeKB kb n w3 W) => gemk_any n2 n3 N23 kb lb A n cc l w w3 W h HB3.out hwk hlk HBl.out HA.out Hl.out hn HI.out hN23 HN.out.2.2.1 HN.out.2.2.2)
      have HG0 : Hid (GeKB kb n w3 w3) := Lib.hid (GeKB.start (k := 0) HBk.out (Nat.zero_le _))
      have HF19 := Lib.hid gemake_enters
      clear hN01 hN12 hN23 HA HI Hl HBl HBk
      refine wp_region_inv [39, 40, 41, 42, 43, 44, 45, 46, 47, 48, 49, 50, 51, 52, 53, 54, 55, 56, 9, 10, 11] (fun d s W => (d 0 = true → s 39 = .func (.func 19) #[] #[.pointer (some ⟨kb, 0, none⟩), .pointer (some ⟨lb, 0, none⟩)]) ∧ (d 1 = true → s 40 = .pointer (some ⟨nb, 0, none⟩)) ∧ (d 2 = true → s 41 = .int .i64 (n0 : Int)) ∧ (d 3 = true → s 42 = .pointer (some ⟨nb, 1, none⟩)) ∧ (d 4 = true → s 43 = .int .i64 (n1 : Int)) ∧ (d 5 = true → XZ W (s 44) w3.heap.size n0 n1 N01 kb) ∧ (d 6 = true → s 45 = .func (.func 19) #[] #[.pointer (some ⟨kb, 0, none⟩), .pointer (some ⟨lb, 0, none⟩)]) ∧ (d 7 = true → s 46 = .pointer (some ⟨nb, 1, none⟩)) ∧ (d 8 = true → s 47 = .int .i64 (n1 : Int)) ∧ (d 9 = true → s 48 = .pointer (some ⟨nb, 2, none⟩)) ∧ (d 10 = true → s 49 = .int .i64 (n2 : Int)) ∧ (d 11 = true → XZ W (s 50) w3.heap.size n1 n2 N12 kb) ∧ (d 12 = true → s 51 = .func (.func 19) #[] #[.pointer (some ⟨kb, 0, none⟩), .pointer (some ⟨lb, 0, none⟩)]) ∧ (d 13 = true → s 52 = .pointer (some ⟨nb, 2, none⟩)) ∧ (d 14 = true → s 53 = .int .i64 (n2 : Int)) ∧ (d 15 = true → s 54 = .pointer (some ⟨nb, 3, none⟩)) ∧ (d 16 = true → s 55 = .int .i64 (n3 : Int)) ∧ (d 17 = true → XZ W (s 56) w3.heap.size n2 n3 N23 kb) ∧ (d 18 = true → NbK W (s 9) w3.heap.size kb) ∧ (d 19 = true → NbK W (s 10) w3.heap.size kb) ∧ (d 20 = true → NbK W (s 11) w3.heap.size kb) ∧ (d 21 = true → PqK W (s 9) w3.heap.size n0 n1 N01 kb) ∧ (d 22 = true → PqK W (s 10) w3.heap.size n1 n2 N12 kb) ∧ (d 23 = true → PqK W (s 11) w3.heap.size n2 n3 N23 kb) ∧ (d 21 = true → d 18 = true) ∧ (d 22 = true → d 19 = true) ∧ (d 23 = true → d 20 = true) ∧ (d 18 = true → d 19 = true → s 9 ≠ s 10) ∧ (d 18 = true → d 20 = true → s 9 ≠ s 11) ∧ (d 19 = true → d 20 = true → s 10 ≠ s 11) ∧ (d 21 = true → d 5 = true) ∧ (d 22 = true → d 11 = true) ∧ (d 23 = true → d 17 = true) ∧ GeKB kb n w3 W)
        rfl (by kernel_rfl) ?_ ?_ ?_
      · exact ⟨by simp, by simp, by simp, by simp, by simp, by simp, by simp, by simp, by simp, by simp, by simp, by simp, by simp, by simp, by simp, by simp, by simp, by simp, by simp, by simp, by simp, by simp, by simp, by simp, by simp, by simp, by simp, by simp, by simp, by simp, by simp, by simp, by simp, HG0.out.drew⟩
      · refine ⟨?_, ?_, ?_, ?_, ?_, ?_, ?_, ?_, ?_, ?_, ?_, ?_, ?_, ?_, ?_, ?_, ?_, ?_, ?_, ?_, ?_, ?_, ?_, ?_, trivial⟩
        all_goals
          intro d s W hJ hfr hd hdep
          simp only [List.mem_cons, forall_eq_or_imp, List.not_mem_nil, false_implies, implies_true, and_true, Region.binds] at hdep
          have f5 := hfr 5 (by decide)
          have f8 := hfr 8 (by decide)
          simp at f5 f8 hdep
          obtain ⟨h0, h1, h2, h3, h4, h5, h6, h7, h8, h9, h10, h11, h12, h13, h14, h15, h16, h17, h18, h19, h20, h21, h22, h23, x0, x1, x2, x3, x4, x5, x6, x7, x8, hT⟩ := hJ
        · as_aux_lemma =>
            unfold OpSteps
            simp [go_sem, evS, f8]
            exact ⟨fun _ => by simp [sput], kpw h1, kpw h2, kpw h3, kpw h4, fun h => by simpa [sput] using h5 (by simpa [did] using h), kpw h6, kpw h7, kpw h8, kpw h9, kpw h10, fun h => by simpa [sput] using h11 (by simpa [did] using h), kpw h12, kpw h13, kpw h14, kpw h15, kpw h16, fun h => by simpa [sput] using h17 (by simpa [did] using h), fun h => by simpa [sput] using h18 (by simpa [did] using h), fun h => by simpa [sput] using h19 (by simpa [did] using h), fun h => by simpa [sput] using h20 (by simpa [did] using h), fun h => by simpa [sput] using h21 (by simpa [did] using h), fun h => by simpa [sput] using h22 (by simpa [did] using h), fun h => by simpa [sput] using h23 (by simpa [did] using h), by simpa [sput, did] using x0, by simpa [sput, did] using x1, by simpa [sput, did] using x2, by simpa [sput, did] using x3, by simpa [sput, did] using x4, by simpa [sput, did] using x5, by simpa [sput, did] using x6, by simpa [sput, did] using x7, by simpa [sput, did] using x8, hT⟩
        · as_aux_lemma =>
            unfold OpSteps
            simp [go_sem, evS, f5]
            exact ⟨kpw h0, fun _ => by simp [sput], kpw h2, kpw h3, kpw h4, fun h => by simpa [sput] using h5 (by simpa [did] using h), kpw h6, kpw h7, kpw h8, kpw h9, kpw h10, fun h => by simpa [sput] using h11 (by simpa [did] using h), kpw h12, kpw h13, kpw h14, kpw h15, kpw h16, fun h => by simpa [sput] using h17 (by simpa [did] using h), fun h => by simpa [sput] using h18 (by simpa [did] using h), fun h => by simpa [sput] using h19 (by simpa [did] using h), fun h => by simpa [sput] using h20 (by simpa [did] using h), fun h => by simpa [sput] using h21 (by simpa [did] using h), fun h => by simpa [sput] using h22 (by simpa [did] using h), fun h => by simpa [sput] using h23 (by simpa [did] using h), by simpa [sput, did] using x0, by simpa [sput, did] using x1, by simpa [sput, did] using x2, by simpa [sput, did] using x3, by simpa [sput, did] using x4, by simpa [sput, did] using x5, by simpa [sput, did] using x6, by simpa [sput, did] using x7, by simpa [sput, did] using x8, hT⟩
        · as_aux_lemma =>
            have g1 := h1 (by simp [hdep])
            unfold OpSteps
            have pc := hT.chg.cell hnk ((cl4 HBn.out).1)
            simp [go_sem, evS, g1, pc]
            exact ⟨kpw h0, kpw h1, fun _ => by simp [sput], kpw h3, kpw h4, fun h => by simpa [sput] using h5 (by simpa [did] using h), kpw h6, kpw h7, kpw h8, kpw h9, kpw h10, fun h => by simpa [sput] using h11 (by simpa [did] using h), kpw h12, kpw h13, kpw h14, kpw h15, kpw h16, fun h => by simpa [sput] using h17 (by simpa [did] using h), fun h => by simpa [sput] using h18 (by simpa [did] using h), fun h => by simpa [sput] using h19 (by simpa [did] using h), fun h => by simpa [sput] using h20 (by simpa [did] using h), fun h => by simpa [sput] using h21 (by simpa [did] using h), fun h => by simpa [sput] using h22 (by simpa [did] using h), fun h => by simpa [sput] using h23 (by simpa [did] using h), by simpa [sput, did] using x0, by simpa [sput, did] using x1, by simpa [sput, did] using x2, by simpa [sput, did] using x3, by simpa [sput, did] using x4, by simpa [sput, did] using x5, by simpa [sput, did] using x6, by simpa [sput, did] using x7, by simpa [sput, did] using x8, hT⟩
        · as_aux_lemma =>
            unfold OpSteps
            simp [go_sem, evS, f5]
            exact ⟨kpw h0, kpw h1, kpw h2, fun _ => by simp [sput], kpw h4, fun h => by simpa [sput] using h5 (by simpa [did] using h), kpw h6, kpw h7, kpw h8, kpw h9, kpw h10, fun h => by simpa [sput] using h11 (by simpa [did] using h), kpw h12, kpw h13, kpw h14, kpw h15, kpw h16, fun h => by simpa [sput] using h17 (by simpa [did] using h), fun h => by simpa [sput] using h18 (by simpa [did] using h), fun h => by simpa [sput] using h19 (by simpa [did] using h), fun h => by simpa [sput] using h20 (by simpa [did] using h), fun h => by simpa [sput] using h21 (by simpa [did] using h), fun h => by simpa [sput] using h22 (by simpa [did] using h), fun h => by simpa [sput] using h23 (by simpa [did] using h), by simpa [sput, did] using x0, by simpa [sput, did] using x1, by simpa [sput, did] using x2, by simpa [sput, did] using x3, by simpa [sput, did] using x4, by simpa [sput, did] using x5, by simpa [sput, did] using x6, by simpa [sput, did] using x7, by simpa [sput, did] using x8, hT⟩
        · as_aux_lemma =>
            have g3 := h3 (by simp [hdep])
            unfold OpSteps
            have pc := hT.chg.cell hnk ((cl4 HBn.out).2.1)
            simp [go_sem, evS, g3, pc]
            exact ⟨kpw h0, kpw h1, kpw h2, kpw h3, fun _ => by simp [sput], fun h => by simpa [sput] using h5 (by simpa [did] using h), kpw h6, kpw h7, kpw h8, kpw h9, kpw h10, fun h => by simpa [sput] using h11 (by simpa [did] using h), kpw h12, kpw h13, kpw h14, kpw h15, kpw h16, fun h => by simpa [sput] using h17 (by simpa [did] using h), fun h => by simpa [sput] using h18 (by simpa [did] using h), fun h => by simpa [sput] using h19 (by simpa [did] using h), fun h => by simpa [sput] using h20 (by simpa [did] using h), fun h => by simpa [sput] using h21 (by simpa [did] using h), fun h => by simpa [sput] using h22 (by simpa [did] using h), fun h => by simpa [sput] using h23 (by simpa [did] using h), by simpa [sput, did] using x0, by simpa [sput, did] using x1, by simpa [sput, did] using x2, by simpa [sput, did] using x3, by simpa [sput, did] using x4, by simpa [sput, did] using x5, by simpa [sput, did] using x6, by simpa [sput, did] using x7, by simpa [sput, did] using x8, hT⟩
        · as_aux_lemma =>
            have g0 := h0 (by simp [hdep])
            have g2 := h2 (by simp [hdep])
            have g4 := h4 (by simp [hdep])
            unfold OpSteps
            simp [go_sem, evS, g0, g2, g4, HF19.out]
            refine (HM0.out W hT).mono ?_
            rintro e W' ⟨g9, M9, Z9, k9, rfl, hX9, hg9, hk9, hkn9, hc9⟩
            refine ⟨_, rfl, ?_⟩
            exact ⟨kpw h0, kpw h1, kpw h2, kpw h3, kpw h4, fun _ => ⟨g9, M9, Z9, by simp [sput], hX9, Nat.le_trans hT.chg.size hg9, hkz⟩, kpw h6, kpw h7, kpw h8, kpw h9, kpw h10, fun h => by simpa [sput] using (h11 (by simpa [did] using h)).below hc9, kpw h12, kpw h13, kpw h14, kpw h15, kpw h16, fun h => by simpa [sput] using (h17 (by simpa [did] using h)).below hc9, fun h => by simpa [sput] using (h18 (by simpa [did] using h)).below hc9, fun h => by simpa [sput] using (h19 (by simpa [did] using h)).below hc9, fun h => by simpa [sput] using (h20 (by simpa [did] using h)).below hc9, fun h => by have := x6 (by simpa [did] using h); simp [hd] at this, fun h => by simpa [sput] using (h22 (by simpa [did] using h)).below hc9, fun h => by simpa [sput] using (h23 (by simpa [did] using h)).below hc9, by simpa [sput, did] using x0, by simpa [sput, did] using x1, by simpa [sput, did] using x2, by simpa [sput, did] using x3, by simpa [sput, did] using x4, by simpa [sput, did] using x5, fun _ => by simp [did], by simpa [sput, did] using x7, by simpa [sput, did] using x8, hT.call hk9 hkn9 hc9⟩
        · as_aux_lemma =>
            unfold OpSteps
            simp [go_sem, evS, f8]
            exact ⟨kpw h0, kpw h1, kpw h2, kpw h3, kpw h4, fun h => by simpa [sput] using h5 (by simpa [did] using h), fun _ => by simp [sput], kpw h7, kpw h8, kpw h9, kpw h10, fun h => by simpa [sput] using h11 (by simpa [did] using h), kpw h12, kpw h13, kpw h14, kpw h15, kpw h16, fun h => by simpa [sput] using h17 (by simpa [did] using h), fun h => by simpa [sput] using h18 (by simpa [did] using h), fun h => by simpa [sput] using h19 (by simpa [did] using h), fun h => by simpa [sput] using h20 (by simpa [did] using h), fun h => by simpa [sput] using h21 (by simpa [did] using h), fun h => by simpa [sput] using h22 (by simpa [did] using h), fun h => by simpa [sput] using h23 (by simpa [did] using h), by simpa [sput, did] using x0, by simpa [sput, did] using x1, by simpa [sput, did] using x2, by simpa [sput, did] using x3, by simpa [sput, did] using x4, by simpa [sput, did] using x5, by simpa [sput, did] using x6, by simpa [sput, did] using x7, by simpa [sput, did] using x8, hT⟩
        · as_aux_lemma =>
            unfold OpSteps
            simp [go_sem, evS, f5]
            exact ⟨kpw h0, kpw h1, kpw h2, kpw h3, kpw h4, fun h => by simpa [sput] using h5 (by simpa [did] using h), kpw h6, fun _ => by simp [sput], kpw h8, kpw h9, kpw h10, fun h => by simpa [sput] using h11 (by simpa [did] using h), kpw h12, kpw h13, kpw h14, kpw h15, kpw h16, fun h => by simpa [sput] using h17 (by simpa [did] using h), fun h => by simpa [sput] using h18 (by simpa [did] using h), fun h => by simpa [sput] using h19 (by simpa [did] using h), fun h => by simpa [sput] using h20 (by simpa [did] using h), fun h => by simpa [sput] using h21 (by simpa [did] using h), fun h => by simpa [sput] using h22 (by simpa [did] using h), fun h => by simpa [sput] using h23 (by simpa [did] using h), by simpa [sput, did] using x0, by simpa [sput, did] using x1, by simpa [sput, did] using x2, by simpa [sput, did] using x3, by simpa [sput, did] using x4, by simpa [sput, did] using x5, by simpa [sput, did] using x6, by simpa [sput, did] using x7, by simpa [sput, did] using x8, hT⟩
        · as_aux_lemma =>
            have g7 := h7 (by simp [hdep])
            unfold OpSteps
            have pc := hT.chg.cell hnk ((cl4 HBn.out).2.1)
            simp [go_sem, evS, g7, pc]
            exact ⟨kpw h0, kpw h1, kpw h2, kpw h3, kpw h4, fun h => by simpa [sput] using h5 (by simpa [did] using h), kpw h6, kpw h7, fun _ => by simp [sput], kpw h9, kpw h10, fun h => by simpa [sput] using h11 (by simpa [did] using h), kpw h12, kpw h13, kpw h14, kpw h15, kpw h16, fun h => by simpa [sput] using h17 (by simpa [did] using h), fun h => by simpa [sput] using h18 (by simpa [did] using h), fun h => by simpa [sput] using h19 (by simpa [did] using h), fun h => by simpa [sput] using h20 (by simpa [did] using h), fun h => by simpa [sput] using h21 (by simpa [did] using h), fun h => by simpa [sput] using h22 (by simpa [did] using h), fun h => by simpa [sput] using h23 (by simpa [did] using h), by simpa [sput, did] using x0, by simpa [sput, did] using x1, by simpa [sput, did] using x2, by simpa [sput, did] using x3, by simpa [sput, did] using x4, by simpa [sput, did] using x5, by simpa [sput, did] using x6, by simpa [sput, did] using x7, by simpa [sput, did] using x8, hT⟩
        · as_aux_lemma =>
            unfold OpSteps
            simp [go_sem, evS, f5]
            exact ⟨kpw h0, kpw h1, kpw h2, kpw h3, kpw h4, fun h => by simpa [sput] using h5 (by simpa [did] using h), kpw h6, kpw h7, kpw h8, fun _ => by simp [sput], kpw h10, fun h => by simpa [sput] using h11 (by simpa [did] using h), kpw h12, kpw h13, kpw h14, kpw h15, kpw h16, fun h => by simpa [sput] using h17 (by simpa [did] using h), fun h => by simpa [sput] using h18 (by simpa [did] using h), fun h => by simpa [sput] using h19 (by simpa [did] using h), fun h => by simpa [sput] using h20 (by simpa [did] using h), fun h => by simpa [sput] using h21 (by simpa [did] using h), fun h => by simpa [sput] using h22 (by simpa [did] using h), fun h => by simpa [sput] using h23 (by simpa [did] using h), by simpa [sput, did] using x0, by simpa [sput, did] using x1, by simpa [sput, did] using x2, by simpa [sput, did] using x3, by simpa [sput, did] using x4, by simpa [sput, did] using x5, by simpa [sput, did] using x6, by simpa [sput, did] using x7, by simpa [sput, did] using x8, hT⟩
        · as_aux_lemma =>
            have g9 := h9 (by simp [hdep])
            unfold OpSteps
            have pc := hT.chg.cell hnk ((cl4 HBn.out).2.2.1)
            simp [go_sem, evS, g9, pc]
            exact ⟨kpw h0, kpw h1, kpw h2, kpw h3, kpw h4, fun h => by simpa [sput] using h5 (by simpa [did] using h), kpw h6, kpw h7, kpw h8, kpw h9, fun _ => by simp [sput], fun h => by simpa [sput] using h11 (by simpa [did] using h), kpw h12, kpw h13, kpw h14, kpw h15, kpw h16, fun h => by simpa [sput] using h17 (by simpa [did] using h), fun h => by simpa [sput] using h18 (by simpa [did] using h), fun h => by simpa [sput] using h19 (by simpa [did] using h), fun h => by simpa [sput] using h20 (by simpa [did] using h), fun h => by simpa [sput] using h21 (by simpa [did] using h), fun h => by simpa [sput] using h22 (by simpa [did] using h), fun h => by simpa [sput] using h23 (by simpa [did] using h), by simpa [sput, did] using x0, by simpa [sput, did] using x1, by simpa [sput, did] using x2, by simpa [sput, did] using x3, by simpa [sput, did] using x4, by simpa [sput, did] using x5, by simpa [sput, did] using x6, by simpa [sput, did] using x7, by simpa [sput, did] using x8, hT⟩
        · as_aux_lemma =>
            have g6 := h6 (by simp [hdep])
            have g8 := h8 (by simp [hdep])
            have g10 := h10 (by simp [hdep])
            unfold OpSteps
            simp [go_sem, evS, g6, g8, g10, HF19.out]
            refine (HM1.out W hT).mono ?_
            rintro e W' ⟨g9, M9, Z9, k9, rfl, hX9, hg9, hk9, hkn9, hc9⟩
            refine ⟨_, rfl, ?_⟩
            exact ⟨kpw h0, kpw h1, kpw h2, kpw h3, kpw h4, fun h => by simpa [sput] using (h5 (by simpa [did] using h)).below hc9, kpw h6, kpw h7, kpw h8, kpw h9, kpw h10, fun _ => ⟨g9, M9, Z9, by simp [sput], hX9, Nat.le_trans hT.chg.size hg9, hkz⟩, kpw h12, kpw h13, kpw h14, kpw h15, kpw h16, fun h => by simpa [sput] using (h17 (by simpa [did] using h)).below hc9, fun h => by simpa [sput] using (h18 (by simpa [did] using h)).below hc9, fun h => by simpa [sput] using (h19 (by simpa [did] using h)).below hc9, fun h => by simpa [sput] using (h20 (by simpa [did] using h)).below hc9, fun h => by simpa [sput] using (h21 (by simpa [did] using h)).below hc9, fun h => by have := x7 (by simpa [did] using h); simp [hd] at this, fun h => by simpa [sput] using (h23 (by simpa [did] using h)).below hc9, by simpa [sput, did] using x0, by simpa [sput, did] using x1, by simpa [sput, did] using x2, by simpa [sput, did] using x3, by simpa [sput, did] using x4, by simpa [sput, did] using x5, by simpa [sput, did] using x6, fun _ => by simp [did], by simpa [sput, did] using x8, hT.call hk9 hkn9 hc9⟩
        · as_aux_lemma =>
            unfold OpSteps
            simp [go_sem, evS, f8]
            exact ⟨kpw h0, kpw h1, kpw h2, kpw h3, kpw h4, fun h => by simpa [sput] using h5 (by simpa [did] using h), kpw h6, kpw h7, kpw h8, kpw h9, kpw h10, fun h => by simpa [sput] using h11 (by simpa [did] using h), fun _ => by simp [sput], kpw h13, kpw h14, kpw h15, kpw h16, fun h => by simpa [sput] using h17 (by simpa [did] using h), fun h => by simpa [sput] using h18 (by simpa [did] using h), fun h => by simpa [sput] using h19 (by simpa [did] using h), fun h => by simpa [sput] using h20 (by simpa [did] using h), fun h => by simpa [sput] using h21 (by simpa [did] using h), fun h => by simpa [sput] using h22 (by simpa [did] using h), fun h => by simpa [sput] using h23 (by simpa [did] using h), by simpa [sput, did] using x0, by simpa [sput, did] using x1, by simpa [sput, did] using x2, by simpa [sput, did] using x3, by simpa [sput, did] using x4, by simpa [sput, did] using x5, by simpa [sput, did] using x6, by simpa [sput, did] using x7, by simpa [sput, did] using x8, hT⟩
        · as_aux_lemma =>
            unfold OpSteps
            simp [go_sem, evS, f5]
            exact ⟨kpw h0, kpw h1, kpw h2, kpw h3, kpw h4, fun h => by simpa [sput] using h5 (by simpa [did] using h), kpw h6, kpw h7, kpw h8, kpw h9, kpw h10, fun h => by simpa [sput] using h11 (by simpa [did] using h), kpw h12, fun _ => by simp [sput], kpw h14, kpw h15, kpw h16, fun h => by simpa [sput] using h17 (by simpa [did] using h), fun h => by simpa [sput] using h18 (by simpa [did] using h), fun h => by simpa [sput] using h19 (by simpa [did] using h), fun h => by simpa [sput] using h20 (by simpa [did] using h), fun h => by simpa [sput] using h21 (by simpa [did] using h), fun h => by simpa [sput] using h22 (by simpa [did] using h), fun h => by simpa [sput] using h23 (by simpa [did] using h), by simpa [sput, did] using x0, by simpa [sput, did] using x1, by simpa [sput, did] using x2, by simpa [sput, did] using x3, by simpa [sput, did] using x4, by simpa [sput, did] using x5, by simpa [sput, did] using x6, by simpa [sput, did] using x7, by simpa [sput, did] using x8, hT⟩
        · as_aux_lemma =>
            have g13 := h13 (by simp [hdep])
            unfold OpSteps
            have pc := hT.chg.cell hnk ((cl4 HBn.out).2.2.1)
            simp [go_sem, evS, g13, pc]
            exact ⟨kpw h0, kpw h1, kpw h2, kpw h3, kpw h4, fun h => by simpa [sput] using h5 (by simpa [did] using h), kpw h6, kpw h7, kpw h8, kpw h9, kpw h10, fun h => by simpa [sput] using h11 (by simpa [did] using h), kpw h12, kpw h13, fun _ => by simp [sput], kpw h15, kpw h16, fun h => by simpa [sput] using h17 (by simpa [did] using h), fun h => by simpa [sput] using h18 (by simpa [did] using h), fun h => by simpa [sput] using h19 (by simpa [did] using h), fun h => by simpa [sput] using h20 (by simpa [did] using h), fun h => by simpa [sput] using h21 (by simpa [did] using h), fun h => by simpa [sput] using h22 (by simpa [did] using h), fun h => by simpa [sput] using h23 (by simpa [did] using h), by simpa [sput, did] using x0, by simpa [sput, did] using x1, by simpa [sput, did] using x2, by simpa [sput, did] using x3, by simpa [sput, did] using x4, by simpa [sput, did] using x5, by simpa [sput, did] using x6, by simpa [sput, did] using x7, by simpa [sput, did] using x8, hT⟩
        · as_aux_lemma =>
            unfold OpSteps
            simp [go_sem, evS, f5]
            exact ⟨kpw h0, kpw h1, kpw h2, kpw h3, kpw h4, fun h => by simpa [sput] using h5 (by simpa [did] using h), kpw h6, kpw h7, kpw h8, kpw h9, kpw h10, fun h => by simpa [sput] using h11 (by simpa [did] using h), kpw h12, kpw h13, kpw h14, fun _ => by simp [sput], kpw h16, fun h => by simpa [sput] using h17 (by simpa [did] using h), fun h => by simpa [sput] using h18 (by simpa [did] using h), fun h => by simpa [sput] using h19 (by simpa [did] using h), fun h => by simpa [sput] using h20 (by simpa [did] using h), fun h => by simpa [sput] using h21 (by simpa [did] using h), fun h => by simpa [sput] using h22 (by simpa [did] using h), fun h => by simpa [sput] using h23 (by simpa [did] using h), by simpa [sput, did] using x0, by simpa [sput, did] using x1, by simpa [sput, did] using x2, by simpa [sput, did] using x3, by simpa [sput, did] using x4, by simpa [sput, did] using x5, by simpa [sput, did] using x6, by simpa [sput, did] using x7, by simpa [sput, did] using x8, hT⟩
        · as_aux_lemma =>
            have g15 := h15 (by simp [hdep])
            unfold OpSteps
            have pc := hT.chg.cell hnk ((cl4 HBn.out).2.2.2)
            simp [go_sem, evS, g15, pc]
            exact ⟨kpw h0, kpw h1, kpw h2, kpw h3, kpw h4, fun h => by simpa [sput] using h5 (by simpa [did] using h), kpw h6, kpw h7, kpw h8, kpw h9, kpw h10, fun h => by simpa [sput] using h11 (by simpa [did] using h), kpw h12, kpw h13, kpw h14, kpw h15, fun _ => by simp [sput], fun h => by simpa [sput] using h17 (by simpa [did] using h), fun h => by simpa [sput] using h18 (by simpa [did] using h), fun h => by simpa [sput] using h19 (by simpa [did] using h), fun h => by simpa [sput] using h20 (by simpa [did] using h), fun h => by simpa [sput] using h21 (by simpa [did] using h), fun h => by simpa [sput] using h22 (by simpa [did] using h), fun h => by simpa [sput] using h23 (by simpa [did] using h), by simpa [sput, did] using x0, by simpa [sput, did] using x1, by simpa [sput, did] using x2, by simpa [sput, did] using x3, by simpa [sput, did] using x4, by simpa [sput, did] using x5, by simpa [sput, did] using x6, by simpa [sput, did] using x7, by simpa [sput, did] using x8, hT⟩
        · as_aux_lemma =>
            have g12 := h12 (by simp [hdep])
            have g14 := h14 (by simp [hdep])
            have g16 := h16 (by simp [hdep])
            unfold OpSteps
            simp [go_sem, evS, g12, g14, g16, HF19.out]
            refine (HM2.out W hT).mono ?_
            rintro e W' ⟨g9, M9, Z9, k9, rfl, hX9, hg9, hk9, hkn9, hc9⟩
            refine ⟨_, rfl, ?_⟩
            exact ⟨kpw h0, kpw h1, kpw h2, kpw h3, kpw h4, fun h => by simpa [sput] using (h5 (by simpa [did] using h)).below hc9, kpw h6, kpw h7, kpw h8, kpw h9, kpw h10, fun h => by simpa [sput] using (h11 (by simpa [did] using h)).below hc9, kpw h12, kpw h13, kpw h14, kpw h15, kpw h16, fun _ => ⟨g9, M9, Z9, by simp [sput], hX9, Nat.le_trans hT.chg.size hg9, hkz⟩, fun h => by simpa [sput] using (h18 (by simpa [did] using h)).below hc9, fun h => by simpa [sput] using (h19 (by simpa [did] using h)).below hc9, fun h => by simpa [sput] using (h20 (by simpa [did] using h)).below hc9, fun h => by simpa [sput] using (h21 (by simpa [did] using h)).below hc9, fun h => by simpa [sput] using (h22 (by simpa [did] using h)).below hc9, fun h => by have := x8 (by simpa [did] using h); simp [hd] at this, by simpa [sput, did] using x0, by simpa [sput, did] using x1, by simpa [sput, did] using x2, by simpa [sput, did] using x3, by simpa [sput, did] using x4, by simpa [sput, did] using x5, by simpa [sput, did] using x6, by simpa [sput, did] using x7, fun _ => by simp [did], hT.call hk9 hkn9 hc9⟩
        · as_aux_lemma =>
            unfold OpSteps
            simp [go_sem, evS]
            exact ⟨kpw h0, kpw h1, kpw h2, kpw h3, kpw h4, fun h => by simpa [sput] using (h5 (by simpa [did] using h)).below (Chg.of_below below_one), kpw h6, kpw h7, kpw h8, kpw h9, kpw h10, fun h => by simpa [sput] using (h11 (by simpa [did] using h)).below (Chg.of_below below_one), kpw h12, kpw h13, kpw h14, kpw h15, kpw h16, fun h => by simpa [sput] using (h17 (by simpa [did] using h)).below (Chg.of_below below_one), fun _ => ⟨W.heap.size, _, _, _, _, _, by simp [sput], Blk.new W _ _, hT.chg.size, hkz⟩, fun h => by simpa [sput] using (h19 (by simpa [did] using h)).below (Chg.of_below below_one), fun h => by simpa [sput] using (h20 (by simpa [did] using h)).below (Chg.of_below below_one), fun h => by have := x0 (by simpa [did] using h); simp [hd] at this, fun h => by simpa [sput] using (h22 (by simpa [did] using h)).below (Chg.of_below below_one), fun h => by simpa [sput] using (h23 (by simpa [did] using h)).below (Chg.of_below below_one), fun _ => by simp [did], by simpa [sput, did] using x1, by simpa [sput, did] using x2, fun _ e8 => by have hq := (h19 (by simpa [did] using e8)).new_ne; simp [sput]; exact fun e => hq e.symm, fun _ e8 => by have hq := (h20 (by simpa [did] using e8)).new_ne; simp [sput]; exact fun e => hq e.symm, by simpa [sput, did] using x5, by simpa [sput, did] using x6, by simpa [sput, did] using x7, by simpa [sput, did] using x8, hT.nxt below_one⟩
        · as_aux_lemma =>
            unfold OpSteps
            simp [go_sem, evS]
            exact ⟨kpw h0, kpw h1, kpw h2, kpw h3, kpw h4, fun h => by simpa [sput] using (h5 (by simpa [did] using h)).below (Chg.of_below below_one), kpw h6, kpw h7, kpw h8, kpw h9, kpw h10, fun h => by simpa [sput] using (h11 (by simpa [did] using h)).below (Chg.of_below below_one), kpw h12, kpw h13, kpw h14, kpw h15, kpw h16, fun h => by simpa [sput] using (h17 (by simpa [did] using h)).below (Chg.of_below below_one), fun h => by simpa [sput] using (h18 (by simpa [did] using h)).below (Chg.of_below below_one), fun _ => ⟨W.heap.size, _, _, _, _, _, by simp [sput], Blk.new W _ _, hT.chg.size, hkz⟩, fun h => by simpa [sput] using (h20 (by simpa [did] using h)).below (Chg.of_below below_one), fun h => by simpa [sput] using (h21 (by simpa [did] using h)).below (Chg.of_below below_one), fun h => by have := x1 (by simpa [did] using h); simp [hd] at this, fun h => by simpa [sput] using (h23 (by simpa [did] using h)).below (Chg.of_below below_one), by simpa [sput, did] using x0, fun _ => by simp [did], by simpa [sput, did] using x2, fun e7 _ => by have hq := (h18 (by simpa [did] using e7)).new_ne; simp [sput]; exact hq, by simpa [sput, did] using x4, fun _ e8 => by have hq := (h20 (by simpa [did] using e8)).new_ne; simp [sput]; exact fun e => hq e.symm, by simpa [sput, did] using x6, by simpa [sput, did] using x7, by simpa [sput, did] using x8, hT.nxt below_one⟩
        · as_aux_lemma =>
            unfold OpSteps
            simp [go_sem, evS]
            exact ⟨kpw h0, kpw h1, kpw h2, kpw h3, kpw h4, fun h => by simpa [sput] using (h5 (by simpa [did] using h)).below (Chg.of_below below_one), kpw h6, kpw h7, kpw h8, kpw h9, kpw h10, fun h => by simpa [sput] using (h11 (by simpa [did] using h)).below (Chg.of_below below_one), kpw h12, kpw h13, kpw h14, kpw h15, kpw h16, fun h => by simpa [sput] using (h17 (by simpa [did] using h)).below (Chg.of_below below_one), fun h => by simpa [sput] using (h18 (by simpa [did] using h)).below (Chg.of_below below_one), fun h => by simpa [sput] using (h19 (by simpa [did] using h)).below (Chg.of_below below_one), fun _ => ⟨W.heap.size, _, _, _, _, _, by simp [sput], Blk.new W _ _, hT.chg.size, hkz⟩, fun h => by simpa [sput] using (h21 (by simpa [did] using h)).below (Chg.of_below below_one), fun h => by simpa [sput] using (h22 (by simpa [did] using h)).below (Chg.of_below below_one), fun h => by have := x2 (by simpa [did] using h); simp [hd] at this, by simpa [sput, did] using x0, by simpa [sput, did] using x1, fun _ => by simp [did], by simpa [sput, did] using x3, fun e7 _ => by have hq := (h18 (by simpa [did] using e7)).new_ne; simp [sput]; exact hq, fun e7 _ => by have hq := (h19 (by simpa [did] using e7)).new_ne; simp [sput]; exact hq, by simpa [sput, did] using x6, by simpa [sput, did] using x7, by simpa [sput, did] using x8, hT.nxt below_one⟩
        · as_aux_lemma =>
            have g18 := h18 (by simp [hdep])
            have g5 := h5 (by simp [hdep])
            unfold OpSteps
            obtain ⟨p9, z0, z1, z2, z3, z4, gp, hB9, hlo, hkz9⟩ := g18
            obtain ⟨g9, M9, Z9, gv, gX, gz, gkz⟩ := g5
            have e7 : d 18 = true := by simp [hdep]
            obtain ⟨fr0, fr1, fr2, fr3, fr4⟩ := frozen5w hB9
            obtain ⟨k0, k1, k2, k3, k4⟩ := cells5 hB9
            have hfar : ∀ k9, k9 ≠ p9 → _ := fun k9 (hk9 : k9 ≠ p9) => heap_sets5 (w := W) hk9 (.slice (some ⟨g9, 0, none⟩) N01 N01) (.int .i64 0) (.int .i64 (n0 : Int)) (.int .i64 (n1 : Int)) (.int .i64 (n0 : Int))
            simp [go_sem, evS, gp, gv, fr0, fr1, fr2, fr3, fr4, k0, k1, k2, k3, k4]
            exact ⟨kpw h0, kpw h1, kpw h2, kpw h3, kpw h4, fun h => by simpa [sput] using (h5 (by simpa [did] using h)).far hB9 (by decide) hfar, kpw h6, kpw h7, kpw h8, kpw h9, kpw h10, fun h => by simpa [sput] using (h11 (by simpa [did] using h)).far hB9 (by decide) hfar, kpw h12, kpw h13, kpw h14, kpw h15, kpw h16, fun h => by simpa [sput] using (h17 (by simpa [did] using h)).far hB9 (by decide) hfar, fun h => ⟨p9, _, _, _, _, _, by simpa [sput] using gp, Blk.store5 hB9 _ _ _ _ _, hlo, hkz9⟩, fun h => by simpa [sput] using (h19 (by simpa [did] using h)).far (fun e => x3 e7 (by simpa [did] using h) (gp.trans e.symm)) hfar, fun h => by simpa [sput] using (h20 (by simpa [did] using h)).far (fun e => x4 e7 (by simpa [did] using h) (gp.trans e.symm)) hfar, fun _ => ⟨p9, g9, M9, Z9, by simpa [sput] using gp, Blk.store5 hB9 _ _ _ _ _, gX.own_ (own_offe gX.own (own_ne gX.own hB9 (by decide)) hfar), hlo, gz, hkz9⟩, fun h => by simpa [sput] using (h22 (by simpa [did] using h)).far hB9 (by decide) (fun e => x3 e7 (x1 (by simpa [did] using h)) (gp.trans e.symm)) hfar, fun h => by simpa [sput] using (h23 (by simpa [did] using h)).far hB9 (by decide) (fun e => x4 e7 (x2 (by simpa [did] using h)) (gp.trans e.symm)) hfar, fun _ => by simp [did, hdep], by simpa [sput, did] using x1, by simpa [sput, did] using x2, by simpa [sput, did] using x3, by simpa [sput, did] using x4, by simpa [sput, did] using x5, fun _ => by simp [did, hdep], by simpa [sput, did] using x7, by simpa [sput, did] using x8, hT.far5 hlo hkz9 _ _ _ _ _⟩
        · as_aux_lemma =>
            have g19 := h19 (by simp [hdep])
            have g11 := h11 (by simp [hdep])
            unfold OpSteps
            obtain ⟨p9, z0, z1, z2, z3, z4, gp, hB9, hlo, hkz9⟩ := g19
            obtain ⟨g9, M9, Z9, gv, gX, gz, gkz⟩ := g11
            have e7 : d 19 = true := by simp [hdep]
            obtain ⟨fr0, fr1, fr2, fr3, fr4⟩ := frozen5w hB9
            obtain ⟨k0, k1, k2, k3, k4⟩ := cells5 hB9
            have hfar : ∀ k9, k9 ≠ p9 → _ := fun k9 (hk9 : k9 ≠ p9) => heap_sets5 (w := W) hk9 (.slice (some ⟨g9, 0, none⟩) N12 N12) (.int .i64 0) (.int .i64 (n1 : Int)) (.int .i64 (n2 : Int)) (.int .i64 (n1 : Int))
            simp [go_sem, evS, gp, gv, fr0, fr1, fr2, fr3, fr4, k0, k1, k2, k3, k4]
            exact ⟨kpw h0, kpw h1, kpw h2, kpw h3, kpw h4, fun h => by simpa [sput] using (h5 (by simpa [did] using h)).far hB9 (by decide) hfar, kpw h6, kpw h7, kpw h8, kpw h9, kpw h10, fun h => by simpa [sput] using (h11 (by simpa [did] using h)).far hB9 (by decide) hfar, kpw h12, kpw h13, kpw h14, kpw h15, kpw h16, fun h => by simpa [sput] using (h17 (by simpa [did] using h)).far hB9 (by decide) hfar, fun h => by simpa [sput] using (h18 (by simpa [did] using h)).far (fun e => x3 (by simpa [did] using h) e7 (e.trans gp.symm)) hfar, fun h => ⟨p9, _, _, _, _, _, by simpa [sput] using gp, Blk.store5 hB9 _ _ _ _ _, hlo, hkz9⟩, fun h => by simpa [sput] using (h20 (by simpa [did] using h)).far (fun e => x5 e7 (by simpa [did] using h) (gp.trans e.symm)) hfar, fun h => by simpa [sput] using (h21 (by simpa [did] using h)).far hB9 (by decide) (fun e => x3 (x0 (by simpa [did] using h)) e7 (e.trans gp.symm)) hfar, fun _ => ⟨p9, g9, M9, Z9, by simpa [sput] using gp, Blk.store5 hB9 _ _ _ _ _, gX.own_ (own_offe gX.own (own_ne gX.own hB9 (by decide)) hfar), hlo, gz, hkz9⟩, fun h => by simpa [sput] using (h23 (by simpa [did] using h)).far hB9 (by decide) (fun e => x5 e7 (x2 (by simpa [did] using h)) (gp.trans e.symm)) hfar, by simpa [sput, did] using x0, fun _ => by simp [did, hdep], by simpa [sput, did] using x2, by simpa [sput, did] using x3, by simpa [sput, did] using x4, by simpa [sput, did] using x5, by simpa [sput, did] using x6, fun _ => by simp [did, hdep], by simpa [sput, did] using x8, hT.far5 hlo hkz9 _ _ _ _ _⟩
        · as_aux_lemma =>
            have g20 := h20 (by simp [hdep])
            have g17 := h17 (by simp [hdep])
            unfold OpSteps
            obtain ⟨p9, z0, z1, z2, z3, z4, gp, hB9, hlo, hkz9⟩ := g20
            obtain ⟨g9, M9, Z9, gv, gX, gz, gkz⟩ := g17
            have e7 : d 20 = true := by simp [hdep]
            obtain ⟨fr0, fr1, fr2, fr3, fr4⟩ := frozen5w hB9
            obtain ⟨k0, k1, k2, k3, k4⟩ := cells5 hB9
            have hfar : ∀ k9, k9 ≠ p9 → _ := fun k9 (hk9 : k9 ≠ p9) => heap_sets5 (w := W) hk9 (.slice (some ⟨g9, 0, none⟩) N23 N23) (.int .i64 0) (.int .i64 (n2 : Int)) (.int .i64 (n3 : Int)) (.int .i64 (n2 : Int))
            simp [go_sem, evS, gp, gv, fr0, fr1, fr2, fr3, fr4, k0, k1, k2, k3, k4]
            exact ⟨kpw h0, kpw h1, kpw h2, kpw h3, kpw h4, fun h => by simpa [sput] using (h5 (by simpa [did] using h)).far hB9 (by decide) hfar, kpw h6, kpw h7, kpw h8, kpw h9, kpw h10, fun h => by simpa [sput] using (h11 (by simpa [did] using h)).far hB9 (by decide) hfar, kpw h12, kpw h13, kpw h14, kpw h15, kpw h16, fun h => by simpa [sput] using (h17 (by simpa [did] using h)).far hB9 (by decide) hfar, fun h => by simpa [sput] using (h18 (by simpa [did] using h)).far (fun e => x4 (by simpa [did] using h) e7 (e.trans gp.symm)) hfar, fun h => by simpa [sput] using (h19 (by simpa [did] using h)).far (fun e => x5 (by simpa [did] using h) e7 (e.trans gp.symm)) hfar, fun h => ⟨p9, _, _, _, _, _, by simpa [sput] using gp, Blk.store5 hB9 _ _ _ _ _, hlo, hkz9⟩, fun h => by simpa [sput] using (h21 (by simpa [did] using h)).far hB9 (by decide) (fun e => x4 (x0 (by simpa [did] using h)) e7 (e.trans gp.symm)) hfar, fun h => by simpa [sput] using (h22 (by simpa [did] using h)).far hB9 (by decide) (fun e => x5 (x1 (by simpa [did] using h)) e7 (e.trans gp.symm)) hfar, fun _ => ⟨p9, g9, M9, Z9, by simpa [sput] using gp, Blk.store5 hB9 _ _ _ _ _, gX.own_ (own_offe gX.own (own_ne gX.own hB9 (by decide)) hfar), hlo, gz, hkz9⟩, by simpa [sput, did] using x0, by simpa [sput, did] using x1, fun _ => by simp [did, hdep], by simpa [sput, did] using x3, by simpa [sput, did] using x4, by simpa [sput, did] using x5, by simpa [sput, did] using x6, by simpa [sput, did] using x7, fun _ => by simp [did, hdep], hT.far5 hlo hkz9 _ _ _ _ _⟩
      intro d s W hJ hd
      obtain ⟨h0, h1, h2, h3, h4, h5, h6, h7, h8, h9, h10, h11, h12, h13, h14, h15, h16, h17, h18, h19, h20, h21, h22, h23, x0, x1, x2, x3, x4, x5, x6, x7, x8, hT⟩ := hJ
      have h9' := h21 (hd 21 (by decide))
      have h10' := h22 (hd 22 (by decide))
      have h11' := h23 (hd 23 (by decide))
      clear h0 h1 h2 h3 h4 h5 h6 h7 h8 h9 h10 h11 h12 h13 h14 h15 h16 h17 h18 h19 h20 h21 h22 h23 x0 x1 x2 x3 x4 x5 x6 x7 x8 hd
      obtain ⟨pa, ga, Ma, Za, hs9, hBa, hXa, hpa, hga, _⟩ := h9'
      obtain ⟨pb, gb, Mb, Zb, hs10, hBb, hXb, hpb, hgb, _⟩ := h10'
      obtain ⟨pc, gc, Mc, Zc, hs11, hBc, hXc, hpc, hgc, _⟩ := h11'
      have HB4 := Lib.hid (hT.chg.below HB3.out HB3.out.size (fun x hx => by simp at hx; omega))
      have Ha4 := Lib.hid hBa
      have Hb4 := Lib.hid hBb
      have Hc4 := Lib.hid hBc
      have HX4 := Lib.hid hXa
      have HY4 := Lib.hid hXb
      have HZ4 := Lib.hid hXc
      clear hT hBa hBb hBc hXa hXb hXc hpa hpb hpc hga hgb hgc HBn HB3 HM0 HM1 HM2 HG0 HF19 hkz hnk hlk hwk
      simp [setAll, hs9, hs10, hs11]
      clear hs9 hs10 hs11
      generalize s 39 = s39
      generalize s 40 = s40
      generalize s 41 = s41
      generalize s 42 = s42
      generalize s 43 = s43
      generalize s 44 = s44
      generalize s 45 = s45
      generalize s 46 = s46
      generalize s 47 = s47
      generalize s 48 = s48
      generalize s 49 = s49
      generalize s 50 = s50
      generalize s 51 = s51
      generalize s 52 = s52
      generalize s 53 = s53
      generalize s 54 = s54
      generalize s 55 = s55
      generalize s 56 = s56
      generalize W = w4 at *
      obtain ⟨N02, hN02⟩ : ∃ N, n0 * n2 = N := ⟨_, rfl⟩
      obtain ⟨N13, hN13⟩ : ∃ N, n1 * n3 = N := ⟨_, rfl⟩
      obtain ⟨N03, hN03⟩ : ∃ N, n0 * n3 = N := ⟨_, rfl⟩
      have HNM := Lib.hid (And.intro hN02 (And.intro hN13 hN03))
      clear hN02 hN13 hN03
      obtain ⟨a0, a1, a2, a3, a4⟩ := cells5 Ha4.out
      obtain ⟨b0, b1, b2, b3, b4⟩ := cells5 Hb4.out
      obtain ⟨c0, c1, c2, c3, c4⟩ := cells5 Hc4.out
      go_wp2_with fail
      refine (gegood_any HX4.out HN.out.1 HN.out.2.1 _).mono ?_
      rintro e w5 ⟨rfl, hb⟩
      have Ha5 := Lib.hid (Ha4.out.nxt hb)
      have Hb5 := Lib.hid (Hb4.out.nxt hb)
      have Hc5 := Lib.hid (Hc4.out.nxt hb)
      have HX5 := Lib.hid (HX4.out.nxt hb)
      have HY5 := Lib.hid (HY4.out.nxt hb)
      have HZ5 := Lib.hid (HZ4.out.nxt hb)
      have HB5 := Lib.hid (below_nx HB4.out hb)
      clear Ha4 Hb4 Hc4 HX4 HY4 HZ4 HB4
      clear a0 a1 a2 a3 a4 b0 b1 b2 b3 b4 c0 c1 c2 c3 c4
      clear hb
      obtain ⟨a0, a1, a2, a3, a4⟩ := cells5 Ha5.out
      obtain ⟨b0, b1, b2, b3, b4⟩ := cells5 Hb5.out
      obtain ⟨c0, c1, c2, c3, c4⟩ := cells5 Hc5.out
      go_wp2_with fail
      refine (gegood_any HY5.out HN.out.2.1 HN.out.2.2.1 _).mono ?_
      rintro e w6 ⟨rfl, hb⟩
      have Ha6 := Lib.hid (Ha5.out.nxt hb)
      have Hb6 := Lib.hid (Hb5.out.nxt hb)
      have Hc6 := Lib.hid (Hc5.out.nxt hb)
      have HX6 := Lib.hid (HX5.out.nxt hb)
      have HY6 := Lib.hid (HY5.out.nxt hb)
      have HZ6 := Lib.hid (HZ5.out.nxt hb)
      have HB6 := Lib.hid (below_nx HB5.out hb)
      clear Ha5 Hb5 Hc5 HX5 HY5 HZ5 HB5
      clear a0 a1 a2 a3 a4 b0 b1 b2 b3 b4 c0 c1 c2 c3 c4
      clear hb
      obtain ⟨a0, a1, a2, a3, a4⟩ := cells5 Ha6.out
      obtain ⟨b0, b1, b2, b3, b4⟩ := cells5 Hb6.out
      obtain ⟨c0, c1, c2, c3, c4⟩ := cells5 Hc6.out
      go_wp2_with fail
      refine (gegood_any HZ6.out HN.out.2.2.1 HN.out.2.2.2 _).mono ?_
      rintro e w7 ⟨rfl, hb⟩
      have Ha7 := Lib.hid (Ha6.out.nxt hb)
      have Hb7 := Lib.hid (Hb6.out.nxt hb)
      have Hc7 := Lib.hid (Hc6.out.nxt hb)
      have HX7 := Lib.hid (HX6.out.nxt hb)
      have HY7 := Lib.hid (HY6.out.nxt hb)
      have HZ7 := Lib.hid (HZ6.out.nxt hb)
      have HB7 := Lib.hid (below_nx HB6.out hb)
      clear Ha6 Hb6 Hc6 HX6 HY6 HZ6 HB6
      clear a0 a1 a2 a3 a4 b0 b1 b2 b3 b4 c0 c1 c2 c3 c4
      clear hb
      obtain ⟨a0, a1, a2, a3, a4⟩ := cells5 Ha7.out
      obtain ⟨b0, b1, b2, b3, b4⟩ := cells5 Hb7.out
      obtain ⟨c0, c1, c2, c3, c4⟩ := cells5 Hc7.out
      go_wp2_with fail
      refine (geprod_any ga gb Ma Mb n0 n1 n2 N01 N12 N02 Za Zb 50 50 15000 w7.heap.size (w7.alloc (.cells (two5 ga N01 gb N12 n0 n1 n2) 25)) (Blk.new w7 25 (two5 ga N01 gb N12 n0 n1 n2)) (HX7.out.nxt below_one) (HY7.out.nxt below_one) HN.out.1 HN.out.2.1 HN.out.2.2.1 HNM.out.1 (by decide) (by decide) (by decide)).mono ?_
      rintro e w80 ⟨gp, Mp, rfl, hX9, hg9, hb⟩
      have hb8 : Below w7.heap.size w7 (w80.alloc (.cells #[.slice (some ⟨gp, 0, none⟩) N02 N02, .int .i64 0, .int .i64 (n0 : Int), .int .i64 (n2 : Int), .int .i64 (n0 : Int)] 25)) := below_al (below_nx (below_one (o := (.cells (two5 ga N01 gb N12 n0 n1 n2) 25))) hb)
      have Ha8 := Lib.hid (Ha7.out.nxt hb8)
      have Hb8 := Lib.hid (Hb7.out.nxt hb8)
      have Hc8 := Lib.hid (Hc7.out.nxt hb8)
      have HX8 := Lib.hid (HX7.out.nxt hb8)
      have HY8 := Lib.hid (HY7.out.nxt hb8)
      have HZ8 := Lib.hid (HZ7.out.nxt hb8)
      have HB8 := Lib.hid (below_nx HB7.out hb8)
      clear Ha7 Hb7 Hc7 HX7 HY7 HZ7 HB7
      clear a0 a1 a2 a3 a4 b0 b1 b2 b3 b4 c0 c1 c2 c3 c4
      have HP8 := Lib.hid (hX9.nxt (below_one (o := (.cells #[.slice (some ⟨gp, 0, none⟩) N02 N02, .int .i64 0, .int .i64 (n0 : Int), .int .i64 (n2 : Int), .int .i64 (n0 : Int)] 25))))
      have Hp8 := Lib.hid (Blk.new w80 25 #[.slice (some ⟨gp, 0, none⟩) N02 N02, .int .i64 0, .int .i64 (n0 : Int), .int .i64 (n2 : Int), .int .i64 (n0 : Int)])
      clear hX9 hg9 hb hb8
      obtain ⟨a0, a1, a2, a3, a4⟩ := cells5 Ha8.out
      obtain ⟨b0, b1, b2, b3, b4⟩ := cells5 Hb8.out
      obtain ⟨c0, c1, c2, c3, c4⟩ := cells5 Hc8.out
      obtain ⟨p0, p1, p2, p3, p4⟩ := cells5 Hp8.out
      go_wp2_with fail
      refine (geprod_any gb gc Mb Mc n1 n2 n3 N12 N23 N13 Zb Zc 50 50 15000 (w80.heap.size + 1) ((w80.alloc (.cells #[.slice (some ⟨gp, 0, none⟩) N02 N02, .int .i64 0, .int .i64 (n0 : Int), .int .i64 (n2 : Int), .int .i64 (n0 : Int)] 25)).alloc (.cells (two5 gb N12 gc N23 n1 n2 n3) 25)) (Blk.new_ (w80.alloc (.cells #[.slice (some ⟨gp, 0, none⟩) N02 N02, .int .i64 0, .int .i64 (n0 : Int), .int .i64 (n2 : Int), .int .i64 (n0 : Int)] 25)) 25 (two5 gb N12 gc N23 n1 n2 n3) (w80.heap.size + 1) (by simp)) (HY8.out.nxt below_one) (HZ8.out.nxt below_one) HN.out.2.1 HN.out.2.2.1 HN.out.2.2.2 HNM.out.2.1 (by decide) (by decide) (by decide)).mono ?_
      rintro e w90 ⟨gq, Mq, rfl, hX9, hg9, hb⟩
      have hb8 : Below (w80.alloc (.cells #[.slice (some ⟨gp, 0, none⟩) N02 N02, .int .i64 0, .int .i64 (n0 : Int), .int .i64 (n2 : Int), .int .i64 (n0 : Int)] 25)).heap.size (w80.alloc (.cells #[.slice (some ⟨gp, 0, none⟩) N02 N02, .int .i64 0, .int .i64 (n0 : Int), .int .i64 (n2 : Int), .int .i64 (n0 : Int)] 25)) (w90.alloc (.cells #[.slice (some ⟨gq, 0, none⟩) N13 N13, .int .i64 0, .int .i64 (n1 : Int), .int .i64 (n3 : Int), .int .i64 (n1 : Int)] 25)) := below_al (below_nx (below_one (o := (.cells (two5 gb N12 gc N23 n1 n2 n3) 25))) hb)
      have Ha9 := Lib.hid (Ha8.out.nxt hb8)
      have Hb9 := Lib.hid (Hb8.out.nxt hb8)
      have Hc9 := Lib.hid (Hc8.out.nxt hb8)
      have Hp9 := Lib.hid (Hp8.out.nxt hb8)
      have HX9 := Lib.hid (HX8.out.nxt hb8)
      have HY9 := Lib.hid (HY8.out.nxt hb8)
      have HZ9 := Lib.hid (HZ8.out.nxt hb8)
      have HP9 := Lib.hid (HP8.out.nxt hb8)
      have HB9 := Lib.hid (below_nx HB8.out hb8)
      clear Ha8 Hb8 Hc8 Hp8 HX8 HY8 HZ8 HP8 HB8
      clear a0 a1 a2 a3 a4 b0 b1 b2 b3 b4 c0 c1 c2 c3 c4 p0 p1 p2 p3 p4
      have HQ9 := Lib.hid (hX9.nxt (below_one (o := (.cells #[.slice (some ⟨gq, 0, none⟩) N13 N13, .int .i64 0, .int .i64 (n1 : Int), .int .i64 (n3 : Int), .int .i64 (n1 : Int)] 25))))
      have Hq9 := Lib.hid (Blk.new w90 25 #[.slice (some ⟨gq, 0, none⟩) N13 N13, .int .i64 0, .int .i64 (n1 : Int), .int .i64 (n3 : Int), .int .i64 (n1 : Int)])
      clear hX9 hg9 hb hb8
      obtain ⟨a0, a1, a2, a3, a4⟩ := cells5 Ha9.out
      obtain ⟨b0, b1, b2, b3, b4⟩ := cells5 Hb9.out
      obtain ⟨c0, c1, c2, c3, c4⟩ := cells5 Hc9.out
      obtain ⟨p0, p1, p2, p3, p4⟩ := cells5 Hp9.out
      obtain ⟨q0, q1, q2, q3, q4⟩ := cells5 Hq9.out
      go_wp2_with fail
      refine (geprod_any gp gc Mp Mc n0 n2 n3 N02 N23 N03 (mulZ Za Zb n1) Zc 15000 50 4500000 (w90.heap.size + 1) ((w90.alloc (.cells #[.slice (some ⟨gq, 0, none⟩) N13 N13, .int .i64 0, .int .i64 (n1 : Int), .int .i64 (n3 : Int), .int .i64 (n1 : Int)] 25)).alloc (.cells (two5 gp N02 gc N23 n0 n2 n3) 25)) (Blk.new_ (w90.alloc (.cells #[.slice (some ⟨gq, 0, none⟩) N13 N13, .int .i64 0, .int .i64 (n1 : Int), .int .i64 (n3 : Int), .int .i64 (n1 : Int)] 25)) 25 (two5 gp N02 gc N23 n0 n2 n3) (w90.heap.size + 1) (by simp)) (HP9.out.nxt below_one) (HZ9.out.nxt below_one) HN.out.1 HN.out.2.2.1 HN.out.2.2.2 HNM.out.2.2 (by decide) (by decide) (by decide)).mono ?_
      rintro e wa0 ⟨gx, Mx, rfl, hX9, hg9, hb⟩
      have hb8 : Below (w90.alloc (.cells #[.slice (some ⟨gq, 0, none⟩) N13 N13, .int .i64 0, .int .i64 (n1 : Int), .int .i64 (n3 : Int), .int .i64 (n1 : Int)] 25)).heap.size (w90.alloc (.cells #[.slice (some ⟨gq, 0, none⟩) N13 N13, .int .i64 0, .int .i64 (n1 : Int), .int .i64 (n3 : Int), .int .i64 (n1 : Int)] 25)) (wa0.alloc (.cells #[.slice (some ⟨gx, 0, none⟩) N03 N03, .int .i64 0, .int .i64 (n0 : Int), .int .i64 (n3 : Int), .int .i64 (n0 : Int)] 25)) := below_al (below_nx (below_one (o := (.cells (two5 gp N02 gc N23 n0 n2 n3) 25))) hb)
      have Ha10 := Lib.hid (Ha9.out.nxt hb8)
      have Hb10 := Lib.hid (Hb9.out.nxt hb8)
      have Hc10 := Lib.hid (Hc9.out.nxt hb8)
      have Hp10 := Lib.hid (Hp9.out.nxt hb8)
      have Hq10 := Lib.hid (Hq9.out.nxt hb8)
      have HX10 := Lib.hid (HX9.out.nxt hb8)
      have HY10 := Lib.hid (HY9.out.nxt hb8)
      have HZ10 := Lib.hid (HZ9.out.nxt hb8)
      have HP10 := Lib.hid (HP9.out.nxt hb8)
      have HQ10 := Lib.hid (HQ9.out.nxt hb8)
      have HB10 := Lib.hid (below_nx HB9.out hb8)
      clear Ha9 Hb9 Hc9 Hp9 Hq9 HX9 HY9 HZ9 HP9 HQ9 HB9
      clear a0 a1 a2 a3 a4 b0 b1 b2 b3 b4 c0 c1 c2 c3 c4 p0 p1 p2 p3 p4 q0 q1 q2 q3 q4
      have HU10 := Lib.hid (hX9.nxt (below_one (o := (.cells #[.slice (some ⟨gx, 0, none⟩) N03 N03, .int .i64 0, .int .i64 (n0 : Int), .int .i64 (n3 : Int), .int .i64 (n0 : Int)] 25))))
      have Hx10 := Lib.hid (Blk.new wa0 25 #[.slice (some ⟨gx, 0, none⟩) N03 N03, .int .i64 0, .int .i64 (n0 : Int), .int .i64 (n3 : Int), .int .i64 (n0 : Int)])
      clear hX9 hg9 hb hb8
      obtain ⟨a0, a1, a2, a3, a4⟩ := cells5 Ha10.out
      obtain ⟨b0, b1, b2, b3, b4⟩ := cells5 Hb10.out
      obtain ⟨c0, c1, c2, c3, c4⟩ := cells5 Hc10.out
      obtain ⟨p0, p1, p2, p3, p4⟩ := cells5 Hp10.out
      obtain ⟨q0, q1, q2, q3, q4⟩ := cells5 Hq10.out
      obtain ⟨x0, x1, x2, x3, x4⟩ := cells5 Hx10.out
      go_wp2_with fail
      refine (geprod_any ga gq Ma Mq n0 n1 n3 N01 N13 N03 Za (mulZ Zb Zc n2) 50 15000 4500000 (wa0.heap.size + 1) ((wa0.alloc (.cells #[.slice (some ⟨gx, 0, none⟩) N03 N03, .int .i64 0, .int .i64 (n0 : Int), .int .i64 (n3 : Int), .int .i64 (n0 : Int)] 25)).alloc (.cells (two5 ga N01 gq N13 n0 n1 n3) 25)) (Blk.new_ (wa0.alloc (.cells #[.slice (some ⟨gx, 0, none⟩) N03 N03, .int .i64 0, .int .i64 (n0 : Int), .int .i64 (n3 : Int), .int .i64 (n0 : Int)] 25)) 25 (two5 ga N01 gq N13 n0 n1 n3) (wa0.heap.size + 1) (by simp)) (HX10.out.nxt below_one) (HQ10.out.nxt below_one) HN.out.1 HN.out.2.1 HN.out.2.2.2 HNM.out.2.2 (by decide) (by decide) (by decide)).mono ?_
      rintro e wb0 ⟨gy, My, rfl, hX9, hg9, hb⟩
      have hb8 : Below (wa0.alloc (.cells #[.slice (some ⟨gx, 0, none⟩) N03 N03, .int .i64 0, .int .i64 (n0 : Int), .int .i64 (n3 : Int), .int .i64 (n0 : Int)] 25)).heap.size (wa0.alloc (.cells #[.slice (some ⟨gx, 0, none⟩) N03 N03, .int .i64 0, .int .i64 (n0 : Int), .int .i64 (n3 : Int), .int .i64 (n0 : Int)] 25)) (wb0.alloc (.cells #[.slice (some ⟨gy, 0, none⟩) N03 N03, .int .i64 0, .int .i64 (n0 : Int), .int .i64 (n3 : Int), .int .i64 (n0 : Int)] 25)) := below_al (below_nx (below_one (o := (.cells (two5 ga N01 gq N13 n0 n1 n3) 25))) hb)
      have Ha11 := Lib.hid (Ha10.out.nxt hb8)
      have Hb11 := Lib.hid (Hb10.out.nxt hb8)
      have Hc11 := Lib.hid (Hc10.out.nxt hb8)
      have Hp11 := Lib.hid (Hp10.out.nxt hb8)
      have Hq11 := Lib.hid (Hq10.out.nxt hb8)
      have Hx11 := Lib.hid (Hx10.out.nxt hb8)
      have HX11 := Lib.hid (HX10.out.nxt hb8)
      have HY11 := Lib.hid (HY10.out.nxt hb8)
      have HZ11 := Lib.hid (HZ10.out.nxt hb8)
      have HP11 := Lib.hid (HP10.out.nxt hb8)
      have HQ11 := Lib.hid (HQ10.out.nxt hb8)
      have HU11 := Lib.hid (HU10.out.nxt hb8)
      have HB11 := Lib.hid (below_nx HB10.out hb8)
      clear Ha10 Hb10 Hc10 Hp10 Hq10 Hx10 HX10 HY10 HZ10 HP10 HQ10 HU10 HB10
      clear a0 a1 a2 a3 a4 b0 b1 b2 b3 b4 c0 c1 c2 c3 c4 p0 p1 p2 p3 p4 q0 q1 q2 q3 q4 x0 x1 x2 x3 x4
      have HV11 := Lib.hid (hX9.nxt (below_one (o := (.cells #[.slice (some ⟨gy, 0, none⟩) N03 N03, .int .i64 0, .int .i64 (n0 : Int), .int .i64 (n3 : Int), .int .i64 (n0 : Int)] 25))))
      have Hy11 := Lib.hid (Blk.new wb0 25 #[.slice (some ⟨gy, 0, none⟩) N03 N03, .int .i64 0, .int .i64 (n0 : Int), .int .i64 (n3 : Int), .int .i64 (n0 : Int)])
      clear hX9 hg9 hb hb8
      obtain ⟨a0, a1, a2, a3, a4⟩ := cells5 Ha11.out
      obtain ⟨b0, b1, b2, b3, b4⟩ := cells5 Hb11.out
      obtain ⟨c0, c1, c2, c3, c4⟩ := cells5 Hc11.out
      obtain ⟨p0, p1, p2, p3, p4⟩ := cells5 Hp11.out
      obtain ⟨q0, q1, q2, q3, q4⟩ := cells5 Hq11.out
      obtain ⟨x0, x1, x2, x3, x4⟩ := cells5 Hx11.out
      obtain ⟨y0, y1, y2, y3, y4⟩ := cells5 Hy11.out
      go_wp2_with fail
      generalize (wb0.alloc (.cells #[.slice (some ⟨gy, 0, none⟩) N03 N03, .int .i64 0, .int .i64 (n0 : Int), .int .i64 (n3 : Int), .int .i64 (n0 : Int)] 25)) = wb at *
      generalize w80.heap.size = bkp at *
      generalize w90.heap.size = bkq at *
      generalize wa0.heap.size = bkx at *
      generalize wb0.heap.size = bky at *
      have HOa := Lib.hid (fun W (hb : Below wb.heap.size wb W) => geof_any ga n0 n1 N01 Ma Za 50 W (HX11.out.nxt hb) HN.out.1 HN.out.2.1)
      have HOb := Lib.hid (fun W (hb : Below wb.heap.size wb W) => geof_any gb n1 n2 N12 Mb Zb 50 W (HY11.out.nxt hb) HN.out.2.1 HN.out.2.2.1)
      have HTa := Lib.hid (fun q T W (h1 : TbZ n0 n1 N01 Za T) (h2 : Row W (some ⟨q, 0, none⟩) (f64s T)) => geturn2_any q n0 n1 N01 N01 T Za W h1 h2 HNN.out.1 HN.out.1 HN.out.2.1)
      have HTb := Lib.hid (fun q T W (h1 : TbZ n1 n2 N12 Zb T) (h2 : Row W (some ⟨q, 0, none⟩) (f64s T)) => geturn2_any q n1 n2 N12 N12 T Zb W h1 h2 HNN.out.2.1 HN.out.2.1 HN.out.2.2.1)
      clear a0 a1 a2 a3 a4 b0 b1 b2 b3 b4 c0 c1 c2 c3 c4 p0 p1 p2 p3 p4 q0 q1 q2 q3 q4 x0 x1 x2 x3 x4 y0 y1 y2 y3 y4
      refine wp_region_inv [112, 113, 114, 115, 116, 117, 20, 21] (fun d s W => (d 0 = true → s 112 = .agg #[.slice (some ⟨ga, 0, none⟩) N01 N01, .int .i64 0, .int .i64 (n0 : Int), .int .i64 (n1 : Int), .int .i64 (n0 : Int)]) ∧ (d 1 = true → d 8 = false → d 9 = false → TzR W (s 113) n0 n1 N01 Za) ∧ (d 2 = true → TzO W (s 114) n1 n0 N01 (fun i j => Za j i)) ∧ (d 3 = true → s 115 = .agg #[.slice (some ⟨gb, 0, none⟩) N12 N12, .int .i64 0, .int .i64 (n1 : Int), .int .i64 (n2 : Int), .int .i64 (n1 : Int)]) ∧ (d 4 = true → d 8 = false → d 9 = false → TzR W (s 116) n1 n2 N12 Zb) ∧ (d 5 = true → TzO W (s 117) n2 n1 N12 (fun i j => Zb j i)) ∧ (d 6 = true → Nb3 W (s 20) wb.heap.size) ∧ (d 7 = true → Nb3 W (s 21) wb.heap.size) ∧ (d 8 = true → Pq3 W (s 20) wb.heap.size n1 n0 N01 (fun i j => Za j i)) ∧ (d 9 = true → Pq3 W (s 21) wb.heap.size n2 n1 N12 (fun i j => Zb j i)) ∧ (d 8 = true → d 6 = true) ∧ (d 9 = true → d 7 = true) ∧ (d 6 = true → d 7 = true → s 20 ≠ s 21) ∧ (d 8 = true → d 2 = true) ∧ (d 8 = true → d 5 = true) ∧ (d 9 = true → d 2 = true) ∧ (d 9 = true → d 5 = true) ∧ Below wb.heap.size wb W)
        rfl (by kernel_rfl) ?_ ?_ ?_
      · exact ⟨by simp, by simp, by simp, by simp, by simp, by simp, by simp, by simp, by simp, by simp, by simp, by simp, by simp, by simp, by simp, by simp, by simp, (Below.refl _ _).drew⟩
      · refine ⟨?_, ?_, ?_, ?_, ?_, ?_, ?_, ?_, ?_, ?_, trivial⟩
        all_goals
          intro d s W hJ hfr hd hdep
          simp only [List.mem_cons, forall_eq_or_imp, List.not_mem_nil, false_implies, implies_true, and_true, Region.binds] at hdep
          have f9 := hfr 9 (by decide)
          have f10 := hfr 10 (by decide)
          simp at f9 f10 hdep
          obtain ⟨h0, h1, h2, h3, h4, h5, h6, h7, h8, h9, x0, x1, x2, x3, x4, x5, x6, hT⟩ := hJ
        · as_aux_lemma =>
            unfold OpSteps
            obtain ⟨p0, p1, p2, p3, p4⟩ := cells5 (Ha11.out.below hT Ha11.out.lt)
            simp [go_sem, evS, f9, p0, p1, p2, p3, p4]
            exact ⟨fun _ => by simp [sput], fun h e8 e9 => by simpa [sput] using (h1 (by simpa [did] using h) (by simpa [did] using e8) (by simpa [did] using e9)), fun h => by simpa [sput] using h2 (by simpa [did] using h), kpw h3, fun h e8 e9 => by simpa [sput] using (h4 (by simpa [did] using h) (by simpa [did] using e8) (by simpa [did] using e9)), fun h => by simpa [sput] using h5 (by simpa [did] using h), fun h => by simpa [sput] using h6 (by simpa [did] using h), fun h => by simpa [sput] using h7 (by simpa [did] using h), fun h => by simpa [sput] using h8 (by simpa [did] using h), fun h => by simpa [sput] using h9 (by simpa [did] using h), by simpa [sput, did] using x0, by simpa [sput, did] using x1, by simpa [sput, did] using x2, by simpa [sput, did] using x3, by simpa [sput, did] using x4, by simpa [sput, did] using x5, by simpa [sput, did] using x6, hT⟩
        · as_aux_lemma =>
            have g0 := h0 (by simp [hdep])
            unfold OpSteps
            simp [go_sem, evS, g0]
            refine (HOa.out W hT).mono ?_
            rintro e W' ⟨q9, T9, rfl, hS9, hr9, hb⟩
            refine ⟨_, rfl, ?_⟩
            exact ⟨kpw h0, fun _ => fun _ _ => ⟨q9, T9, by simp [sput], hS9, hr9⟩, fun h => by simpa [sput] using (h2 (by simpa [did] using h)).below hb, kpw h3, fun h e8 e9 => by simpa [sput] using (h4 (by simpa [did] using h) (by simpa [did] using e8) (by simpa [did] using e9)).below hb, fun h => by simpa [sput] using (h5 (by simpa [did] using h)).below hb, fun h => by simpa [sput] using (h6 (by simpa [did] using h)).below hb, fun h => by simpa [sput] using (h7 (by simpa [did] using h)).below hb, fun h => by simpa [sput] using (h8 (by simpa [did] using h)).below hb, fun h => by simpa [sput] using (h9 (by simpa [did] using h)).below hb, by simpa [sput, did] using x0, by simpa [sput, did] using x1, by simpa [sput, did] using x2, by simpa [sput, did] using x3, by simpa [sput, did] using x4, by simpa [sput, did] using x5, by simpa [sput, did] using x6, below_nx hT hb⟩
        · as_aux_lemma =>
            have g1 := h1 (by simp [hdep])
            unfold OpSteps
            have e8 : d 8 = false := by
              cases h : d 8
              · rfl
              · have := x3 h; simp [hd] at this
            have e9 : d 9 = false := by
              cases h : d 9
              · rfl
              · have := x5 h; simp [hd] at this
            obtain ⟨q9, T9, gv9, gS9, gR9⟩ := g1 e8 e9
            simp [go_sem, evS, gv9]
            refine (HTa.out q9 T9 W gS9 gR9).mono ?_
            rintro e W' ⟨g8, T8, rfl, hS8, hO8, hg8, hb⟩
            refine ⟨_, rfl, ?_⟩
            exact ⟨kpw h0, fun h e8 e9 => by simpa [sput] using (h1 (by simpa [did] using h) (by simpa [did] using e8) (by simpa [did] using e9)).below hb, fun _ => ⟨g8, T8, by simp [sput], hS8, hO8⟩, kpw h3, fun h e8 e9 => by simpa [sput] using (h4 (by simpa [did] using h) (by simpa [did] using e8) (by simpa [did] using e9)).below hb, fun h => by simpa [sput] using (h5 (by simpa [did] using h)).below hb, fun h => by simpa [sput] using (h6 (by simpa [did] using h)).below hb, fun h => by simpa [sput] using (h7 (by simpa [did] using h)).below hb, fun h => by have := x3 (by simpa [did] using h); simp [hd] at this, fun h => by simpa [sput] using (h9 (by simpa [did] using h)).below hb, by simpa [sput, did] using x0, by simpa [sput, did] using x1, by simpa [sput, did] using x2, fun _ => by simp [did], by simpa [sput, did] using x4, fun _ => by simp [did], by simpa [sput, did] using x6, below_nx hT hb⟩
        · as_aux_lemma =>
            unfold OpSteps
            obtain ⟨p0, p1, p2, p3, p4⟩ := cells5 (Hb11.out.below hT Hb11.out.lt)
            simp [go_sem, evS, f10, p0, p1, p2, p3, p4]
            exact ⟨kpw h0, fun h e8 e9 => by simpa [sput] using (h1 (by simpa [did] using h) (by simpa [did] using e8) (by simpa [did] using e9)), fun h => by simpa [sput] using h2 (by simpa [did] using h), fun _ => by simp [sput], fun h e8 e9 => by simpa [sput] using (h4 (by simpa [did] using h) (by simpa [did] using e8) (by simpa [did] using e9)), fun h => by simpa [sput] using h5 (by simpa [did] using h), fun h => by simpa [sput] using h6 (by simpa [did] using h), fun h => by simpa [sput] using h7 (by simpa [did] using h), fun h => by simpa [sput] using h8 (by simpa [did] using h), fun h => by simpa [sput] using h9 (by simpa [did] using h), by simpa [sput, did] using x0, by simpa [sput, did] using x1, by simpa [sput, did] using x2, by simpa [sput, did] using x3, by simpa [sput, did] using x4, by simpa [sput, did] using x5, by simpa [sput, did] using x6, hT⟩
        · as_aux_lemma =>
            have g3 := h3 (by simp [hdep])
            unfold OpSteps
            simp [go_sem, evS, g3]
            refine (HOb.out W hT).mono ?_
            rintro e W' ⟨q9, T9, rfl, hS9, hr9, hb⟩
            refine ⟨_, rfl, ?_⟩
            exact ⟨kpw h0, fun h e8 e9 => by simpa [sput] using (h1 (by simpa [did] using h) (by simpa [did] using e8) (by simpa [did] using e9)).below hb, fun h => by simpa [sput] using (h2 (by simpa [did] using h)).below hb, kpw h3, fun _ => fun _ _ => ⟨q9, T9, by simp [sput], hS9, hr9⟩, fun h => by simpa [sput] using (h5 (by simpa [did] using h)).below hb, fun h => by simpa [sput] using (h6 (by simpa [did] using h)).below hb, fun h => by simpa [sput] using (h7 (by simpa [did] using h)).below hb, fun h => by simpa [sput] using (h8 (by simpa [did] using h)).below hb, fun h => by simpa [sput] using (h9 (by simpa [did] using h)).below hb, by simpa [sput, did] using x0, by simpa [sput, did] using x1, by simpa [sput, did] using x2, by simpa [sput, did] using x3, by simpa [sput, did] using x4, by simpa [sput, did] using x5, by simpa [sput, did] using x6, below_nx hT hb⟩
        · as_aux_lemma =>
            have g4 := h4 (by simp [hdep])
            unfold OpSteps
            have e8 : d 8 = false := by
              cases h : d 8
              · rfl
              · have := x4 h; simp [hd] at this
            have e9 : d 9 = false := by
              cases h : d 9
              · rfl
              · have := x6 h; simp [hd] at this
            obtain ⟨q9, T9, gv9, gS9, gR9⟩ := g4 e8 e9
            simp [go_sem, evS, gv9]
            refine (HTb.out q9 T9 W gS9 gR9).mono ?_
            rintro e W' ⟨g8, T8, rfl, hS8, hO8, hg8, hb⟩
            refine ⟨_, rfl, ?_⟩
            exact ⟨kpw h0, fun h e8 e9 => by simpa [sput] using (h1 (by simpa [did] using h) (by simpa [did] using e8) (by simpa [did] using e9)).below hb, fun h => by simpa [sput] using (h2 (by simpa [did] using h)).below hb, kpw h3, fun h e8 e9 => by simpa [sput] using (h4 (by simpa [did] using h) (by simpa [did] using e8) (by simpa [did] using e9)).below hb, fun _ => ⟨g8, T8, by simp [sput], hS8, hO8⟩, fun h => by simpa [sput] using (h6 (by simpa [did] using h)).below hb, fun h => by simpa [sput] using (h7 (by simpa [did] using h)).below hb, fun h => by simpa [sput] using (h8 (by simpa [did] using h)).below hb, fun h => by have := x6 (by simpa [did] using h); simp [hd] at this, by simpa [sput, did] using x0, by simpa [sput, did] using x1, by simpa [sput, did] using x2, by simpa [sput, did] using x3, fun _ => by simp [did], by simpa [sput, did] using x5, fun _ => by simp [did], below_nx hT hb⟩
        · as_aux_lemma =>
            unfold OpSteps
            simp [go_sem, evS]
            exact ⟨kpw h0, fun h e8 e9 => by simpa [sput] using (h1 (by simpa [did] using h) (by simpa [did] using e8) (by simpa [did] using e9)).below below_one, fun h => by simpa [sput] using (h2 (by simpa [did] using h)).below below_one, kpw h3, fun h e8 e9 => by simpa [sput] using (h4 (by simpa [did] using h) (by simpa [did] using e8) (by simpa [did] using e9)).below below_one, fun h => by simpa [sput] using (h5 (by simpa [did] using h)).below below_one, fun _ => ⟨W.heap.size, _, _, _, by simp [sput], Blk.new W _ _, hT.size⟩, fun h => by simpa [sput] using (h7 (by simpa [did] using h)).below below_one, fun h => by have := x0 (by simpa [did] using h); simp [hd] at this, fun h => by simpa [sput] using (h9 (by simpa [did] using h)).below below_one, fun _ => by simp [did], by simpa [sput, did] using x1, fun _ e8 => by have hq := (h7 (by simpa [did] using e8)).new_ne; simp [sput]; exact fun e => hq e.symm, by simpa [sput, did] using x3, by simpa [sput, did] using x4, by simpa [sput, did] using x5, by simpa [sput, did] using x6, below_al hT⟩
        · as_aux_lemma =>
            unfold OpSteps
            simp [go_sem, evS]
            exact ⟨kpw h0, fun h e8 e9 => by simpa [sput] using (h1 (by simpa [did] using h) (by simpa [did] using e8) (by simpa [did] using e9)).below below_one, fun h => by simpa [sput] using (h2 (by simpa [did] using h)).below below_one, kpw h3, fun h e8 e9 => by simpa [sput] using (h4 (by simpa [did] using h) (by simpa [did] using e8) (by simpa [did] using e9)).below below_one, fun h => by simpa [sput] using (h5 (by simpa [did] using h)).below below_one, fun h => by simpa [sput] using (h6 (by simpa [did] using h)).below below_one, fun _ => ⟨W.heap.size, _, _, _, by simp [sput], Blk.new W _ _, hT.size⟩, fun h => by simpa [sput] using (h8 (by simpa [did] using h)).below below_one, fun h => by have := x1 (by simpa [did] using h); simp [hd] at this, by simpa [sput, did] using x0, fun _ => by simp [did], fun e7 _ => by have hq := (h6 (by simpa [did] using e7)).new_ne; simp [sput]; exact hq, by simpa [sput, did] using x3, by simpa [sput, did] using x4, by simpa [sput, did] using x5, by simpa [sput, did] using x6, below_al hT⟩
        · as_aux_lemma =>
            have g6 := h6 (by simp [hdep])
            have g2 := h2 (by simp [hdep])
            unfold OpSteps
            obtain ⟨p9, z0, z1, z2, gp, hB9, hlo⟩ := g6
            obtain ⟨g9, T9, gv, gS, gO⟩ := g2
            have e7 : d 6 = true := by simp [hdep]
            obtain ⟨fr0, fr1, fr2⟩ := frozen3v hB9
            obtain ⟨k0, k1, k2⟩ := cells3v hB9
            have hfar : ∀ k9, k9 ≠ p9 → _ := fun k9 (hk9 : k9 ≠ p9) => heap_sets3 (w := W) hk9 (.int .i64 (n1 : Int)) (.int .i64 (n0 : Int)) (.slice (some ⟨g9, 0, none⟩) N01 N01)
            simp [go_sem, evS, gp, gv, fr0, fr1, fr2, k0, k1, k2]
            exact ⟨kpw h0, fun h e8 e9 => by simp [did] at e8, fun h => by simpa [sput] using (h2 (by simpa [did] using h)).far hB9 (by decide) hfar, kpw h3, fun h e8 e9 => by simp [did] at e8, fun h => by simpa [sput] using (h5 (by simpa [did] using h)).far hB9 (by decide) hfar, fun h => ⟨p9, _, _, _, by simpa [sput] using gp, Blk.store3v hB9 _ _ _, hlo⟩, fun h => by simpa [sput] using (h7 (by simpa [did] using h)).far (fun e => x2 e7 (by simpa [did] using h) (gp.trans e.symm)) hfar, fun _ => ⟨p9, g9, T9, by simpa [sput] using gp, Blk.store3v hB9 _ _ _, gS, own_offe gO (own_ne gO hB9 (by decide)) hfar, hlo⟩, fun h => by simpa [sput] using (h9 (by simpa [did] using h)).far hB9 (by decide) (fun e => x2 e7 (x1 (by simpa [did] using h)) (gp.trans e.symm)) hfar, fun _ => by simp [did, hdep], by simpa [sput, did] using x1, by simpa [sput, did] using x2, fun _ => by simp [did, hdep], fun _ => by simp [did, hdep], by simpa [sput, did] using x5, by simpa [sput, did] using x6, belowk hT hlo _ _ _⟩
        · as_aux_lemma =>
            have g7 := h7 (by simp [hdep])
            have g5 := h5 (by simp [hdep])
            unfold OpSteps
            obtain ⟨p9, z0, z1, z2, gp, hB9, hlo⟩ := g7
            obtain ⟨g9, T9, gv, gS, gO⟩ := g5
            have e7 : d 7 = true := by simp [hdep]
            obtain ⟨fr0, fr1, fr2⟩ := frozen3v hB9
            obtain ⟨k0, k1, k2⟩ := cells3v hB9
            have hfar : ∀ k9, k9 ≠ p9 → _ := fun k9 (hk9 : k9 ≠ p9) => heap_sets3 (w := W) hk9 (.int .i64 (n2 : Int)) (.int .i64 (n1 : Int)) (.slice (some ⟨g9, 0, none⟩) N12 N12)
            simp [go_sem, evS, gp, gv, fr0, fr1, fr2, k0, k1, k2]
            exact ⟨kpw h0, fun h e8 e9 => by simp [did] at e9, fun h => by simpa [sput] using (h2 (by simpa [did] using h)).far hB9 (by decide) hfar, kpw h3, fun h e8 e9 => by simp [did] at e9, fun h => by simpa [sput] using (h5 (by simpa [did] using h)).far hB9 (by decide) hfar, fun h => by simpa [sput] using (h6 (by simpa [did] using h)).far (fun e => x2 (by simpa [did] using h) e7 (e.trans gp.symm)) hfar, fun h => ⟨p9, _, _, _, by simpa [sput] using gp, Blk.store3v hB9 _ _ _, hlo⟩, fun h => by simpa [sput] using (h8 (by simpa [did] using h)).far hB9 (by decide) (fun e => x2 (x0 (by simpa [did] using h)) e7 (e.trans gp.symm)) hfar, fun _ => ⟨p9, g9, T9, by simpa [sput] using gp, Blk.store3v hB9 _ _ _, gS, own_offe gO (own_ne gO hB9 (by decide)) hfar, hlo⟩, by simpa [sput, did] using x0, fun _ => by simp [did, hdep], by simpa [sput, did] using x2, by simpa [sput, did] using x3, by simpa [sput, did] using x4, fun _ => by simp [did, hdep], fun _ => by simp [did, hdep], belowk hT hlo _ _ _⟩
      intro d s W hJ hd
      obtain ⟨h0, h1, h2, h3, h4, h5, h6, h7, h8, h9, x0, x1, x2, x3, x4, x5, x6, hT⟩ := hJ
      have h8' := h8 (hd 8 (by decide))
      have h9' := h9 (hd 9 (by decide))
      have hb : Below wb.heap.size wb W := hT
      clear h0 h1 h2 h3 h4 h5 h6 h7 h8 h9 x0 x1 x2 x3 x4 x5 x6 hT hd
      obtain ⟨pu, gu, Tu, hs20, hBu, hTu, hOu, hpu⟩ := h8'
      obtain ⟨pv, gv, Tv, hs21, hBv, hTv, hOv, hpv⟩ := h9'
      simp [setAll, hs20, hs21]
      clear hs20 hs21
      generalize s 112 = s112
      generalize s 113 = s113
      generalize s 114 = s114
      generalize s 115 = s115
      generalize s 116 = s116
      generalize s 117 = s117
      generalize W = wc at *
      have Ha12 := Lib.hid (Ha11.out.nxt hb)
      have Hb12 := Lib.hid (Hb11.out.nxt hb)
      have Hc12 := Lib.hid (Hc11.out.nxt hb)
      have Hp12 := Lib.hid (Hp11.out.nxt hb)
      have Hq12 := Lib.hid (Hq11.out.nxt hb)
      have Hx12 := Lib.hid (Hx11.out.nxt hb)
      have Hy12 := Lib.hid (Hy11.out.nxt hb)
      have HX12 := Lib.hid (HX11.out.nxt hb)
      have HY12 := Lib.hid (HY11.out.nxt hb)
      have HZ12 := Lib.hid (HZ11.out.nxt hb)
      have HP12 := Lib.hid (HP11.out.nxt hb)
      have HQ12 := Lib.hid (HQ11.out.nxt hb)
      have HU12 := Lib.hid (HU11.out.nxt hb)
      have HV12 := Lib.hid (HV11.out.nxt hb)
      have HB12 := Lib.hid (below_nx HB11.out hb)
      clear Ha11 Hb11 Hc11 Hp11 Hq11 Hx11 Hy11 HX11 HY11 HZ11 HP11 HQ11 HU11 HV11 HB11
      have Hu12 := Lib.hid hBu
      have Hv12 := Lib.hid hBv
      have HTU12 := Lib.hid hOu
      have HTV12 := Lib.hid hOv
      have HZu := Lib.hid hTu
      have HZv := Lib.hid hTv
      clear hBu hBv hOu hOv hTu hTv hpu hpv hb HOa HOb HTa HTb
      obtain ⟨a0, a1, a2, a3, a4⟩ := cells5 Ha12.out
      obtain ⟨b0, b1, b2, b3, b4⟩ := cells5 Hb12.out
      obtain ⟨c0, c1, c2, c3, c4⟩ := cells5 Hc12.out
      obtain ⟨p0, p1, p2, p3, p4⟩ := cells5 Hp12.out
      obtain ⟨q0, q1, q2, q3, q4⟩ := cells5 Hq12.out
      obtain ⟨x0, x1, x2, x3, x4⟩ := cells5 Hx12.out
      obtain ⟨y0, y1, y2, y3, y4⟩ := cells5 Hy12.out
      obtain ⟨u0, u1, u2⟩ := cells3v Hu12.out
      obtain ⟨v0, v1, v2⟩ := cells3v Hv12.out
      go_wp2_with fail
      have HDv := Lib.hid (fun W (hb : Below wc.heap.size wc W) => gedense_any gv n2 n1 N12 N12 Tv (fun i j => Zb j i) 50 W HZv.out (HTV12.out.nxt hb) (Nat.le_refl _) (by rw [Nat.mul_comm]; exact HNN.out.2.1) HN.out.2.2.1 HN.out.2.1 (fun i j => HY12.out.le j i))
      have HDu := Lib.hid (fun W (hb : Below wc.heap.size wc W) => gedense_any gu n1 n0 N01 N01 Tu (fun i j => Za j i) 50 W HZu.out (HTU12.out.nxt hb) (Nat.le_refl _) (by rw [Nat.mul_comm]; exact HNN.out.1) HN.out.2.1 HN.out.1 (fun i j => HX12.out.le j i))
      have HPt := Lib.hid (fun b8 g8 g7 M8 M7 W (h1 : Blk W b8 25 (two5 g8 N12 g7 N01 n2 n1 n0)) (h2 : SmX W g8 M8 n2 n1 N12 (fun i j => Zb j i) 50) (h3 : SmX W g7 M7 n1 n0 N01 (fun i j => Za j i) 50) => geprod_any g8 g7 M8 M7 n2 n1 n0 N12 N01 N02 (fun i j => Zb j i) (fun i j => Za j i) 50 50 15000 b8 W h1 h2 h3 HN.out.2.2.1 HN.out.2.1 HN.out.1 (by rw [Nat.mul_comm]; exact HNM.out.1) (by decide) (by decide) (by decide))
      clear a0 a1 a2 a3 a4 b0 b1 b2 b3 b4 c0 c1 c2 c3 c4 p0 p1 p2 p3 p4 q0 q1 q2 q3 q4 x0 x1 x2 x3 x4 y0 y1 y2 y3 y4 u0 u1 u2 v0 v1 v2
      refine wp_region_inv [119, 120, 121, 122, 123, 124, 125, 126, 127, 128, 129, 130, 131, 132, 133, 134, 118, 135, 136, 22, 23] (fun d s W => (d 0 = true → s 119 = .pointer (some ⟨pv, 0, none⟩)) ∧ (d 1 = true → s 120 = .int .i64 (n2 : Int)) ∧ (d 2 = true → s 121 = .pointer (some ⟨pv, 1, none⟩)) ∧ (d 3 = true → s 122 = .int .i64 (n1 : Int)) ∧ (d 4 = true → s 123 = .pointer (some ⟨pv, 2, none⟩)) ∧ (d 5 = true → s 124 = .slice (some ⟨gv, 0, none⟩) N12 N12) ∧ (d 6 = true → d 20 = false → XM W (s 125) wc.heap.size n2 n1 N12 (fun i j => Zb j i) 50) ∧ (d 7 = true → s 126 = .pointer (some ⟨pu, 0, none⟩)) ∧ (d 8 = true → s 127 = .int .i64 (n1 : Int)) ∧ (d 9 = true → s 128 = .pointer (some ⟨pu, 1, none⟩)) ∧ (d 10 = true → s 129 = .int .i64 (n0 : Int)) ∧ (d 11 = true → s 130 = .pointer (some ⟨pu, 2, none⟩)) ∧ (d 12 = true → s 131 = .slice (some ⟨gu, 0, none⟩) N01 N01) ∧ (d 13 = true → d 20 = false → XM W (s 132) wc.heap.size n1 n0 N01 (fun i j => Za j i) 50) ∧ (d 14 = true → d 20 = false → Bs2 W (s 133) n2 n1 n0 N12 N01 (fun i j => Zb j i) (fun i j => Za j i) 50) ∧ (d 15 = true → d 20 = false → TpX W (s 134) wc.heap.size n2 n0 N02 (mulZ (fun i j => Zb j i) (fun i j => Za j i) n1) 15000) ∧ (d 16 = true → d 20 = false → TpX W (s 118) wc.heap.size n2 n0 N02 (mulZ (fun i j => Zb j i) (fun i j => Za j i) n1) 15000) ∧ (d 17 = true → d 20 = false → XM W (s 135) wc.heap.size n2 n0 N02 (mulZ (fun i j => Zb j i) (fun i j => Za j i) n1) 15000) ∧ (d 18 = true → s 136 = .int .i64 0) ∧ (d 19 = true → d 20 = false → NbM W (s 22) wc.heap.size) ∧ (d 21 = true → s 23 = .int .i64 0) ∧ (d 16 = true → ∃ v9, s 118 = .tuple #[v9, .int .i64 0]) ∧ (d 20 = true → ∀ j, j < 20 → j ≠ 18 → d j = true) ∧ ((d 20 = false → Below wc.heap.size wc W) ∧ (d 20 = true → St22 wc W (s 22) n2 n0 N02 (mulZ (fun i j => Zb j i) (fun i j => Za j i) n1) 15000)))
        rfl (by kernel_rfl) ?_ ?_ ?_
      · exact ⟨by simp, by simp, by simp, by simp, by simp, by simp, by simp, by simp, by simp, by simp, by simp, by simp, by simp, by simp, by simp, by simp, by simp, by simp, by simp, by simp, by simp, by simp, by simp, ⟨fun _ => (Below.refl _ _).drew, fun h => by simp at h⟩⟩
      · refine ⟨?_, ?_, ?_, ?_, ?_, ?_, ?_, ?_, ?_, ?_, ?_, ?_, ?_, ?_, ?_, ?_, ?_, ?_, ?_, ?_, ?_, ?_, trivial⟩
        all_goals
          intro d s W hJ hfr hd hdep
          simp only [List.mem_cons, forall_eq_or_imp, List.not_mem_nil, false_implies, implies_true, and_true, Region.binds] at hdep
          have f20 := hfr 20 (by decide)
          have f21 := hfr 21 (by decide)
          simp at f20 f21 hdep
          obtain ⟨h0, h1, h2, h3, h4, h5, h6, h7, h8, h9, h10, h11, h12, h13, h14, h15, h16, h17, h18, h19, h21, x0, x1, hT⟩ := hJ
        · as_aux_lemma =>
            have hl : d 20 = false := by
              cases h : d 20
              · rfl
              · exact absurd (x1 h 0 (by decide) (by decide)) (by rw [hd]; decide)
            replace hT := hT.1 hl
            unfold OpSteps
            simp [go_sem, evS, f21]
            exact ⟨fun _ => by simp [sput], kpw h1, kpw h2, kpw h3, kpw h4, kpw h5, kc (P := fun v9 => XM W v9 wc.heap.size n2 n1 N12 (fun i j => Zb j i) 50) (Q := fun v9 => XM W v9 wc.heap.size n2 n1 N12 (fun i j => Zb j i) 50) h6 (by decide) (by decide) hl (fun _ h => h), kpw h7, kpw h8, kpw h9, kpw h10, kpw h11, kpw h12, kc (P := fun v9 => XM W v9 wc.heap.size n1 n0 N01 (fun i j => Za j i) 50) (Q := fun v9 => XM W v9 wc.heap.size n1 n0 N01 (fun i j => Za j i) 50) h13 (by decide) (by decide) hl (fun _ h => h), kc (P := fun v9 => Bs2 W v9 n2 n1 n0 N12 N01 (fun i j => Zb j i) (fun i j => Za j i) 50) (Q := fun v9 => Bs2 W v9 n2 n1 n0 N12 N01 (fun i j => Zb j i) (fun i j => Za j i) 50) h14 (by decide) (by decide) hl (fun _ h => h), kc (P := fun v9 => TpX W v9 wc.heap.size n2 n0 N02 (mulZ (fun i j => Zb j i) (fun i j => Za j i) n1) 15000) (Q := fun v9 => TpX W v9 wc.heap.size n2 n0 N02 (mulZ (fun i j => Zb j i) (fun i j => Za j i) n1) 15000) h15 (by decide) (by decide) hl (fun _ h => h), kc (P := fun v9 => TpX W v9 wc.heap.size n2 n0 N02 (mulZ (fun i j => Zb j i) (fun i j => Za j i) n1) 15000) (Q := fun v9 => TpX W v9 wc.heap.size n2 n0 N02 (mulZ (fun i j => Zb j i) (fun i j => Za j i) n1) 15000) h16 (by decide) (by decide) hl (fun _ h => h), kc (P := fun v9 => XM W v9 wc.heap.size n2 n0 N02 (mulZ (fun i j => Zb j i) (fun i j => Za j i) n1) 15000) (Q := fun v9 => XM W v9 wc.heap.size n2 n0 N02 (mulZ (fun i j => Zb j i) (fun i j => Za j i) n1) 15000) h17 (by decide) (by decide) hl (fun _ h => h), kpw h18, kc (P := fun v9 => NbM W v9 wc.heap.size) (Q := fun v9 => NbM W v9 wc.heap.size) h19 (by decide) (by decide) hl (fun _ h => h), kpw h21, fun h => by obtain ⟨v9, hv9⟩ := x0 (by simpa [did] using h); exact ⟨v9, by simpa [sput] using hv9⟩, allx_keep x1 (by decide), ⟨fun _ => hT, fun h => by simp [did, hl] at h⟩⟩
        · as_aux_lemma =>
            have hl : d 20 = false := by
              cases h : d 20
              · rfl
              · exact absurd (x1 h 1 (by decide) (by decide)) (by rw [hd]; decide)
            replace hT := hT.1 hl
            have g0 := h0 (by simp [hdep])
            unfold OpSteps
            obtain ⟨p0, p1, p2⟩ := cells3v (Hv12.out.below hT Hv12.out.lt)
            simp [go_sem, evS, g0, p0, p1, p2]
            exact ⟨kpw h0, fun _ => by simp [sput], kpw h2, kpw h3, kpw h4, kpw h5, kc (P := fun v9 => XM W v9 wc.heap.size n2 n1 N12 (fun i j => Zb j i) 50) (Q := fun v9 => XM W v9 wc.heap.size n2 n1 N12 (fun i j => Zb j i) 50) h6 (by decide) (by decide) hl (fun _ h => h), kpw h7, kpw h8, kpw h9, kpw h10, kpw h11, kpw h12, kc (P := fun v9 => XM W v9 wc.heap.size n1 n0 N01 (fun i j => Za j i) 50) (Q := fun v9 => XM W v9 wc.heap.size n1 n0 N01 (fun i j => Za j i) 50) h13 (by decide) (by decide) hl (fun _ h => h), kc (P := fun v9 => Bs2 W v9 n2 n1 n0 N12 N01 (fun i j => Zb j i) (fun i j => Za j i) 50) (Q := fun v9 => Bs2 W v9 n2 n1 n0 N12 N01 (fun i j => Zb j i) (fun i j => Za j i) 50) h14 (by decide) (by decide) hl (fun _ h => h), kc (P := fun v9 => TpX W v9 wc.heap.size n2 n0 N02 (mulZ (fun i j => Zb j i) (fun i j => Za j i) n1) 15000) (Q := fun v9 => TpX W v9 wc.heap.size n2 n0 N02 (mulZ (fun i j => Zb j i) (fun i j => Za j i) n1) 15000) h15 (by decide) (by decide) hl (fun _ h => h), kc (P := fun v9 => TpX W v9 wc.heap.size n2 n0 N02 (mulZ (fun i j => Zb j i) (fun i j => Za j i) n1) 15000) (Q := fun v9 => TpX W v9 wc.heap.size n2 n0 N02 (mulZ (fun i j => Zb j i) (fun i j => Za j i) n1) 15000) h16 (by decide) (by decide) hl (fun _ h => h), kc (P := fun v9 => XM W v9 wc.heap.size n2 n0 N02 (mulZ (fun i j => Zb j i) (fun i j => Za j i) n1) 15000) (Q := fun v9 => XM W v9 wc.heap.size n2 n0 N02 (mulZ (fun i j => Zb j i) (fun i j => Za j i) n1) 15000) h17 (by decide) (by decide) hl (fun _ h => h), kpw h18, kc (P := fun v9 => NbM W v9 wc.heap.size) (Q := fun v9 => NbM W v9 wc.heap.size) h19 (by decide) (by decide) hl (fun _ h => h), kpw h21, fun h => by obtain ⟨v9, hv9⟩ := x0 (by simpa [did] using h); exact ⟨v9, by simpa [sput] using hv9⟩, allx_keep x1 (by decide), ⟨fun _ => hT, fun h => by simp [did, hl] at h⟩⟩
        · as_aux_lemma =>
            have hl : d 20 = false := by
              cases h : d 20
              · rfl
              · exact absurd (x1 h 2 (by decide) (by decide)) (by rw [hd]; decide)
            replace hT := hT.1 hl
            unfold OpSteps
            simp [go_sem, evS, f21]
            exact ⟨kpw h0, kpw h1, fun _ => by simp [sput], kpw h3, kpw h4, kpw h5, kc (P := fun v9 => XM W v9 wc.heap.size n2 n1 N12 (fun i j => Zb j i) 50) (Q := fun v9 => XM W v9 wc.heap.size n2 n1 N12 (fun i j => Zb j i) 50) h6 (by decide) (by decide) hl (fun _ h => h), kpw h7, kpw h8, kpw h9, kpw h10, kpw h11, kpw h12, kc (P := fun v9 => XM W v9 wc.heap.size n1 n0 N01 (fun i j => Za j i) 50) (Q := fun v9 => XM W v9 wc.heap.size n1 n0 N01 (fun i j => Za j i) 50) h13 (by decide) (by decide) hl (fun _ h => h), kc (P := fun v9 => Bs2 W v9 n2 n1 n0 N12 N01 (fun i j => Zb j i) (fun i j => Za j i) 50) (Q := fun v9 => Bs2 W v9 n2 n1 n0 N12 N01 (fun i j => Zb j i) (fun i j => Za j i) 50) h14 (by decide) (by decide) hl (fun _ h => h), kc (P := fun v9 => TpX W v9 wc.heap.size n2 n0 N02 (mulZ (fun i j => Zb j i) (fun i j => Za j i) n1) 15000) (Q := fun v9 => TpX W v9 wc.heap.size n2 n0 N02 (mulZ (fun i j => Zb j i) (fun i j => Za j i) n1) 15000) h15 (by decide) (by decide) hl (fun _ h => h), kc (P := fun v9 => TpX W v9 wc.heap.size n2 n0 N02 (mulZ (fun i j => Zb j i) (fun i j => Za j i) n1) 15000) (Q := fun v9 => TpX W v9 wc.heap.size n2 n0 N02 (mulZ (fun i j => Zb j i) (fun i j => Za j i) n1) 15000) h16 (by decide) (by decide) hl (fun _ h => h), kc (P := fun v9 => XM W v9 wc.heap.size n2 n0 N02 (mulZ (fun i j => Zb j i) (fun i j => Za j i) n1) 15000) (Q := fun v9 => XM W v9 wc.heap.size n2 n0 N02 (mulZ (fun i j => Zb j i) (fun i j => Za j i) n1) 15000) h17 (by decide) (by decide) hl (fun _ h => h), kpw h18, kc (P := fun v9 => NbM W v9 wc.heap.size) (Q := fun v9 => NbM W v9 wc.heap.size) h19 (by decide) (by decide) hl (fun _ h => h), kpw h21, fun h => by obtain ⟨v9, hv9⟩ := x0 (by simpa [did] using h); exact ⟨v9, by simpa [sput] using hv9⟩, allx_keep x1 (by decide), ⟨fun _ => hT, fun h => by simp [did, hl] at h⟩⟩
        · as_aux_lemma =>
            have hl : d 20 = false := by
              cases h : d 20
              · rfl
              · exact absurd (x1 h 3 (by decide) (by decide)) (by rw [hd]; decide)
            replace hT := hT.1 hl
            have g2 := h2 (by simp [hdep])
            unfold OpSteps
            obtain ⟨p0, p1, p2⟩ := cells3v (Hv12.out.below hT Hv12.out.lt)
            simp [go_sem, evS, g2, p0, p1, p2]
            exact ⟨kpw h0, kpw h1, kpw h2, fun _ => by simp [sput], kpw h4, kpw h5, kc (P := fun v9 => XM W v9 wc.heap.size n2 n1 N12 (fun i j => Zb j i) 50) (Q := fun v9 => XM W v9 wc.heap.size n2 n1 N12 (fun i j => Zb j i) 50) h6 (by decide) (by decide) hl (fun _ h => h), kpw h7, kpw h8, kpw h9, kpw h10, kpw h11, kpw h12, kc (P := fun v9 => XM W v9 wc.heap.size n1 n0 N01 (fun i j => Za j i) 50) (Q := fun v9 => XM W v9 wc.heap.size n1 n0 N01 (fun i j => Za j i) 50) h13 (by decide) (by decide) hl (fun _ h => h), kc (P := fun v9 => Bs2 W v9 n2 n1 n0 N12 N01 (fun i j => Zb j i) (fun i j => Za j i) 50) (Q := fun v9 => Bs2 W v9 n2 n1 n0 N12 N01 (fun i j => Zb j i) (fun i j => Za j i) 50) h14 (by decide) (by decide) hl (fun _ h => h), kc (P := fun v9 => TpX W v9 wc.heap.size n2 n0 N02 (mulZ (fun i j => Zb j i) (fun i j => Za j i) n1) 15000) (Q := fun v9 => TpX W v9 wc.heap.size n2 n0 N02 (mulZ (fun i j => Zb j i) (fun i j => Za j i) n1) 15000) h15 (by decide) (by decide) hl (fun _ h => h), kc (P := fun v9 => TpX W v9 wc.heap.size n2 n0 N02 (mulZ (fun i j => Zb j i) (fun i j => Za j i) n1) 15000) (Q := fun v9 => TpX W v9 wc.heap.size n2 n0 N02 (mulZ (fun i j => Zb j i) (fun i j => Za j i) n1) 15000) h16 (by decide) (by decide) hl (fun _ h => h), kc (P := fun v9 => XM W v9 wc.heap.size n2 n0 N02 (mulZ (fun i j => Zb j i) (fun i j => Za j i) n1) 15000) (Q := fun v9 => XM W v9 wc.heap.size n2 n0 N02 (mulZ (fun i j => Zb j i) (fun i j => Za j i) n1) 15000) h17 (by decide) (by decide) hl (fun _ h => h), kpw h18, kc (P := fun v9 => NbM W v9 wc.heap.size) (Q := fun v9 => NbM W v9 wc.heap.size) h19 (by decide) (by decide) hl (fun _ h => h), kpw h21, fun h => by obtain ⟨v9, hv9⟩ := x0 (by simpa [did] using h); exact ⟨v9, by simpa [sput] using hv9⟩, allx_keep x1 (by decide), ⟨fun _ => hT, fun h => by simp [did, hl] at h⟩⟩
        · as_aux_lemma =>
            have hl : d 20 = false := by
              cases h : d 20
              · rfl
              · exact absurd (x1 h 4 (by decide) (by decide)) (by rw [hd]; decide)
            replace hT := hT.1 hl
            unfold OpSteps
            simp [go_sem, evS, f21]
            exact ⟨kpw h0, kpw h1, kpw h2, kpw h3, fun _ => by simp [sput], kpw h5, kc (P := fun v9 => XM W v9 wc.heap.size n2 n1 N12 (fun i j => Zb j i) 50) (Q := fun v9 => XM W v9 wc.heap.size n2 n1 N12 (fun i j => Zb j i) 50) h6 (by decide) (by decide) hl (fun _ h => h), kpw h7, kpw h8, kpw h9, kpw h10, kpw h11, kpw h12, kc (P := fun v9 => XM W v9 wc.heap.size n1 n0 N01 (fun i j => Za j i) 50) (Q := fun v9 => XM W v9 wc.heap.size n1 n0 N01 (fun i j => Za j i) 50) h13 (by decide) (by decide) hl (fun _ h => h), kc (P := fun v9 => Bs2 W v9 n2 n1 n0 N12 N01 (fun i j => Zb j i) (fun i j => Za j i) 50) (Q := fun v9 => Bs2 W v9 n2 n1 n0 N12 N01 (fun i j => Zb j i) (fun i j => Za j i) 50) h14 (by decide) (by decide) hl (fun _ h => h), kc (P := fun v9 => TpX W v9 wc.heap.size n2 n0 N02 (mulZ (fun i j => Zb j i) (fun i j => Za j i) n1) 15000) (Q := fun v9 => TpX W v9 wc.heap.size n2 n0 N02 (mulZ (fun i j => Zb j i) (fun i j => Za j i) n1) 15000) h15 (by decide) (by decide) hl (fun _ h => h), kc (P := fun v9 => TpX W v9 wc.heap.size n2 n0 N02 (mulZ (fun i j => Zb j i) (fun i j => Za j i) n1) 15000) (Q := fun v9 => TpX W v9 wc.heap.size n2 n0 N02 (mulZ (fun i j => Zb j i) (fun i j => Za j i) n1) 15000) h16 (by decide) (by decide) hl (fun _ h => h), kc (P := fun v9 => XM W v9 wc.heap.size n2 n0 N02 (mulZ (fun i j => Zb j i) (fun i j => Za j i) n1) 15000) (Q := fun v9 => XM W v9 wc.heap.size n2 n0 N02 (mulZ (fun i j => Zb j i) (fun i j => Za j i) n1) 15000) h17 (by decide) (by decide) hl (fun _ h => h), kpw h18, kc (P := fun v9 => NbM W v9 wc.heap.size) (Q := fun v9 => NbM W v9 wc.heap.size) h19 (by decide) (by decide) hl (fun _ h => h), kpw h21, fun h => by obtain ⟨v9, hv9⟩ := x0 (by simpa [did] using h); exact ⟨v9, by simpa [sput] using hv9⟩, allx_keep x1 (by decide), ⟨fun _ => hT, fun h => by simp [did, hl] at h⟩⟩
        · as_aux_lemma =>
            have hl : d 20 = false := by
              cases h : d 20
              · rfl
              · exact absurd (x1 h 5 (by decide) (by decide)) (by rw [hd]; decide)
            replace hT := hT.1 hl
            have g4 := h4 (by simp [hdep])
            unfold OpSteps
            obtain ⟨p0, p1, p2⟩ := cells3v (Hv12.out.below hT Hv12.out.lt)
            simp [go_sem, evS, g4, p0, p1, p2]
            exact ⟨kpw h0, kpw h1, kpw h2, kpw h3, kpw h4, fun _ => by simp [sput], kc (P := fun v9 => XM W v9 wc.heap.size n2 n1 N12 (fun i j => Zb j i) 50) (Q := fun v9 => XM W v9 wc.heap.size n2 n1 N12 (fun i j => Zb j i) 50) h6 (by decide) (by decide) hl (fun _ h => h), kpw h7, kpw h8, kpw h9, kpw h10, kpw h11, kpw h12, kc (P := fun v9 => XM W v9 wc.heap.size n1 n0 N01 (fun i j => Za j i) 50) (Q := fun v9 => XM W v9 wc.heap.size n1 n0 N01 (fun i j => Za j i) 50) h13 (by decide) (by decide) hl (fun _ h => h), kc (P := fun v9 => Bs2 W v9 n2 n1 n0 N12 N01 (fun i j => Zb j i) (fun i j => Za j i) 50) (Q := fun v9 => Bs2 W v9 n2 n1 n0 N12 N01 (fun i j => Zb j i) (fun i j => Za j i) 50) h14 (by decide) (by decide) hl (fun _ h => h), kc (P := fun v9 => TpX W v9 wc.heap.size n2 n0 N02 (mulZ (fun i j => Zb j i) (fun i j => Za j i) n1) 15000) (Q := fun v9 => TpX W v9 wc.heap.size n2 n0 N02 (mulZ (fun i j => Zb j i) (fun i j => Za j i) n1) 15000) h15 (by decide) (by decide) hl (fun _ h => h), kc (P := fun v9 => TpX W v9 wc.heap.size n2 n0 N02 (mulZ (fun i j => Zb j i) (fun i j => Za j i) n1) 15000) (Q := fun v9 => TpX W v9 wc.heap.size n2 n0 N02 (mulZ (fun i j => Zb j i) (fun i j => Za j i) n1) 15000) h16 (by decide) (by decide) hl (fun _ h => h), kc (P := fun v9 => XM W v9 wc.heap.size n2 n0 N02 (mulZ (fun i j => Zb j i) (fun i j => Za j i) n1) 15000) (Q := fun v9 => XM W v9 wc.heap.size n2 n0 N02 (mulZ (fun i j => Zb j i) (fun i j => Za j i) n1) 15000) h17 (by decide) (by decide) hl (fun _ h => h), kpw h18, kc (P := fun v9 => NbM W v9 wc.heap.size) (Q := fun v9 => NbM W v9 wc.heap.size) h19 (by decide) (by decide) hl (fun _ h => h), kpw h21, fun h => by obtain ⟨v9, hv9⟩ := x0 (by simpa [did] using h); exact ⟨v9, by simpa [sput] using hv9⟩, allx_keep x1 (by decide), ⟨fun _ => hT, fun h => by simp [did, hl] at h⟩⟩
        · as_aux_lemma =>
            have hl : d 20 = false := by
              cases h : d 20
              · rfl
              · exact absurd (x1 h 6 (by decide) (by decide)) (by rw [hd]; decide)
            replace hT := hT.1 hl
            have g1 := h1 (by simp [hdep])
            have g3 := h3 (by simp [hdep])
            have g5 := h5 (by simp [hdep])
            unfold OpSteps
            simp [go_sem, evS, g1, g3, g5]
            refine (HDv.out W hT).mono ?_
            rintro e W' ⟨g9, M9, rfl, hX9, hg9, hb⟩
            refine ⟨_, rfl, ?_⟩
            exact ⟨kpw h0, kpw h1, kpw h2, kpw h3, kpw h4, kpw h5, fun _ => fun _ => ⟨g9, M9, by simp [sput], hX9, Nat.le_trans hT.size hg9⟩, kpw h7, kpw h8, kpw h9, kpw h10, kpw h11, kpw h12, kc (P := fun v9 => XM W v9 wc.heap.size n1 n0 N01 (fun i j => Za j i) 50) (Q := fun v9 => XM W' v9 wc.heap.size n1 n0 N01 (fun i j => Za j i) 50) h13 (by decide) (by decide) hl (fun _ h => XM.below h hb), kc (P := fun v9 => Bs2 W v9 n2 n1 n0 N12 N01 (fun i j => Zb j i) (fun i j => Za j i) 50) (Q := fun v9 => Bs2 W' v9 n2 n1 n0 N12 N01 (fun i j => Zb j i) (fun i j => Za j i) 50) h14 (by decide) (by decide) hl (fun _ h => Bs2.below h hb), kc (P := fun v9 => TpX W v9 wc.heap.size n2 n0 N02 (mulZ (fun i j => Zb j i) (fun i j => Za j i) n1) 15000) (Q := fun v9 => TpX W' v9 wc.heap.size n2 n0 N02 (mulZ (fun i j => Zb j i) (fun i j => Za j i) n1) 15000) h15 (by decide) (by decide) hl (fun _ h => TpX.below h hb), kc (P := fun v9 => TpX W v9 wc.heap.size n2 n0 N02 (mulZ (fun i j => Zb j i) (fun i j => Za j i) n1) 15000) (Q := fun v9 => TpX W' v9 wc.heap.size n2 n0 N02 (mulZ (fun i j => Zb j i) (fun i j => Za j i) n1) 15000) h16 (by decide) (by decide) hl (fun _ h => TpX.below h hb), kc (P := fun v9 => XM W v9 wc.heap.size n2 n0 N02 (mulZ (fun i j => Zb j i) (fun i j => Za j i) n1) 15000) (Q := fun v9 => XM W' v9 wc.heap.size n2 n0 N02 (mulZ (fun i j => Zb j i) (fun i j => Za j i) n1) 15000) h17 (by decide) (by decide) hl (fun _ h => XM.below h hb), kpw h18, kc (P := fun v9 => NbM W v9 wc.heap.size) (Q := fun v9 => NbM W' v9 wc.heap.size) h19 (by decide) (by decide) hl (fun _ h => NbM.below h hb), kpw h21, fun h => by obtain ⟨v9, hv9⟩ := x0 (by simpa [did] using h); exact ⟨v9, by simpa [sput] using hv9⟩, allx_keep x1 (by decide), ⟨fun _ => below_nx hT hb, fun h => by simp [did, hl] at h⟩⟩
        · as_aux_lemma =>
            have hl : d 20 = false := by
              cases h : d 20
              · rfl
              · exact absurd (x1 h 7 (by decide) (by decide)) (by rw [hd]; decide)
            replace hT := hT.1 hl
            unfold OpSteps
            simp [go_sem, evS, f20]
            exact ⟨kpw h0, kpw h1, kpw h2, kpw h3, kpw h4, kpw h5, kc (P := fun v9 => XM W v9 wc.heap.size n2 n1 N12 (fun i j => Zb j i) 50) (Q := fun v9 => XM W v9 wc.heap.size n2 n1 N12 (fun i j => Zb j i) 50) h6 (by decide) (by decide) hl (fun _ h => h), fun _ => by simp [sput], kpw h8, kpw h9, kpw h10, kpw h11, kpw h12, kc (P := fun v9 => XM W v9 wc.heap.size n1 n0 N01 (fun i j => Za j i) 50) (Q := fun v9 => XM W v9 wc.heap.size n1 n0 N01 (fun i j => Za j i) 50) h13 (by decide) (by decide) hl (fun _ h => h), kc (P := fun v9 => Bs2 W v9 n2 n1 n0 N12 N01 (fun i j => Zb j i) (fun i j => Za j i) 50) (Q := fun v9 => Bs2 W v9 n2 n1 n0 N12 N01 (fun i j => Zb j i) (fun i j => Za j i) 50) h14 (by decide) (by decide) hl (fun _ h => h), kc (P := fun v9 => TpX W v9 wc.heap.size n2 n0 N02 (mulZ (fun i j => Zb j i) (fun i j => Za j i) n1) 15000) (Q := fun v9 => TpX W v9 wc.heap.size n2 n0 N02 (mulZ (fun i j => Zb j i) (fun i j => Za j i) n1) 15000) h15 (by decide) (by decide) hl (fun _ h => h), kc (P := fun v9 => TpX W v9 wc.heap.size n2 n0 N02 (mulZ (fun i j => Zb j i) (fun i j => Za j i) n1) 15000) (Q := fun v9 => TpX W v9 wc.heap.size n2 n0 N02 (mulZ (fun i j => Zb j i) (fun i j => Za j i) n1) 15000) h16 (by decide) (by decide) hl (fun _ h => h), kc (P := fun v9 => XM W v9 wc.heap.size n2 n0 N02 (mulZ (fun i j => Zb j i) (fun i j => Za j i) n1) 15000) (Q := fun v9 => XM W v9 wc.heap.size n2 n0 N02 (mulZ (fun i j => Zb j i) (fun i j => Za j i) n1) 15000) h17 (by decide) (by decide) hl (fun _ h => h), kpw h18, kc (P := fun v9 => NbM W v9 wc.heap.size) (Q := fun v9 => NbM W v9 wc.heap.size) h19 (by decide) (by decide) hl (fun _ h => h), kpw h21, fun h => by obtain ⟨v9, hv9⟩ := x0 (by simpa [did] using h); exact ⟨v9, by simpa [sput] using hv9⟩, allx_keep x1 (by decide), ⟨fun _ => hT, fun h => by simp [did, hl] at h⟩⟩
        · as_aux_lemma =>
            have hl : d 20 = false := by
              cases h : d 20
              · rfl
              · exact absurd (x1 h 8 (by decide) (by decide)) (by rw [hd]; decide)
            replace hT := hT.1 hl
            have g7 := h7 (by simp [hdep])
            unfold OpSteps
            obtain ⟨p0, p1, p2⟩ := cells3v (Hu12.out.below hT Hu12.out.lt)
            simp [go_sem, evS, g7, p0, p1, p2]
            exact ⟨kpw h0, kpw h1, kpw h2, kpw h3, kpw h4, kpw h5, kc (P := fun v9 => XM W v9 wc.heap.size n2 n1 N12 (fun i j => Zb j i) 50) (Q := fun v9 => XM W v9 wc.heap.size n2 n1 N12 (fun i j => Zb j i) 50) h6 (by decide) (by decide) hl (fun _ h => h), kpw h7, fun _ => by simp [sput], kpw h9, kpw h10, kpw h11, kpw h12, kc (P := fun v9 => XM W v9 wc.heap.size n1 n0 N01 (fun i j => Za j i) 50) (Q := fun v9 => XM W v9 wc.heap.size n1 n0 N01 (fun i j => Za j i) 50) h13 (by decide) (by decide) hl (fun _ h => h), kc (P := fun v9 => Bs2 W v9 n2 n1 n0 N12 N01 (fun i j => Zb j i) (fun i j => Za j i) 50) (Q := fun v9 => Bs2 W v9 n2 n1 n0 N12 N01 (fun i j => Zb j i) (fun i j => Za j i) 50) h14 (by decide) (by decide) hl (fun _ h => h), kc (P := fun v9 => TpX W v9 wc.heap.size n2 n0 N02 (mulZ (fun i j => Zb j i) (fun i j => Za j i) n1) 15000) (Q := fun v9 => TpX W v9 wc.heap.size n2 n0 N02 (mulZ (fun i j => Zb j i) (fun i j => Za j i) n1) 15000) h15 (by decide) (by decide) hl (fun _ h => h), kc (P := fun v9 => TpX W v9 wc.heap.size n2 n0 N02 (mulZ (fun i j => Zb j i) (fun i j => Za j i) n1) 15000) (Q := fun v9 => TpX W v9 wc.heap.size n2 n0 N02 (mulZ (fun i j => Zb j i) (fun i j => Za j i) n1) 15000) h16 (by decide) (by decide) hl (fun _ h => h), kc (P := fun v9 => XM W v9 wc.heap.size n2 n0 N02 (mulZ (fun i j => Zb j i) (fun i j => Za j i) n1) 15000) (Q := fun v9 => XM W v9 wc.heap.size n2 n0 N02 (mulZ (fun i j => Zb j i) (fun i j => Za j i) n1) 15000) h17 (by decide) (by decide) hl (fun _ h => h), kpw h18, kc (P := fun v9 => NbM W v9 wc.heap.size) (Q := fun v9 => NbM W v9 wc.heap.size) h19 (by decide) (by decide) hl (fun _ h => h), kpw h21, fun h => by obtain ⟨v9, hv9⟩ := x0 (by simpa [did] using h); exact ⟨v9, by simpa [sput] using hv9⟩, allx_keep x1 (by decide), ⟨fun _ => hT, fun h => by simp [did, hl] at h⟩⟩
        · as_aux_lemma =>
            have hl : d 20 = false := by
              cases h : d 20
              · rfl
              · exact absurd (x1 h 9 (by decide) (by decide)) (by rw [hd]; decide)
            replace hT := hT.1 hl
            unfold OpSteps
            simp [go_sem, evS, f20]
            exact ⟨kpw h0, kpw h1, kpw h2, kpw h3, kpw h4, kpw h5, kc (P := fun v9 => XM W v9 wc.heap.size n2 n1 N12 (fun i j => Zb j i) 50) (Q := fun v9 => XM W v9 wc.heap.size n2 n1 N12 (fun i j => Zb j i) 50) h6 (by decide) (by decide) hl (fun _ h => h), kpw h7, kpw h8, fun _ => by simp [sput], kpw h10, kpw h11, kpw h12, kc (P := fun v9 => XM W v9 wc.heap.size n1 n0 N01 (fun i j => Za j i) 50) (Q := fun v9 => XM W v9 wc.heap.size n1 n0 N01 (fun i j => Za j i) 50) h13 (by decide) (by decide) hl (fun _ h => h), kc (P := fun v9 => Bs2 W v9 n2 n1 n0 N12 N01 (fun i j => Zb j i) (fun i j => Za j i) 50) (Q := fun v9 => Bs2 W v9 n2 n1 n0 N12 N01 (fun i j => Zb j i) (fun i j => Za j i) 50) h14 (by decide) (by decide) hl (fun _ h => h), kc (P := fun v9 => TpX W v9 wc.heap.size n2 n0 N02 (mulZ (fun i j => Zb j i) (fun i j => Za j i) n1) 15000) (Q := fun v9 => TpX W v9 wc.heap.size n2 n0 N02 (mulZ (fun i j => Zb j i) (fun i j => Za j i) n1) 15000) h15 (by decide) (by decide) hl (fun _ h => h), kc (P := fun v9 => TpX W v9 wc.heap.size n2 n0 N02 (mulZ (fun i j => Zb j i) (fun i j => Za j i) n1) 15000) (Q := fun v9 => TpX W v9 wc.heap.size n2 n0 N02 (mulZ (fun i j => Zb j i) (fun i j => Za j i) n1) 15000) h16 (by decide) (by decide) hl (fun _ h => h), kc (P := fun v9 => XM W v9 wc.heap.size n2 n0 N02 (mulZ (fun i j => Zb j i) (fun i j => Za j i) n1) 15000) (Q := fun v9 => XM W v9 wc.heap.size n2 n0 N02 (mulZ (fun i j => Zb j i) (fun i j => Za j i) n1) 15000) h17 (by decide) (by decide) hl (fun _ h => h), kpw h18, kc (P := fun v9 => NbM W v9 wc.heap.size) (Q := fun v9 => NbM W v9 wc.heap.size) h19 (by decide) (by decide) hl (fun _ h => h), kpw h21, fun h => by obtain ⟨v9, hv9⟩ := x0 (by simpa [did] using h); exact ⟨v9, by simpa [sput] using hv9⟩, allx_keep x1 (by decide), ⟨fun _ => hT, fun h => by simp [did, hl] at h⟩⟩
        · as_aux_lemma =>
            have hl : d 20 = false := by
              cases h : d 20
              · rfl
              · exact absurd (x1 h 10 (by decide) (by decide)) (by rw [hd]; decide)
            replace hT := hT.1 hl
            have g9 := h9 (by simp [hdep])
            unfold OpSteps
            obtain ⟨p0, p1, p2⟩ := cells3v (Hu12.out.below hT Hu12.out.lt)
            simp [go_sem, evS, g9, p0, p1, p2]
            exact ⟨kpw h0, kpw h1, kpw h2, kpw h3, kpw h4, kpw h5, kc (P := fun v9 => XM W v9 wc.heap.size n2 n1 N12 (fun i j => Zb j i) 50) (Q := fun v9 => XM W v9 wc.heap.size n2 n1 N12 (fun i j => Zb j i) 50) h6 (by decide) (by decide) hl (fun _ h => h), kpw h7, kpw h8, kpw h9, fun _ => by simp [sput], kpw h11, kpw h12, kc (P := fun v9 => XM W v9 wc.heap.size n1 n0 N01 (fun i j => Za j i) 50) (Q := fun v9 => XM W v9 wc.heap.size n1 n0 N01 (fun i j => Za j i) 50) h13 (by decide) (by decide) hl (fun _ h => h), kc (P := fun v9 => Bs2 W v9 n2 n1 n0 N12 N01 (fun i j => Zb j i) (fun i j => Za j i) 50) (Q := fun v9 => Bs2 W v9 n2 n1 n0 N12 N01 (fun i j => Zb j i) (fun i j => Za j i) 50) h14 (by decide) (by decide) hl (fun _ h => h), kc (P := fun v9 => TpX W v9 wc.heap.size n2 n0 N02 (mulZ (fun i j => Zb j i) (fun i j => Za j i) n1) 15000) (Q := fun v9 => TpX W v9 wc.heap.size n2 n0 N02 (mulZ (fun i j => Zb j i) (fun i j => Za j i) n1) 15000) h15 (by decide) (by decide) hl (fun _ h => h), kc (P := fun v9 => TpX W v9 wc.heap.size n2 n0 N02 (mulZ (fun i j => Zb j i) (fun i j => Za j i) n1) 15000) (Q := fun v9 => TpX W v9 wc.heap.size n2 n0 N02 (mulZ (fun i j => Zb j i) (fun i j => Za j i) n1) 15000) h16 (by decide) (by decide) hl (fun _ h => h), kc (P := fun v9 => XM W v9 wc.heap.size n2 n0 N02 (mulZ (fun i j => Zb j i) (fun i j => Za j i) n1) 15000) (Q := fun v9 => XM W v9 wc.heap.size n2 n0 N02 (mulZ (fun i j => Zb j i) (fun i j => Za j i) n1) 15000) h17 (by decide) (by decide) hl (fun _ h => h), kpw h18, kc (P := fun v9 => NbM W v9 wc.heap.size) (Q := fun v9 => NbM W v9 wc.heap.size) h19 (by decide) (by decide) hl (fun _ h => h), kpw h21, fun h => by obtain ⟨v9, hv9⟩ := x0 (by simpa [did] using h); exact ⟨v9, by simpa [sput] using hv9⟩, allx_keep x1 (by decide), ⟨fun _ => hT, fun h => by simp [did, hl] at h⟩⟩
        · as_aux_lemma =>
            have hl : d 20 = false := by
              cases h : d 20
              · rfl
              · exact absurd (x1 h 11 (by decide) (by decide)) (by rw [hd]; decide)
            replace hT := hT.1 hl
            unfold OpSteps
            simp [go_sem, evS, f20]
            exact ⟨kpw h0, kpw h1, kpw h2, kpw h3, kpw h4, kpw h5, kc (P := fun v9 => XM W v9 wc.heap.size n2 n1 N12 (fun i j => Zb j i) 50) (Q := fun v9 => XM W v9 wc.heap.size n2 n1 N12 (fun i j => Zb j i) 50) h6 (by decide) (by decide) hl (fun _ h => h), kpw h7, kpw h8, kpw h9, kpw h10, fun _ => by simp [sput], kpw h12, kc (P := fun v9 => XM W v9 wc.heap.size n1 n0 N01 (fun i j => Za j i) 50) (Q := fun v9 => XM W v9 wc.heap.size n1 n0 N01 (fun i j => Za j i) 50) h13 (by decide) (by decide) hl (fun _ h => h), kc (P := fun v9 => Bs2 W v9 n2 n1 n0 N12 N01 (fun i j => Zb j i) (fun i j => Za j i) 50) (Q := fun v9 => Bs2 W v9 n2 n1 n0 N12 N01 (fun i j => Zb j i) (fun i j => Za j i) 50) h14 (by decide) (by decide) hl (fun _ h => h), kc (P := fun v9 => TpX W v9 wc.heap.size n2 n0 N02 (mulZ (fun i j => Zb j i) (fun i j => Za j i) n1) 15000) (Q := fun v9 => TpX W v9 wc.heap.size n2 n0 N02 (mulZ (fun i j => Zb j i) (fun i j => Za j i) n1) 15000) h15 (by decide) (by decide) hl (fun _ h => h), kc (P := fun v9 => TpX W v9 wc.heap.size n2 n0 N02 (mulZ (fun i j => Zb j i) (fun i j => Za j i) n1) 15000) (Q := fun v9 => TpX W v9 wc.heap.size n2 n0 N02 (mulZ (fun i j => Zb j i) (fun i j => Za j i) n1) 15000) h16 (by decide) (by decide) hl (fun _ h => h), kc (P := fun v9 => XM W v9 wc.heap.size n2 n0 N02 (mulZ (fun i j => Zb j i) (fun i j => Za j i) n1) 15000) (Q := fun v9 => XM W v9 wc.heap.size n2 n0 N02 (mulZ (fun i j => Zb j i) (fun i j => Za j i) n1) 15000) h17 (by decide) (by decide) hl (fun _ h => h), kpw h18, kc (P := fun v9 => NbM W v9 wc.heap.size) (Q := fun v9 => NbM W v9 wc.heap.size) h19 (by decide) (by decide) hl (fun _ h => h), kpw h21, fun h => by obtain ⟨v9, hv9⟩ := x0 (by simpa [did] using h); exact ⟨v9, by simpa [sput] using hv9⟩, allx_keep x1 (by decide), ⟨fun _ => hT, fun h => by simp [did, hl] at h⟩⟩
        · as_aux_lemma =>
            have hl : d 20 = false := by
              cases h : d 20
              · rfl
              · exact absurd (x1 h 12 (by decide) (by decide)) (by rw [hd]; decide)
            replace hT := hT.1 hl
            have g11 := h11 (by simp [hdep])
            unfold OpSteps
            obtain ⟨p0, p1, p2⟩ := cells3v (Hu12.out.below hT Hu12.out.lt)
            simp [go_sem, evS, g11, p0, p1, p2]
            exact ⟨kpw h0, kpw h1, kpw h2, kpw h3, kpw h4, kpw h5, kc (P := fun v9 => XM W v9 wc.heap.size n2 n1 N12 (fun i j => Zb j i) 50) (Q := fun v9 => XM W v9 wc.heap.size n2 n1 N12 (fun i j => Zb j i) 50) h6 (by decide) (by decide) hl (fun _ h => h), kpw h7, kpw h8, kpw h9, kpw h10, kpw h11, fun _ => by simp [sput], kc (P := fun v9 => XM W v9 wc.heap.size n1 n0 N01 (fun i j => Za j i) 50) (Q := fun v9 => XM W v9 wc.heap.size n1 n0 N01 (fun i j => Za j i) 50) h13 (by decide) (by decide) hl (fun _ h => h), kc (P := fun v9 => Bs2 W v9 n2 n1 n0 N12 N01 (fun i j => Zb j i) (fun i j => Za j i) 50) (Q := fun v9 => Bs2 W v9 n2 n1 n0 N12 N01 (fun i j => Zb j i) (fun i j => Za j i) 50) h14 (by decide) (by decide) hl (fun _ h => h), kc (P := fun v9 => TpX W v9 wc.heap.size n2 n0 N02 (mulZ (fun i j => Zb j i) (fun i j => Za j i) n1) 15000) (Q := fun v9 => TpX W v9 wc.heap.size n2 n0 N02 (mulZ (fun i j => Zb j i) (fun i j => Za j i) n1) 15000) h15 (by decide) (by decide) hl (fun _ h => h), kc (P := fun v9 => TpX W v9 wc.heap.size n2 n0 N02 (mulZ (fun i j => Zb j i) (fun i j => Za j i) n1) 15000) (Q := fun v9 => TpX W v9 wc.heap.size n2 n0 N02 (mulZ (fun i j => Zb j i) (fun i j => Za j i) n1) 15000) h16 (by decide) (by decide) hl (fun _ h => h), kc (P := fun v9 => XM W v9 wc.heap.size n2 n0 N02 (mulZ (fun i j => Zb j i) (fun i j => Za j i) n1) 15000) (Q := fun v9 => XM W v9 wc.heap.size n2 n0 N02 (mulZ (fun i j => Zb j i) (fun i j => Za j i) n1) 15000) h17 (by decide) (by decide) hl (fun _ h => h), kpw h18, kc (P := fun v9 => NbM W v9 wc.heap.size) (Q := fun v9 => NbM W v9 wc.heap.size) h19 (by decide) (by decide) hl (fun _ h => h), kpw h21, fun h => by obtain ⟨v9, hv9⟩ := x0 (by simpa [did] using h); exact ⟨v9, by simpa [sput] using hv9⟩, allx_keep x1 (by decide), ⟨fun _ => hT, fun h => by simp [did, hl] at h⟩⟩
        · as_aux_lemma =>
            have hl : d 20 = false := by
              cases h : d 20
              · rfl
              · exact absurd (x1 h 13 (by decide) (by decide)) (by rw [hd]; decide)
            replace hT := hT.1 hl
            have g8 := h8 (by simp [hdep])
            have g10 := h10 (by simp [hdep])
            have g12 := h12 (by simp [hdep])
            unfold OpSteps
            simp [go_sem, evS, g8, g10, g12]
            refine (HDu.out W hT).mono ?_
            rintro e W' ⟨g9, M9, rfl, hX9, hg9, hb⟩
            refine ⟨_, rfl, ?_⟩
            exact ⟨kpw h0, kpw h1, kpw h2, kpw h3, kpw h4, kpw h5, kc (P := fun v9 => XM W v9 wc.heap.size n2 n1 N12 (fun i j => Zb j i) 50) (Q := fun v9 => XM W' v9 wc.heap.size n2 n1 N12 (fun i j => Zb j i) 50) h6 (by decide) (by decide) hl (fun _ h => XM.below h hb), kpw h7, kpw h8, kpw h9, kpw h10, kpw h11, kpw h12, fun _ => fun _ => ⟨g9, M9, by simp [sput], hX9, Nat.le_trans hT.size hg9⟩, kc (P := fun v9 => Bs2 W v9 n2 n1 n0 N12 N01 (fun i j => Zb j i) (fun i j => Za j i) 50) (Q := fun v9 => Bs2 W' v9 n2 n1 n0 N12 N01 (fun i j => Zb j i) (fun i j => Za j i) 50) h14 (by decide) (by decide) hl (fun _ h => Bs2.below h hb), kc (P := fun v9 => TpX W v9 wc.heap.size n2 n0 N02 (mulZ (fun i j => Zb j i) (fun i j => Za j i) n1) 15000) (Q := fun v9 => TpX W' v9 wc.heap.size n2 n0 N02 (mulZ (fun i j => Zb j i) (fun i j => Za j i) n1) 15000) h15 (by decide) (by decide) hl (fun _ h => TpX.below h hb), kc (P := fun v9 => TpX W v9 wc.heap.size n2 n0 N02 (mulZ (fun i j => Zb j i) (fun i j => Za j i) n1) 15000) (Q := fun v9 => TpX W' v9 wc.heap.size n2 n0 N02 (mulZ (fun i j => Zb j i) (fun i j => Za j i) n1) 15000) h16 (by decide) (by decide) hl (fun _ h => TpX.below h hb), kc (P := fun v9 => XM W v9 wc.heap.size n2 n0 N02 (mulZ (fun i j => Zb j i) (fun i j => Za j i) n1) 15000) (Q := fun v9 => XM W' v9 wc.heap.size n2 n0 N02 (mulZ (fun i j => Zb j i) (fun i j => Za j i) n1) 15000) h17 (by decide) (by decide) hl (fun _ h => XM.below h hb), kpw h18, kc (P := fun v9 => NbM W v9 wc.heap.size) (Q := fun v9 => NbM W' v9 wc.heap.size) h19 (by decide) (by decide) hl (fun _ h => NbM.below h hb), kpw h21, fun h => by obtain ⟨v9, hv9⟩ := x0 (by simpa [did] using h); exact ⟨v9, by simpa [sput] using hv9⟩, allx_keep x1 (by decide), ⟨fun _ => below_nx hT hb, fun h => by simp [did, hl] at h⟩⟩
        · as_aux_lemma =>
            have hl : d 20 = false := by
              cases h : d 20
              · rfl
              · exact absurd (x1 h 14 (by decide) (by decide)) (by rw [hd]; decide)
            replace hT := hT.1 hl
            have g6 := h6 (by simp [hdep])
            have g13 := h13 (by simp [hdep])
            obtain ⟨g8, M8, gv8, gX8, gz8⟩ := g6 hl
            obtain ⟨g7, M7, gv7, gX7, gz7⟩ := g13 hl
            refine op_makesG _ _ (runb2 rfl gv8 gv7 W) ?_
            exact ⟨kpw h0, kpw h1, kpw h2, kpw h3, kpw h4, kpw h5, kc (P := fun v9 => XM W v9 wc.heap.size n2 n1 N12 (fun i j => Zb j i) 50) h6 (by decide) (by decide) hl (fun _ h => XM.below h below_one), kpw h7, kpw h8, kpw h9, kpw h10, kpw h11, kpw h12, kc (P := fun v9 => XM W v9 wc.heap.size n1 n0 N01 (fun i j => Za j i) 50) h13 (by decide) (by decide) hl (fun _ h => XM.below h below_one), fun _ => fun _ => ⟨W.heap.size, g8, g7, M8, M7, by simp [sput], Blk.new W _ (two5 g8 N12 g7 N01 n2 n1 n0), gX8.nxt below_one, gX7.nxt below_one⟩, kc (P := fun v9 => TpX W v9 wc.heap.size n2 n0 N02 (mulZ (fun i j => Zb j i) (fun i j => Za j i) n1) 15000) h15 (by decide) (by decide) hl (fun _ h => TpX.below h below_one), kc (P := fun v9 => TpX W v9 wc.heap.size n2 n0 N02 (mulZ (fun i j => Zb j i) (fun i j => Za j i) n1) 15000) h16 (by decide) (by decide) hl (fun _ h => TpX.below h below_one), kc (P := fun v9 => XM W v9 wc.heap.size n2 n0 N02 (mulZ (fun i j => Zb j i) (fun i j => Za j i) n1) 15000) h17 (by decide) (by decide) hl (fun _ h => XM.below h below_one), kpw h18, kc (P := fun v9 => NbM W v9 wc.heap.size) h19 (by decide) (by decide) hl (fun _ h => NbM.below h below_one), kpw h21, fun h => by obtain ⟨v9, hv9⟩ := x0 (by simpa [did] using h); exact ⟨v9, by simpa [sput] using hv9⟩, allx_keep x1 (by decide), ⟨fun _ => below_al hT, fun h => by simp [did, hl] at h⟩⟩
        · as_aux_lemma =>
            have hl : d 20 = false := by
              cases h : d 20
              · rfl
              · exact absurd (x1 h 15 (by decide) (by decide)) (by rw [hd]; decide)
            replace hT := hT.1 hl
            have g14 := h14 (by simp [hdep])
            unfold OpSteps
            obtain ⟨b8, g8, g7, M8, M7, gv8, gB8, gX8, gX7⟩ := g14 hl
            simp [go_sem, evS, gv8]
            refine (HPt.out b8 g8 g7 M8 M7 W gB8 gX8 gX7).mono ?_
            rintro e W' ⟨g9, M9, rfl, hX9, hg9, hb⟩
            refine ⟨_, rfl, ?_⟩
            exact ⟨kpw h0, kpw h1, kpw h2, kpw h3, kpw h4, kpw h5, kc (P := fun v9 => XM W v9 wc.heap.size n2 n1 N12 (fun i j => Zb j i) 50) (Q := fun v9 => XM W' v9 wc.heap.size n2 n1 N12 (fun i j => Zb j i) 50) h6 (by decide) (by decide) hl (fun _ h => XM.below h hb), kpw h7, kpw h8, kpw h9, kpw h10, kpw h11, kpw h12, kc (P := fun v9 => XM W v9 wc.heap.size n1 n0 N01 (fun i j => Za j i) 50) (Q := fun v9 => XM W' v9 wc.heap.size n1 n0 N01 (fun i j => Za j i) 50) h13 (by decide) (by decide) hl (fun _ h => XM.below h hb), kc (P := fun v9 => Bs2 W v9 n2 n1 n0 N12 N01 (fun i j => Zb j i) (fun i j => Za j i) 50) (Q := fun v9 => Bs2 W' v9 n2 n1 n0 N12 N01 (fun i j => Zb j i) (fun i j => Za j i) 50) h14 (by decide) (by decide) hl (fun _ h => Bs2.below h hb), fun _ => fun _ => ⟨_, by simp [sput], g9, M9, rfl, hX9, Nat.le_trans hT.size hg9⟩, kc (P := fun v9 => TpX W v9 wc.heap.size n2 n0 N02 (mulZ (fun i j => Zb j i) (fun i j => Za j i) n1) 15000) (Q := fun v9 => TpX W' v9 wc.heap.size n2 n0 N02 (mulZ (fun i j => Zb j i) (fun i j => Za j i) n1) 15000) h16 (by decide) (by decide) hl (fun _ h => TpX.below h hb), kc (P := fun v9 => XM W v9 wc.heap.size n2 n0 N02 (mulZ (fun i j => Zb j i) (fun i j => Za j i) n1) 15000) (Q := fun v9 => XM W' v9 wc.heap.size n2 n0 N02 (mulZ (fun i j => Zb j i) (fun i j => Za j i) n1) 15000) h17 (by decide) (by decide) hl (fun _ h => XM.below h hb), kpw h18, kc (P := fun v9 => NbM W v9 wc.heap.size) (Q := fun v9 => NbM W' v9 wc.heap.size) h19 (by decide) (by decide) hl (fun _ h => NbM.below h hb), kpw h21, fun h => by obtain ⟨v9, hv9⟩ := x0 (by simpa [did] using h); exact ⟨v9, by simpa [sput] using hv9⟩, allx_keep x1 (by decide), ⟨fun _ => below_nx hT hb, fun h => by simp [did, hl] at h⟩⟩
        · as_aux_lemma =>
            have hl : d 20 = false := by
              cases h : d 20
              · rfl
              · exact absurd (x1 h 16 (by decide) (by decide)) (by rw [hd]; decide)
            replace hT := hT.1 hl
            have g15 := h15 (by simp [hdep])
            unfold OpSteps
            obtain ⟨v8, gv8, gM8⟩ := g15 hl
            simp [go_sem, evS, gv8]
            exact ⟨kpw h0, kpw h1, kpw h2, kpw h3, kpw h4, kpw h5, kc (P := fun v9 => XM W v9 wc.heap.size n2 n1 N12 (fun i j => Zb j i) 50) (Q := fun v9 => XM W v9 wc.heap.size n2 n1 N12 (fun i j => Zb j i) 50) h6 (by decide) (by decide) hl (fun _ h => h), kpw h7, kpw h8, kpw h9, kpw h10, kpw h11, kpw h12, kc (P := fun v9 => XM W v9 wc.heap.size n1 n0 N01 (fun i j => Za j i) 50) (Q := fun v9 => XM W v9 wc.heap.size n1 n0 N01 (fun i j => Za j i) 50) h13 (by decide) (by decide) hl (fun _ h => h), kc (P := fun v9 => Bs2 W v9 n2 n1 n0 N12 N01 (fun i j => Zb j i) (fun i j => Za j i) 50) (Q := fun v9 => Bs2 W v9 n2 n1 n0 N12 N01 (fun i j => Zb j i) (fun i j => Za j i) 50) h14 (by decide) (by decide) hl (fun _ h => h), kc (P := fun v9 => TpX W v9 wc.heap.size n2 n0 N02 (mulZ (fun i j => Zb j i) (fun i j => Za j i) n1) 15000) (Q := fun v9 => TpX W v9 wc.heap.size n2 n0 N02 (mulZ (fun i j => Zb j i) (fun i j => Za j i) n1) 15000) h15 (by decide) (by decide) hl (fun _ h => h), fun _ => fun _ => ⟨v8, by simp [sput], gM8⟩, kc (P := fun v9 => XM W v9 wc.heap.size n2 n0 N02 (mulZ (fun i j => Zb j i) (fun i j => Za j i) n1) 15000) (Q := fun v9 => XM W v9 wc.heap.size n2 n0 N02 (mulZ (fun i j => Zb j i) (fun i j => Za j i) n1) 15000) h17 (by decide) (by decide) hl (fun _ h => h), kpw h18, kc (P := fun v9 => NbM W v9 wc.heap.size) (Q := fun v9 => NbM W v9 wc.heap.size) h19 (by decide) (by decide) hl (fun _ h => h), kpw h21, fun _ => ⟨v8, by simp [sput]⟩, allx_keep x1 (by decide), ⟨fun _ => hT, fun h => by simp [did, hl] at h⟩⟩
        · as_aux_lemma =>
            have hl : d 20 = false := by
              cases h : d 20
              · rfl
              · exact absurd (x1 h 17 (by decide) (by decide)) (by rw [hd]; decide)
            replace hT := hT.1 hl
            have g16 := h16 (by simp [hdep])
            unfold OpSteps
            obtain ⟨v8, gv8, gM8⟩ := g16 hl
            simp [go_sem, evS, gv8]
            exact ⟨kpw h0, kpw h1, kpw h2, kpw h3, kpw h4, kpw h5, kc (P := fun v9 => XM W v9 wc.heap.size n2 n1 N12 (fun i j => Zb j i) 50) (Q := fun v9 => XM W v9 wc.heap.size n2 n1 N12 (fun i j => Zb j i) 50) h6 (by decide) (by decide) hl (fun _ h => h), kpw h7, kpw h8, kpw h9, kpw h10, kpw h11, kpw h12, kc (P := fun v9 => XM W v9 wc.heap.size n1 n0 N01 (fun i j => Za j i) 50) (Q := fun v9 => XM W v9 wc.heap.size n1 n0 N01 (fun i j => Za j i) 50) h13 (by decide) (by decide) hl (fun _ h => h), kc (P := fun v9 => Bs2 W v9 n2 n1 n0 N12 N01 (fun i j => Zb j i) (fun i j => Za j i) 50) (Q := fun v9 => Bs2 W v9 n2 n1 n0 N12 N01 (fun i j => Zb j i) (fun i j => Za j i) 50) h14 (by decide) (by decide) hl (fun _ h => h), kc (P := fun v9 => TpX W v9 wc.heap.size n2 n0 N02 (mulZ (fun i j => Zb j i) (fun i j => Za j i) n1) 15000) (Q := fun v9 => TpX W v9 wc.heap.size n2 n0 N02 (mulZ (fun i j => Zb j i) (fun i j => Za j i) n1) 15000) h15 (by decide) (by decide) hl (fun _ h => h), kc (P := fun v9 => TpX W v9 wc.heap.size n2 n0 N02 (mulZ (fun i j => Zb j i) (fun i j => Za j i) n1) 15000) (Q := fun v9 => TpX W v9 wc.heap.size n2 n0 N02 (mulZ (fun i j => Zb j i) (fun i j => Za j i) n1) 15000) h16 (by decide) (by decide) hl (fun _ h => h), fun _ => fun _ => by simpa [sput] using gM8, kpw h18, kc (P := fun v9 => NbM W v9 wc.heap.size) (Q := fun v9 => NbM W v9 wc.heap.size) h19 (by decide) (by decide) hl (fun _ h => h), kpw h21, fun h => by obtain ⟨v9, hv9⟩ := x0 (by simpa [did] using h); exact ⟨v9, by simpa [sput] using hv9⟩, allx_keep x1 (by decide), ⟨fun _ => hT, fun h => by simp [did, hl] at h⟩⟩
        · as_aux_lemma =>
            have g16 := h16 (by simp [hdep])
            unfold OpSteps
            obtain ⟨v8, gv8⟩ := x0 (by simp [hdep])
            simp [go_sem, evS, gv8]
            exact ⟨kpw h0, kpw h1, kpw h2, kpw h3, kpw h4, kpw h5, kcd (P := fun v9 => XM W v9 wc.heap.size n2 n1 N12 (fun i j => Zb j i) 50) h6 (by decide) (by decide) (by decide), kpw h7, kpw h8, kpw h9, kpw h10, kpw h11, kpw h12, kcd (P := fun v9 => XM W v9 wc.heap.size n1 n0 N01 (fun i j => Za j i) 50) h13 (by decide) (by decide) (by decide), kcd (P := fun v9 => Bs2 W v9 n2 n1 n0 N12 N01 (fun i j => Zb j i) (fun i j => Za j i) 50) h14 (by decide) (by decide) (by decide), kcd (P := fun v9 => TpX W v9 wc.heap.size n2 n0 N02 (mulZ (fun i j => Zb j i) (fun i j => Za j i) n1) 15000) h15 (by decide) (by decide) (by decide), kcd (P := fun v9 => TpX W v9 wc.heap.size n2 n0 N02 (mulZ (fun i j => Zb j i) (fun i j => Za j i) n1) 15000) h16 (by decide) (by decide) (by decide), kcd (P := fun v9 => XM W v9 wc.heap.size n2 n0 N02 (mulZ (fun i j => Zb j i) (fun i j => Za j i) n1) 15000) h17 (by decide) (by decide) (by decide), fun _ => by simp [sput], kcd (P := fun v9 => NbM W v9 wc.heap.size) h19 (by decide) (by decide) (by decide), kpw h21, fun h => by obtain ⟨v9, hv9⟩ := x0 (by simpa [did] using h); exact ⟨v9, by simpa [sput] using hv9⟩, allx_keep x1 (by decide), ⟨fun h => hT.1 (by simpa [did] using h), fun h => by simpa [sput] using hT.2 (by simpa [did] using h)⟩⟩
        · as_aux_lemma =>
            have hl : d 20 = false := by
              cases h : d 20
              · rfl
              · exact absurd (x1 h 19 (by decide) (by decide)) (by rw [hd]; decide)
            replace hT := hT.1 hl
            unfold OpSteps
            simp [go_sem, evS]
            exact ⟨kpw h0, kpw h1, kpw h2, kpw h3, kpw h4, kpw h5, kc (P := fun v9 => XM W v9 wc.heap.size n2 n1 N12 (fun i j => Zb j i) 50) h6 (by decide) (by decide) hl (fun _ h => XM.below h below_one), kpw h7, kpw h8, kpw h9, kpw h10, kpw h11, kpw h12, kc (P := fun v9 => XM W v9 wc.heap.size n1 n0 N01 (fun i j => Za j i) 50) h13 (by decide) (by decide) hl (fun _ h => XM.below h below_one), kc (P := fun v9 => Bs2 W v9 n2 n1 n0 N12 N01 (fun i j => Zb j i) (fun i j => Za j i) 50) h14 (by decide) (by decide) hl (fun _ h => Bs2.below h below_one), kc (P := fun v9 => TpX W v9 wc.heap.size n2 n0 N02 (mulZ (fun i j => Zb j i) (fun i j => Za j i) n1) 15000) h15 (by decide) (by decide) hl (fun _ h => TpX.below h below_one), kc (P := fun v9 => TpX W v9 wc.heap.size n2 n0 N02 (mulZ (fun i j => Zb j i) (fun i j => Za j i) n1) 15000) h16 (by decide) (by decide) hl (fun _ h => TpX.below h below_one), kc (P := fun v9 => XM W v9 wc.heap.size n2 n0 N02 (mulZ (fun i j => Zb j i) (fun i j => Za j i) n1) 15000) h17 (by decide) (by decide) hl (fun _ h => XM.below h below_one), kpw h18, fun _ => fun _ => ⟨W.heap.size, _, _, _, _, _, by simp [sput], Blk.new W _ _, hT.size⟩, kpw h21, fun h => by obtain ⟨v9, hv9⟩ := x0 (by simpa [did] using h); exact ⟨v9, by simpa [sput] using hv9⟩, allx_keep x1 (by decide), ⟨fun _ => below_al hT, fun h => by simp [did, hl] at h⟩⟩
        · as_aux_lemma =>
            have g19 := h19 (by simp [hdep])
            have g17 := h17 (by simp [hdep])
            unfold OpSteps
            have hT0 := hT.1 hd
            obtain ⟨p9, z0, z1, z2, z3, z4, gp, hB9, hlo⟩ := g19 hd
            obtain ⟨g9, M9, gv, gX, gz⟩ := g17 hd
            obtain ⟨fr0, fr1, fr2, fr3, fr4⟩ := frozen5w hB9
            obtain ⟨k0, k1, k2, k3, k4⟩ := cells5 hB9
            have hfar : ∀ k9, k9 ≠ p9 → _ := fun k9 (hk9 : k9 ≠ p9) => heap_sets5 (w := W) hk9 (.slice (some ⟨g9, 0, none⟩) N02 N02) (.int .i64 0) (.int .i64 (n2 : Int)) (.int .i64 (n0 : Int)) (.int .i64 (n2 : Int))
            simp [go_sem, evS, gp, gv, fr0, fr1, fr2, fr3, fr4, k0, k1, k2, k3, k4]
            exact ⟨kpw h0, kpw h1, kpw h2, kpw h3, kpw h4, kpw h5, fun h e => by simp [did] at e, kpw h7, kpw h8, kpw h9, kpw h10, kpw h11, kpw h12, fun h e => by simp [did] at e, fun h e => by simp [did] at e, fun h e => by simp [did] at e, fun h e => by simp [did] at e, fun h e => by simp [did] at e, kpw h18, fun h e => by simp [did] at e, kpw h21, fun h => by obtain ⟨v9, hv9⟩ := x0 (by simpa [did] using h); exact ⟨v9, by simpa [sput] using hv9⟩, fun _ j hj hj2 => by rcases (show j = 0 ∨ j = 1 ∨ j = 2 ∨ j = 3 ∨ j = 4 ∨ j = 5 ∨ j = 6 ∨ j = 7 ∨ j = 8 ∨ j = 9 ∨ j = 10 ∨ j = 11 ∨ j = 12 ∨ j = 13 ∨ j = 14 ∨ j = 15 ∨ j = 16 ∨ j = 17 ∨ j = 19 by omega) with rfl | rfl | rfl | rfl | rfl | rfl | rfl | rfl | rfl | rfl | rfl | rfl | rfl | rfl | rfl | rfl | rfl | rfl | rfl <;> simp [did, hdep], ⟨fun h => by simp [did] at h, fun _ => ⟨p9, g9, M9, by simpa [sput] using gp, Blk.store5 hB9 _ _ _ _ _, gX.own_ (own_offe gX.own (own_ne gX.own hB9 (by decide)) hfar), below_sets5 hT0 hlo _ _ _ _ _⟩⟩⟩
        · as_aux_lemma =>
            have g18 := h18 (by simp [hdep])
            unfold OpSteps
            simp [go_sem, evS, g18]
            exact ⟨kpw h0, kpw h1, kpw h2, kpw h3, kpw h4, kpw h5, kcd (P := fun v9 => XM W v9 wc.heap.size n2 n1 N12 (fun i j => Zb j i) 50) h6 (by decide) (by decide) (by decide), kpw h7, kpw h8, kpw h9, kpw h10, kpw h11, kpw h12, kcd (P := fun v9 => XM W v9 wc.heap.size n1 n0 N01 (fun i j => Za j i) 50) h13 (by decide) (by decide) (by decide), kcd (P := fun v9 => Bs2 W v9 n2 n1 n0 N12 N01 (fun i j => Zb j i) (fun i j => Za j i) 50) h14 (by decide) (by decide) (by decide), kcd (P := fun v9 => TpX W v9 wc.heap.size n2 n0 N02 (mulZ (fun i j => Zb j i) (fun i j => Za j i) n1) 15000) h15 (by decide) (by decide) (by decide), kcd (P := fun v9 => TpX W v9 wc.heap.size n2 n0 N02 (mulZ (fun i j => Zb j i) (fun i j => Za j i) n1) 15000) h16 (by decide) (by decide) (by decide), kcd (P := fun v9 => XM W v9 wc.heap.size n2 n0 N02 (mulZ (fun i j => Zb j i) (fun i j => Za j i) n1) 15000) h17 (by decide) (by decide) (by decide), kpw h18, kcd (P := fun v9 => NbM W v9 wc.heap.size) h19 (by decide) (by decide) (by decide), fun _ => by simp [sput], fun h => by obtain ⟨v9, hv9⟩ := x0 (by simpa [did] using h); exact ⟨v9, by simpa [sput] using hv9⟩, allx_keep x1 (by decide), ⟨fun h => hT.1 (by simpa [did] using h), fun h => by simpa [sput] using hT.2 (by simpa [did] using h)⟩⟩
      intro d s W hJ hd
      obtain ⟨h0, h1, h2, h3, h4, h5, h6, h7, h8, h9, h10, h11, h12, h13, h14, h15, h16, h17, h18, h19, h21, x0, x1, hT⟩ := hJ
      obtain ⟨pt, gt, Mt, hs22, hBt, hXt, hb⟩ := hT.2 (hd 20 (by decide))
      have hs23 := h21 (hd 21 (by decide))
      clear h0 h1 h2 h3 h4 h5 h6 h7 h8 h9 h10 h11 h12 h13 h14 h15 h16 h17 h18 h19 h21 x0 x1 hT hd
      simp [setAll, hs22, hs23]
      clear hs22 hs23
      generalize s 119 = s119
      generalize s 120 = s120
      generalize s 121 = s121
      generalize s 122 = s122
      generalize s 123 = s123
      generalize s 124 = s124
      generalize s 125 = s125
      generalize s 126 = s126
      generalize s 127 = s127
      generalize s 128 = s128
      generalize s 129 = s129
      generalize s 130 = s130
      generalize s 131 = s131
      generalize s 132 = s132
      generalize s 133 = s133
      generalize s 134 = s134
      generalize s 118 = s118
      generalize s 135 = s135
      generalize s 136 = s136
      generalize W = wd at *
      have Hp13 := Lib.hid (Hp12.out.nxt hb)
      have Hx13 := Lib.hid (Hx12.out.nxt hb)
      have Hy13 := Lib.hid (Hy12.out.nxt hb)
      have HP13 := Lib.hid (HP12.out.nxt hb)
      have HU13 := Lib.hid (HU12.out.nxt hb)
      have HV13 := Lib.hid (HV12.out.nxt hb)
      have HB13 := Lib.hid (below_nx HB12.out hb)
      clear Hp12 Hx12 Hy12 HP12 HU12 HV12 HB12
      have Ht13 := Lib.hid hBt
      have HR13 := Lib.hid hXt
      clear hBt hXt hb HDv HDu HPt Ha12 Hb12 Hc12 Hq12 Hu12 Hv12 HX12 HY12 HZ12 HQ12 HTU12 HTV12
      obtain ⟨p0, p1, p2, p3, p4⟩ := cells5 Hp13.out
      obtain ⟨x0, x1, x2, x3, x4⟩ := cells5 Hx13.out
      obtain ⟨y0, y1, y2, y3, y4⟩ := cells5 Hy13.out
      obtain ⟨t0, t1, t2, t3, t4⟩ := cells5 Ht13.out
      go_wp2_with fail
      refine (gegreat3_any gt n2 n0 N02 gp n0 n2 N02 gx n0 n3 N03 (by rw [Nat.mul_comm]; exact HNM.out.1) HNM.out.1 HNM.out.2.2 HN.out.2.2.1 HN.out.1 HN.out.1 HN.out.2.2.1 HN.out.1 HN.out.2.2.2 _).mono ?_
      rintro e we ⟨rfl, hb⟩
      have Hp14 := Lib.hid (Hp13.out.nxt hb)
      have Hx14 := Lib.hid (Hx13.out.nxt hb)
      have Hy14 := Lib.hid (Hy13.out.nxt hb)
      have Ht14 := Lib.hid (Ht13.out.nxt hb)
      have HP14 := Lib.hid (HP13.out.nxt hb)
      have HU14 := Lib.hid (HU13.out.nxt hb)
      have HV14 := Lib.hid (HV13.out.nxt hb)
      have HR14 := Lib.hid (HR13.out.nxt hb)
      have HB14 := Lib.hid (below_nx HB13.out hb)
      clear Hp13 Hx13 Hy13 Ht13 HP13 HU13 HV13 HR13 HB13
      clear p0 p1 p2 p3 p4 x0 x1 x2 x3 x4 y0 y1 y2 y3 y4 t0 t1 t2 t3 t4
      clear hb
      obtain ⟨p0, p1, p2, p3, p4⟩ := cells5 Hp14.out
      obtain ⟨x0, x1, x2, x3, x4⟩ := cells5 Hx14.out
      obtain ⟨y0, y1, y2, y3, y4⟩ := cells5 Hy14.out
      obtain ⟨t0, t1, t2, t3, t4⟩ := cells5 Ht14.out
      go_wp2_with fail
      refine (gegreat_any gy n0 n3 N03 HNM.out.2.2 HN.out.1 HN.out.2.2.2 _).mono ?_
      rintro e wf ⟨rfl, hb⟩
      have Hp15 := Lib.hid (Hp14.out.nxt hb)
      have Hx15 := Lib.hid (Hx14.out.nxt hb)
      have Hy15 := Lib.hid (Hy14.out.nxt hb)
      have Ht15 := Lib.hid (Ht14.out.nxt hb)
      have HP15 := Lib.hid (HP14.out.nxt hb)
      have HU15 := Lib.hid (HU14.out.nxt hb)
      have HV15 := Lib.hid (HV14.out.nxt hb)
      have HR15 := Lib.hid (HR14.out.nxt hb)
      have HB15 := Lib.hid (below_nx HB14.out hb)
      clear Hp14 Hx14 Hy14 Ht14 HP14 HU14 HV14 HR14 HB14
      clear p0 p1 p2 p3 p4 x0 x1 x2 x3 x4 y0 y1 y2 y3 y4 t0 t1 t2 t3 t4
      clear hb
      obtain ⟨p0, p1, p2, p3, p4⟩ := cells5 Hp15.out
      obtain ⟨x0, x1, x2, x3, x4⟩ := cells5 Hx15.out
      obtain ⟨y0, y1, y2, y3, y4⟩ := cells5 Hy15.out
      obtain ⟨t0, t1, t2, t3, t4⟩ := cells5 Ht15.out
      go_wp2_with fail
      have HEq := Lib.hid (fun W (hb : Below wf.heap.size wf W) => geequal2_any gx gy n0 n3 N03 Mx My (mulZ (mulZ Za Zb n1) Zc n2) (mulZ Za (mulZ Zb Zc n2) n1) 4500000 4500000 W (HU15.out.nxt hb) (HV15.out.nxt hb) (fun i j => mulZ_assoc Za Zb Zc n1 i j n2) HN.out.1 HN.out.2.2.2)
      have HGt := Lib.hid (fun W => gegood_any HR15.out HN.out.2.2.1 HN.out.1 W)
      have HGp := Lib.hid (fun W => gegood_any HP15.out HN.out.1 HN.out.2.2.1 W)
      have HOt := Lib.hid (fun W (hb : Below wf.heap.size wf W) => geof_any gt n2 n0 N02 Mt (mulZ (fun i j => Zb j i) (fun i j => Za j i) n1) 15000 W (HR15.out.nxt hb) HN.out.2.2.1 HN.out.1)
      have HOp := Lib.hid (fun W (hb : Below wf.heap.size wf W) => geof_any gp n0 n2 N02 Mp (mulZ Za Zb n1) 15000 W (HP15.out.nxt hb) HN.out.1 HN.out.2.2.1)
      have HTt := Lib.hid (fun q T W (h1 : TbZ n2 n0 N02 (mulZ (fun i j => Zb j i) (fun i j => Za j i) n1) T) (h2 : Row W (some ⟨q, 0, none⟩) (f64s T)) => geturn2_any q n2 n0 N02 N02 T (mulZ (fun i j => Zb j i) (fun i j => Za j i) n1) W h1 h2 (by rw [Nat.mul_comm]; exact HNM.out.1) HN.out.2.2.1 HN.out.1)
      have HSm := Lib.hid (fun (B : Option Addr) (d : Nat) (T : List Nat) (B' : Option Addr) (d' : Nat) (T' : List Nat) W (h1 : TbZ n0 n2 N02 (fun i j => (mulZ (fun i j => Zb j i) (fun i j => Za j i) n1) j i) T) (h2 : TbZ n0 n2 N02 (mulZ Za Zb n1) T') (h3 : Row W B (f64s T)) (h4 : Row W B' (f64s T')) => gesamez_any B B' n0 n2 N02 d d' T T' _ _ W h3 h4 h1 h2 (fun i j => mulZ_turn Za Zb n1 i j) HNM.out.1 HN.out.1 HN.out.2.2.1)
      clear p0 p1 p2 p3 p4 x0 x1 x2 x3 x4 y0 y1 y2 y3 y4 t0 t1 t2 t3 t4
      refine wp_region_invG [145, 146, 147, 148, 149, 150, 151, 152, 153, 154, 155, 156, 157, 158, 159, 160, 161, 162, 163, 164, 165, 166, 167, 168, 169, 170, 171, 172, 4] (fun d s W => (d 0 = true → s 145 = .int .i64 0) ∧ (d 1 = true → s 146 = .bool true) ∧ (d 2 = true → s 147 = .bool true) ∧ (d 3 = true → s 148 = .agg #[.slice (some ⟨gx, 0, none⟩) N03 N03, .int .i64 0, .int .i64 (n0 : Int), .int .i64 (n3 : Int), .int .i64 (n0 : Int)]) ∧ (d 4 = true → s 149 = .agg #[.slice (some ⟨gy, 0, none⟩) N03 N03, .int .i64 0, .int .i64 (n0 : Int), .int .i64 (n3 : Int), .int .i64 (n0 : Int)]) ∧ (d 5 = true → s 150 = .bool true) ∧ (d 6 = true → s 151 = .bool true) ∧ (d 7 = true → s 152 = .bool true) ∧ (d 8 = true → s 153 = .agg #[.slice (some ⟨gt, 0, none⟩) N02 N02, .int .i64 0, .int .i64 (n2 : Int), .int .i64 (n0 : Int), .int .i64 (n2 : Int)]) ∧ (d 9 = true → s 154 = .bool true) ∧ (d 10 = true → s 155 = .bool true) ∧ (d 11 = true → s 156 = .bool true) ∧ (d 12 = true → s 157 = .agg #[.slice (some ⟨gp, 0, none⟩) N02 N02, .int .i64 0, .int .i64 (n0 : Int), .int .i64 (n2 : Int), .int .i64 (n0 : Int)]) ∧ (d 13 = true → s 158 = .bool true) ∧ (d 14 = true → s 159 = .bool true) ∧ (d 15 = true → s 160 = .bool true) ∧ (d 16 = true → s 161 = .agg #[.slice (some ⟨gt, 0, none⟩) N02 N02, .int .i64 0, .int .i64 (n2 : Int), .int .i64 (n0 : Int), .int .i64 (n2 : Int)]) ∧ (d 17 = true → TzR W (s 162) n2 n0 N02 (mulZ (fun i j => Zb j i) (fun i j => Za j i) n1)) ∧ (d 18 = true → TzO W (s 163) n0 n2 N02 (fun i j => (mulZ (fun i j => Zb j i) (fun i j => Za j i) n1) j i)) ∧ (d 19 = true → SlG W (s 164) (TbZ n0 n2 N02 (fun i j => (mulZ (fun i j => Zb j i) (fun i j => Za j i) n1) j i)) N02) ∧ (d 20 = true → s 165 = .agg #[.slice (some ⟨gp, 0, none⟩) N02 N02, .int .i64 0, .int .i64 (n0 : Int), .int .i64 (n2 : Int), .int .i64 (n0 : Int)]) ∧ (d 21 = true → TzR W (s 166) n0 n2 N02 (mulZ Za Zb n1)) ∧ (d 22 = true → SlG W (s 167) (TbZ n0 n2 N02 (mulZ Za Zb n1)) N02) ∧ (d 23 = true → s 168 = .bool true) ∧ (d 24 = true → s 169 = .bool true) ∧ (d 25 = true → s 170 = .bool true) ∧ (d 26 = true → s 171 = .bool true) ∧ (d 27 = true → s 172 = .bool true) ∧ (d 28 = true → s 4 = .bool true) ∧ Below wf.heap.size wf W)
        rfl (by kernel_rfl) ?_ ?_ ?_
      · exact ⟨by simp, by simp, by simp, by simp, by simp, by simp, by simp, by simp, by simp, by simp, by simp, by simp, by simp, by simp, by simp, by simp, by simp, by simp, by simp, by simp, by simp, by simp, by simp, by simp, by simp, by simp, by simp, by simp, by simp, (Below.refl _ _).drew⟩
      · refine ⟨?_, ?_, ?_, ?_, ?_, ?_, ?_, ?_, ?_, ?_, ?_, ?_, ?_, ?_, ?_, ?_, ?_, ?_, ?_, ?_, ?_, ?_, ?_, ?_, ?_, ?_, ?_, ?_, ?_, trivial⟩
        all_goals
          intro d s W hJ hfr hd hdep
          simp only [List.mem_cons, forall_eq_or_imp, List.not_mem_nil, false_implies, implies_true, and_true, Region.binds] at hdep
          have f12 := hfr 12 (by decide)
          have f16 := hfr 16 (by decide)
          have f18 := hfr 18 (by decide)
          have f22 := hfr 22 (by decide)
          have f23 := hfr 23 (by decide)
          simp at f12 f16 f18 f22 f23 hdep
          obtain ⟨h0, h1, h2, h3, h4, h5, h6, h7, h8, h9, h10, h11, h12, h13, h14, h15, h16, h17, h18, h19, h20, h21, h22, h23, h24, h25, h26, h27, h28, hT⟩ := hJ
        · as_aux_lemma =>
            refine stepG_plain rfl ?_
            unfold OpSteps
            simp [go_sem, evS, f23]
            exact ⟨fun _ => by simp [sput], kpw h1, kpw h2, kpw h3, kpw h4, kpw h5, kpw h6, kpw h7, kpw h8, kpw h9, kpw h10, kpw h11, kpw h12, kpw h13, kpw h14, kpw h15, kpw h16, fun h => by simpa [sput] using h17 (by simpa [did] using h), fun h => by simpa [sput] using h18 (by simpa [did] using h), fun h => by simpa [sput] using h19 (by simpa [did] using h), kpw h20, fun h => by simpa [sput] using h21 (by simpa [did] using h), fun h => by simpa [sput] using h22 (by simpa [did] using h), kpw h23, kpw h24, kpw h25, kpw h26, kpw h27, kpw h28, hT⟩
        · as_aux_lemma =>
            have g0 := h0 (by simp [hdep])
            refine stepG_plain rfl ?_
            unfold OpSteps
            simp [go_sem, evS, g0]
            exact ⟨kpw h0, fun _ => by simp [sput], kpw h2, kpw h3, kpw h4, kpw h5, kpw h6, kpw h7, kpw h8, kpw h9, kpw h10, kpw h11, kpw h12, kpw h13, kpw h14, kpw h15, kpw h16, fun h => by simpa [sput] using h17 (by simpa [did] using h), fun h => by simpa [sput] using h18 (by simpa [did] using h), fun h => by simpa [sput] using h19 (by simpa [did] using h), kpw h20, fun h => by simpa [sput] using h21 (by simpa [did] using h), fun h => by simpa [sput] using h22 (by simpa [did] using h), kpw h23, kpw h24, kpw h25, kpw h26, kpw h27, kpw h28, hT⟩
        · as_aux_lemma =>
            have g1 := h1 (by simp [hdep])
            refine stepG_plain rfl ?_
            unfold OpSteps
            simp [go_sem, evS, g1]
            exact ⟨kpw h0, kpw h1, fun _ => by simp [sput], kpw h3, kpw h4, kpw h5, kpw h6, kpw h7, kpw h8, kpw h9, kpw h10, kpw h11, kpw h12, kpw h13, kpw h14, kpw h15, kpw h16, fun h => by simpa [sput] using h17 (by simpa [did] using h), fun h => by simpa [sput] using h18 (by simpa [did] using h), fun h => by simpa [sput] using h19 (by simpa [did] using h), kpw h20, fun h => by simpa [sput] using h21 (by simpa [did] using h), fun h => by simpa [sput] using h22 (by simpa [did] using h), kpw h23, kpw h24, kpw h25, kpw h26, kpw h27, kpw h28, hT⟩
        · as_aux_lemma =>
            have g2 := h2 (by simp [hdep])
            refine stepG_on 2 147 true rfl rfl g2 ?_
            unfold OpSteps
            obtain ⟨p0, p1, p2, p3, p4⟩ := cells5 (Hx15.out.below hT Hx15.out.lt)
            simp [go_sem, evS, f16, g2, p0, p1, p2, p3, p4]
            exact ⟨kpw h0, kpw h1, kpw h2, fun _ => by simp [sput], kpw h4, kpw h5, kpw h6, kpw h7, kpw h8, kpw h9, kpw h10, kpw h11, kpw h12, kpw h13, kpw h14, kpw h15, kpw h16, fun h => by simpa [sput] using h17 (by simpa [did] using h), fun h => by simpa [sput] using h18 (by simpa [did] using h), fun h => by simpa [sput] using h19 (by simpa [did] using h), kpw h20, fun h => by simpa [sput] using h21 (by simpa [did] using h), fun h => by simpa [sput] using h22 (by simpa [did] using h), kpw h23, kpw h24, kpw h25, kpw h26, kpw h27, kpw h28, hT⟩
        · as_aux_lemma =>
            have g2 := h2 (by simp [hdep])
            refine stepG_on 2 147 true rfl rfl g2 ?_
            unfold OpSteps
            obtain ⟨p0, p1, p2, p3, p4⟩ := cells5 (Hy15.out.below hT Hy15.out.lt)
            simp [go_sem, evS, f18, g2, p0, p1, p2, p3, p4]
            exact ⟨kpw h0, kpw h1, kpw h2, kpw h3, fun _ => by simp [sput], kpw h5, kpw h6, kpw h7, kpw h8, kpw h9, kpw h10, kpw h11, kpw h12, kpw h13, kpw h14, kpw h15, kpw h16, fun h => by simpa [sput] using h17 (by simpa [did] using h), fun h => by simpa [sput] using h18 (by simpa [did] using h), fun h => by simpa [sput] using h19 (by simpa [did] using h), kpw h20, fun h => by simpa [sput] using h21 (by simpa [did] using h), fun h => by simpa [sput] using h22 (by simpa [did] using h), kpw h23, kpw h24, kpw h25, kpw h26, kpw h27, kpw h28, hT⟩
        · as_aux_lemma =>
            have g3 := h3 (by simp [hdep])
            have g4 := h4 (by simp [hdep])
            have g2 := h2 (by simp [hdep])
            refine stepG_on 2 147 true rfl rfl g2 ?_
            unfold OpSteps
            simp [go_sem, evS, g3, g4, g2]
            refine (HEq.out W hT).mono ?_
            rintro e W' ⟨rfl, hb⟩
            refine ⟨_, rfl, ?_⟩
            exact ⟨kpw h0, kpw h1, kpw h2, kpw h3, kpw h4, fun _ => by simp [sput], kpw h6, kpw h7, kpw h8, kpw h9, kpw h10, kpw h11, kpw h12, kpw h13, kpw h14, kpw h15, kpw h16, fun h => by simpa [sput] using (h17 (by simpa [did] using h)).below hb, fun h => by simpa [sput] using (h18 (by simpa [did] using h)).below hb, fun h => by simpa [sput] using (h19 (by simpa [did] using h)).below hb, kpw h20, fun h => by simpa [sput] using (h21 (by simpa [did] using h)).below hb, fun h => by simpa [sput] using (h22 (by simpa [did] using h)).below hb, kpw h23, kpw h24, kpw h25, kpw h26, kpw h27, kpw h28, below_nx hT hb⟩
        · as_aux_lemma =>
            have g2 := h2 (by simp [hdep])
            have g5 := h5 (by simp [hdep])
            refine stepG_plain rfl ?_
            unfold OpSteps
            simp [go_sem, evS, g2, g5]
            exact ⟨kpw h0, kpw h1, kpw h2, kpw h3, kpw h4, kpw h5, fun _ => by simp [sput], kpw h7, kpw h8, kpw h9, kpw h10, kpw h11, kpw h12, kpw h13, kpw h14, kpw h15, kpw h16, fun h => by simpa [sput] using h17 (by simpa [did] using h), fun h => by simpa [sput] using h18 (by simpa [did] using h), fun h => by simpa [sput] using h19 (by simpa [did] using h), kpw h20, fun h => by simpa [sput] using h21 (by simpa [did] using h), fun h => by simpa [sput] using h22 (by simpa [did] using h), kpw h23, kpw h24, kpw h25, kpw h26, kpw h27, kpw h28, hT⟩
        · as_aux_lemma =>
            have g6 := h6 (by simp [hdep])
            refine stepG_plain rfl ?_
            unfold OpSteps
            simp [go_sem, evS, g6]
            exact ⟨kpw h0, kpw h1, kpw h2, kpw h3, kpw h4, kpw h5, kpw h6, fun _ => by simp [sput], kpw h8, kpw h9, kpw h10, kpw h11, kpw h12, kpw h13, kpw h14, kpw h15, kpw h16, fun h => by simpa [sput] using h17 (by simpa [did] using h), fun h => by simpa [sput] using h18 (by simpa [did] using h), fun h => by simpa [sput] using h19 (by simpa [did] using h), kpw h20, fun h => by simpa [sput] using h21 (by simpa [did] using h), fun h => by simpa [sput] using h22 (by simpa [did] using h), kpw h23, kpw h24, kpw h25, kpw h26, kpw h27, kpw h28, hT⟩
        · as_aux_lemma =>
            have g7 := h7 (by simp [hdep])
            refine stepG_on 7 152 true rfl rfl g7 ?_
            unfold OpSteps
            obtain ⟨p0, p1, p2, p3, p4⟩ := cells5 (Ht15.out.below hT Ht15.out.lt)
            simp [go_sem, evS, f22, g7, p0, p1, p2, p3, p4]
            exact ⟨kpw h0, kpw h1, kpw h2, kpw h3, kpw h4, kpw h5, kpw h6, kpw h7, fun _ => by simp [sput], kpw h9, kpw h10, kpw h11, kpw h12, kpw h13, kpw h14, kpw h15, kpw h16, fun h => by simpa [sput] using h17 (by simpa [did] using h), fun h => by simpa [sput] using h18 (by simpa [did] using h), fun h => by simpa [sput] using h19 (by simpa [did] using h), kpw h20, fun h => by simpa [sput] using h21 (by simpa [did] using h), fun h => by simpa [sput] using h22 (by simpa [did] using h), kpw h23, kpw h24, kpw h25, kpw h26, kpw h27, kpw h28, hT⟩
        · as_aux_lemma =>
            have g8 := h8 (by simp [hdep])
            have g7 := h7 (by simp [hdep])
            refine stepG_on 7 152 true rfl rfl g7 ?_
            unfold OpSteps
            simp [go_sem, evS, g8, g7]
            refine (HGt.out W).mono ?_
            rintro e W' ⟨rfl, hb⟩
            refine ⟨_, rfl, ?_⟩
            exact ⟨kpw h0, kpw h1, kpw h2, kpw h3, kpw h4, kpw h5, kpw h6, kpw h7, kpw h8, fun _ => by simp [sput], kpw h10, kpw h11, kpw h12, kpw h13, kpw h14, kpw h15, kpw h16, fun h => by simpa [sput] using (h17 (by simpa [did] using h)).below hb, fun h => by simpa [sput] using (h18 (by simpa [did] using h)).below hb, fun h => by simpa [sput] using (h19 (by simpa [did] using h)).below hb, kpw h20, fun h => by simpa [sput] using (h21 (by simpa [did] using h)).below hb, fun h => by simpa [sput] using (h22 (by simpa [did] using h)).below hb, kpw h23, kpw h24, kpw h25, kpw h26, kpw h27, kpw h28, below_nx hT hb⟩
        · as_aux_lemma =>
            have g7 := h7 (by simp [hdep])
            have g9 := h9 (by simp [hdep])
            refine stepG_plain rfl ?_
            unfold OpSteps
            simp [go_sem, evS, g7, g9]
            exact ⟨kpw h0, kpw h1, kpw h2, kpw h3, kpw h4, kpw h5, kpw h6, kpw h7, kpw h8, kpw h9, fun _ => by simp [sput], kpw h11, kpw h12, kpw h13, kpw h14, kpw h15, kpw h16, fun h => by simpa [sput] using h17 (by simpa [did] using h), fun h => by simpa [sput] using h18 (by simpa [did] using h), fun h => by simpa [sput] using h19 (by simpa [did] using h), kpw h20, fun h => by simpa [sput] using h21 (by simpa [did] using h), fun h => by simpa [sput] using h22 (by simpa [did] using h), kpw h23, kpw h24, kpw h25, kpw h26, kpw h27, kpw h28, hT⟩
        · as_aux_lemma =>
            have g10 := h10 (by simp [hdep])
            refine stepG_plain rfl ?_
            unfold OpSteps
            simp [go_sem, evS, g10]
            exact ⟨kpw h0, kpw h1, kpw h2, kpw h3, kpw h4, kpw h5, kpw h6, kpw h7, kpw h8, kpw h9, kpw h10, fun _ => by simp [sput], kpw h12, kpw h13, kpw h14, kpw h15, kpw h16, fun h => by simpa [sput] using h17 (by simpa [did] using h), fun h => by simpa [sput] using h18 (by simpa [did] using h), fun h => by simpa [sput] using h19 (by simpa [did] using h), kpw h20, fun h => by simpa [sput] using h21 (by simpa [did] using h), fun h => by simpa [sput] using h22 (by simpa [did] using h), kpw h23, kpw h24, kpw h25, kpw h26, kpw h27, kpw h28, hT⟩
        · as_aux_lemma =>
            have g11 := h11 (by simp [hdep])
            refine stepG_on 11 156 true rfl rfl g11 ?_
            unfold OpSteps
            obtain ⟨p0, p1, p2, p3, p4⟩ := cells5 (Hp15.out.below hT Hp15.out.lt)
            simp [go_sem, evS, f12, g11, p0, p1, p2, p3, p4]
            exact ⟨kpw h0, kpw h1, kpw h2, kpw h3, kpw h4, kpw h5, kpw h6, kpw h7, kpw h8, kpw h9, kpw h10, kpw h11, fun _ => by simp [sput], kpw h13, kpw h14, kpw h15, kpw h16, fun h => by simpa [sput] using h17 (by simpa [did] using h), fun h => by simpa [sput] using h18 (by simpa [did] using h), fun h => by simpa [sput] using h19 (by simpa [did] using h), kpw h20, fun h => by simpa [sput] using h21 (by simpa [did] using h), fun h => by simpa [sput] using h22 (by simpa [did] using h), kpw h23, kpw h24, kpw h25, kpw h26, kpw h27, kpw h28, hT⟩
        · as_aux_lemma =>
            have g12 := h12 (by simp [hdep])
            have g11 := h11 (by simp [hdep])
            refine stepG_on 11 156 true rfl rfl g11 ?_
            unfold OpSteps
            simp [go_sem, evS, g12, g11]
            refine (HGp.out W).mono ?_
            rintro e W' ⟨rfl, hb⟩
            refine ⟨_, rfl, ?_⟩
            exact ⟨kpw h0, kpw h1, kpw h2, kpw h3, kpw h4, kpw h5, kpw h6, kpw h7, kpw h8, kpw h9, kpw h10, kpw h11, kpw h12, fun _ => by simp [sput], kpw h14, kpw h15, kpw h16, fun h => by simpa [sput] using (h17 (by simpa [did] using h)).below hb, fun h => by simpa [sput] using (h18 (by simpa [did] using h)).below hb, fun h => by simpa [sput] using (h19 (by simpa [did] using h)).below hb, kpw h20, fun h => by simpa [sput] using (h21 (by simpa [did] using h)).below hb, fun h => by simpa [sput] using (h22 (by simpa [did] using h)).below hb, kpw h23, kpw h24, kpw h25, kpw h26, kpw h27, kpw h28, below_nx hT hb⟩
        · as_aux_lemma =>
            have g11 := h11 (by simp [hdep])
            have g13 := h13 (by simp [hdep])
            refine stepG_plain rfl ?_
            unfold OpSteps
            simp [go_sem, evS, g11, g13]
            exact ⟨kpw h0, kpw h1, kpw h2, kpw h3, kpw h4, kpw h5, kpw h6, kpw h7, kpw h8, kpw h9, kpw h10, kpw h11, kpw h12, kpw h13, fun _ => by simp [sput], kpw h15, kpw h16, fun h => by simpa [sput] using h17 (by simpa [did] using h), fun h => by simpa [sput] using h18 (by simpa [did] using h), fun h => by simpa [sput] using h19 (by simpa [did] using h), kpw h20, fun h => by simpa [sput] using h21 (by simpa [did] using h), fun h => by simpa [sput] using h22 (by simpa [did] using h), kpw h23, kpw h24, kpw h25, kpw h26, kpw h27, kpw h28, hT⟩
        · as_aux_lemma =>
            have g14 := h14 (by simp [hdep])
            refine stepG_plain rfl ?_
            unfold OpSteps
            simp [go_sem, evS, g14]
            exact ⟨kpw h0, kpw h1, kpw h2, kpw h3, kpw h4, kpw h5, kpw h6, kpw h7, kpw h8, kpw h9, kpw h10, kpw h11, kpw h12, kpw h13, kpw h14, fun _ => by simp [sput], kpw h16, fun h => by simpa [sput] using h17 (by simpa [did] using h), fun h => by simpa [sput] using h18 (by simpa [did] using h), fun h => by simpa [sput] using h19 (by simpa [did] using h), kpw h20, fun h => by simpa [sput] using h21 (by simpa [did] using h), fun h => by simpa [sput] using h22 (by simpa [did] using h), kpw h23, kpw h24, kpw h25, kpw h26, kpw h27, kpw h28, hT⟩
        · as_aux_lemma =>
            have g15 := h15 (by simp [hdep])
            refine stepG_on 15 160 true rfl rfl g15 ?_
            unfold OpSteps
            obtain ⟨p0, p1, p2, p3, p4⟩ := cells5 (Ht15.out.below hT Ht15.out.lt)
            simp [go_sem, evS, f22, g15, p0, p1, p2, p3, p4]
            exact ⟨kpw h0, kpw h1, kpw h2, kpw h3, kpw h4, kpw h5, kpw h6, kpw h7, kpw h8, kpw h9, kpw h10, kpw h11, kpw h12, kpw h13, kpw h14, kpw h15, fun _ => by simp [sput], fun h => by simpa [sput] using h17 (by simpa [did] using h), fun h => by simpa [sput] using h18 (by simpa [did] using h), fun h => by simpa [sput] using h19 (by simpa [did] using h), kpw h20, fun h => by simpa [sput] using h21 (by simpa [did] using h), fun h => by simpa [sput] using h22 (by simpa [did] using h), kpw h23, kpw h24, kpw h25, kpw h26, kpw h27, kpw h28, hT⟩
        · as_aux_lemma =>
            have g16 := h16 (by simp [hdep])
            have g15 := h15 (by simp [hdep])
            refine stepG_on 15 160 true rfl rfl g15 ?_
            unfold OpSteps
            simp [go_sem, evS, g16, g15]
            refine (HOt.out W hT).mono ?_
            rintro e W' ⟨q9, T9, rfl, hS9, hr9, hb⟩
            refine ⟨_, rfl, ?_⟩
            exact ⟨kpw h0, kpw h1, kpw h2, kpw h3, kpw h4, kpw h5, kpw h6, kpw h7, kpw h8, kpw h9, kpw h10, kpw h11, kpw h12, kpw h13, kpw h14, kpw h15, kpw h16, fun _ => ⟨q9, T9, by simp [sput], hS9, hr9⟩, fun h => by simpa [sput] using (h18 (by simpa [did] using h)).below hb, fun h => by simpa [sput] using (h19 (by simpa [did] using h)).below hb, kpw h20, fun h => by simpa [sput] using (h21 (by simpa [did] using h)).below hb, fun h => by simpa [sput] using (h22 (by simpa [did] using h)).below hb, kpw h23, kpw h24, kpw h25, kpw h26, kpw h27, kpw h28, below_nx hT hb⟩
        · as_aux_lemma =>
            have g17 := h17 (by simp [hdep])
            have g15 := h15 (by simp [hdep])
            refine stepG_on 15 160 true rfl rfl g15 ?_
            unfold OpSteps
            obtain ⟨q9, T9, gv9, gS9, gR9⟩ := g17
            simp [go_sem, evS, g15, gv9]
            refine (HTt.out q9 T9 W gS9 gR9).mono ?_
            rintro e W' ⟨g8, T8, rfl, hS8, hO8, hg8, hb⟩
            refine ⟨_, rfl, ?_⟩
            exact ⟨kpw h0, kpw h1, kpw h2, kpw h3, kpw h4, kpw h5, kpw h6, kpw h7, kpw h8, kpw h9, kpw h10, kpw h11, kpw h12, kpw h13, kpw h14, kpw h15, kpw h16, fun h => by simpa [sput] using (h17 (by simpa [did] using h)).below hb, fun _ => ⟨g8, T8, by simp [sput], hS8, hO8⟩, fun h => by simpa [sput] using (h19 (by simpa [did] using h)).below hb, kpw h20, fun h => by simpa [sput] using (h21 (by simpa [did] using h)).below hb, fun h => by simpa [sput] using (h22 (by simpa [did] using h)).below hb, kpw h23, kpw h24, kpw h25, kpw h26, kpw h27, kpw h28, below_nx hT hb⟩
        · as_aux_lemma =>
            have g18 := h18 (by simp [hdep])
            have g15 := h15 (by simp [hdep])
            refine stepG_on 15 160 true rfl rfl g15 ?_
            unfold OpSteps
            obtain ⟨q9, T9, gv9, gS9, gO9⟩ := g18
            simp [go_sem, evS, g15, gv9]
            exact ⟨kpw h0, kpw h1, kpw h2, kpw h3, kpw h4, kpw h5, kpw h6, kpw h7, kpw h8, kpw h9, kpw h10, kpw h11, kpw h12, kpw h13, kpw h14, kpw h15, kpw h16, fun h => by simpa [sput] using h17 (by simpa [did] using h), fun h => by simpa [sput] using h18 (by simpa [did] using h), fun _ => ⟨some ⟨q9, 0, none⟩, N02, T9, by simp [sput], gS9, gO9.row⟩, kpw h20, fun h => by simpa [sput] using h21 (by simpa [did] using h), fun h => by simpa [sput] using h22 (by simpa [did] using h), kpw h23, kpw h24, kpw h25, kpw h26, kpw h27, kpw h28, hT⟩
        · as_aux_lemma =>
            have g15 := h15 (by simp [hdep])
            refine stepG_on 15 160 true rfl rfl g15 ?_
            unfold OpSteps
            obtain ⟨p0, p1, p2, p3, p4⟩ := cells5 (Hp15.out.below hT Hp15.out.lt)
            simp [go_sem, evS, f12, g15, p0, p1, p2, p3, p4]
            exact ⟨kpw h0, kpw h1, kpw h2, kpw h3, kpw h4, kpw h5, kpw h6, kpw h7, kpw h8, kpw h9, kpw h10, kpw h11, kpw h12, kpw h13, kpw h14, kpw h15, kpw h16, fun h => by simpa [sput] using h17 (by simpa [did] using h), fun h => by simpa [sput] using h18 (by simpa [did] using h), fun h => by simpa [sput] using h19 (by simpa [did] using h), fun _ => by simp [sput], fun h => by simpa [sput] using h21 (by simpa [did] using h), fun h => by simpa [sput] using h22 (by simpa [did] using h), kpw h23, kpw h24, kpw h25, kpw h26, kpw h27, kpw h28, hT⟩
        · as_aux_lemma =>
            have g20 := h20 (by simp [hdep])
            have g15 := h15 (by simp [hdep])
            refine stepG_on 15 160 true rfl rfl g15 ?_
            unfold OpSteps
            simp [go_sem, evS, g20, g15]
            refine (HOp.out W hT).mono ?_
            rintro e W' ⟨q9, T9, rfl, hS9, hr9, hb⟩
            refine ⟨_, rfl, ?_⟩
            exact ⟨kpw h0, kpw h1, kpw h2, kpw h3, kpw h4, kpw h5, kpw h6, kpw h7, kpw h8, kpw h9, kpw h10, kpw h11, kpw h12, kpw h13, kpw h14, kpw h15, kpw h16, fun h => by simpa [sput] using (h17 (by simpa [did] using h)).below hb, fun h => by simpa [sput] using (h18 (by simpa [did] using h)).below hb, fun h => by simpa [sput] using (h19 (by simpa [did] using h)).below hb, kpw h20, fun _ => ⟨q9, T9, by simp [sput], hS9, hr9⟩, fun h => by simpa [sput] using (h22 (by simpa [did] using h)).below hb, kpw h23, kpw h24, kpw h25, kpw h26, kpw h27, kpw h28, below_nx hT hb⟩
        · as_aux_lemma =>
            have g21 := h21 (by simp [hdep])
            have g15 := h15 (by simp [hdep])
            refine stepG_on 15 160 true rfl rfl g15 ?_
            unfold OpSteps
            obtain ⟨q9, T9, gv9, gS9, gR9⟩ := g21
            simp [go_sem, evS, g15, gv9]
            exact ⟨kpw h0, kpw h1, kpw h2, kpw h3, kpw h4, kpw h5, kpw h6, kpw h7, kpw h8, kpw h9, kpw h10, kpw h11, kpw h12, kpw h13, kpw h14, kpw h15, kpw h16, fun h => by simpa [sput] using h17 (by simpa [did] using h), fun h => by simpa [sput] using h18 (by simpa [did] using h), fun h => by simpa [sput] using h19 (by simpa [did] using h), kpw h20, fun h => by simpa [sput] using h21 (by simpa [did] using h), fun _ => ⟨some ⟨q9, 0, none⟩, N02, T9, by simp [sput], gS9, gR9⟩, kpw h23, kpw h24, kpw h25, kpw h26, kpw h27, kpw h28, hT⟩
        · as_aux_lemma =>
            have g19 := h19 (by simp [hdep])
            have g22 := h22 (by simp [hdep])
            have g15 := h15 (by simp [hdep])
            refine stepG_on 15 160 true rfl rfl g15 ?_
            unfold OpSteps
            obtain ⟨B9, d9, T9, gv9, gS9, gR9⟩ := g19
            obtain ⟨B8, d8, T8, gv8, gS8, gR8⟩ := g22
            simp [go_sem, evS, g15, gv9, gv8]
            refine (HSm.out B9 d9 T9 B8 d8 T8 W gS9 gS8 gR9 gR8).mono ?_
            rintro e W' ⟨rfl, hb⟩
            refine ⟨_, rfl, ?_⟩
            exact ⟨kpw h0, kpw h1, kpw h2, kpw h3, kpw h4, kpw h5, kpw h6, kpw h7, kpw h8, kpw h9, kpw h10, kpw h11, kpw h12, kpw h13, kpw h14, kpw h15, kpw h16, fun h => by simpa [sput] using (h17 (by simpa [did] using h)).below hb, fun h => by simpa [sput] using (h18 (by simpa [did] using h)).below hb, fun h => by simpa [sput] using (h19 (by simpa [did] using h)).below hb, kpw h20, fun h => by simpa [sput] using (h21 (by simpa [did] using h)).below hb, fun h => by simpa [sput] using (h22 (by simpa [did] using h)).below hb, fun _ => by simp [sput], kpw h24, kpw h25, kpw h26, kpw h27, kpw h28, below_nx hT hb⟩
        · as_aux_lemma =>
            have g15 := h15 (by simp [hdep])
            have g23 := h23 (by simp [hdep])
            refine stepG_plain rfl ?_
            unfold OpSteps
            simp [go_sem, evS, g15, g23]
            exact ⟨kpw h0, kpw h1, kpw h2, kpw h3, kpw h4, kpw h5, kpw h6, kpw h7, kpw h8, kpw h9, kpw h10, kpw h11, kpw h12, kpw h13, kpw h14, kpw h15, kpw h16, fun h => by simpa [sput] using h17 (by simpa [did] using h), fun h => by simpa [sput] using h18 (by simpa [did] using h), fun h => by simpa [sput] using h19 (by simpa [did] using h), kpw h20, fun h => by simpa [sput] using h21 (by simpa [did] using h), fun h => by simpa [sput] using h22 (by simpa [did] using h), kpw h23, fun _ => by simp [sput], kpw h25, kpw h26, kpw h27, kpw h28, hT⟩
        · as_aux_lemma =>
            have g24 := h24 (by simp [hdep])
            refine stepG_plain rfl ?_
            unfold OpSteps
            simp [go_sem, evS, g24]
            exact ⟨kpw h0, kpw h1, kpw h2, kpw h3, kpw h4, kpw h5, kpw h6, kpw h7, kpw h8, kpw h9, kpw h10, kpw h11, kpw h12, kpw h13, kpw h14, kpw h15, kpw h16, fun h => by simpa [sput] using h17 (by simpa [did] using h), fun h => by simpa [sput] using h18 (by simpa [did] using h), fun h => by simpa [sput] using h19 (by simpa [did] using h), kpw h20, fun h => by simpa [sput] using h21 (by simpa [did] using h), fun h => by simpa [sput] using h22 (by simpa [did] using h), kpw h23, kpw h24, fun _ => by simp [sput], kpw h26, kpw h27, kpw h28, hT⟩
        · as_aux_lemma =>
            have g25 := h25 (by simp [hdep])
            refine stepG_on 25 170 true rfl rfl g25 ?_
            unfold OpSteps
            simp [go_sem, evS, g25]
            refine (awake11_any W).mono ?_
            rintro e W' ⟨rfl, hb⟩
            refine ⟨_, rfl, ?_⟩
            exact ⟨kpw h0, kpw h1, kpw h2, kpw h3, kpw h4, kpw h5, kpw h6, kpw h7, kpw h8, kpw h9, kpw h10, kpw h11, kpw h12, kpw h13, kpw h14, kpw h15, kpw h16, fun h => by simpa [sput] using (h17 (by simpa [did] using h)).below hb, fun h => by simpa [sput] using (h18 (by simpa [did] using h)).below hb, fun h => by simpa [sput] using (h19 (by simpa [did] using h)).below hb, kpw h20, fun h => by simpa [sput] using (h21 (by simpa [did] using h)).below hb, fun h => by simpa [sput] using (h22 (by simpa [did] using h)).below hb, kpw h23, kpw h24, kpw h25, fun _ => by simp [sput], kpw h27, kpw h28, below_nx hT hb⟩
        · as_aux_lemma =>
            have g25 := h25 (by simp [hdep])
            have g26 := h26 (by simp [hdep])
            refine stepG_plain rfl ?_
            unfold OpSteps
            simp [go_sem, evS, g25, g26]
            exact ⟨kpw h0, kpw h1, kpw h2, kpw h3, kpw h4, kpw h5, kpw h6, kpw h7, kpw h8, kpw h9, kpw h10, kpw h11, kpw h12, kpw h13, kpw h14, kpw h15, kpw h16, fun h => by simpa [sput] using h17 (by simpa [did] using h), fun h => by simpa [sput] using h18 (by simpa [did] using h), fun h => by simpa [sput] using h19 (by simpa [did] using h), kpw h20, fun h => by simpa [sput] using h21 (by simpa [did] using h), fun h => by simpa [sput] using h22 (by simpa [did] using h), kpw h23, kpw h24, kpw h25, kpw h26, fun _ => by simp [sput], kpw h28, hT⟩
        · as_aux_lemma =>
            have g27 := h27 (by simp [hdep])
            refine stepG_plain rfl ?_
            unfold OpSteps
            simp [go_sem, evS, g27]
            exact ⟨kpw h0, kpw h1, kpw h2, kpw h3, kpw h4, kpw h5, kpw h6, kpw h7, kpw h8, kpw h9, kpw h10, kpw h11, kpw h12, kpw h13, kpw h14, kpw h15, kpw h16, fun h => by simpa [sput] using h17 (by simpa [did] using h), fun h => by simpa [sput] using h18 (by simpa [did] using h), fun h => by simpa [sput] using h19 (by simpa [did] using h), kpw h20, fun h => by simpa [sput] using h21 (by simpa [did] using h), fun h => by simpa [sput] using h22 (by simpa [did] using h), kpw h23, kpw h24, kpw h25, kpw h26, kpw h27, fun _ => by simp [sput], hT⟩
      intro d s W hJ hd
      obtain ⟨h0, h1, h2, h3, h4, h5, h6, h7, h8, h9, h10, h11, h12, h13, h14, h15, h16, h17, h18, h19, h20, h21, h22, h23, h24, h25, h26, h27, h28, hT⟩ := hJ
      have hs4 := h28 (hd 28 (by decide))
      have HB99 := Lib.hid (below_nx HB15.out hT)
      clear h0 h1 h2 h3 h4 h5 h6 h7 h8 h9 h10 h11 h12 h13 h14 h15 h16 h17 h18 h19 h20 h21 h22 h23 h24 h25 h26 h27 h28 hT hd
      simp [setAll, hs4]
      clear hs4
      generalize s 145 = s145
      generalize s 146 = s146
      generalize s 147 = s147
      generalize s 148 = s148
      generalize s 149 = s149
      generalize s 150 = s150
      generalize s 151 = s151
      generalize s 152 = s152
      generalize s 153 = s153
      generalize s 154 = s154
      generalize s 155 = s155
      generalize s 156 = s156
      generalize s 157 = s157
      generalize s 158 = s158
      generalize s 159 = s159
      generalize s 160 = s160
      generalize s 161 = s161
      generalize s 162 = s162
      generalize s 163 = s163
      generalize s 164 = s164
      generalize s 165 = s165
      generalize s 166 = s166
      generalize s 167 = s167
      generalize s 168 = s168
      generalize s 169 = s169
      generalize s 170 = s170
      generalize s 171 = s171
      generalize s 172 = s172
      generalize W = wg at *
      go_wp2_with fail
      go_ret
      exact ⟨rfl, HB99.out⟩
end Go.Proofs.Ytbbgldelebgnfaa
