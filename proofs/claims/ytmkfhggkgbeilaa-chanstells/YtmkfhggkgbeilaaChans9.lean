/- The law ChansTells, where Check tells none. -/
import Derived.Test.YtmkfhggkgbeilaaChans8
namespace Go.Proofs.Ytmkfhggkgbeilaa
set_option linter.unusedSimpArgs false
set_option linter.unusedVariables false
open Go.RowKit Go.Sort

set_option maxRecDepth 100000 in
set_option maxHeartbeats 4000000 in
theorem tells_yes (kind : Int) (xs : List Int) (v : Value) (val : Int) (w : World) (hS : Sl w 1 v xs.length (ints xs)) (hc : chkL kind xs.length = 0) (zs : List Int) (t : Bool) (hz : putR kind xs val = (zs, t)) (ys : List Int) (n : Int) (h : Bool) (hy : getR kind xs = (ys, n, h)) (hlz : zs.length < 4294967281) (hly : ys.length < 4294967281) :
    Calls Try.prog 3 #[.int .i64 kind, .agg #[v], .int .i64 val] w fun e w' => e = .returned (.bool true) ∧ Below w.heap.size w w' := by
  obtain ⟨ao, cap, rfl⟩ := hS.form
  have HS := Lib.hid hS
  have HC := Lib.hid hc
  have HZ := Lib.hid hz
  have HY := Lib.hid hy
  clear hS hc hz hy
  have HLZ := Lib.hid hlz
  have HLY := Lib.hid hly
  clear hlz hly
  go_enter Try.func3, Try.ntmps3
  go_wp2_with fail
  refine (put_c kind xs _ val _ (HS.out.up (by repeat (first | exact Below.refl _ _ | assumption | refine Below.drew ?_ | refine Below.alloc ?_ (by first | (simp; done) | (simp; omega)) _ | refine Below.setCell ?_ (by first | (simp; done) | (simp; omega)) _))) 0 HC.out zs t HZ.out).mono ?_
  rintro e w1 ⟨v1, rfl, s1, b1⟩
  have s1 : Sl w1 1 v1 zs.length (ints zs) := s1.1
  obtain ⟨a1, c1, rfl⟩ := s1.form
  have t0 : w.heap.size < w1.heap.size := by have := b1.size; simp at this; omega
  have u1 : Below w.heap.size w w1 := Below.trans (by repeat (first | exact Below.refl _ _ | assumption | refine Below.drew ?_ | refine Below.alloc ?_ (by first | (simp; done) | (simp; omega)) _ | refine Below.setCell ?_ (by first | (simp; done) | (simp; omega)) _)) (b1.mono (by simp))
  have k4 : w1.cell? ⟨w.heap.size, 0, none⟩ = some (.slice ao xs.length cap) := bcl b1 (by simp) (by simp)
  have k4 : (w1.alloc (.cells #[.slice a1 zs.length c1] 24)).cell? ⟨w.heap.size, 0, none⟩ = some (.slice ao xs.length cap) := cl_alloc _ (by omega) k4
  have S1 := Lib.hid s1
  clear s1 b1
  go_wp2_with fail
  refine (get_c kind xs _ _ (HS.out.up (u1.alloc u1.size _)) 0 HC.out ys n h HY.out).mono ?_
  rintro e w2 ⟨v2, rfl, s2, b2⟩
  have s2 : Sl w2 1 v2 ys.length (ints ys) := s2.1
  obtain ⟨a2, c2, rfl⟩ := s2.form
  have D1 : Below w1.heap.size w1 w2 := Below.trans (by repeat (first | exact Below.refl _ _ | assumption | refine Below.drew ?_ | refine Below.alloc ?_ (by first | (simp; done) | (simp; omega)) _ | refine Below.setCell ?_ (by first | (simp; done) | (simp; omega)) _)) (b2.mono (by simp))
  have t1 : w1.heap.size < w2.heap.size := by have := b2.size; simp at this; omega
  have u2 : Below w.heap.size w w2 := u1.trans (D1.mono u1.size)
  have k4 : w2.cell? ⟨w.heap.size, 0, none⟩ = some (.slice ao xs.length cap) := bcl b2 (by simp; omega) k4
  have k7 : w2.cell? ⟨w1.heap.size, 0, none⟩ = some (.slice a1 zs.length c1) := bcl b2 (by simp) (by simp)
  have S2 := Lib.hid s2
  clear s2 b2
  have k4 : (w2.alloc (.cells #[.slice a2 ys.length c2] 24)).cell? ⟨w.heap.size, 0, none⟩ = some (.slice ao xs.length cap) := cl_alloc _ (by omega) k4
  go_wp2_with fail
  refine (chkRef_any kind ao xs.length cap _ 0 HC.out).mono ?_
  rintro e w3 ⟨rfl, b3⟩
  have D2 : Below w2.heap.size w2 w3 := Below.trans (by repeat (first | exact Below.refl _ _ | assumption | refine Below.drew ?_ | refine Below.alloc ?_ (by first | (simp; done) | (simp; omega)) _ | refine Below.setCell ?_ (by first | (simp; done) | (simp; omega)) _)) (b3.mono (by simp))
  have t2 : w2.heap.size < w3.heap.size := by have := b3.size; simp at this; omega
  have u3 : Below w.heap.size w w3 := u2.trans (D2.mono u2.size)
  have D1 : Below w1.heap.size w1 w3 := D1.trans (D2.mono (by omega))
  have k4 : w3.cell? ⟨w.heap.size, 0, none⟩ = some (.slice ao xs.length cap) := bcl b3 (by simp; omega) k4
  have k7 : w3.cell? ⟨w1.heap.size, 0, none⟩ = some (.slice a1 zs.length c1) := bcl D2 t1 k7
  have k10 : w3.cell? ⟨w2.heap.size, 0, none⟩ = some (.slice a2 ys.length c2) := bcl b3 (by simp) (by simp)
  clear b3
  have k4 : ((w3.alloc (.cells #[.slice none 0 0] 24)).alloc (.cells #[.slice none 0 0] 24)).cell? ⟨w.heap.size, 0, none⟩ = some (.slice ao xs.length cap) := cl_alloc _ (by simp; omega) (cl_alloc _ (by omega) k4)
  have k7 : ((w3.alloc (.cells #[.slice none 0 0] 24)).alloc (.cells #[.slice none 0 0] 24)).cell? ⟨w1.heap.size, 0, none⟩ = some (.slice a1 zs.length c1) := cl_alloc _ (by simp; omega) (cl_alloc _ (by omega) k7)
  have k10 : ((w3.alloc (.cells #[.slice none 0 0] 24)).alloc (.cells #[.slice none 0 0] 24)).cell? ⟨w2.heap.size, 0, none⟩ = some (.slice a2 ys.length c2) := cl_alloc _ (by simp; omega) (cl_alloc _ (by omega) k10)
  have k15 : ((w3.alloc (.cells #[.slice none 0 0] 24)).alloc (.cells #[.slice none 0 0] 24)).cell? ⟨w3.heap.size, 0, none⟩ = some (.slice none 0 0) := cl_alloc _ (by simp) (by simp)
  have k16 : ((w3.alloc (.cells #[.slice none 0 0] 24)).alloc (.cells #[.slice none 0 0] 24)).cell? ⟨w3.heap.size + 1, 0, none⟩ = some (.slice none 0 0) := by simp
  have y15 : ((w3.alloc (.cells #[.slice none 0 0] 24)).alloc (.cells #[.slice none 0 0] 24)).frozen? ⟨w3.heap.size, 0, none⟩ = false := fr_alloc _ (by simp) (by simp)
  have y16 : ((w3.alloc (.cells #[.slice none 0 0] 24)).alloc (.cells #[.slice none 0 0] 24)).frozen? ⟨w3.heap.size + 1, 0, none⟩ = false := by simp
  have uP : Below w3.heap.size w3 ((w3.alloc (.cells #[.slice none 0 0] 24)).alloc (.cells #[.slice none 0 0] 24)) := (by repeat (first | exact Below.refl _ _ | assumption | refine Below.drew ?_ | refine Below.alloc ?_ (by first | (simp; done) | (simp; omega)) _ | refine Below.setCell ?_ (by first | (simp; done) | (simp; omega)) _))
  have u4 : Below w.heap.size w ((w3.alloc (.cells #[.slice none 0 0] 24)).alloc (.cells #[.slice none 0 0] 24)) := u3.trans (uP.mono u3.size)
  have D1 := D1.trans (uP.mono D1.size)
  have D2 := D2.trans (uP.mono D2.size)
  have tP : ((w3.alloc (.cells #[.slice none 0 0] 24)).alloc (.cells #[.slice none 0 0] 24)).heap.size = w3.heap.size + 2 := by simp
  clear uP u1 u2 u3
  go_wp2_with fail
  refine (putRef_c kind xs _ val _ (HS.out.up u4) HC.out zs t HZ.out).mono ?_
  rintro e w4 ⟨v4, rfl, s4, b4⟩
  have n4 := s4.2
  have s4 : Sl w4 1 v4 zs.length (ints zs) := s4.1
  obtain ⟨a4, c4, rfl⟩ := s4.form
  have t3 : w3.heap.size + 2 ≤ w4.heap.size := by have := b4.size; omega
  have k4 : w4.cell? ⟨w.heap.size, 0, none⟩ = some (.slice ao xs.length cap) := bcl b4 (by rw [tP]; omega) k4
  have k7 : w4.cell? ⟨w1.heap.size, 0, none⟩ = some (.slice a1 zs.length c1) := bcl b4 (by rw [tP]; omega) k7
  have k10 : w4.cell? ⟨w2.heap.size, 0, none⟩ = some (.slice a2 ys.length c2) := bcl b4 (by rw [tP]; omega) k10
  have k15 : w4.cell? ⟨w3.heap.size, 0, none⟩ = some (.slice none 0 0) := bcl b4 (by rw [tP]; omega) k15
  have k16 : w4.cell? ⟨w3.heap.size + 1, 0, none⟩ = some (.slice none 0 0) := bcl b4 (by rw [tP]; omega) k16
  have y15 : w4.frozen? ⟨w3.heap.size, 0, none⟩ = false := bfr b4 (by rw [tP]; omega) y15
  have y16 : w4.frozen? ⟨w3.heap.size + 1, 0, none⟩ = false := bfr b4 (by rw [tP]; omega) y16
  have u5 : Below w.heap.size w (w4.setCell ⟨w3.heap.size, 0, none⟩ (.slice a4 zs.length c4)) := (u4.trans (b4.mono u4.size)).setCell (by simp; omega) _
  have D1 : Below w1.heap.size w1 (w4.setCell ⟨w3.heap.size, 0, none⟩ (.slice a4 zs.length c4)) := (D1.trans (b4.mono D1.size)).setCell (by simp; omega) _
  have D2 : Below w2.heap.size w2 (w4.setCell ⟨w3.heap.size, 0, none⟩ (.slice a4 zs.length c4)) := (D2.trans (b4.mono D2.size)).setCell (by simp; omega) _
  have k4 : (w4.setCell ⟨w3.heap.size, 0, none⟩ (.slice a4 zs.length c4)).cell? ⟨w.heap.size, 0, none⟩ = some (.slice ao xs.length cap) := cl_set (Or.inl (by omega)) k4
  have k7 : (w4.setCell ⟨w3.heap.size, 0, none⟩ (.slice a4 zs.length c4)).cell? ⟨w1.heap.size, 0, none⟩ = some (.slice a1 zs.length c1) := cl_set (Or.inl (by omega)) k7
  have k10 : (w4.setCell ⟨w3.heap.size, 0, none⟩ (.slice a4 zs.length c4)).cell? ⟨w2.heap.size, 0, none⟩ = some (.slice a2 ys.length c2) := cl_set (Or.inl (by omega)) k10
  have k16 : (w4.setCell ⟨w3.heap.size, 0, none⟩ (.slice a4 zs.length c4)).cell? ⟨w3.heap.size + 1, 0, none⟩ = some (.slice none 0 0) := cl_set (Or.inl (by omega)) k16
  have k15 : (w4.setCell ⟨w3.heap.size, 0, none⟩ (.slice a4 zs.length c4)).cell? ⟨w3.heap.size, 0, none⟩ = some (.slice a4 zs.length c4) := cl_same k15
  have y16 : (w4.setCell ⟨w3.heap.size, 0, none⟩ (.slice a4 zs.length c4)).frozen? ⟨w3.heap.size + 1, 0, none⟩ = false := fr_set y16
  have S4 := Lib.hid (Sl.set (c := w3.heap.size) (j := 0) s4 (.slice a4 zs.length c4) (fun e => by have := n4 _ e; rw [tP] at this; omega))
  have N4 : Hid (Value.ownBlock (.slice a4 zs.length c4) ≠ some (w3.heap.size + 1)) := fun e => by have := n4 _ e; rw [tP] at this; omega
  have t4 : (w4.setCell ⟨w3.heap.size, 0, none⟩ (.slice a4 zs.length c4)).heap.size = w4.heap.size := size_set _ _ _
  clear s4 b4 n4 u4
  go_wp2_with fail
  refine (getRef_c kind xs _ _ (HS.out.up u5) HC.out ys n h HY.out).mono ?_
  rintro e w5 ⟨v5, rfl, s5, b5⟩
  have n5 := s5.2
  have s5 : Sl w5 1 v5 ys.length (ints ys) := s5.1
  obtain ⟨a5, c5, rfl⟩ := s5.form
  have t5 : w4.heap.size ≤ w5.heap.size := by have := b5.size; omega
  have k4 : w5.cell? ⟨w.heap.size, 0, none⟩ = some (.slice ao xs.length cap) := bcl b5 (by rw [t4]; omega) k4
  have k7 : w5.cell? ⟨w1.heap.size, 0, none⟩ = some (.slice a1 zs.length c1) := bcl b5 (by rw [t4]; omega) k7
  have k10 : w5.cell? ⟨w2.heap.size, 0, none⟩ = some (.slice a2 ys.length c2) := bcl b5 (by rw [t4]; omega) k10
  have k15 : w5.cell? ⟨w3.heap.size, 0, none⟩ = some (.slice a4 zs.length c4) := bcl b5 (by rw [t4]; omega) k15
  have k16 : w5.cell? ⟨w3.heap.size + 1, 0, none⟩ = some (.slice none 0 0) := bcl b5 (by rw [t4]; omega) k16
  have y16 : w5.frozen? ⟨w3.heap.size + 1, 0, none⟩ = false := bfr b5 (by rw [t4]; omega) y16
  have u6 : Below w.heap.size w (w5.setCell ⟨w3.heap.size + 1, 0, none⟩ (.slice a5 ys.length c5)) := (u5.trans (b5.mono u5.size)).setCell (by simp; omega) _
  have D1 : Below w1.heap.size w1 (w5.setCell ⟨w3.heap.size + 1, 0, none⟩ (.slice a5 ys.length c5)) := (D1.trans (b5.mono D1.size)).setCell (by simp; omega) _
  have D2 : Below w2.heap.size w2 (w5.setCell ⟨w3.heap.size + 1, 0, none⟩ (.slice a5 ys.length c5)) := (D2.trans (b5.mono D2.size)).setCell (by simp; omega) _
  have k4 : (w5.setCell ⟨w3.heap.size + 1, 0, none⟩ (.slice a5 ys.length c5)).cell? ⟨w.heap.size, 0, none⟩ = some (.slice ao xs.length cap) := cl_set (Or.inl (by omega)) k4
  have k7 : (w5.setCell ⟨w3.heap.size + 1, 0, none⟩ (.slice a5 ys.length c5)).cell? ⟨w1.heap.size, 0, none⟩ = some (.slice a1 zs.length c1) := cl_set (Or.inl (by omega)) k7
  have k10 : (w5.setCell ⟨w3.heap.size + 1, 0, none⟩ (.slice a5 ys.length c5)).cell? ⟨w2.heap.size, 0, none⟩ = some (.slice a2 ys.length c2) := cl_set (Or.inl (by omega)) k10
  have k15 : (w5.setCell ⟨w3.heap.size + 1, 0, none⟩ (.slice a5 ys.length c5)).cell? ⟨w3.heap.size, 0, none⟩ = some (.slice a4 zs.length c4) := cl_set (Or.inl (by omega)) k15
  have k16 : (w5.setCell ⟨w3.heap.size + 1, 0, none⟩ (.slice a5 ys.length c5)).cell? ⟨w3.heap.size + 1, 0, none⟩ = some (.slice a5 ys.length c5) := cl_same k16
  have S5 := Lib.hid (Sl.set (c := w3.heap.size + 1) (j := 0) s5 (.slice a5 ys.length c5) (fun e => by have := n5 _ e; rw [t4] at this; omega))
  have S4 := Lib.hid (Sl.set (c := w3.heap.size + 1) (j := 0) (S4.out.up b5) (.slice a5 ys.length c5) N4.out)
  have tP : (w5.setCell ⟨w3.heap.size + 1, 0, none⟩ (.slice a5 ys.length c5)).heap.size = w5.heap.size := size_set _ _ _
  clear s5 b5 n5 u5 t4
  go_wp2_with fail
  refine (begun_any _).mono ?_
  rintro e w7 ⟨rfl, b7⟩
  have u7 : Below w.heap.size w w7 := u6.trans (b7.mono u6.size)
  have D1 := D1.trans (b7.mono D1.size)
  have D2 := D2.trans (b7.mono D2.size)
  have t7 : w3.heap.size + 2 ≤ w7.heap.size := by have := b7.size; rw [tP] at this; omega
  have k4 : w7.cell? ⟨w.heap.size, 0, none⟩ = some (.slice ao xs.length cap) := bcl b7 (by rw [tP]; omega) k4
  have k7 : w7.cell? ⟨w1.heap.size, 0, none⟩ = some (.slice a1 zs.length c1) := bcl b7 (by rw [tP]; omega) k7
  have k10 : w7.cell? ⟨w2.heap.size, 0, none⟩ = some (.slice a2 ys.length c2) := bcl b7 (by rw [tP]; omega) k10
  have k15 : w7.cell? ⟨w3.heap.size, 0, none⟩ = some (.slice a4 zs.length c4) := bcl b7 (by rw [tP]; omega) k15
  have k16 : w7.cell? ⟨w3.heap.size + 1, 0, none⟩ = some (.slice a5 ys.length c5) := bcl b7 (by rw [tP]; omega) k16
  have S4 := Lib.hid (S4.out.up b7)
  have S5 := Lib.hid (S5.out.up b7)
  clear b7 u6
  go_wp2_with fail
  refine (chk_any kind ao xs.length cap _ 0 HC.out).mono ?_
  rintro e w8 ⟨rfl, b8⟩
  have u8 : Below w.heap.size w w8 := u7.trans (b8.mono u7.size)
  have D1 := D1.trans (b8.mono D1.size)
  have D2 := D2.trans (b8.mono D2.size)
  have t8 := b8.size
  have k7 : w8.cell? ⟨w1.heap.size, 0, none⟩ = some (.slice a1 zs.length c1) := bcl b8 (by omega) k7
  have k10 : w8.cell? ⟨w2.heap.size, 0, none⟩ = some (.slice a2 ys.length c2) := bcl b8 (by omega) k10
  have k15 : w8.cell? ⟨w3.heap.size, 0, none⟩ = some (.slice a4 zs.length c4) := bcl b8 (by omega) k15
  have k16 : w8.cell? ⟨w3.heap.size + 1, 0, none⟩ = some (.slice a5 ys.length c5) := bcl b8 (by omega) k16
  have S4 := Lib.hid (S4.out.up b8)
  have S5 := Lib.hid (S5.out.up b8)
  clear b8 u7
  go_wp2_with fail
  refine (sameInts_any zs zs _ _ _ (S1.out.up D1) S4.out (by exact HLZ.out) true (by simp)).mono ?_
  rintro e w9 ⟨rfl, b9⟩
  have u9 : Below w.heap.size w w9 := u8.trans (b9.mono u8.size)
  have D2 := D2.trans (b9.mono D2.size)
  have k10 : w9.cell? ⟨w2.heap.size, 0, none⟩ = some (.slice a2 ys.length c2) := bcl b9 (by omega) k10
  have k16 : w9.cell? ⟨w3.heap.size + 1, 0, none⟩ = some (.slice a5 ys.length c5) := bcl b9 (by omega) k16
  have S5 := Lib.hid (S5.out.up b9)
  clear b9 u8
  go_wp2_with fail
  refine (sameInts_any ys ys _ _ _ (S2.out.up D2) S5.out (by exact HLY.out) true (by simp)).mono ?_
  rintro e w10 ⟨rfl, b10⟩
  have u10 : Below w.heap.size w w10 := u9.trans (b10.mono u9.size)
  go_wp2
  go_ret
  exact ⟨rfl, u10⟩

end Go.Proofs.Ytmkfhggkgbeilaa
