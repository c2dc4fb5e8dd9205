/- The law ChansTells, where Check tells an error. -/
import Derived.Test.YtmkfhggkgbeilaaChans7
namespace Go.Proofs.Ytmkfhggkgbeilaa
set_option linter.unusedSimpArgs false
set_option linter.unusedVariables false
open Go.RowKit Go.Sort

set_option maxRecDepth 100000 in
set_option maxHeartbeats 4000000 in
theorem tells_no (kind : Int) (xs : List Int) (v : Value) (val : Int) (w : World) (hS : Sl w 1 v xs.length (ints xs)) (c : Int) (hc : chkL kind xs.length = c) (h0 : c ≠ 0) (hz : putR kind xs val = ([], false)) (hy : getR kind xs = ([], 0, false)) :
    Calls Try.prog 3 #[.int .i64 kind, .agg #[v], .int .i64 val] w fun e w' => e = .returned (.bool true) ∧ Below w.heap.size w w' := by
  obtain ⟨ao, cap, rfl⟩ := hS.form
  have h0' : (c == 0) = false := by simpa using h0
  have h0'' : (c != 0) = true := by simpa using h0
  have HS := Lib.hid hS
  have HC := Lib.hid hc
  have HZ := Lib.hid hz
  have HY := Lib.hid hy
  clear hS hc hz hy h0
  go_enter Try.func3, Try.ntmps3
  go_wp2_with fail
  refine (put_c kind xs _ val _ (HS.out.up (by repeat (first | exact Below.refl _ _ | assumption | refine Below.drew ?_ | refine Below.alloc ?_ (by first | (simp; done) | (simp; omega)) _ | refine Below.setCell ?_ (by first | (simp; done) | (simp; omega)) _))) c HC.out [] false HZ.out).mono ?_
  rintro e w1 ⟨v1, rfl, s1, b1⟩
  have s1 : Sl w1 1 v1 0 (ints []) := s1.1
  obtain ⟨a1, c1, rfl⟩ := s1.form
  have t0 : w.heap.size < w1.heap.size := by have := b1.size; simp at this; omega
  have u1 : Below w.heap.size w w1 := Below.trans (by repeat (first | exact Below.refl _ _ | assumption | refine Below.drew ?_ | refine Below.alloc ?_ (by first | (simp; done) | (simp; omega)) _ | refine Below.setCell ?_ (by first | (simp; done) | (simp; omega)) _)) (b1.mono (by simp))
  have k4 : w1.cell? ⟨w.heap.size, 0, none⟩ = some (.slice ao xs.length cap) := bcl b1 (by simp) (by simp)
  have k4 : (w1.alloc (.cells #[.slice a1 0 c1] 24)).cell? ⟨w.heap.size, 0, none⟩ = some (.slice ao xs.length cap) := cl_alloc _ (by omega) k4
  have S1 := Lib.hid s1
  clear s1 b1
  go_wp2_with fail
  refine (get_c kind xs _ _ (HS.out.up (u1.alloc u1.size _)) c HC.out [] 0 false HY.out).mono ?_
  rintro e w2 ⟨v2, rfl, s2, b2⟩
  have s2 : Sl w2 1 v2 0 (ints []) := s2.1
  obtain ⟨a2, c2, rfl⟩ := s2.form
  have D1 : Below w1.heap.size w1 w2 := Below.trans (by repeat (first | exact Below.refl _ _ | assumption | refine Below.drew ?_ | refine Below.alloc ?_ (by first | (simp; done) | (simp; omega)) _ | refine Below.setCell ?_ (by first | (simp; done) | (simp; omega)) _)) (b2.mono (by simp))
  have t1 : w1.heap.size < w2.heap.size := by have := b2.size; simp at this; omega
  have u2 : Below w.heap.size w w2 := u1.trans (D1.mono u1.size)
  have k4 : w2.cell? ⟨w.heap.size, 0, none⟩ = some (.slice ao xs.length cap) := bcl b2 (by simp; omega) k4
  have k7 : w2.cell? ⟨w1.heap.size, 0, none⟩ = some (.slice a1 0 c1) := bcl b2 (by simp) (by simp)
  have S2 := Lib.hid s2
  clear s2 b2
  have k4 : (w2.alloc (.cells #[.slice a2 0 c2] 24)).cell? ⟨w.heap.size, 0, none⟩ = some (.slice ao xs.length cap) := cl_alloc _ (by omega) k4
  go_wp2_with fail
  refine (chkRef_any kind ao xs.length cap _ c HC.out).mono ?_
  rintro e w3 ⟨rfl, b3⟩
  have D2 : Below w2.heap.size w2 w3 := Below.trans (by repeat (first | exact Below.refl _ _ | assumption | refine Below.drew ?_ | refine Below.alloc ?_ (by first | (simp; done) | (simp; omega)) _ | refine Below.setCell ?_ (by first | (simp; done) | (simp; omega)) _)) (b3.mono (by simp))
  have t2 : w2.heap.size < w3.heap.size := by have := b3.size; simp at this; omega
  have u3 : Below w.heap.size w w3 := u2.trans (D2.mono u2.size)
  have D1 : Below w1.heap.size w1 w3 := D1.trans (D2.mono (by omega))
  have k4 : w3.cell? ⟨w.heap.size, 0, none⟩ = some (.slice ao xs.length cap) := bcl b3 (by simp; omega) k4
  have k7 : w3.cell? ⟨w1.heap.size, 0, none⟩ = some (.slice a1 0 c1) := bcl D2 t1 k7
  have k10 : w3.cell? ⟨w2.heap.size, 0, none⟩ = some (.slice a2 0 c2) := bcl b3 (by simp) (by simp)
  clear b3
  have k4 : ((w3.alloc (.cells #[.slice none 0 0] 24)).alloc (.cells #[.slice none 0 0] 24)).cell? ⟨w.heap.size, 0, none⟩ = some (.slice ao xs.length cap) := cl_alloc _ (by simp; omega) (cl_alloc _ (by omega) k4)
  have k7 : ((w3.alloc (.cells #[.slice none 0 0] 24)).alloc (.cells #[.slice none 0 0] 24)).cell? ⟨w1.heap.size, 0, none⟩ = some (.slice a1 0 c1) := cl_alloc _ (by simp; omega) (cl_alloc _ (by omega) k7)
  have k10 : ((w3.alloc (.cells #[.slice none 0 0] 24)).alloc (.cells #[.slice none 0 0] 24)).cell? ⟨w2.heap.size, 0, none⟩ = some (.slice a2 0 c2) := cl_alloc _ (by simp; omega) (cl_alloc _ (by omega) k10)
  have k15 : ((w3.alloc (.cells #[.slice none 0 0] 24)).alloc (.cells #[.slice none 0 0] 24)).cell? ⟨w3.heap.size, 0, none⟩ = some (.slice none 0 0) := cl_alloc _ (by simp) (by simp)
  have k16 : ((w3.alloc (.cells #[.slice none 0 0] 24)).alloc (.cells #[.slice none 0 0] 24)).cell? ⟨w3.heap.size + 1, 0, none⟩ = some (.slice none 0 0) := by simp
  have y15 : ((w3.alloc (.cells #[.slice none 0 0] 24)).alloc (.cells #[.slice none 0 0] 24)).frozen? ⟨w3.heap.size, 0, none⟩ = false := fr_alloc _ (by simp) (by simp)
  have y16 : ((w3.alloc (.cells #[.slice none 0 0] 24)).alloc (.cells #[.slice none 0 0] 24)).frozen? ⟨w3.heap.size + 1, 0, none⟩ = false := by simp
  have uP : Below w3.heap.size w3 ((w3.alloc (.cells #[.slice none 0 0] 24)).alloc (.cells #[.slice none 0 0] 24)) := (by repeat (first | exact Below.refl _ _ | assumption | refine Below.drew ?_ | refine Below.alloc ?_ (by first | (simp; done) | (simp; omega)) _ | refine Below.setCell ?_ (by first | (simp; done) | (simp; omega)) _))
  have u4 : Below w.heap.size w ((w3.alloc (.cells #[.slice none 0 0] 24)).alloc (.cells #[.slice none 0 0] 24)) := u3.trans (uP.mono u3.size)
  have D1 := D1.trans (uP.mono D1.size)
  have D2 := D2.trans (uP.mono D2.size)
  have tP : ((w3.alloc (.cells #[.slice none 0 0] 24)).alloc (.cells #[.slice none 0 0] 24)).heap.size = w3.heap.size + 2 := by simp
  clear uP u1 u2 u3
  have u6 := u4
  clear u4
  go_wp2_with fail
  refine (begun_any _).mono ?_
  rintro e w7 ⟨rfl, b7⟩
  have u7 : Below w.heap.size w w7 := u6.trans (b7.mono u6.size)
  have D1 := D1.trans (b7.mono D1.size)
  have D2 := D2.trans (b7.mono D2.size)
  have t7 : w3.heap.size + 2 ≤ w7.heap.size := by have := b7.size; rw [tP] at this; omega
  have k4 : w7.cell? ⟨w.heap.size, 0, none⟩ = some (.slice ao xs.length cap) := bcl b7 (by rw [tP]; omega) k4
  have k7 : w7.cell? ⟨w1.heap.size, 0, none⟩ = some (.slice a1 0 c1) := bcl b7 (by rw [tP]; omega) k7
  have k10 : w7.cell? ⟨w2.heap.size, 0, none⟩ = some (.slice a2 0 c2) := bcl b7 (by rw [tP]; omega) k10
  have k15 : w7.cell? ⟨w3.heap.size, 0, none⟩ = some (.slice none 0 0) := bcl b7 (by rw [tP]; omega) k15
  have k16 : w7.cell? ⟨w3.heap.size + 1, 0, none⟩ = some (.slice none 0 0) := bcl b7 (by rw [tP]; omega) k16
  clear b7 u6
  go_wp2_with fail
  refine (chk_any kind ao xs.length cap _ c HC.out).mono ?_
  rintro e w8 ⟨rfl, b8⟩
  have u8 : Below w.heap.size w w8 := u7.trans (b8.mono u7.size)
  have D1 := D1.trans (b8.mono D1.size)
  have D2 := D2.trans (b8.mono D2.size)
  have t8 := b8.size
  have k7 : w8.cell? ⟨w1.heap.size, 0, none⟩ = some (.slice a1 0 c1) := bcl b8 (by omega) k7
  have k10 : w8.cell? ⟨w2.heap.size, 0, none⟩ = some (.slice a2 0 c2) := bcl b8 (by omega) k10
  have k15 : w8.cell? ⟨w3.heap.size, 0, none⟩ = some (.slice none 0 0) := bcl b8 (by omega) k15
  have k16 : w8.cell? ⟨w3.heap.size + 1, 0, none⟩ = some (.slice none 0 0) := bcl b8 (by omega) k16
  clear b8 u7
  go_wp2_with fail
  refine (sameInts_any [] [] _ _ _ (S1.out.up D1) (Sl.nil _ _) (by simp) true (by simp)).mono ?_
  rintro e w9 ⟨rfl, b9⟩
  have u9 : Below w.heap.size w w9 := u8.trans (b9.mono u8.size)
  have D2 := D2.trans (b9.mono D2.size)
  have k10 : w9.cell? ⟨w2.heap.size, 0, none⟩ = some (.slice a2 0 c2) := bcl b9 (by omega) k10
  have k16 : w9.cell? ⟨w3.heap.size + 1, 0, none⟩ = some (.slice none 0 0) := bcl b9 (by omega) k16
  clear b9 u8
  go_wp2_with fail
  refine (sameInts_any [] [] _ _ _ (S2.out.up D2) (Sl.nil _ _) (by simp) true (by simp)).mono ?_
  rintro e w10 ⟨rfl, b10⟩
  have u10 : Below w.heap.size w w10 := u9.trans (b10.mono u9.size)
  go_wp2
  go_ret
  exact ⟨rfl, u10⟩

end Go.Proofs.Ytmkfhggkgbeilaa
