/- Channels: the four calls, told once each; what the laws begin with. -/
import Derived.Test.YtpikadbljhfoiaaChans6b
namespace Go.Proofs.Ytpikadbljhfoiaa
set_option linter.unusedSimpArgs false
set_option linter.unusedVariables false
open Go.RowKit Go.Sort

/-- What Put leaves, and whether it was taken. -/
def putR (kind : Int) (xs : List Int) (val : Int) : List Int × Bool := if chkL kind xs.length = 0 then putS kind xs val else ([], false)
/-- What Get leaves, tells, and whether there was one. -/
def getR (kind : Int) (xs : List Int) : List Int × Int × Bool := if chkL kind xs.length = 0 then (match xs with | [] => ([], 0, false) | x :: r => (if kind = 1 then x :: r else r, x, true)) else ([], 0, false)

theorem put_c (kind : Int) (xs : List Int) (v : Value) (val : Int) (w : World) (hS : Sl w 1 v xs.length (ints xs)) (c : Int) (hc : chkL kind xs.length = c) (zs : List Int) (t : Bool) (hz : putR kind xs val = (zs, t)) :
    Calls Try.prog 5 #[.int .i64 kind, .agg #[v], .int .i64 val] w fun e w' => ∃ v', e = .returned (.tuple #[.agg #[v'], .bool t, .int .i64 c]) ∧ SlN w w' v' zs.length (ints zs) ∧ Below w.heap.size w w' := by
  unfold putR at hz
  by_cases h0 : c = 0
  · rw [hc, if_pos h0] at hz
    subst h0
    rcases chkL_zero hc with ⟨rfl, hn⟩ | ⟨rfl, hn⟩
    · unfold putS at hz
      rw [if_pos rfl] at hz
      cases hz
      obtain ⟨ao, cap, rfl⟩ := hS.form
      exact put_one xs ao cap val w hn
    · unfold putS at hz
      rw [if_neg (by decide)] at hz
      by_cases h3 : xs.length = 3
      · rw [if_pos h3] at hz
        cases hz
        exact put_full xs v val w h3 hS
      · rw [if_neg h3] at hz
        cases hz
        exact put_room xs v val w (by omega) hS
  · rw [hc, if_neg h0] at hz
    cases hz
    obtain ⟨ao, cap, rfl⟩ := hS.form
    refine (put_no kind ao xs.length cap val w c hc h0).mono ?_
    rintro e w' ⟨rfl, hb⟩
    exact ⟨_, rfl, sln_nil _ _, hb⟩

theorem get_c (kind : Int) (xs : List Int) (v : Value) (w : World) (hS : Sl w 1 v xs.length (ints xs)) (c : Int) (hc : chkL kind xs.length = c) (zs : List Int) (n : Int) (t : Bool) (hz : getR kind xs = (zs, n, t)) :
    Calls Try.prog 6 #[.int .i64 kind, .agg #[v]] w fun e w' => ∃ v', e = .returned (.tuple #[.agg #[v'], .int .i64 n, .bool t, .int .i64 c]) ∧ SlN w w' v' zs.length (ints zs) ∧ Below w.heap.size w w' := by
  unfold getR at hz
  by_cases h0 : c = 0
  · rw [hc, if_pos h0] at hz
    subst h0
    have hk := chkL_zero hc
    cases xs with
    | nil =>
      cases hz
      obtain ⟨ao, cap, rfl⟩ := hS.form
      refine (get_none kind (by omega) ao cap w).mono ?_
      rintro e w' ⟨rfl, hb⟩
      exact ⟨_, rfl, sln_nil _ _, hb⟩
    | cons x r =>
      simp only [List.length_cons] at hk
      rcases hk with ⟨rfl, hn⟩ | ⟨rfl, hn⟩
      · obtain rfl : r = [] := List.length_eq_zero_iff.1 (by omega)
        cases hz
        exact get_sample _ v w hS
      · have hz : (r, x, true) = (zs, n, t) := hz
        cases hz
        exact get_queue _ _ (by omega) v w hS
  · rw [hc, if_neg h0] at hz
    cases hz
    obtain ⟨ao, cap, rfl⟩ := hS.form
    refine (get_no kind ao xs.length cap w c hc h0).mono ?_
    rintro e w' ⟨rfl, hb⟩
    exact ⟨_, rfl, sln_nil _ _, hb⟩

theorem putRef_c (kind : Int) (xs : List Int) (v : Value) (val : Int) (w : World) (hS : Sl w 1 v xs.length (ints xs)) (hc : chkL kind xs.length = 0) (zs : List Int) (t : Bool) (hz : putR kind xs val = (zs, t)) :
    Calls Try.prog 8 #[.int .i64 kind, .agg #[v], .int .i64 val] w fun e w' => ∃ v', e = .returned (.tuple #[.agg #[v'], .bool t]) ∧ SlN w w' v' zs.length (ints zs) ∧ Below w.heap.size w w' := by
  unfold putR at hz
  rw [if_pos hc] at hz
  rcases chkL_zero hc with ⟨rfl, hn⟩ | ⟨rfl, hn⟩
  · unfold putS at hz
    rw [if_pos rfl] at hz
    cases hz
    obtain ⟨ao, cap, rfl⟩ := hS.form
    exact putRef_one ao xs.length cap val w
  · unfold putS at hz
    rw [if_neg (by decide)] at hz
    by_cases h3 : xs.length = 3
    · rw [if_pos h3] at hz
      cases hz
      exact putRef_full xs v val w h3 hS
    · rw [if_neg h3] at hz
      cases hz
      by_cases h1 : 0 < xs.length
      · exact putRef_more xs v val w h1 (by omega) hS
      · obtain rfl : xs = [] := List.length_eq_zero_iff.1 (by omega)
        obtain ⟨ao, cap, rfl⟩ := hS.form
        exact putRef_first ao cap val w

theorem getRef_c (kind : Int) (xs : List Int) (v : Value) (w : World) (hS : Sl w 1 v xs.length (ints xs)) (hc : chkL kind xs.length = 0) (zs : List Int) (n : Int) (t : Bool) (hz : getR kind xs = (zs, n, t)) :
    Calls Try.prog 9 #[.int .i64 kind, .agg #[v]] w fun e w' => ∃ v', e = .returned (.tuple #[.agg #[v'], .int .i64 n, .bool t]) ∧ SlN w w' v' zs.length (ints zs) ∧ Below w.heap.size w w' := by
  unfold getR at hz
  rw [if_pos hc] at hz
  have hk := chkL_zero hc
  cases xs with
  | nil =>
    cases hz
    obtain ⟨ao, cap, rfl⟩ := hS.form
    refine (getRef_none kind ao cap w).mono ?_
    rintro e w' ⟨rfl, hb⟩
    exact ⟨_, rfl, sln_nil _ _, hb⟩
  | cons x r =>
    simp only [List.length_cons] at hk
    rcases hk with ⟨rfl, hn⟩ | ⟨rfl, hn⟩
    · obtain rfl : r = [] := List.length_eq_zero_iff.1 (by omega)
      cases hz
      exact getRef_sample _ v w hS
    · have hz : (r, x, true) = (zs, n, t) := hz
      cases hz
      by_cases h1 : 0 < zs.length
      · exact getRef_queue _ _ (by omega) h1 v w hS
      · obtain rfl := List.length_eq_zero_iff.1 (show zs.length = 0 by omega)
        exact getRef_last _ v w hS

set_option maxRecDepth 100000 in
set_option maxHeartbeats 4000000 in
/-- What the laws begin with is true. -/
theorem begun_any (w : World) : Calls Try.prog 10 #[] w fun e w' => e = .returned (.bool true) ∧ Below w.heap.size w w' := by
  go_enter Try.func10, Try.ntmps10
  go_wp2_with fail
  refine (put_c 2 [1, 2] _ 3 _ (sl_two _ _ _ _ _ rfl) 0 rfl [1, 2, 3] true rfl).mono ?_
  rintro e w1 ⟨v1, rfl, s1, b1⟩
  have s1 : Sl w1 1 v1 3 (ints [1, 2, 3]) := s1.1
  obtain ⟨a1, c1, rfl⟩ := s1.form
  have u1 : Below w.heap.size w w1 := Below.trans (by repeat (first | exact Below.refl _ _ | assumption | refine Below.drew ?_ | refine Below.alloc ?_ (by first | (simp; done) | (simp; omega)) _ | refine Below.setCell ?_ (by first | (simp; done) | (simp; omega)) _)) (b1.mono (by simp))
  have S1 := Lib.hid s1
  clear s1 b1
  go_wp2_with fail
  refine (put_c 2 [1, 2, 3] _ 4 _ (Sl.up S1.out (by repeat (first | exact Below.refl _ _ | assumption | refine Below.drew ?_ | refine Below.alloc ?_ (by first | (simp; done) | (simp; omega)) _ | refine Below.setCell ?_ (by first | (simp; done) | (simp; omega)) _))) 0 rfl [1, 2, 3] false rfl).mono ?_
  rintro e w2 ⟨v2, rfl, s2, b2⟩
  have s2 : Sl w2 1 v2 3 (ints [1, 2, 3]) := s2.1
  obtain ⟨a2, c2, rfl⟩ := s2.form
  have t1 : w1.heap.size < w2.heap.size := by have := b2.size; simp at this; omega
  have u2 : Below w.heap.size w w2 := (u1.alloc u1.size _).trans (b2.mono (by have := u1.size; simp; omega))
  have k1 : w2.cell? ⟨w1.heap.size, 0, none⟩ = some (.slice a1 3 c1) := bcl b2 (by simp) (by simp)
  have k1 : (w2.alloc (.cells #[.slice a2 3 c2] 24)).cell? ⟨w1.heap.size, 0, none⟩ = some (.slice a1 3 c1) := cl_alloc _ t1 k1
  have S2 := Lib.hid s2
  clear s2 b2
  go_wp2_with fail
  refine (get_c 2 [1, 2, 3] _ _ (Sl.up S2.out (by repeat (first | exact Below.refl _ _ | assumption | refine Below.drew ?_ | refine Below.alloc ?_ (by first | (simp; done) | (simp; omega)) _ | refine Below.setCell ?_ (by first | (simp; done) | (simp; omega)) _))) 0 rfl [2, 3] 1 true rfl).mono ?_
  rintro e w3 ⟨v3, rfl, s3, b3⟩
  have s3 : Sl w3 1 v3 2 (ints [2, 3]) := s3.1
  obtain ⟨a3, c3, rfl⟩ := s3.form
  have t2 : w2.heap.size < w3.heap.size := by have := b3.size; simp at this; omega
  have u3 : Below w.heap.size w w3 := (u2.alloc u2.size _).trans (b3.mono (by have := u2.size; simp; omega))
  have k1 : w3.cell? ⟨w1.heap.size, 0, none⟩ = some (.slice a1 3 c1) := bcl b3 (by simp; omega) k1
  have S3 := Lib.hid s3
  clear s3 b3
  go_wp2_with fail
  refine (get_c 1 [9] _ _ (sl_one_at _ _ _ _ _ (by simp) (by simp)) 0 rfl [9] 9 true rfl).mono ?_
  rintro e w4 ⟨v4, rfl, s4, b4⟩
  have s4 : Sl w4 1 v4 1 (ints [9]) := s4.1
  obtain ⟨a4, c4, rfl⟩ := s4.form
  have t3 : w3.heap.size + 1 < w4.heap.size := by have := b4.size; simp at this; omega
  have d4 : Below w3.heap.size w3 w4 := Below.trans (by repeat (first | exact Below.refl _ _ | assumption | refine Below.drew ?_ | refine Below.alloc ?_ (by first | (simp; done) | (simp; omega)) _ | refine Below.setCell ?_ (by first | (simp; done) | (simp; omega)) _)) (b4.mono (by simp; omega))
  have u4 : Below w.heap.size w w4 := u3.trans (d4.mono u3.size)
  have k1 : w4.cell? ⟨w1.heap.size, 0, none⟩ = some (.slice a1 3 c1) := bcl d4 (by omega) k1
  have k7 : w4.cell? ⟨w3.heap.size, 0, none⟩ = some (.slice a3 2 c3) := bcl b4 (by simp; omega) (cl_alloc _ (by simp) (by simp))
  have k1 : (w4.alloc (.cells #[.slice a4 1 c4] 24)).cell? ⟨w1.heap.size, 0, none⟩ = some (.slice a1 3 c1) := cl_alloc _ (by omega) k1
  have k7 : (w4.alloc (.cells #[.slice a4 1 c4] 24)).cell? ⟨w3.heap.size, 0, none⟩ = some (.slice a3 2 c3) := cl_alloc _ (by omega) k7
  have S3 := Lib.hid (S3.out.up d4)
  have S4 := Lib.hid s4
  clear s4 b4 d4
  go_wp2_with fail
  refine (sameInts_any [2, 3] [2, 3] _ _ _ (Sl.up S3.out (by repeat (first | exact Below.refl _ _ | assumption | refine Below.drew ?_ | refine Below.alloc ?_ (by first | (simp; done) | (simp; omega)) _ | refine Below.setCell ?_ (by first | (simp; done) | (simp; omega)) _))) (sl_two _ _ _ _ _ (by simp)) (by simp) true rfl).mono ?_
  rintro e w5 ⟨rfl, b5⟩
  have d5 : Below w4.heap.size w4 w5 := Below.trans (by repeat (first | exact Below.refl _ _ | assumption | refine Below.drew ?_ | refine Below.alloc ?_ (by first | (simp; done) | (simp; omega)) _ | refine Below.setCell ?_ (by first | (simp; done) | (simp; omega)) _)) (b5.mono (by simp; omega))
  have t4 : w4.heap.size + 1 < w5.heap.size := by have := b5.size; simp at this; omega
  have u5 : Below w.heap.size w w5 := u4.trans (d5.mono u4.size)
  have k1 : w5.cell? ⟨w1.heap.size, 0, none⟩ = some (.slice a1 3 c1) := bcl b5 (by simp; omega) (cl_alloc _ (by simp; omega) k1)
  have k11 : w5.cell? ⟨w4.heap.size, 0, none⟩ = some (.slice a4 1 c4) := bcl b5 (by simp; omega) (cl_alloc _ (by simp) (by simp))
  have S4 := Lib.hid (S4.out.up d5)
  clear b5 d5
  go_wp2_with fail
  refine (sameInts_any [9] [9] _ _ _ (Sl.up S4.out (by repeat (first | exact Below.refl _ _ | assumption | refine Below.drew ?_ | refine Below.alloc ?_ (by first | (simp; done) | (simp; omega)) _ | refine Below.setCell ?_ (by first | (simp; done) | (simp; omega)) _))) (sl_one_at _ _ _ _ _ (by simp) (by simp)) (by simp) true rfl).mono ?_
  rintro e w6 ⟨rfl, b6⟩
  have d6 : Below w5.heap.size w5 w6 := Below.trans (by repeat (first | exact Below.refl _ _ | assumption | refine Below.drew ?_ | refine Below.alloc ?_ (by first | (simp; done) | (simp; omega)) _ | refine Below.setCell ?_ (by first | (simp; done) | (simp; omega)) _)) (b6.mono (by simp))
  have u6 : Below w.heap.size w w6 := u5.trans (d6.mono u5.size)
  have k1 : w6.cell? ⟨w1.heap.size, 0, none⟩ = some (.slice a1 3 c1) := bcl d6 (by omega) k1
  have t5 : w5.heap.size ≤ w6.heap.size := d6.size
  clear b6 d6
  go_wp2_with fail
  refine (chk_any 1 a1 3 c1 _ 2 rfl).mono ?_
  rintro e w7 ⟨rfl, b7⟩
  have u7 : Below w.heap.size w w7 := u6.trans (b7.mono u6.size)
  have k1 : w7.cell? ⟨w1.heap.size, 0, none⟩ = some (.slice a1 3 c1) := bcl b7 (by omega) k1
  clear b7
  go_wp2_with fail
  refine (chk_any 3 a1 3 c1 _ 4 rfl).mono ?_
  rintro e w8 ⟨rfl, b8⟩
  have u8 : Below w.heap.size w w8 := u7.trans (b8.mono u7.size)
  go_wp2
  go_ret
  exact ⟨rfl, u8⟩
end Go.Proofs.Ytpikadbljhfoiaa
