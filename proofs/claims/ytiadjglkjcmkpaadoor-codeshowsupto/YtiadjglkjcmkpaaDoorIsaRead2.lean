/- A part of the proofs over this seat's laws: what a function of the program, or of the reference, answers and leaves, told by its theorems below. -/
import Derived.Test.YtiadjglkjcmkpaaDoorIsaRead1
import Derived.Test.YtiadjglkjcmkpaaDoorMem
namespace Go.Proofs.YtiadjglkjcmkpaaDoor
set_option linter.unusedSimpArgs false
set_option linter.unusedVariables false
open Go.RowKit Go.Sort

theorem namedF_lt (l : List UInt8) : namedF l < 16 := by
  unfold namedF
  cases h : (List.range 16).find? fun k => 1 ≤ k && rowW k == l with
  | none => simp
  | some k => have := List.mem_of_find?_eq_some h; simpa using this

/-- What stands ahead of the first blank, as a number; and what stands behind it. -/
def numA (l : List UInt8) : Int := numOf (Lib.cut l [32]).1
def rest (l : List UInt8) : List UInt8 := (Lib.cut l [32]).2.1
theorem rest_len (l : List UInt8) : (rest l).length ≤ l.length := (cut_len l [32]).2
def gK (l : List UInt8) : Nat := namedF (Lib.cut l [32]).1
def gA (l : List UInt8) : Int := if rowA (gK l) then numA (rest l) else 0
def gR1 (l : List UInt8) : List UInt8 := if rowA (gK l) then rest (rest l) else rest l
def gB (l : List UInt8) : Int := if rowB (gK l) then numA (gR1 l) else 0
def gR2 (l : List UInt8) : List UInt8 := if rowB (gK l) then rest (gR1 l) else gR1 l
def gN (l : List UInt8) : Int := if rowN (gK l) then numA (gR2 l) else 0

theorem num_any (l : List UInt8) (w : World) (he : Env w) (hs : l.length < 4294967281) : Calls Tryd.prog 46 #[.string ⟨l.toArray⟩] w fun e w' => e = .returned (.tuple #[.int .i64 (numA l), .string ⟨(rest l).toArray⟩]) ∧ Below w.heap.size w w' := number_any l w he hs

set_option maxHeartbeats 2000000 in
theorem guess_any (l : List UInt8) (w : World) (he : Env w) (hs : l.length < 4294967281) : Calls Tryd.prog 35 #[.string ⟨l.toArray⟩] w fun e w' => e = .returned (.agg #[.int .i64 (gK l), .int .i64 (gA l), .int .i64 (gB l), .int .i64 (gN l)]) ∧ Below w.heap.size w w' := by
  have hk := namedF_lt (Lib.cut l [32]).1
  have hl1 := rest_len l
  have hl2 := rest_len (rest l)
  have hl3 := rest_len (rest (rest l))
  go_enter Tryd.func35, Tryd.ntmps35
  go_wp2_with fail
  refine (cutL l [32] _ (he.up (by repeat (first | exact Below.refl _ _ | assumption | refine Below.drew ?_ | refine Below.alloc ?_ (by simp) _ | refine Below.setCell ?_ (by simp) _))) hs).mono ?_
  rintro e w1 ⟨rfl, hb1⟩
  have he1 : Env w1 := (he.up ((Below.refl _ _).alloc (Nat.le_refl _) _)).up hb1
  have hup : Below w.heap.size w w1 := ((Below.refl _ _).alloc (Nat.le_refl _) _).trans (hb1.mono (by simp))
  have hz1 : w.heap.size < w1.heap.size := by have := hb1.size; simp at this; omega
  have hz0 := he1.shp.size
  go_wp2_with fail
  refine (named_any _ _ he1.shp).mono ?_
  rintro e w' ⟨rfl, rfl⟩
  generalize hgk : namedF (Lib.cut l [32]).1 = k at *
  have HK := Lib.hid hgk
  clear hgk
  rw [show (Lib.cut l [32]).2.1 = rest l from rfl]
  have q0 := he1.shp.c0 k hk
  have q1 := he1.shp.c1 k hk
  have q2 := he1.shp.c2 k hk
  have q3 := he1.shp.c3 k hk
  have q4 := he1.shp.c4 k hk
  have q5 := he1.shp.c5 k hk
  have r0 : w'.cell? ⟨w.heap.size, 0, none⟩ = some (.int .i64 0) := (hb1.cell (p := ⟨w.heap.size, 0, none⟩) (by simp)).trans (by simp)
  have r1 : w'.cell? ⟨w.heap.size, 1, none⟩ = some (.int .i64 0) := (hb1.cell (p := ⟨w.heap.size, 1, none⟩) (by simp)).trans (by simp)
  have r2 : w'.cell? ⟨w.heap.size, 2, none⟩ = some (.int .i64 0) := (hb1.cell (p := ⟨w.heap.size, 2, none⟩) (by simp)).trans (by simp)
  have r3 : w'.cell? ⟨w.heap.size, 3, none⟩ = some (.int .i64 0) := (hb1.cell (p := ⟨w.heap.size, 3, none⟩) (by simp)).trans (by simp)
  have t0 : w'.frozen? ⟨w.heap.size, 0, none⟩ = false := (hb1.frozen (p := ⟨w.heap.size, 0, none⟩) (by simp)).trans (by simp)
  have t1 : w'.frozen? ⟨w.heap.size, 1, none⟩ = false := (hb1.frozen (p := ⟨w.heap.size, 1, none⟩) (by simp)).trans (by simp)
  have t2 : w'.frozen? ⟨w.heap.size, 2, none⟩ = false := (hb1.frozen (p := ⟨w.heap.size, 2, none⟩) (by simp)).trans (by simp)
  have t3 : w'.frozen? ⟨w.heap.size, 3, none⟩ = false := (hb1.frozen (p := ⟨w.heap.size, 3, none⟩) (by simp)).trans (by simp)
  have hzz : w.heap.size < w'.heap.size + 1 := by omega
  have hzy : w.heap.size < w'.heap.size + 1 + 1 := by omega
  clear hb1
  cases hA : rowA k
  all_goals rw [hA] at q1
  all_goals cases hB : rowB k
  all_goals rw [hB] at q2
  all_goals cases hN : rowN k
  all_goals rw [hN] at q3
  · have hne : ¬ w'.heap.size = w.heap.size := by omega
    have hne' : ¬ w.heap.size = w'.heap.size := by omega
    go_wp2
    refine bodyPost_ret (v := .agg #[.int .i64 k, .int .i64 0, .int .i64 0, .int .i64 0]) ?_ rfl ⟨?_, ?_⟩
    · simp [results, Tryd.results35, go_sem, *]
    · have e1 : gK l = k := HK.out
      simp [gA, gB, gN, gR1, gR2, e1, hA, hB, hN]
    · repeat (first | exact hup | refine Below.setCell ?_ (by simp) _ | refine Below.alloc ?_ (by simp; omega) _)
  · go_wp2_with fail
    refine (num_any (rest l) _ (he1.up (by repeat (first | exact Below.refl _ _ | assumption | refine Below.drew ?_ | refine Below.alloc ?_ (by simp) _ | refine Below.setCell ?_ (by simp) _))) (by omega)).mono ?_
    rintro e w2 ⟨rfl, hb2⟩
    have a0 : w2.cell? ⟨w'.heap.size, 0, none⟩ = some (.int .i64 k) := bcl hb2 (by simp; omega) (cl_alloc _ (by simp) (by simp))
    have r0 : w2.cell? ⟨w.heap.size, 0, none⟩ = some (.int .i64 0) := bcl hb2 (by simp; omega) (cl_alloc _ (by simp; omega) (cl_alloc _ hz1 r0))
    have t0 : w2.frozen? ⟨w.heap.size, 0, none⟩ = false := bfr hb2 (by simp; omega) (fr_alloc _ (by simp; omega) (fr_alloc _ hz1 t0))
    have a1 : w2.cell? ⟨w'.heap.size, 1, none⟩ = some (.int .i64 0) := bcl hb2 (by simp; omega) (cl_alloc _ (by simp) (by simp))
    have b1 : w2.cell? ⟨w'.heap.size + 1, 1, none⟩ = some (.bool false) := bcl hb2 (by simp) (by simp)
    have f1 : w2.frozen? ⟨w'.heap.size, 1, none⟩ = false := bfr hb2 (by simp; omega) (fr_alloc _ (by simp) (by simp))
    have r1 : w2.cell? ⟨w.heap.size, 1, none⟩ = some (.int .i64 0) := bcl hb2 (by simp; omega) (cl_alloc _ (by simp; omega) (cl_alloc _ hz1 r1))
    have t1 : w2.frozen? ⟨w.heap.size, 1, none⟩ = false := bfr hb2 (by simp; omega) (fr_alloc _ (by simp; omega) (fr_alloc _ hz1 t1))
    have a2 : w2.cell? ⟨w'.heap.size, 2, none⟩ = some (.int .i64 0) := bcl hb2 (by simp; omega) (cl_alloc _ (by simp) (by simp))
    have b2 : w2.cell? ⟨w'.heap.size + 1, 2, none⟩ = some (.bool false) := bcl hb2 (by simp) (by simp)
    have f2 : w2.frozen? ⟨w'.heap.size, 2, none⟩ = false := bfr hb2 (by simp; omega) (fr_alloc _ (by simp) (by simp))
    have r2 : w2.cell? ⟨w.heap.size, 2, none⟩ = some (.int .i64 0) := bcl hb2 (by simp; omega) (cl_alloc _ (by simp; omega) (cl_alloc _ hz1 r2))
    have t2 : w2.frozen? ⟨w.heap.size, 2, none⟩ = false := bfr hb2 (by simp; omega) (fr_alloc _ (by simp; omega) (fr_alloc _ hz1 t2))
    have a3 : w2.cell? ⟨w'.heap.size, 3, none⟩ = some (.int .i64 0) := bcl hb2 (by simp; omega) (cl_alloc _ (by simp) (by simp))
    have b3 : w2.cell? ⟨w'.heap.size + 1, 3, none⟩ = some (.bool true) := bcl hb2 (by simp) (by simp)
    have f3 : w2.frozen? ⟨w'.heap.size, 3, none⟩ = false := bfr hb2 (by simp; omega) (fr_alloc _ (by simp) (by simp))
    have r3 : w2.cell? ⟨w.heap.size, 3, none⟩ = some (.int .i64 0) := bcl hb2 (by simp; omega) (cl_alloc _ (by simp; omega) (cl_alloc _ hz1 r3))
    have t3 : w2.frozen? ⟨w.heap.size, 3, none⟩ = false := bfr hb2 (by simp; omega) (fr_alloc _ (by simp; omega) (fr_alloc _ hz1 t3))
    have hup : Below w.heap.size w w2 := by
      refine Below.trans (b := w') hup (Below.trans ?_ (hb2.mono (by simp; omega)))
      exact Below.alloc (Below.alloc (Below.refl _ _) (by omega) _) (by simp; omega) _
    have hy : w'.heap.size + 1 < w2.heap.size := by have := hb2.size; simp at this; omega
    clear hb2
    have hx : Below w.heap.size w (w2.setCell ⟨w'.heap.size, 3, none⟩ (.int .i64 (numA (rest l)))) := hup.setCell (by simp; omega) _
    have s3 : (w2.setCell ⟨w'.heap.size, 3, none⟩ (.int .i64 (numA (rest l)))).cell? ⟨w'.heap.size, 3, none⟩ = some (.int .i64 (numA (rest l))) := cl_same a3
    have hne : ¬ w'.heap.size = w.heap.size := by omega
    have hne' : ¬ w.heap.size = w'.heap.size := by omega
    go_wp2
    refine bodyPost_ret (v := .agg #[.int .i64 k, .int .i64 0, .int .i64 0, .int .i64 (numA (rest l))]) ?_ rfl ⟨?_, ?_⟩
    · simp [results, Tryd.results35, go_sem, *]
    · have e1 : gK l = k := HK.out
      simp [gA, gB, gN, gR1, gR2, e1, hA, hB, hN]
    · exact (((hx.setCell (by simp) _).setCell (by simp) _).setCell (by simp) _).setCell (by simp) _
  · go_wp2_with fail
    refine (num_any (rest l) _ (he1.up (by repeat (first | exact Below.refl _ _ | assumption | refine Below.drew ?_ | refine Below.alloc ?_ (by simp) _ | refine Below.setCell ?_ (by simp) _))) (by omega)).mono ?_
    rintro e w2 ⟨rfl, hb2⟩
    have a0 : w2.cell? ⟨w'.heap.size, 0, none⟩ = some (.int .i64 k) := bcl hb2 (by simp; omega) (cl_alloc _ (by simp) (by simp))
    have r0 : w2.cell? ⟨w.heap.size, 0, none⟩ = some (.int .i64 0) := bcl hb2 (by simp; omega) (cl_alloc _ (by simp; omega) (cl_alloc _ hz1 r0))
    have t0 : w2.frozen? ⟨w.heap.size, 0, none⟩ = false := bfr hb2 (by simp; omega) (fr_alloc _ (by simp; omega) (fr_alloc _ hz1 t0))
    have a1 : w2.cell? ⟨w'.heap.size, 1, none⟩ = some (.int .i64 0) := bcl hb2 (by simp; omega) (cl_alloc _ (by simp) (by simp))
    have b1 : w2.cell? ⟨w'.heap.size + 1, 1, none⟩ = some (.bool false) := bcl hb2 (by simp) (by simp)
    have f1 : w2.frozen? ⟨w'.heap.size, 1, none⟩ = false := bfr hb2 (by simp; omega) (fr_alloc _ (by simp) (by simp))
    have r1 : w2.cell? ⟨w.heap.size, 1, none⟩ = some (.int .i64 0) := bcl hb2 (by simp; omega) (cl_alloc _ (by simp; omega) (cl_alloc _ hz1 r1))
    have t1 : w2.frozen? ⟨w.heap.size, 1, none⟩ = false := bfr hb2 (by simp; omega) (fr_alloc _ (by simp; omega) (fr_alloc _ hz1 t1))
    have a2 : w2.cell? ⟨w'.heap.size, 2, none⟩ = some (.int .i64 0) := bcl hb2 (by simp; omega) (cl_alloc _ (by simp) (by simp))
    have b2 : w2.cell? ⟨w'.heap.size + 1, 2, none⟩ = some (.bool true) := bcl hb2 (by simp) (by simp)
    have f2 : w2.frozen? ⟨w'.heap.size, 2, none⟩ = false := bfr hb2 (by simp; omega) (fr_alloc _ (by simp) (by simp))
    have r2 : w2.cell? ⟨w.heap.size, 2, none⟩ = some (.int .i64 0) := bcl hb2 (by simp; omega) (cl_alloc _ (by simp; omega) (cl_alloc _ hz1 r2))
    have t2 : w2.frozen? ⟨w.heap.size, 2, none⟩ = false := bfr hb2 (by simp; omega) (fr_alloc _ (by simp; omega) (fr_alloc _ hz1 t2))
    have a3 : w2.cell? ⟨w'.heap.size, 3, none⟩ = some (.int .i64 0) := bcl hb2 (by simp; omega) (cl_alloc _ (by simp) (by simp))
    have b3 : w2.cell? ⟨w'.heap.size + 1, 3, none⟩ = some (.bool false) := bcl hb2 (by simp) (by simp)
    have f3 : w2.frozen? ⟨w'.heap.size, 3, none⟩ = false := bfr hb2 (by simp; omega) (fr_alloc _ (by simp) (by simp))
    have r3 : w2.cell? ⟨w.heap.size, 3, none⟩ = some (.int .i64 0) := bcl hb2 (by simp; omega) (cl_alloc _ (by simp; omega) (cl_alloc _ hz1 r3))
    have t3 : w2.frozen? ⟨w.heap.size, 3, none⟩ = false := bfr hb2 (by simp; omega) (fr_alloc _ (by simp; omega) (fr_alloc _ hz1 t3))
    have hup : Below w.heap.size w w2 := by
      refine Below.trans (b := w') hup (Below.trans ?_ (hb2.mono (by simp; omega)))
      exact Below.alloc (Below.alloc (Below.refl _ _) (by omega) _) (by simp; omega) _
    have hy : w'.heap.size + 1 < w2.heap.size := by have := hb2.size; simp at this; omega
    clear hb2
    have hx : Below w.heap.size w (w2.setCell ⟨w'.heap.size, 2, none⟩ (.int .i64 (numA (rest l)))) := hup.setCell (by simp; omega) _
    have s2 : (w2.setCell ⟨w'.heap.size, 2, none⟩ (.int .i64 (numA (rest l)))).cell? ⟨w'.heap.size, 2, none⟩ = some (.int .i64 (numA (rest l))) := cl_same a2
    have hne : ¬ w'.heap.size = w.heap.size := by omega
    have hne' : ¬ w.heap.size = w'.heap.size := by omega
    go_wp2
    refine bodyPost_ret (v := .agg #[.int .i64 k, .int .i64 0, .int .i64 (numA (rest l)), .int .i64 0]) ?_ rfl ⟨?_, ?_⟩
    · simp [results, Tryd.results35, go_sem, *]
    · have e1 : gK l = k := HK.out
      simp [gA, gB, gN, gR1, gR2, e1, hA, hB, hN]
    · exact (((hx.setCell (by simp) _).setCell (by simp) _).setCell (by simp) _).setCell (by simp) _
  · go_wp2_with fail
    refine (num_any (rest l) _ (he1.up (by repeat (first | exact Below.refl _ _ | assumption | refine Below.drew ?_ | refine Below.alloc ?_ (by simp) _ | refine Below.setCell ?_ (by simp) _))) (by omega)).mono ?_
    rintro e w2 ⟨rfl, hb2⟩
    have a0 : w2.cell? ⟨w'.heap.size, 0, none⟩ = some (.int .i64 k) := bcl hb2 (by simp; omega) (cl_alloc _ (by simp) (by simp))
    have r0 : w2.cell? ⟨w.heap.size, 0, none⟩ = some (.int .i64 0) := bcl hb2 (by simp; omega) (cl_alloc _ (by simp; omega) (cl_alloc _ hz1 r0))
    have t0 : w2.frozen? ⟨w.heap.size, 0, none⟩ = false := bfr hb2 (by simp; omega) (fr_alloc _ (by simp; omega) (fr_alloc _ hz1 t0))
    have a1 : w2.cell? ⟨w'.heap.size, 1, none⟩ = some (.int .i64 0) := bcl hb2 (by simp; omega) (cl_alloc _ (by simp) (by simp))
    have b1 : w2.cell? ⟨w'.heap.size + 1, 1, none⟩ = some (.bool false) := bcl hb2 (by simp) (by simp)
    have f1 : w2.frozen? ⟨w'.heap.size, 1, none⟩ = false := bfr hb2 (by simp; omega) (fr_alloc _ (by simp) (by simp))
    have r1 : w2.cell? ⟨w.heap.size, 1, none⟩ = some (.int .i64 0) := bcl hb2 (by simp; omega) (cl_alloc _ (by simp; omega) (cl_alloc _ hz1 r1))
    have t1 : w2.frozen? ⟨w.heap.size, 1, none⟩ = false := bfr hb2 (by simp; omega) (fr_alloc _ (by simp; omega) (fr_alloc _ hz1 t1))
    have a2 : w2.cell? ⟨w'.heap.size, 2, none⟩ = some (.int .i64 0) := bcl hb2 (by simp; omega) (cl_alloc _ (by simp) (by simp))
    have b2 : w2.cell? ⟨w'.heap.size + 1, 2, none⟩ = some (.bool true) := bcl hb2 (by simp) (by simp)
    have f2 : w2.frozen? ⟨w'.heap.size, 2, none⟩ = false := bfr hb2 (by simp; omega) (fr_alloc _ (by simp) (by simp))
    have r2 : w2.cell? ⟨w.heap.size, 2, none⟩ = some (.int .i64 0) := bcl hb2 (by simp; omega) (cl_alloc _ (by simp; omega) (cl_alloc _ hz1 r2))
    have t2 : w2.frozen? ⟨w.heap.size, 2, none⟩ = false := bfr hb2 (by simp; omega) (fr_alloc _ (by simp; omega) (fr_alloc _ hz1 t2))
    have a3 : w2.cell? ⟨w'.heap.size, 3, none⟩ = some (.int .i64 0) := bcl hb2 (by simp; omega) (cl_alloc _ (by simp) (by simp))
    have b3 : w2.cell? ⟨w'.heap.size + 1, 3, none⟩ = some (.bool true) := bcl hb2 (by simp) (by simp)
    have f3 : w2.frozen? ⟨w'.heap.size, 3, none⟩ = false := bfr hb2 (by simp; omega) (fr_alloc _ (by simp) (by simp))
    have r3 : w2.cell? ⟨w.heap.size, 3, none⟩ = some (.int .i64 0) := bcl hb2 (by simp; omega) (cl_alloc _ (by simp; omega) (cl_alloc _ hz1 r3))
    have t3 : w2.frozen? ⟨w.heap.size, 3, none⟩ = false := bfr hb2 (by simp; omega) (fr_alloc _ (by simp; omega) (fr_alloc _ hz1 t3))
    have hup : Below w.heap.size w w2 := by
      refine Below.trans (b := w') hup (Below.trans ?_ (hb2.mono (by simp; omega)))
      exact Below.alloc (Below.alloc (Below.refl _ _) (by omega) _) (by simp; omega) _
    have hy : w'.heap.size + 1 < w2.heap.size := by have := hb2.size; simp at this; omega
    clear hb2
    have hx : Below w.heap.size w (w2.setCell ⟨w'.heap.size, 2, none⟩ (.int .i64 (numA (rest l)))) := hup.setCell (by simp; omega) _
    have s2 : (w2.setCell ⟨w'.heap.size, 2, none⟩ (.int .i64 (numA (rest l)))).cell? ⟨w'.heap.size, 2, none⟩ = some (.int .i64 (numA (rest l))) := cl_same a2
    go_wp2_with fail
    refine (num_any (rest (rest l)) _ (he.up hx) (by omega)).mono ?_
    rintro e w3 ⟨rfl, hb2⟩
    have a0 : w3.cell? ⟨w'.heap.size, 0, none⟩ = some (.int .i64 k) := bcl hb2 (by rw [size_set]; omega) (cl_set (Or.inr (by decide)) a0)
    have r0 : w3.cell? ⟨w.heap.size, 0, none⟩ = some (.int .i64 0) := bcl hb2 (by rw [size_set]; omega) (cl_set (Or.inl (by omega)) r0)
    have t0 : w3.frozen? ⟨w.heap.size, 0, none⟩ = false := bfr hb2 (by rw [size_set]; omega) (fr_set t0)
    have a1 : w3.cell? ⟨w'.heap.size, 1, none⟩ = some (.int .i64 0) := bcl hb2 (by rw [size_set]; omega) (cl_set (Or.inr (by decide)) a1)
    have b1 : w3.cell? ⟨w'.heap.size + 1, 1, none⟩ = some (.bool false) := bcl hb2 (by rw [size_set]; omega) (cl_set (Or.inl (by omega)) b1)
    have f1 : w3.frozen? ⟨w'.heap.size, 1, none⟩ = false := bfr hb2 (by rw [size_set]; omega) (fr_set f1)
    have r1 : w3.cell? ⟨w.heap.size, 1, none⟩ = some (.int .i64 0) := bcl hb2 (by rw [size_set]; omega) (cl_set (Or.inl (by omega)) r1)
    have t1 : w3.frozen? ⟨w.heap.size, 1, none⟩ = false := bfr hb2 (by rw [size_set]; omega) (fr_set t1)
    have a2 : w3.cell? ⟨w'.heap.size, 2, none⟩ = some (.int .i64 (numA (rest l))) := bcl hb2 (by rw [size_set]; omega) (cl_same a2)
    have b2 : w3.cell? ⟨w'.heap.size + 1, 2, none⟩ = some (.bool true) := bcl hb2 (by rw [size_set]; omega) (cl_set (Or.inl (by omega)) b2)
    have f2 : w3.frozen? ⟨w'.heap.size, 2, none⟩ = false := bfr hb2 (by rw [size_set]; omega) (fr_set f2)
    have r2 : w3.cell? ⟨w.heap.size, 2, none⟩ = some (.int .i64 0) := bcl hb2 (by rw [size_set]; omega) (cl_set (Or.inl (by omega)) r2)
    have t2 : w3.frozen? ⟨w.heap.size, 2, none⟩ = false := bfr hb2 (by rw [size_set]; omega) (fr_set t2)
    have a3 : w3.cell? ⟨w'.heap.size, 3, none⟩ = some (.int .i64 0) := bcl hb2 (by rw [size_set]; omega) (cl_set (Or.inr (by decide)) a3)
    have b3 : w3.cell? ⟨w'.heap.size + 1, 3, none⟩ = some (.bool true) := bcl hb2 (by rw [size_set]; omega) (cl_set (Or.inl (by omega)) b3)
    have f3 : w3.frozen? ⟨w'.heap.size, 3, none⟩ = false := bfr hb2 (by rw [size_set]; omega) (fr_set f3)
    have r3 : w3.cell? ⟨w.heap.size, 3, none⟩ = some (.int .i64 0) := bcl hb2 (by rw [size_set]; omega) (cl_set (Or.inl (by omega)) r3)
    have t3 : w3.frozen? ⟨w.heap.size, 3, none⟩ = false := bfr hb2 (by rw [size_set]; omega) (fr_set t3)
    have hup : Below w.heap.size w w3 := hx.trans (hb2.mono (by rw [size_set]; omega))
    have hy : w'.heap.size + 1 < w3.heap.size := by have := hb2.size; simp at this; omega
    clear hb2
    have hx : Below w.heap.size w (w3.setCell ⟨w'.heap.size, 3, none⟩ (.int .i64 (numA (rest (rest l))))) := hup.setCell (by simp; omega) _
    have s3 : (w3.setCell ⟨w'.heap.size, 3, none⟩ (.int .i64 (numA (rest (rest l))))).cell? ⟨w'.heap.size, 3, none⟩ = some (.int .i64 (numA (rest (rest l)))) := cl_same a3
    have hne : ¬ w'.heap.size = w.heap.size := by omega
    have hne' : ¬ w.heap.size = w'.heap.size := by omega
    go_wp2
    refine bodyPost_ret (v := .agg #[.int .i64 k, .int .i64 0, .int .i64 (numA (rest l)), .int .i64 (numA (rest (rest l)))]) ?_ rfl ⟨?_, ?_⟩
    · simp [results, Tryd.results35, go_sem, *]
    · have e1 : gK l = k := HK.out
      simp [gA, gB, gN, gR1, gR2, e1, hA, hB, hN]
    · exact (((hx.setCell (by simp) _).setCell (by simp) _).setCell (by simp) _).setCell (by simp) _
  · go_wp2_with fail
    refine (num_any (rest l) _ (he1.up (by repeat (first | exact Below.refl _ _ | assumption | refine Below.drew ?_ | refine Below.alloc ?_ (by simp) _ | refine Below.setCell ?_ (by simp) _))) (by omega)).mono ?_
    rintro e w2 ⟨rfl, hb2⟩
    have a0 : w2.cell? ⟨w'.heap.size, 0, none⟩ = some (.int .i64 k) := bcl hb2 (by simp; omega) (cl_alloc _ (by simp) (by simp))
    have r0 : w2.cell? ⟨w.heap.size, 0, none⟩ = some (.int .i64 0) := bcl hb2 (by simp; omega) (cl_alloc _ (by simp; omega) (cl_alloc _ hz1 r0))
    have t0 : w2.frozen? ⟨w.heap.size, 0, none⟩ = false := bfr hb2 (by simp; omega) (fr_alloc _ (by simp; omega) (fr_alloc _ hz1 t0))
    have a1 : w2.cell? ⟨w'.heap.size, 1, none⟩ = some (.int .i64 0) := bcl hb2 (by simp; omega) (cl_alloc _ (by simp) (by simp))
    have b1 : w2.cell? ⟨w'.heap.size + 1, 1, none⟩ = some (.bool true) := bcl hb2 (by simp) (by simp)
    have f1 : w2.frozen? ⟨w'.heap.size, 1, none⟩ = false := bfr hb2 (by simp; omega) (fr_alloc _ (by simp) (by simp))
    have r1 : w2.cell? ⟨w.heap.size, 1, none⟩ = some (.int .i64 0) := bcl hb2 (by simp; omega) (cl_alloc _ (by simp; omega) (cl_alloc _ hz1 r1))
    have t1 : w2.frozen? ⟨w.heap.size, 1, none⟩ = false := bfr hb2 (by simp; omega) (fr_alloc _ (by simp; omega) (fr_alloc _ hz1 t1))
    have a2 : w2.cell? ⟨w'.heap.size, 2, none⟩ = some (.int .i64 0) := bcl hb2 (by simp; omega) (cl_alloc _ (by simp) (by simp))
    have b2 : w2.cell? ⟨w'.heap.size + 1, 2, none⟩ = some (.bool false) := bcl hb2 (by simp) (by simp)
    have f2 : w2.frozen? ⟨w'.heap.size, 2, none⟩ = false := bfr hb2 (by simp; omega) (fr_alloc _ (by simp) (by simp))
    have r2 : w2.cell? ⟨w.heap.size, 2, none⟩ = some (.int .i64 0) := bcl hb2 (by simp; omega) (cl_alloc _ (by simp; omega) (cl_alloc _ hz1 r2))
    have t2 : w2.frozen? ⟨w.heap.size, 2, none⟩ = false := bfr hb2 (by simp; omega) (fr_alloc _ (by simp; omega) (fr_alloc _ hz1 t2))
    have a3 : w2.cell? ⟨w'.heap.size, 3, none⟩ = some (.int .i64 0) := bcl hb2 (by simp; omega) (cl_alloc _ (by simp) (by simp))
    have b3 : w2.cell? ⟨w'.heap.size + 1, 3, none⟩ = some (.bool false) := bcl hb2 (by simp) (by simp)
    have f3 : w2.frozen? ⟨w'.heap.size, 3, none⟩ = false := bfr hb2 (by simp; omega) (fr_alloc _ (by simp) (by simp))
    have r3 : w2.cell? ⟨w.heap.size, 3, none⟩ = some (.int .i64 0) := bcl hb2 (by simp; omega) (cl_alloc _ (by simp; omega) (cl_alloc _ hz1 r3))
    have t3 : w2.frozen? ⟨w.heap.size, 3, none⟩ = false := bfr hb2 (by simp; omega) (fr_alloc _ (by simp; omega) (fr_alloc _ hz1 t3))
    have hup : Below w.heap.size w w2 := by
      refine Below.trans (b := w') hup (Below.trans ?_ (hb2.mono (by simp; omega)))
      exact Below.alloc (Below.alloc (Below.refl _ _) (by omega) _) (by simp; omega) _
    have hy : w'.heap.size + 1 < w2.heap.size := by have := hb2.size; simp at this; omega
    clear hb2
    have hx : Below w.heap.size w (w2.setCell ⟨w'.heap.size, 1, none⟩ (.int .i64 (numA (rest l)))) := hup.setCell (by simp; omega) _
    have s1 : (w2.setCell ⟨w'.heap.size, 1, none⟩ (.int .i64 (numA (rest l)))).cell? ⟨w'.heap.size, 1, none⟩ = some (.int .i64 (numA (rest l))) := cl_same a1
    have hne : ¬ w'.heap.size = w.heap.size := by omega
    have hne' : ¬ w.heap.size = w'.heap.size := by omega
    go_wp2
    refine bodyPost_ret (v := .agg #[.int .i64 k, .int .i64 (numA (rest l)), .int .i64 0, .int .i64 0]) ?_ rfl ⟨?_, ?_⟩
    · simp [results, Tryd.results35, go_sem, *]
    · have e1 : gK l = k := HK.out
      simp [gA, gB, gN, gR1, gR2, e1, hA, hB, hN]
    · exact (((hx.setCell (by simp) _).setCell (by simp) _).setCell (by simp) _).setCell (by simp) _
  · go_wp2_with fail
    refine (num_any (rest l) _ (he1.up (by repeat (first | exact Below.refl _ _ | assumption | refine Below.drew ?_ | refine Below.alloc ?_ (by simp) _ | refine Below.setCell ?_ (by simp) _))) (by omega)).mono ?_
    rintro e w2 ⟨rfl, hb2⟩
    have a0 : w2.cell? ⟨w'.heap.size, 0, none⟩ = some (.int .i64 k) := bcl hb2 (by simp; omega) (cl_alloc _ (by simp) (by simp))
    have r0 : w2.cell? ⟨w.heap.size, 0, none⟩ = some (.int .i64 0) := bcl hb2 (by simp; omega) (cl_alloc _ (by simp; omega) (cl_alloc _ hz1 r0))
    have t0 : w2.frozen? ⟨w.heap.size, 0, none⟩ = false := bfr hb2 (by simp; omega) (fr_alloc _ (by simp; omega) (fr_alloc _ hz1 t0))
    have a1 : w2.cell? ⟨w'.heap.size, 1, none⟩ = some (.int .i64 0) := bcl hb2 (by simp; omega) (cl_alloc _ (by simp) (by simp))
    have b1 : w2.cell? ⟨w'.heap.size + 1, 1, none⟩ = some (.bool true) := bcl hb2 (by simp) (by simp)
    have f1 : w2.frozen? ⟨w'.heap.size, 1, none⟩ = false := bfr hb2 (by simp; omega) (fr_alloc _ (by simp) (by simp))
    have r1 : w2.cell? ⟨w.heap.size, 1, none⟩ = some (.int .i64 0) := bcl hb2 (by simp; omega) (cl_alloc _ (by simp; omega) (cl_alloc _ hz1 r1))
    have t1 : w2.frozen? ⟨w.heap.size, 1, none⟩ = false := bfr hb2 (by simp; omega) (fr_alloc _ (by simp; omega) (fr_alloc _ hz1 t1))
    have a2 : w2.cell? ⟨w'.heap.size, 2, none⟩ = some (.int .i64 0) := bcl hb2 (by simp; omega) (cl_alloc _ (by simp) (by simp))
    have b2 : w2.cell? ⟨w'.heap.size + 1, 2, none⟩ = some (.bool false) := bcl hb2 (by simp) (by simp)
    have f2 : w2.frozen? ⟨w'.heap.size, 2, none⟩ = false := bfr hb2 (by simp; omega) (fr_alloc _ (by simp) (by simp))
    have r2 : w2.cell? ⟨w.heap.size, 2, none⟩ = some (.int .i64 0) := bcl hb2 (by simp; omega) (cl_alloc _ (by simp; omega) (cl_alloc _ hz1 r2))
    have t2 : w2.frozen? ⟨w.heap.size, 2, none⟩ = false := bfr hb2 (by simp; omega) (fr_alloc _ (by simp; omega) (fr_alloc _ hz1 t2))
    have a3 : w2.cell? ⟨w'.heap.size, 3, none⟩ = some (.int .i64 0) := bcl hb2 (by simp; omega) (cl_alloc _ (by simp) (by simp))
    have b3 : w2.cell? ⟨w'.heap.size + 1, 3, none⟩ = some (.bool true) := bcl hb2 (by simp) (by simp)
    have f3 : w2.frozen? ⟨w'.heap.size, 3, none⟩ = false := bfr hb2 (by simp; omega) (fr_alloc _ (by simp) (by simp))
    have r3 : w2.cell? ⟨w.heap.size, 3, none⟩ = some (.int .i64 0) := bcl hb2 (by simp; omega) (cl_alloc _ (by simp; omega) (cl_alloc _ hz1 r3))
    have t3 : w2.frozen? ⟨w.heap.size, 3, none⟩ = false := bfr hb2 (by simp; omega) (fr_alloc _ (by simp; omega) (fr_alloc _ hz1 t3))
    have hup : Below w.heap.size w w2 := by
      refine Below.trans (b := w') hup (Below.trans ?_ (hb2.mono (by simp; omega)))
      exact Below.alloc (Below.alloc (Below.refl _ _) (by omega) _) (by simp; omega) _
    have hy : w'.heap.size + 1 < w2.heap.size := by have := hb2.size; simp at this; omega
    clear hb2
    have hx : Below w.heap.size w (w2.setCell ⟨w'.heap.size, 1, none⟩ (.int .i64 (numA (rest l)))) := hup.setCell (by simp; omega) _
    have s1 : (w2.setCell ⟨w'.heap.size, 1, none⟩ (.int .i64 (numA (rest l)))).cell? ⟨w'.heap.size, 1, none⟩ = some (.int .i64 (numA (rest l))) := cl_same a1
    go_wp2_with fail
    refine (num_any (rest (rest l)) _ (he.up hx) (by omega)).mono ?_
    rintro e w3 ⟨rfl, hb2⟩
    have a0 : w3.cell? ⟨w'.heap.size, 0, none⟩ = some (.int .i64 k) := bcl hb2 (by rw [size_set]; omega) (cl_set (Or.inr (by decide)) a0)
    have r0 : w3.cell? ⟨w.heap.size, 0, none⟩ = some (.int .i64 0) := bcl hb2 (by rw [size_set]; omega) (cl_set (Or.inl (by omega)) r0)
    have t0 : w3.frozen? ⟨w.heap.size, 0, none⟩ = false := bfr hb2 (by rw [size_set]; omega) (fr_set t0)
    have a1 : w3.cell? ⟨w'.heap.size, 1, none⟩ = some (.int .i64 (numA (rest l))) := bcl hb2 (by rw [size_set]; omega) (cl_same a1)
    have b1 : w3.cell? ⟨w'.heap.size + 1, 1, none⟩ = some (.bool true) := bcl hb2 (by rw [size_set]; omega) (cl_set (Or.inl (by omega)) b1)
    have f1 : w3.frozen? ⟨w'.heap.size, 1, none⟩ = false := bfr hb2 (by rw [size_set]; omega) (fr_set f1)
    have r1 : w3.cell? ⟨w.heap.size, 1, none⟩ = some (.int .i64 0) := bcl hb2 (by rw [size_set]; omega) (cl_set (Or.inl (by omega)) r1)
    have t1 : w3.frozen? ⟨w.heap.size, 1, none⟩ = false := bfr hb2 (by rw [size_set]; omega) (fr_set t1)
    have a2 : w3.cell? ⟨w'.heap.size, 2, none⟩ = some (.int .i64 0) := bcl hb2 (by rw [size_set]; omega) (cl_set (Or.inr (by decide)) a2)
    have b2 : w3.cell? ⟨w'.heap.size + 1, 2, none⟩ = some (.bool false) := bcl hb2 (by rw [size_set]; omega) (cl_set (Or.inl (by omega)) b2)
    have f2 : w3.frozen? ⟨w'.heap.size, 2, none⟩ = false := bfr hb2 (by rw [size_set]; omega) (fr_set f2)
    have r2 : w3.cell? ⟨w.heap.size, 2, none⟩ = some (.int .i64 0) := bcl hb2 (by rw [size_set]; omega) (cl_set (Or.inl (by omega)) r2)
    have t2 : w3.frozen? ⟨w.heap.size, 2, none⟩ = false := bfr hb2 (by rw [size_set]; omega) (fr_set t2)
    have a3 : w3.cell? ⟨w'.heap.size, 3, none⟩ = some (.int .i64 0) := bcl hb2 (by rw [size_set]; omega) (cl_set (Or.inr (by decide)) a3)
    have b3 : w3.cell? ⟨w'.heap.size + 1, 3, none⟩ = some (.bool true) := bcl hb2 (by rw [size_set]; omega) (cl_set (Or.inl (by omega)) b3)
    have f3 : w3.frozen? ⟨w'.heap.size, 3, none⟩ = false := bfr hb2 (by rw [size_set]; omega) (fr_set f3)
    have r3 : w3.cell? ⟨w.heap.size, 3, none⟩ = some (.int .i64 0) := bcl hb2 (by rw [size_set]; omega) (cl_set (Or.inl (by omega)) r3)
    have t3 : w3.frozen? ⟨w.heap.size, 3, none⟩ = false := bfr hb2 (by rw [size_set]; omega) (fr_set t3)
    have hup : Below w.heap.size w w3 := hx.trans (hb2.mono (by rw [size_set]; omega))
    have hy : w'.heap.size + 1 < w3.heap.size := by have := hb2.size; simp at this; omega
    clear hb2
    have hx : Below w.heap.size w (w3.setCell ⟨w'.heap.size, 3, none⟩ (.int .i64 (numA (rest (rest l))))) := hup.setCell (by simp; omega) _
    have s3 : (w3.setCell ⟨w'.heap.size, 3, none⟩ (.int .i64 (numA (rest (rest l))))).cell? ⟨w'.heap.size, 3, none⟩ = some (.int .i64 (numA (rest (rest l)))) := cl_same a3
    have hne : ¬ w'.heap.size = w.heap.size := by omega
    have hne' : ¬ w.heap.size = w'.heap.size := by omega
    go_wp2
    refine bodyPost_ret (v := .agg #[.int .i64 k, .int .i64 (numA (rest l)), .int .i64 0, .int .i64 (numA (rest (rest l)))]) ?_ rfl ⟨?_, ?_⟩
    · simp [results, Tryd.results35, go_sem, *]
    · have e1 : gK l = k := HK.out
      simp [gA, gB, gN, gR1, gR2, e1, hA, hB, hN]
    · exact (((hx.setCell (by simp) _).setCell (by simp) _).setCell (by simp) _).setCell (by simp) _
  · go_wp2_with fail
    refine (num_any (rest l) _ (he1.up (by repeat (first | exact Below.refl _ _ | assumption | refine Below.drew ?_ | refine Below.alloc ?_ (by simp) _ | refine Below.setCell ?_ (by simp) _))) (by omega)).mono ?_
    rintro e w2 ⟨rfl, hb2⟩
    have a0 : w2.cell? ⟨w'.heap.size, 0, none⟩ = some (.int .i64 k) := bcl hb2 (by simp; omega) (cl_alloc _ (by simp) (by simp))
    have r0 : w2.cell? ⟨w.heap.size, 0, none⟩ = some (.int .i64 0) := bcl hb2 (by simp; omega) (cl_alloc _ (by simp; omega) (cl_alloc _ hz1 r0))
    have t0 : w2.frozen? ⟨w.heap.size, 0, none⟩ = false := bfr hb2 (by simp; omega) (fr_alloc _ (by simp; omega) (fr_alloc _ hz1 t0))
    have a1 : w2.cell? ⟨w'.heap.size, 1, none⟩ = some (.int .i64 0) := bcl hb2 (by simp; omega) (cl_alloc _ (by simp) (by simp))
    have b1 : w2.cell? ⟨w'.heap.size + 1, 1, none⟩ = some (.bool true) := bcl hb2 (by simp) (by simp)
    have f1 : w2.frozen? ⟨w'.heap.size, 1, none⟩ = false := bfr hb2 (by simp; omega) (fr_alloc _ (by simp) (by simp))
    have r1 : w2.cell? ⟨w.heap.size, 1, none⟩ = some (.int .i64 0) := bcl hb2 (by simp; omega) (cl_alloc _ (by simp; omega) (cl_alloc _ hz1 r1))
    have t1 : w2.frozen? ⟨w.heap.size, 1, none⟩ = false := bfr hb2 (by simp; omega) (fr_alloc _ (by simp; omega) (fr_alloc _ hz1 t1))
    have a2 : w2.cell? ⟨w'.heap.size, 2, none⟩ = some (.int .i64 0) := bcl hb2 (by simp; omega) (cl_alloc _ (by simp) (by simp))
    have b2 : w2.cell? ⟨w'.heap.size + 1, 2, none⟩ = some (.bool true) := bcl hb2 (by simp) (by simp)
    have f2 : w2.frozen? ⟨w'.heap.size, 2, none⟩ = false := bfr hb2 (by simp; omega) (fr_alloc _ (by simp) (by simp))
    have r2 : w2.cell? ⟨w.heap.size, 2, none⟩ = some (.int .i64 0) := bcl hb2 (by simp; omega) (cl_alloc _ (by simp; omega) (cl_alloc _ hz1 r2))
    have t2 : w2.frozen? ⟨w.heap.size, 2, none⟩ = false := bfr hb2 (by simp; omega) (fr_alloc _ (by simp; omega) (fr_alloc _ hz1 t2))
    have a3 : w2.cell? ⟨w'.heap.size, 3, none⟩ = some (.int .i64 0) := bcl hb2 (by simp; omega) (cl_alloc _ (by simp) (by simp))
    have b3 : w2.cell? ⟨w'.heap.size + 1, 3, none⟩ = some (.bool false) := bcl hb2 (by simp) (by simp)
    have f3 : w2.frozen? ⟨w'.heap.size, 3, none⟩ = false := bfr hb2 (by simp; omega) (fr_alloc _ (by simp) (by simp))
    have r3 : w2.cell? ⟨w.heap.size, 3, none⟩ = some (.int .i64 0) := bcl hb2 (by simp; omega) (cl_alloc _ (by simp; omega) (cl_alloc _ hz1 r3))
    have t3 : w2.frozen? ⟨w.heap.size, 3, none⟩ = false := bfr hb2 (by simp; omega) (fr_alloc _ (by simp; omega) (fr_alloc _ hz1 t3))
    have hup : Below w.heap.size w w2 := by
      refine Below.trans (b := w') hup (Below.trans ?_ (hb2.mono (by simp; omega)))
      exact Below.alloc (Below.alloc (Below.refl _ _) (by omega) _) (by simp; omega) _
    have hy : w'.heap.size + 1 < w2.heap.size := by have := hb2.size; simp at this; omega
    clear hb2
    have hx : Below w.heap.size w (w2.setCell ⟨w'.heap.size, 1, none⟩ (.int .i64 (numA (rest l)))) := hup.setCell (by simp; omega) _
    have s1 : (w2.setCell ⟨w'.heap.size, 1, none⟩ (.int .i64 (numA (rest l)))).cell? ⟨w'.heap.size, 1, none⟩ = some (.int .i64 (numA (rest l))) := cl_same a1
    go_wp2_with fail
    refine (num_any (rest (rest l)) _ (he.up hx) (by omega)).mono ?_
    rintro e w3 ⟨rfl, hb2⟩
    have a0 : w3.cell? ⟨w'.heap.size, 0, none⟩ = some (.int .i64 k) := bcl hb2 (by rw [size_set]; omega) (cl_set (Or.inr (by decide)) a0)
    have r0 : w3.cell? ⟨w.heap.size, 0, none⟩ = some (.int .i64 0) := bcl hb2 (by rw [size_set]; omega) (cl_set (Or.inl (by omega)) r0)
    have t0 : w3.frozen? ⟨w.heap.size, 0, none⟩ = false := bfr hb2 (by rw [size_set]; omega) (fr_set t0)
    have a1 : w3.cell? ⟨w'.heap.size, 1, none⟩ = some (.int .i64 (numA (rest l))) := bcl hb2 (by rw [size_set]; omega) (cl_same a1)
    have b1 : w3.cell? ⟨w'.heap.size + 1, 1, none⟩ = some (.bool true) := bcl hb2 (by rw [size_set]; omega) (cl_set (Or.inl (by omega)) b1)
    have f1 : w3.frozen? ⟨w'.heap.size, 1, none⟩ = false := bfr hb2 (by rw [size_set]; omega) (fr_set f1)
    have r1 : w3.cell? ⟨w.heap.size, 1, none⟩ = some (.int .i64 0) := bcl hb2 (by rw [size_set]; omega) (cl_set (Or.inl (by omega)) r1)
    have t1 : w3.frozen? ⟨w.heap.size, 1, none⟩ = false := bfr hb2 (by rw [size_set]; omega) (fr_set t1)
    have a2 : w3.cell? ⟨w'.heap.size, 2, none⟩ = some (.int .i64 0) := bcl hb2 (by rw [size_set]; omega) (cl_set (Or.inr (by decide)) a2)
    have b2 : w3.cell? ⟨w'.heap.size + 1, 2, none⟩ = some (.bool true) := bcl hb2 (by rw [size_set]; omega) (cl_set (Or.inl (by omega)) b2)
    have f2 : w3.frozen? ⟨w'.heap.size, 2, none⟩ = false := bfr hb2 (by rw [size_set]; omega) (fr_set f2)
    have r2 : w3.cell? ⟨w.heap.size, 2, none⟩ = some (.int .i64 0) := bcl hb2 (by rw [size_set]; omega) (cl_set (Or.inl (by omega)) r2)
    have t2 : w3.frozen? ⟨w.heap.size, 2, none⟩ = false := bfr hb2 (by rw [size_set]; omega) (fr_set t2)
    have a3 : w3.cell? ⟨w'.heap.size, 3, none⟩ = some (.int .i64 0) := bcl hb2 (by rw [size_set]; omega) (cl_set (Or.inr (by decide)) a3)
    have b3 : w3.cell? ⟨w'.heap.size + 1, 3, none⟩ = some (.bool false) := bcl hb2 (by rw [size_set]; omega) (cl_set (Or.inl (by omega)) b3)
    have f3 : w3.frozen? ⟨w'.heap.size, 3, none⟩ = false := bfr hb2 (by rw [size_set]; omega) (fr_set f3)
    have r3 : w3.cell? ⟨w.heap.size, 3, none⟩ = some (.int .i64 0) := bcl hb2 (by rw [size_set]; omega) (cl_set (Or.inl (by omega)) r3)
    have t3 : w3.frozen? ⟨w.heap.size, 3, none⟩ = false := bfr hb2 (by rw [size_set]; omega) (fr_set t3)
    have hup : Below w.heap.size w w3 := hx.trans (hb2.mono (by rw [size_set]; omega))
    have hy : w'.heap.size + 1 < w3.heap.size := by have := hb2.size; simp at this; omega
    clear hb2
    have hx : Below w.heap.size w (w3.setCell ⟨w'.heap.size, 2, none⟩ (.int .i64 (numA (rest (rest l))))) := hup.setCell (by simp; omega) _
    have s2 : (w3.setCell ⟨w'.heap.size, 2, none⟩ (.int .i64 (numA (rest (rest l))))).cell? ⟨w'.heap.size, 2, none⟩ = some (.int .i64 (numA (rest (rest l)))) := cl_same a2
    have hne : ¬ w'.heap.size = w.heap.size := by omega
    have hne' : ¬ w.heap.size = w'.heap.size := by omega
    go_wp2
    refine bodyPost_ret (v := .agg #[.int .i64 k, .int .i64 (numA (rest l)), .int .i64 (numA (rest (rest l))), .int .i64 0]) ?_ rfl ⟨?_, ?_⟩
    · simp [results, Tryd.results35, go_sem, *]
    · have e1 : gK l = k := HK.out
      simp [gA, gB, gN, gR1, gR2, e1, hA, hB, hN]
    · exact (((hx.setCell (by simp) _).setCell (by simp) _).setCell (by simp) _).setCell (by simp) _
  · go_wp2_with fail
    refine (num_any (rest l) _ (he1.up (by repeat (first | exact Below.refl _ _ | assumption | refine Below.drew ?_ | refine Below.alloc ?_ (by simp) _ | refine Below.setCell ?_ (by simp) _))) (by omega)).mono ?_
    rintro e w2 ⟨rfl, hb2⟩
    have a0 : w2.cell? ⟨w'.heap.size, 0, none⟩ = some (.int .i64 k) := bcl hb2 (by simp; omega) (cl_alloc _ (by simp) (by simp))
    have r0 : w2.cell? ⟨w.heap.size, 0, none⟩ = some (.int .i64 0) := bcl hb2 (by simp; omega) (cl_alloc _ (by simp; omega) (cl_alloc _ hz1 r0))
    have t0 : w2.frozen? ⟨w.heap.size, 0, none⟩ = false := bfr hb2 (by simp; omega) (fr_alloc _ (by simp; omega) (fr_alloc _ hz1 t0))
    have a1 : w2.cell? ⟨w'.heap.size, 1, none⟩ = some (.int .i64 0) := bcl hb2 (by simp; omega) (cl_alloc _ (by simp) (by simp))
    have b1 : w2.cell? ⟨w'.heap.size + 1, 1, none⟩ = some (.bool true) := bcl hb2 (by simp) (by simp)
    have f1 : w2.frozen? ⟨w'.heap.size, 1, none⟩ = false := bfr hb2 (by simp; omega) (fr_alloc _ (by simp) (by simp))
    have r1 : w2.cell? ⟨w.heap.size, 1, none⟩ = some (.int .i64 0) := bcl hb2 (by simp; omega) (cl_alloc _ (by simp; omega) (cl_alloc _ hz1 r1))
    have t1 : w2.frozen? ⟨w.heap.size, 1, none⟩ = false := bfr hb2 (by simp; omega) (fr_alloc _ (by simp; omega) (fr_alloc _ hz1 t1))
    have a2 : w2.cell? ⟨w'.heap.size, 2, none⟩ = some (.int .i64 0) := bcl hb2 (by simp; omega) (cl_alloc _ (by simp) (by simp))
    have b2 : w2.cell? ⟨w'.heap.size + 1, 2, none⟩ = some (.bool true) := bcl hb2 (by simp) (by simp)
    have f2 : w2.frozen? ⟨w'.heap.size, 2, none⟩ = false := bfr hb2 (by simp; omega) (fr_alloc _ (by simp) (by simp))
    have r2 : w2.cell? ⟨w.heap.size, 2, none⟩ = some (.int .i64 0) := bcl hb2 (by simp; omega) (cl_alloc _ (by simp; omega) (cl_alloc _ hz1 r2))
    have t2 : w2.frozen? ⟨w.heap.size, 2, none⟩ = false := bfr hb2 (by simp; omega) (fr_alloc _ (by simp; omega) (fr_alloc _ hz1 t2))
    have a3 : w2.cell? ⟨w'.heap.size, 3, none⟩ = some (.int .i64 0) := bcl hb2 (by simp; omega) (cl_alloc _ (by simp) (by simp))
    have b3 : w2.cell? ⟨w'.heap.size + 1, 3, none⟩ = some (.bool true) := bcl hb2 (by simp) (by simp)
    have f3 : w2.frozen? ⟨w'.heap.size, 3, none⟩ = false := bfr hb2 (by simp; omega) (fr_alloc _ (by simp) (by simp))
    have r3 : w2.cell? ⟨w.heap.size, 3, none⟩ = some (.int .i64 0) := bcl hb2 (by simp; omega) (cl_alloc _ (by simp; omega) (cl_alloc _ hz1 r3))
    have t3 : w2.frozen? ⟨w.heap.size, 3, none⟩ = false := bfr hb2 (by simp; omega) (fr_alloc _ (by simp; omega) (fr_alloc _ hz1 t3))
    have hup : Below w.heap.size w w2 := by
      refine Below.trans (b := w') hup (Below.trans ?_ (hb2.mono (by simp; omega)))
      exact Below.alloc (Below.alloc (Below.refl _ _) (by omega) _) (by simp; omega) _
    have hy : w'.heap.size + 1 < w2.heap.size := by have := hb2.size; simp at this; omega
    clear hb2
    have hx : Below w.heap.size w (w2.setCell ⟨w'.heap.size, 1, none⟩ (.int .i64 (numA (rest l)))) := hup.setCell (by simp; omega) _
    have s1 : (w2.setCell ⟨w'.heap.size, 1, none⟩ (.int .i64 (numA (rest l)))).cell? ⟨w'.heap.size, 1, none⟩ = some (.int .i64 (numA (rest l))) := cl_same a1
    go_wp2_with fail
    refine (num_any (rest (rest l)) _ (he.up hx) (by omega)).mono ?_
    rintro e w3 ⟨rfl, hb2⟩
    have a0 : w3.cell? ⟨w'.heap.size, 0, none⟩ = some (.int .i64 k) := bcl hb2 (by rw [size_set]; omega) (cl_set (Or.inr (by decide)) a0)
    have r0 : w3.cell? ⟨w.heap.size, 0, none⟩ = some (.int .i64 0) := bcl hb2 (by rw [size_set]; omega) (cl_set (Or.inl (by omega)) r0)
    have t0 : w3.frozen? ⟨w.heap.size, 0, none⟩ = false := bfr hb2 (by rw [size_set]; omega) (fr_set t0)
    have a1 : w3.cell? ⟨w'.heap.size, 1, none⟩ = some (.int .i64 (numA (rest l))) := bcl hb2 (by rw [size_set]; omega) (cl_same a1)
    have b1 : w3.cell? ⟨w'.heap.size + 1, 1, none⟩ = some (.bool true) := bcl hb2 (by rw [size_set]; omega) (cl_set (Or.inl (by omega)) b1)
    have f1 : w3.frozen? ⟨w'.heap.size, 1, none⟩ = false := bfr hb2 (by rw [size_set]; omega) (fr_set f1)
    have r1 : w3.cell? ⟨w.heap.size, 1, none⟩ = some (.int .i64 0) := bcl hb2 (by rw [size_set]; omega) (cl_set (Or.inl (by omega)) r1)
    have t1 : w3.frozen? ⟨w.heap.size, 1, none⟩ = false := bfr hb2 (by rw [size_set]; omega) (fr_set t1)
    have a2 : w3.cell? ⟨w'.heap.size, 2, none⟩ = some (.int .i64 0) := bcl hb2 (by rw [size_set]; omega) (cl_set (Or.inr (by decide)) a2)
    have b2 : w3.cell? ⟨w'.heap.size + 1, 2, none⟩ = some (.bool true) := bcl hb2 (by rw [size_set]; omega) (cl_set (Or.inl (by omega)) b2)
    have f2 : w3.frozen? ⟨w'.heap.size, 2, none⟩ = false := bfr hb2 (by rw [size_set]; omega) (fr_set f2)
    have r2 : w3.cell? ⟨w.heap.size, 2, none⟩ = some (.int .i64 0) := bcl hb2 (by rw [size_set]; omega) (cl_set (Or.inl (by omega)) r2)
    have t2 : w3.frozen? ⟨w.heap.size, 2, none⟩ = false := bfr hb2 (by rw [size_set]; omega) (fr_set t2)
    have a3 : w3.cell? ⟨w'.heap.size, 3, none⟩ = some (.int .i64 0) := bcl hb2 (by rw [size_set]; omega) (cl_set (Or.inr (by decide)) a3)
    have b3 : w3.cell? ⟨w'.heap.size + 1, 3, none⟩ = some (.bool true) := bcl hb2 (by rw [size_set]; omega) (cl_set (Or.inl (by omega)) b3)
    have f3 : w3.frozen? ⟨w'.heap.size, 3, none⟩ = false := bfr hb2 (by rw [size_set]; omega) (fr_set f3)
    have r3 : w3.cell? ⟨w.heap.size, 3, none⟩ = some (.int .i64 0) := bcl hb2 (by rw [size_set]; omega) (cl_set (Or.inl (by omega)) r3)
    have t3 : w3.frozen? ⟨w.heap.size, 3, none⟩ = false := bfr hb2 (by rw [size_set]; omega) (fr_set t3)
    have hup : Below w.heap.size w w3 := hx.trans (hb2.mono (by rw [size_set]; omega))
    have hy : w'.heap.size + 1 < w3.heap.size := by have := hb2.size; simp at this; omega
    clear hb2
    have hx : Below w.heap.size w (w3.setCell ⟨w'.heap.size, 2, none⟩ (.int .i64 (numA (rest (rest l))))) := hup.setCell (by simp; omega) _
    have s2 : (w3.setCell ⟨w'.heap.size, 2, none⟩ (.int .i64 (numA (rest (rest l))))).cell? ⟨w'.heap.size, 2, none⟩ = some (.int .i64 (numA (rest (rest l)))) := cl_same a2
    go_wp2_with fail
    refine (num_any (rest (rest (rest l))) _ (he.up hx) (by omega)).mono ?_
    rintro e w4 ⟨rfl, hb2⟩
    have a0 : w4.cell? ⟨w'.heap.size, 0, none⟩ = some (.int .i64 k) := bcl hb2 (by rw [size_set]; omega) (cl_set (Or.inr (by decide)) a0)
    have r0 : w4.cell? ⟨w.heap.size, 0, none⟩ = some (.int .i64 0) := bcl hb2 (by rw [size_set]; omega) (cl_set (Or.inl (by omega)) r0)
    have t0 : w4.frozen? ⟨w.heap.size, 0, none⟩ = false := bfr hb2 (by rw [size_set]; omega) (fr_set t0)
    have a1 : w4.cell? ⟨w'.heap.size, 1, none⟩ = some (.int .i64 (numA (rest l))) := bcl hb2 (by rw [size_set]; omega) (cl_set (Or.inr (by decide)) a1)
    have b1 : w4.cell? ⟨w'.heap.size + 1, 1, none⟩ = some (.bool true) := bcl hb2 (by rw [size_set]; omega) (cl_set (Or.inl (by omega)) b1)
    have f1 : w4.frozen? ⟨w'.heap.size, 1, none⟩ = false := bfr hb2 (by rw [size_set]; omega) (fr_set f1)
    have r1 : w4.cell? ⟨w.heap.size, 1, none⟩ = some (.int .i64 0) := bcl hb2 (by rw [size_set]; omega) (cl_set (Or.inl (by omega)) r1)
    have t1 : w4.frozen? ⟨w.heap.size, 1, none⟩ = false := bfr hb2 (by rw [size_set]; omega) (fr_set t1)
    have a2 : w4.cell? ⟨w'.heap.size, 2, none⟩ = some (.int .i64 (numA (rest (rest l)))) := bcl hb2 (by rw [size_set]; omega) (cl_same a2)
    have b2 : w4.cell? ⟨w'.heap.size + 1, 2, none⟩ = some (.bool true) := bcl hb2 (by rw [size_set]; omega) (cl_set (Or.inl (by omega)) b2)
    have f2 : w4.frozen? ⟨w'.heap.size, 2, none⟩ = false := bfr hb2 (by rw [size_set]; omega) (fr_set f2)
    have r2 : w4.cell? ⟨w.heap.size, 2, none⟩ = some (.int .i64 0) := bcl hb2 (by rw [size_set]; omega) (cl_set (Or.inl (by omega)) r2)
    have t2 : w4.frozen? ⟨w.heap.size, 2, none⟩ = false := bfr hb2 (by rw [size_set]; omega) (fr_set t2)
    have a3 : w4.cell? ⟨w'.heap.size, 3, none⟩ = some (.int .i64 0) := bcl hb2 (by rw [size_set]; omega) (cl_set (Or.inr (by decide)) a3)
    have b3 : w4.cell? ⟨w'.heap.size + 1, 3, none⟩ = some (.bool true) := bcl hb2 (by rw [size_set]; omega) (cl_set (Or.inl (by omega)) b3)
    have f3 : w4.frozen? ⟨w'.heap.size, 3, none⟩ = false := bfr hb2 (by rw [size_set]; omega) (fr_set f3)
    have r3 : w4.cell? ⟨w.heap.size, 3, none⟩ = some (.int .i64 0) := bcl hb2 (by rw [size_set]; omega) (cl_set (Or.inl (by omega)) r3)
    have t3 : w4.frozen? ⟨w.heap.size, 3, none⟩ = false := bfr hb2 (by rw [size_set]; omega) (fr_set t3)
    have hup : Below w.heap.size w w4 := hx.trans (hb2.mono (by rw [size_set]; omega))
    have hy : w'.heap.size + 1 < w4.heap.size := by have := hb2.size; simp at this; omega
    clear hb2
    have hx : Below w.heap.size w (w4.setCell ⟨w'.heap.size, 3, none⟩ (.int .i64 (numA (rest (rest (rest l)))))) := hup.setCell (by simp; omega) _
    have s3 : (w4.setCell ⟨w'.heap.size, 3, none⟩ (.int .i64 (numA (rest (rest (rest l)))))).cell? ⟨w'.heap.size, 3, none⟩ = some (.int .i64 (numA (rest (rest (rest l))))) := cl_same a3
    have hne : ¬ w'.heap.size = w.heap.size := by omega
    have hne' : ¬ w.heap.size = w'.heap.size := by omega
    go_wp2
    refine bodyPost_ret (v := .agg #[.int .i64 k, .int .i64 (numA (rest l)), .int .i64 (numA (rest (rest l))), .int .i64 (numA (rest (rest (rest l))))]) ?_ rfl ⟨?_, ?_⟩
    · simp [results, Tryd.results35, go_sem, *]
    · have e1 : gK l = k := HK.out
      simp [gA, gB, gN, gR1, gR2, e1, hA, hB, hN]
    · exact (((hx.setCell (by simp) _).setCell (by simp) _).setCell (by simp) _).setCell (by simp) _
