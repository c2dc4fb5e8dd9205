/- Small laws on what a world's cells hold behind new blocks, stores and calls that keep what was there. -/
import Derived.WalkKit
import Derived.WalkSmall
import Derived.Test.YtclnedeodmlfeaaDoorJ0
namespace Go.Proofs.YtclnedeodmlfeaaDoor
set_option linter.unusedSimpArgs false
set_option linter.unusedVariables false
open Go.RowKit
theorem bcl {B : Nat} {w w' : World} {b i : Nat} {v : Value} (h : Below B w w') (hb : b < B) (hc : w.cell? ⟨b, i, none⟩ = some v) : w'.cell? ⟨b, i, none⟩ = some v := (h.cell (p := ⟨b, i, none⟩) hb).trans hc
theorem bfr {B : Nat} {w w' : World} {b i : Nat} (h : Below B w w') (hb : b < B) (hc : w.frozen? ⟨b, i, none⟩ = false) : w'.frozen? ⟨b, i, none⟩ = false := (h.frozen (p := ⟨b, i, none⟩) hb).trans hc
theorem cl_alloc {w : World} {b i : Nat} {v : Value} (o : Obj) (hb : b < w.heap.size) (h : w.cell? ⟨b, i, none⟩ = some v) : (w.alloc o).cell? ⟨b, i, none⟩ = some v := (World.cell?_alloc_lt w o ⟨b, i, none⟩ hb).trans h
theorem fr_alloc {w : World} {b i : Nat} (o : Obj) (hb : b < w.heap.size) (h : w.frozen? ⟨b, i, none⟩ = false) : (w.alloc o).frozen? ⟨b, i, none⟩ = false := (World.frozen?_alloc_old w o ⟨b, i, none⟩ (by simp; omega)).trans h
theorem cl_set {w : World} {b i c j : Nat} {v u : Value} (hne : b ≠ c ∨ i ≠ j) (h : w.cell? ⟨b, i, none⟩ = some v) : (w.setCell ⟨c, j, none⟩ u).cell? ⟨b, i, none⟩ = some v :=
  (World.cell?_setCell_other w _ _ _ (by intro e; simp at e; omega)).trans h
theorem cl_same {w : World} {b i : Nat} {v u : Value} (h : w.cell? ⟨b, i, none⟩ = some v) : (w.setCell ⟨b, i, none⟩ u).cell? ⟨b, i, none⟩ = some u := World.cell?_setCell_same w _ _ h
theorem fr_set {w : World} {b i c j : Nat} {u : Value} (h : w.frozen? ⟨b, i, none⟩ = false) : (w.setCell ⟨c, j, none⟩ u).frozen? ⟨b, i, none⟩ = false := (World.frozen?_setCell w _ _ _).trans h
theorem size_set (w : World) (a : Addr) (u : Value) : (w.setCell a u).heap.size = w.heap.size := by simp [World.setCell]
end Go.Proofs.YtclnedeodmlfeaaDoor

namespace Go.Proofs.YtclnedeodmlfeaaDoor
set_option linter.unusedSimpArgs false
set_option linter.unusedVariables false
open Go.RowKit Go.Sort
theorem namedF_lt (l : List UInt8) : namedF l < 16 := by
  unfold namedF
  cases h : (List.range 16).find? fun k => 1 ≤ k && rowW k == l with
  | none => simp
  | some k => have := List.mem_of_find?_eq_some h; simpa using this
def numA (l : List UInt8) : Int := numOf (Lib.cut l [32]).1
def rest (l : List UInt8) : List UInt8 := (Lib.cut l [32]).2.1
theorem rest_len (l : List UInt8) : (rest l).length ≤ l.length := (cut_len l [32]).2
def gK (l : List UInt8) : Nat := namedF (Lib.cut l [32]).1
def gA (l : List UInt8) : Int := if rowA (gK l) then numA (rest l) else 0
def gR1 (l : List UInt8) : List UInt8 := if rowA (gK l) then rest (rest l) else rest l
def gB (l : List UInt8) : Int := if rowB (gK l) then numA (gR1 l) else 0
def gR2 (l : List UInt8) : List UInt8 := if rowB (gK l) then rest (gR1 l) else gR1 l
def gN (l : List UInt8) : Int := if rowN (gK l) then numA (gR2 l) else 0
theorem num_any (l : List UInt8) (w : World) (he : Env w) (hs : l.length < 281474976710657) : Calls Tryd.prog 46 #[.string ⟨l.toArray⟩] w fun e w' => e = .returned (.tuple #[.int .i64 (numA l), .string ⟨(rest l).toArray⟩]) ∧ Below w.heap.size w w' := number_any l w he hs
set_option maxHeartbeats 2000000 in
theorem guess_any (l : List UInt8) (w : World) (he : Env w) (hs : l.length < 281474976710657) : Calls Tryd.prog 35 #[.string ⟨l.toArray⟩] w fun e w' => e = .returned (.agg #[.int .i64 (gK l), .int .i64 (gA l), .int .i64 (gB l), .int .i64 (gN l)]) ∧ Below w.heap.size w w' := by
  have hk := namedF_lt (Lib.cut l [32]).1
  have hl1 := rest_len l
  have hl2 := rest_len (rest l)
  have hl3 := rest_len (rest (rest l))
  go_enter Tryd.func35, Tryd.ntmps35
  go_wp2_with fail
  refine (cutL l [32] _ (he.up (by repeat (first | exact Below.refl _ _ | assumption | refine Below.drew ?_ | refine Below.alloc ?_ (by first | (simp; done) | (simp; omega)) _ | refine Below.setCell ?_ (by first | (simp; done) | (simp; omega)) _))) hs).mono ?_
  rintro e w1 ⟨rfl, hb1⟩
  have he1 : Env w1 := (he.up ((Below.refl _ _).alloc (Nat.le_refl _) _)).up hb1
  have hup : Below w.heap.size w w1 := ((Below.refl _ _).alloc (Nat.le_refl _) _).trans (hb1.mono (by simp))
  have hz1 : w.heap.size < w1.heap.size := by have := hb1.size; simp at this; omega
  have hz0 := he1.shp.size
  go_wp2_with fail
  refine (named_any _ _ he1.shp).mono ?_
  rintro e w' ⟨rfl, rfl⟩
  generalize hgk : namedF (Lib.cut l [32]).1 = k at *
  have HK := Lib.hid hgk
  clear hgk
  rw [show (Lib.cut l [32]).2.1 = rest l from rfl]
  have q0 := he1.shp.c0 k hk
  have q1 := he1.shp.c1 k hk
  have q2 := he1.shp.c2 k hk
  have q3 := he1.shp.c3 k hk
  have q4 := he1.shp.c4 k hk
  have q5 := he1.shp.c5 k hk
  have r0 : w'.cell? ⟨w.heap.size, 0, none⟩ = some (.int .i64 0) := (hb1.cell (p := ⟨w.heap.size, 0, none⟩) (by simp)).trans (by simp)
  have r1 : w'.cell? ⟨w.heap.size, 1, none⟩ = some (.int .i64 0) := (hb1.cell (p := ⟨w.heap.size, 1, none⟩) (by simp)).trans (by simp)
  have r2 : w'.cell? ⟨w.heap.size, 2, none⟩ = some (.int .i64 0) := (hb1.cell (p := ⟨w.heap.size, 2, none⟩) (by simp)).trans (by simp)
  have r3 : w'.cell? ⟨w.heap.size, 3, none⟩ = some (.int .i64 0) := (hb1.cell (p := ⟨w.heap.size, 3, none⟩) (by simp)).trans (by simp)
  have t0 : w'.frozen? ⟨w.heap.size, 0, none⟩ = false := (hb1.frozen (p := ⟨w.heap.size, 0, none⟩) (by simp)).trans (by simp)
  have t1 : w'.frozen? ⟨w.heap.size, 1, none⟩ = false := (hb1.frozen (p := ⟨w.heap.size, 1, none⟩) (by simp)).trans (by simp)
  have t2 : w'.frozen? ⟨w.heap.size, 2, none⟩ = false := (hb1.frozen (p := ⟨w.heap.size, 2, none⟩) (by simp)).trans (by simp)
  have t3 : w'.frozen? ⟨w.heap.size, 3, none⟩ = false := (hb1.frozen (p := ⟨w.heap.size, 3, none⟩) (by simp)).trans (by simp)
  have hzz : w.heap.size < w'.heap.size + 1 := by omega
  have hzy : w.heap.size < w'.heap.size + 1 + 1 := by omega
  clear hb1
  cases hA : rowA k
  all_goals rw [hA] at q1
  all_goals cases hB : rowB k
  all_goals rw [hB] at q2
  all_goals cases hN : rowN k
  all_goals rw [hN] at q3
  · have hne : ¬ w'.heap.size = w.heap.size := by omega
    have hne' : ¬ w.heap.size = w'.heap.size := by omega
    go_wp2
    refine bodyPost_ret (v := .agg #[.int .i64 k, .int .i64 0, .int .i64 0, .int .i64 0]) ?_ rfl ⟨?_, ?_⟩
    · simp [results, Tryd.results35, go_sem, *]
    · have e1 : gK l = k := HK.out
      simp [gA, gB, gN, gR1, gR2, e1, hA, hB, hN]
    · repeat (first | exact hup | refine Below.setCell ?_ (by simp) _ | refine Below.alloc ?_ (by simp; omega) _)
  · go_wp2_with fail
    refine (num_any (rest l) _ (he1.up (by repeat (first | exact Below.refl _ _ | assumption | refine Below.drew ?_ | refine Below.alloc ?_ (by first | (simp; done) | (simp; omega)) _ | refine Below.setCell ?_ (by first | (simp; done) | (simp; omega)) _))) (by omega)).mono ?_
    rintro e w2 ⟨rfl, hb2⟩
    have a0 : w2.cell? ⟨w'.heap.size, 0, none⟩ = some (.int .i64 k) := bcl hb2 (by simp; omega) (cl_alloc _ (by simp) (by simp))
    have r0 : w2.cell? ⟨w.heap.size, 0, none⟩ = some (.int .i64 0) := bcl hb2 (by simp; omega) (cl_alloc _ (by simp; omega) (cl_alloc _ hz1 r0))
    have t0 : w2.frozen? ⟨w.heap.size, 0, none⟩ = false := bfr hb2 (by simp; omega) (fr_alloc _ (by simp; omega) (fr_alloc _ hz1 t0))
    have a1 : w2.cell? ⟨w'.heap.size, 1, none⟩ = some (.int .i64 0) := bcl hb2 (by simp; omega) (cl_alloc _ (by simp) (by simp))
    have b1 : w2.cell? ⟨w'.heap.size + 1, 1, none⟩ = some (.bool false) := bcl hb2 (by simp) (by simp)
    have f1 : w2.frozen? ⟨w'.heap.size, 1, none⟩ = false := bfr hb2 (by simp; omega) (fr_alloc _ (by simp) (by simp))
    have r1 : w2.cell? ⟨w.heap.size, 1, none⟩ = some (.int .i64 0) := bcl hb2 (by simp; omega) (cl_alloc _ (by simp; omega) (cl_alloc _ hz1 r1))
    have t1 : w2.frozen? ⟨w.heap.size, 1, none⟩ = false := bfr hb2 (by simp; omega) (fr_alloc _ (by simp; omega) (fr_alloc _ hz1 t1))
    have a2 : w2.cell? ⟨w'.heap.size, 2, none⟩ = some (.int .i64 0) := bcl hb2 (by simp; omega) (cl_alloc _ (by simp) (by simp))
    have b2 : w2.cell? ⟨w'.heap.size + 1, 2, none⟩ = some (.bool false) := bcl hb2 (by simp) (by simp)
    have f2 : w2.frozen? ⟨w'.heap.size, 2, none⟩ = false := bfr hb2 (by simp; omega) (fr_alloc _ (by simp) (by simp))
    have r2 : w2.cell? ⟨w.heap.size, 2, none⟩ = some (.int .i64 0) := bcl hb2 (by simp; omega) (cl_alloc _ (by simp; omega) (cl_alloc _ hz1 r2))
    have t2 : w2.frozen? ⟨w.heap.size, 2, none⟩ = false := bfr hb2 (by simp; omega) (fr_alloc _ (by simp; omega) (fr_alloc _ hz1 t2))
    have a3 : w2.cell? ⟨w'.heap.size, 3, none⟩ = some (.int .i64 0) := bcl hb2 (by simp; omega) (cl_alloc _ (by simp) (by simp))
    have b3 : w2.cell? ⟨w'.heap.size + 1, 3, none⟩ = some (.bool true) := bcl hb2 (by simp) (by simp)
    have f3 : w2.frozen? ⟨w'.heap.size, 3, none⟩ = false := bfr hb2 (by simp; omega) (fr_alloc _ (by simp) (by simp))
    have r3 : w2.cell? ⟨w.heap.size, 3, none⟩ = some (.int .i64 0) := bcl hb2 (by simp; omega) (cl_alloc _ (by simp; omega) (cl_alloc _ hz1 r3))
    have t3 : w2.frozen? ⟨w.heap.size, 3, none⟩ = false := bfr hb2 (by simp; omega) (fr_alloc _ (by simp; omega) (fr_alloc _ hz1 t3))
    have hup : Below w.heap.size w w2 := by
      refine Below.trans (b := w') hup (Below.trans ?_ (hb2.mono (by simp; omega)))
      exact Below.alloc (Below.alloc (Below.refl _ _) (by omega) _) (by simp; omega) _
    have hy : w'.heap.size + 1 < w2.heap.size := by have := hb2.size; simp at this; omega
    clear hb2
    have hx : Below w.heap.size w (w2.setCell ⟨w'.heap.size, 3, none⟩ (.int .i64 (numA (rest l)))) := hup.setCell (by simp; omega) _
    have s3 : (w2.setCell ⟨w'.heap.size, 3, none⟩ (.int .i64 (numA (rest l)))).cell? ⟨w'.heap.size, 3, none⟩ = some (.int .i64 (numA (rest l))) := cl_same a3
    have hne : ¬ w'.heap.size = w.heap.size := by omega
    have hne' : ¬ w.heap.size = w'.heap.size := by omega
    go_wp2
    refine bodyPost_ret (v := .agg #[.int .i64 k, .int .i64 0, .int .i64 0, .int .i64 (numA (rest l))]) ?_ rfl ⟨?_, ?_⟩
    · simp [results, Tryd.results35, go_sem, *]
    · have e1 : gK l = k := HK.out
      simp [gA, gB, gN, gR1, gR2, e1, hA, hB, hN]
    · exact (((hx.setCell (by simp) _).setCell (by simp) _).setCell (by simp) _).setCell (by simp) _
  · go_wp2_with fail
    refine (num_any (rest l) _ (he1.up (by repeat (first | exact Below.refl _ _ | assumption | refine Below.drew ?_ | refine Below.alloc ?_ (by first | (simp; done) | (simp; omega)) _ | refine Below.setCell ?_ (by first | (simp; done) | (simp; omega)) _))) (by omega)).mono ?_
    rintro e w2 ⟨rfl, hb2⟩
    have a0 : w2.cell? ⟨w'.heap.size, 0, none⟩ = some (.int .i64 k) := bcl hb2 (by simp; omega) (cl_alloc _ (by simp) (by simp))
    have r0 : w2.cell? ⟨w.heap.size, 0, none⟩ = some (.int .i64 0) := bcl hb2 (by simp; omega) (cl_alloc _ (by simp; omega) (cl_alloc _ hz1 r0))
    have t0 : w2.frozen? ⟨w.heap.size, 0, none⟩ = false := bfr hb2 (by simp; omega) (fr_alloc _ (by simp; omega) (fr_alloc _ hz1 t0))
    have a1 : w2.cell? ⟨w'.heap.size, 1, none⟩ = some (.int .i64 0) := bcl hb2 (by simp; omega) (cl_alloc _ (by simp) (by simp))
    have b1 : w2.cell? ⟨w'.heap.size + 1, 1, none⟩ = some (.bool false) := bcl hb2 (by simp) (by simp)
    have f1 : w2.frozen? ⟨w'.heap.size, 1, none⟩ = false := bfr hb2 (by simp; omega) (fr_alloc _ (by simp) (by simp))
    have r1 : w2.cell? ⟨w.heap.size, 1, none⟩ = some (.int .i64 0) := bcl hb2 (by simp; omega) (cl_alloc _ (by simp; omega) (cl_alloc _ hz1 r1))
    have t1 : w2.frozen? ⟨w.heap.size, 1, none⟩ = false := bfr hb2 (by simp; omega) (fr_alloc _ (by simp; omega) (fr_alloc _ hz1 t1))
    have a2 : w2.cell? ⟨w'.heap.size, 2, none⟩ = some (.int .i64 0) := bcl hb2 (by simp; omega) (cl_alloc _ (by simp) (by simp))
    have b2 : w2.cell? ⟨w'.heap.size + 1, 2, none⟩ = some (.bool true) := bcl hb2 (by simp) (by simp)
    have f2 : w2.frozen? ⟨w'.heap.size, 2, none⟩ = false := bfr hb2 (by simp; omega) (fr_alloc _ (by simp) (by simp))
    have r2 : w2.cell? ⟨w.heap.size, 2, none⟩ = some (.int .i64 0) := bcl hb2 (by simp; omega) (cl_alloc _ (by simp; omega) (cl_alloc _ hz1 r2))
    have t2 : w2.frozen? ⟨w.heap.size, 2, none⟩ = false := bfr hb2 (by simp; omega) (fr_alloc _ (by simp; omega) (fr_alloc _ hz1 t2))
    have a3 : w2.cell? ⟨w'.heap.size, 3, none⟩ = some (.int .i64 0) := bcl hb2 (by simp; omega) (cl_alloc _ (by simp) (by simp))
    have b3 : w2.cell? ⟨w'.heap.size + 1, 3, none⟩ = some (.bool false) := bcl hb2 (by simp) (by simp)
    have f3 : w2.frozen? ⟨w'.heap.size, 3, none⟩ = false := bfr hb2 (by simp; omega) (fr_alloc _ (by simp) (by simp))
    have r3 : w2.cell? ⟨w.heap.size, 3, none⟩ = some (.int .i64 0) := bcl hb2 (by simp; omega) (cl_alloc _ (by simp; omega) (cl_alloc _ hz1 r3))
    have t3 : w2.frozen? ⟨w.heap.size, 3, none⟩ = false := bfr hb2 (by simp; omega) (fr_alloc _ (by simp; omega) (fr_alloc _ hz1 t3))
    have hup : Below w.heap.size w w2 := by
      refine Below.trans (b := w') hup (Below.trans ?_ (hb2.mono (by simp; omega)))
      exact Below.alloc (Below.alloc (Below.refl _ _) (by omega) _) (by simp; omega) _
    have hy : w'.heap.size + 1 < w2.heap.size := by have := hb2.size; simp at this; omega
    clear hb2
    have hx : Below w.heap.size w (w2.setCell ⟨w'.heap.size, 2, none⟩ (.int .i64 (numA (rest l)))) := hup.setCell (by simp; omega) _
    have s2 : (w2.setCell ⟨w'.heap.size, 2, none⟩ (.int .i64 (numA (rest l)))).cell? ⟨w'.heap.size, 2, none⟩ = some (.int .i64 (numA (rest l))) := cl_same a2
    have hne : ¬ w'.heap.size = w.heap.size := by omega
    have hne' : ¬ w.heap.size = w'.heap.size := by omega
    go_wp2
    refine bodyPost_ret (v := .agg #[.int .i64 k, .int .i64 0, .int .i64 (numA (rest l)), .int .i64 0]) ?_ rfl ⟨?_, ?_⟩
    · simp [results, Tryd.results35, go_sem, *]
    · have e1 : gK l = k := HK.out
      simp [gA, gB, gN, gR1, gR2, e1, hA, hB, hN]
    · exact (((hx.setCell (by simp) _).setCell (by simp) _).setCell (by simp) _).setCell (by simp) _
  · go_wp2_with fail
    refine (num_any (rest l) _ (he1.up (by repeat (first | exact Below.refl _ _ | assumption | refine Below.drew ?_ | refine Below.alloc ?_ (by first | (simp; done) | (simp; omega)) _ | refine Below.setCell ?_ (by first | (simp; done) | (simp; omega)) _))) (by omega)).mono ?_
    rintro e w2 ⟨rfl, hb2⟩
    have a0 : w2.cell? ⟨w'.heap.size, 0, none⟩ = some (.int .i64 k) := bcl hb2 (by simp; omega) (cl_alloc _ (by simp) (by simp))
    have r0 : w2.cell? ⟨w.heap.size, 0, none⟩ = some (.int .i64 0) := bcl hb2 (by simp; omega) (cl_alloc _ (by simp; omega) (cl_alloc _ hz1 r0))
    have t0 : w2.frozen? ⟨w.heap.size, 0, none⟩ = false := bfr hb2 (by simp; omega) (fr_alloc _ (by simp; omega) (fr_alloc _ hz1 t0))
    have a1 : w2.cell? ⟨w'.heap.size, 1, none⟩ = some (.int .i64 0) := bcl hb2 (by simp; omega) (cl_alloc _ (by simp) (by simp))
    have b1 : w2.cell? ⟨w'.heap.size + 1, 1, none⟩ = some (.bool false) := bcl hb2 (by simp) (by simp)
    have f1 : w2.frozen? ⟨w'.heap.size, 1, none⟩ = false := bfr hb2 (by simp; omega) (fr_alloc _ (by simp) (by simp))
    have r1 : w2.cell? ⟨w.heap.size, 1, none⟩ = some (.int .i64 0) := bcl hb2 (by simp; omega) (cl_alloc _ (by simp; omega) (cl_alloc _ hz1 r1))
    have t1 : w2.frozen? ⟨w.heap.size, 1, none⟩ = false := bfr hb2 (by simp; omega) (fr_alloc _ (by simp; omega) (fr_alloc _ hz1 t1))
    have a2 : w2.cell? ⟨w'.heap.size, 2, none⟩ = some (.int .i64 0) := bcl hb2 (by simp; omega) (cl_alloc _ (by simp) (by simp))
    have b2 : w2.cell? ⟨w'.heap.size + 1, 2, none⟩ = some (.bool true) := bcl hb2 (by simp) (by simp)
    have f2 : w2.frozen? ⟨w'.heap.size, 2, none⟩ = false := bfr hb2 (by simp; omega) (fr_alloc _ (by simp) (by simp))
    have r2 : w2.cell? ⟨w.heap.size, 2, none⟩ = some (.int .i64 0) := bcl hb2 (by simp; omega) (cl_alloc _ (by simp; omega) (cl_alloc _ hz1 r2))
    have t2 : w2.frozen? ⟨w.heap.size, 2, none⟩ = false := bfr hb2 (by simp; omega) (fr_alloc _ (by simp; omega) (fr_alloc _ hz1 t2))
    have a3 : w2.cell? ⟨w'.heap.size, 3, none⟩ = some (.int .i64 0) := bcl hb2 (by simp; omega) (cl_alloc _ (by simp) (by simp))
    have b3 : w2.cell? ⟨w'.heap.size + 1, 3, none⟩ = some (.bool true) := bcl hb2 (by simp) (by simp)
    have f3 : w2.frozen? ⟨w'.heap.size, 3, none⟩ = false := bfr hb2 (by simp; omega) (fr_alloc _ (by simp) (by simp))
    have r3 : w2.cell? ⟨w.heap.size, 3, none⟩ = some (.int .i64 0) := bcl hb2 (by simp; omega) (cl_alloc _ (by simp; omega) (cl_alloc _ hz1 r3))
    have t3 : w2.frozen? ⟨w.heap.size, 3, none⟩ = false := bfr hb2 (by simp; omega) (fr_alloc _ (by simp; omega) (fr_alloc _ hz1 t3))
    have hup : Below w.heap.size w w2 := by
      refine Below.trans (b := w') hup (Below.trans ?_ (hb2.mono (by simp; omega)))
      exact Below.alloc (Below.alloc (Below.refl _ _) (by omega) _) (by simp; omega) _
    have hy : w'.heap.size + 1 < w2.heap.size := by have := hb2.size; simp at this; omega
    clear hb2
    have hx : Below w.heap.size w (w2.setCell ⟨w'.heap.size, 2, none⟩ (.int .i64 (numA (rest l)))) := hup.setCell (by simp; omega) _
    have s2 : (w2.setCell ⟨w'.heap.size, 2, none⟩ (.int .i64 (numA (rest l)))).cell? ⟨w'.heap.size, 2, none⟩ = some (.int .i64 (numA (rest l))) := cl_same a2
    go_wp2_with fail
    refine (num_any (rest (rest l)) _ (he.up hx) (by omega)).mono ?_
    rintro e w3 ⟨rfl, hb2⟩
    have a0 : w3.cell? ⟨w'.heap.size, 0, none⟩ = some (.int .i64 k) := bcl hb2 (by rw [size_set]; omega) (cl_set (Or.inr (by decide)) a0)
    have r0 : w3.cell? ⟨w.heap.size, 0, none⟩ = some (.int .i64 0) := bcl hb2 (by rw [size_set]; omega) (cl_set (Or.inl (by omega)) r0)
    have t0 : w3.frozen? ⟨w.heap.size, 0, none⟩ = false := bfr hb2 (by rw [size_set]; omega) (fr_set t0)
    have a1 : w3.cell? ⟨w'.heap.size, 1, none⟩ = some (.int .i64 0) := bcl hb2 (by rw [size_set]; omega) (cl_set (Or.inr (by decide)) a1)
    have b1 : w3.cell? ⟨w'.heap.size + 1, 1, none⟩ = some (.bool false) := bcl hb2 (by rw [size_set]; omega) (cl_set (Or.inl (by omega)) b1)
    have f1 : w3.frozen? ⟨w'.heap.size, 1, none⟩ = false := bfr hb2 (by rw [size_set]; omega) (fr_set f1)
    have r1 : w3.cell? ⟨w.heap.size, 1, none⟩ = some (.int .i64 0) := bcl hb2 (by rw [size_set]; omega) (cl_set (Or.inl (by omega)) r1)
    have t1 : w3.frozen? ⟨w.heap.size, 1, none⟩ = false := bfr hb2 (by rw [size_set]; omega) (fr_set t1)
    have a2 : w3.cell? ⟨w'.heap.size, 2, none⟩ = some (.int .i64 (numA (rest l))) := bcl hb2 (by rw [size_set]; omega) (cl_same a2)
    have b2 : w3.cell? ⟨w'.heap.size + 1, 2, none⟩ = some (.bool true) := bcl hb2 (by rw [size_set]; omega) (cl_set (Or.inl (by omega)) b2)
    have f2 : w3.frozen? ⟨w'.heap.size, 2, none⟩ = false := bfr hb2 (by rw [size_set]; omega) (fr_set f2)
    have r2 : w3.cell? ⟨w.heap.size, 2, none⟩ = some (.int .i64 0) := bcl hb2 (by rw [size_set]; omega) (cl_set (Or.inl (by omega)) r2)
    have t2 : w3.frozen? ⟨w.heap.size, 2, none⟩ = false := bfr hb2 (by rw [size_set]; omega) (fr_set t2)
    have a3 : w3.cell? ⟨w'.heap.size, 3, none⟩ = some (.int .i64 0) := bcl hb2 (by rw [size_set]; omega) (cl_set (Or.inr (by decide)) a3)
    have b3 : w3.cell? ⟨w'.heap.size + 1, 3, none⟩ = some (.bool true) := bcl hb2 (by rw [size_set]; omega) (cl_set (Or.inl (by omega)) b3)
    have f3 : w3.frozen? ⟨w'.heap.size, 3, none⟩ = false := bfr hb2 (by rw [size_set]; omega) (fr_set f3)
    have r3 : w3.cell? ⟨w.heap.size, 3, none⟩ = some (.int .i64 0) := bcl hb2 (by rw [size_set]; omega) (cl_set (Or.inl (by omega)) r3)
    have t3 : w3.frozen? ⟨w.heap.size, 3, none⟩ = false := bfr hb2 (by rw [size_set]; omega) (fr_set t3)
    have hup : Below w.heap.size w w3 := hx.trans (hb2.mono (by rw [size_set]; omega))
    have hy : w'.heap.size + 1 < w3.heap.size := by have := hb2.size; simp at this; omega
    clear hb2
    have hx : Below w.heap.size w (w3.setCell ⟨w'.heap.size, 3, none⟩ (.int .i64 (numA (rest (rest l))))) := hup.setCell (by simp; omega) _
    have s3 : (w3.setCell ⟨w'.heap.size, 3, none⟩ (.int .i64 (numA (rest (rest l))))).cell? ⟨w'.heap.size, 3, none⟩ = some (.int .i64 (numA (rest (rest l)))) := cl_same a3
    have hne : ¬ w'.heap.size = w.heap.size := by omega
    have hne' : ¬ w.heap.size = w'.heap.size := by omega
    go_wp2
    refine bodyPost_ret (v := .agg #[.int .i64 k, .int .i64 0, .int .i64 (numA (rest l)), .int .i64 (numA (rest (rest l)))]) ?_ rfl ⟨?_, ?_⟩
    · simp [results, Tryd.results35, go_sem, *]
    · have e1 : gK l = k := HK.out
      simp [gA, gB, gN, gR1, gR2, e1, hA, hB, hN]
    · exact (((hx.setCell (by simp) _).setCell (by simp) _).setCell (by simp) _).setCell (by simp) _
  · go_wp2_with fail
    refine (num_any (rest l) _ (he1.up (by repeat (first | exact Below.refl _ _ | assumption | refine Below.drew ?_ | refine Below.alloc ?_ (by first | (simp; done) | (simp; omega)) _ | refine Below.setCell ?_ (by first | (simp; done) | (simp; omega)) _))) (by omega)).mono ?_
    rintro e w2 ⟨rfl, hb2⟩
    have a0 : w2.cell? ⟨w'.heap.size, 0, none⟩ = some (.int .i64 k) := bcl hb2 (by simp; omega) (cl_alloc _ (by simp) (by simp))
    have r0 : w2.cell? ⟨w.heap.size, 0, none⟩ = some (.int .i64 0) := bcl hb2 (by simp; omega) (cl_alloc _ (by simp; omega) (cl_alloc _ hz1 r0))
    have t0 : w2.frozen? ⟨w.heap.size, 0, none⟩ = false := bfr hb2 (by simp; omega) (fr_alloc _ (by simp; omega) (fr_alloc _ hz1 t0))
    have a1 : w2.cell? ⟨w'.heap.size, 1, none⟩ = some (.int .i64 0) := bcl hb2 (by simp; omega) (cl_alloc _ (by simp) (by simp))
    have b1 : w2.cell? ⟨w'.heap.size + 1, 1, none⟩ = some (.bool true) := bcl hb2 (by simp) (by simp)
    have f1 : w2.frozen? ⟨w'.heap.size, 1, none⟩ = false := bfr hb2 (by simp; omega) (fr_alloc _ (by simp) (by simp))
    have r1 : w2.cell? ⟨w.heap.size, 1, none⟩ = some (.int .i64 0) := bcl hb2 (by simp; omega) (cl_alloc _ (by simp; omega) (cl_alloc _ hz1 r1))
    have t1 : w2.frozen? ⟨w.heap.size, 1, none⟩ = false := bfr hb2 (by simp; omega) (fr_alloc _ (by simp; omega) (fr_alloc _ hz1 t1))
    have a2 : w2.cell? ⟨w'.heap.size, 2, none⟩ = some (.int .i64 0) := bcl hb2 (by simp; omega) (cl_alloc _ (by simp) (by simp))
    have b2 : w2.cell? ⟨w'.heap.size + 1, 2, none⟩ = some (.bool false) := bcl hb2 (by simp) (by simp)
    have f2 : w2.frozen? ⟨w'.heap.size, 2, none⟩ = false := bfr hb2 (by simp; omega) (fr_alloc _ (by simp) (by simp))
    have r2 : w2.cell? ⟨w.heap.size, 2, none⟩ = some (.int .i64 0) := bcl hb2 (by simp; omega) (cl_alloc _ (by simp; omega) (cl_alloc _ hz1 r2))
    have t2 : w2.frozen? ⟨w.heap.size, 2, none⟩ = false := bfr hb2 (by simp; omega) (fr_alloc _ (by simp; omega) (fr_alloc _ hz1 t2))
    have a3 : w2.cell? ⟨w'.heap.size, 3, none⟩ = some (.int .i64 0) := bcl hb2 (by simp; omega) (cl_alloc _ (by simp) (by simp))
    have b3 : w2.cell? ⟨w'.heap.size + 1, 3, none⟩ = some (.bool false) := bcl hb2 (by simp) (by simp)
    have f3 : w2.frozen? ⟨w'.heap.size, 3, none⟩ = false := bfr hb2 (by simp; omega) (fr_alloc _ (by simp) (by simp))
    have r3 : w2.cell? ⟨w.heap.size, 3, none⟩ = some (.int .i64 0) := bcl hb2 (by simp; omega) (cl_alloc _ (by simp; omega) (cl_alloc _ hz1 r3))
    have t3 : w2.frozen? ⟨w.heap.size, 3, none⟩ = false := bfr hb2 (by simp; omega) (fr_alloc _ (by simp; omega) (fr_alloc _ hz1 t3))
    have hup : Below w.heap.size w w2 := by
      refine Below.trans (b := w') hup (Below.trans ?_ (hb2.mono (by simp; omega)))
      exact Below.alloc (Below.alloc (Below.refl _ _) (by omega) _) (by simp; omega) _
    have hy : w'.heap.size + 1 < w2.heap.size := by have := hb2.size; simp at this; omega
    clear hb2
    have hx : Below w.heap.size w (w2.setCell ⟨w'.heap.size, 1, none⟩ (.int .i64 (numA (rest l)))) := hup.setCell (by simp; omega) _
    have s1 : (w2.setCell ⟨w'.heap.size, 1, none⟩ (.int .i64 (numA (rest l)))).cell? ⟨w'.heap.size, 1, none⟩ = some (.int .i64 (numA (rest l))) := cl_same a1
    have hne : ¬ w'.heap.size = w.heap.size := by omega
    have hne' : ¬ w.heap.size = w'.heap.size := by omega
    go_wp2
    refine bodyPost_ret (v := .agg #[.int .i64 k, .int .i64 (numA (rest l)), .int .i64 0, .int .i64 0]) ?_ rfl ⟨?_, ?_⟩
    · simp [results, Tryd.results35, go_sem, *]
    · have e1 : gK l = k := HK.out
      simp [gA, gB, gN, gR1, gR2, e1, hA, hB, hN]
    · exact (((hx.setCell (by simp) _).setCell (by simp) _).setCell (by simp) _).setCell (by simp) _
  · go_wp2_with fail
    refine (num_any (rest l) _ (he1.up (by repeat (first | exact Below.refl _ _ | assumption | refine Below.drew ?_ | refine Below.alloc ?_ (by first | (simp; done) | (simp; omega)) _ | refine Below.setCell ?_ (by first | (simp; done) | (simp; omega)) _))) (by omega)).mono ?_
    rintro e w2 ⟨rfl, hb2⟩
    have a0 : w2.cell? ⟨w'.heap.size, 0, none⟩ = some (.int .i64 k) := bcl hb2 (by simp; omega) (cl_alloc _ (by simp) (by simp))
    have r0 : w2.cell? ⟨w.heap.size, 0, none⟩ = some (.int .i64 0) := bcl hb2 (by simp; omega) (cl_alloc _ (by simp; omega) (cl_alloc _ hz1 r0))
    have t0 : w2.frozen? ⟨w.heap.size, 0, none⟩ = false := bfr hb2 (by simp; omega) (fr_alloc _ (by simp; omega) (fr_alloc _ hz1 t0))
    have a1 : w2.cell? ⟨w'.heap.size, 1, none⟩ = some (.int .i64 0) := bcl hb2 (by simp; omega) (cl_alloc _ (by simp) (by simp))
    have b1 : w2.cell? ⟨w'.heap.size + 1, 1, none⟩ = some (.bool true) := bcl hb2 (by simp) (by simp)
    have f1 : w2.frozen? ⟨w'.heap.size, 1, none⟩ = false := bfr hb2 (by simp; omega) (fr_alloc _ (by simp) (by simp))
    have r1 : w2.cell? ⟨w.heap.size, 1, none⟩ = some (.int .i64 0) := bcl hb2 (by simp; omega) (cl_alloc _ (by simp; omega) (cl_alloc _ hz1 r1))
    have t1 : w2.frozen? ⟨w.heap.size, 1, none⟩ = false := bfr hb2 (by simp; omega) (fr_alloc _ (by simp; omega) (fr_alloc _ hz1 t1))
    have a2 : w2.cell? ⟨w'.heap.size, 2, none⟩ = some (.int .i64 0) := bcl hb2 (by simp; omega) (cl_alloc _ (by simp) (by simp))
    have b2 : w2.cell? ⟨w'.heap.size + 1, 2, none⟩ = some (.bool false) := bcl hb2 (by simp) (by simp)
    have f2 : w2.frozen? ⟨w'.heap.size, 2, none⟩ = false := bfr hb2 (by simp; omega) (fr_alloc _ (by simp) (by simp))
    have r2 : w2.cell? ⟨w.heap.size, 2, none⟩ = some (.int .i64 0) := bcl hb2 (by simp; omega) (cl_alloc _ (by simp; omega) (cl_alloc _ hz1 r2))
    have t2 : w2.frozen? ⟨w.heap.size, 2, none⟩ = false := bfr hb2 (by simp; omega) (fr_alloc _ (by simp; omega) (fr_alloc _ hz1 t2))
    have a3 : w2.cell? ⟨w'.heap.size, 3, none⟩ = some (.int .i64 0) := bcl hb2 (by simp; omega) (cl_alloc _ (by simp) (by simp))
    have b3 : w2.cell? ⟨w'.heap.size + 1, 3, none⟩ = some (.bool true) := bcl hb2 (by simp) (by simp)
    have f3 : w2.frozen? ⟨w'.heap.size, 3, none⟩ = false := bfr hb2 (by simp; omega) (fr_alloc _ (by simp) (by simp))
    have r3 : w2.cell? ⟨w.heap.size, 3, none⟩ = some (.int .i64 0) := bcl hb2 (by simp; omega) (cl_alloc _ (by simp; omega) (cl_alloc _ hz1 r3))
    have t3 : w2.frozen? ⟨w.heap.size, 3, none⟩ = false := bfr hb2 (by simp; omega) (fr_alloc _ (by simp; omega) (fr_alloc _ hz1 t3))
    have hup : Below w.heap.size w w2 := by
      refine Below.trans (b := w') hup (Below.trans ?_ (hb2.mono (by simp; omega)))
      exact Below.alloc (Below.alloc (Below.refl _ _) (by omega) _) (by simp; omega) _
    have hy : w'.heap.size + 1 < w2.heap.size := by have := hb2.size; simp at this; omega
    clear hb2
    have hx : Below w.heap.size w (w2.setCell ⟨w'.heap.size, 1, none⟩ (.int .i64 (numA (rest l)))) := hup.setCell (by simp; omega) _
    have s1 : (w2.setCell ⟨w'.heap.size, 1, none⟩ (.int .i64 (numA (rest l)))).cell? ⟨w'.heap.size, 1, none⟩ = some (.int .i64 (numA (rest l))) := cl_same a1
    go_wp2_with fail
    refine (num_any (rest (rest l)) _ (he.up hx) (by omega)).mono ?_
    rintro e w3 ⟨rfl, hb2⟩
    have a0 : w3.cell? ⟨w'.heap.size, 0, none⟩ = some (.int .i64 k) := bcl hb2 (by rw [size_set]; omega) (cl_set (Or.inr (by decide)) a0)
    have r0 : w3.cell? ⟨w.heap.size, 0, none⟩ = some (.int .i64 0) := bcl hb2 (by rw [size_set]; omega) (cl_set (Or.inl (by omega)) r0)
    have t0 : w3.frozen? ⟨w.heap.size, 0, none⟩ = false := bfr hb2 (by rw [size_set]; omega) (fr_set t0)
    have a1 : w3.cell? ⟨w'.heap.size, 1, none⟩ = some (.int .i64 (numA (rest l))) := bcl hb2 (by rw [size_set]; omega) (cl_same a1)
    have b1 : w3.cell? ⟨w'.heap.size + 1, 1, none⟩ = some (.bool true) := bcl hb2 (by rw [size_set]; omega) (cl_set (Or.inl (by omega)) b1)
    have f1 : w3.frozen? ⟨w'.heap.size, 1, none⟩ = false := bfr hb2 (by rw [size_set]; omega) (fr_set f1)
    have r1 : w3.cell? ⟨w.heap.size, 1, none⟩ = some (.int .i64 0) := bcl hb2 (by rw [size_set]; omega) (cl_set (Or.inl (by omega)) r1)
    have t1 : w3.frozen? ⟨w.heap.size, 1, none⟩ = false := bfr hb2 (by rw [size_set]; omega) (fr_set t1)
    have a2 : w3.cell? ⟨w'.heap.size, 2, none⟩ = some (.int .i64 0) := bcl hb2 (by rw [size_set]; omega) (cl_set (Or.inr (by decide)) a2)
    have b2 : w3.cell? ⟨w'.heap.size + 1, 2, none⟩ = some (.bool false) := bcl hb2 (by rw [size_set]; omega) (cl_set (Or.inl (by omega)) b2)
    have f2 : w3.frozen? ⟨w'.heap.size, 2, none⟩ = false := bfr hb2 (by rw [size_set]; omega) (fr_set f2)
    have r2 : w3.cell? ⟨w.heap.size, 2, none⟩ = some (.int .i64 0) := bcl hb2 (by rw [size_set]; omega) (cl_set (Or.inl (by omega)) r2)
    have t2 : w3.frozen? ⟨w.heap.size, 2, none⟩ = false := bfr hb2 (by rw [size_set]; omega) (fr_set t2)
    have a3 : w3.cell? ⟨w'.heap.size, 3, none⟩ = some (.int .i64 0) := bcl hb2 (by rw [size_set]; omega) (cl_set (Or.inr (by decide)) a3)
    have b3 : w3.cell? ⟨w'.heap.size + 1, 3, none⟩ = some (.bool true) := bcl hb2 (by rw [size_set]; omega) (cl_set (Or.inl (by omega)) b3)
    have f3 : w3.frozen? ⟨w'.heap.size, 3, none⟩ = false := bfr hb2 (by rw [size_set]; omega) (fr_set f3)
    have r3 : w3.cell? ⟨w.heap.size, 3, none⟩ = some (.int .i64 0) := bcl hb2 (by rw [size_set]; omega) (cl_set (Or.inl (by omega)) r3)
    have t3 : w3.frozen? ⟨w.heap.size, 3, none⟩ = false := bfr hb2 (by rw [size_set]; omega) (fr_set t3)
    have hup : Below w.heap.size w w3 := hx.trans (hb2.mono (by rw [size_set]; omega))
    have hy : w'.heap.size + 1 < w3.heap.size := by have := hb2.size; simp at this; omega
    clear hb2
    have hx : Below w.heap.size w (w3.setCell ⟨w'.heap.size, 3, none⟩ (.int .i64 (numA (rest (rest l))))) := hup.setCell (by simp; omega) _
    have s3 : (w3.setCell ⟨w'.heap.size, 3, none⟩ (.int .i64 (numA (rest (rest l))))).cell? ⟨w'.heap.size, 3, none⟩ = some (.int .i64 (numA (rest (rest l)))) := cl_same a3
    have hne : ¬ w'.heap.size = w.heap.size := by omega
    have hne' : ¬ w.heap.size = w'.heap.size := by omega
    go_wp2
    refine bodyPost_ret (v := .agg #[.int .i64 k, .int .i64 (numA (rest l)), .int .i64 0, .int .i64 (numA (rest (rest l)))]) ?_ rfl ⟨?_, ?_⟩
    · simp [results, Tryd.results35, go_sem, *]
    · have e1 : gK l = k := HK.out
      simp [gA, gB, gN, gR1, gR2, e1, hA, hB, hN]
    · exact (((hx.setCell (by simp) _).setCell (by simp) _).setCell (by simp) _).setCell (by simp) _
  · go_wp2_with fail
    refine (num_any (rest l) _ (he1.up (by repeat (first | exact Below.refl _ _ | assumption | refine Below.drew ?_ | refine Below.alloc ?_ (by first | (simp; done) | (simp; omega)) _ | refine Below.setCell ?_ (by first | (simp; done) | (simp; omega)) _))) (by omega)).mono ?_
    rintro e w2 ⟨rfl, hb2⟩
    have a0 : w2.cell? ⟨w'.heap.size, 0, none⟩ = some (.int .i64 k) := bcl hb2 (by simp; omega) (cl_alloc _ (by simp) (by simp))
    have r0 : w2.cell? ⟨w.heap.size, 0, none⟩ = some (.int .i64 0) := bcl hb2 (by simp; omega) (cl_alloc _ (by simp; omega) (cl_alloc _ hz1 r0))
    have t0 : w2.frozen? ⟨w.heap.size, 0, none⟩ = false := bfr hb2 (by simp; omega) (fr_alloc _ (by simp; omega) (fr_alloc _ hz1 t0))
    have a1 : w2.cell? ⟨w'.heap.size, 1, none⟩ = some (.int .i64 0) := bcl hb2 (by simp; omega) (cl_alloc _ (by simp) (by simp))
    have b1 : w2.cell? ⟨w'.heap.size + 1, 1, none⟩ = some (.bool true) := bcl hb2 (by simp) (by simp)
    have f1 : w2.frozen? ⟨w'.heap.size, 1, none⟩ = false := bfr hb2 (by simp; omega) (fr_alloc _ (by simp) (by simp))
    have r1 : w2.cell? ⟨w.heap.size, 1, none⟩ = some (.int .i64 0) := bcl hb2 (by simp; omega) (cl_alloc _ (by simp; omega) (cl_alloc _ hz1 r1))
    have t1 : w2.frozen? ⟨w.heap.size, 1, none⟩ = false := bfr hb2 (by simp; omega) (fr_alloc _ (by simp; omega) (fr_alloc _ hz1 t1))
    have a2 : w2.cell? ⟨w'.heap.size, 2, none⟩ = some (.int .i64 0) := bcl hb2 (by simp; omega) (cl_alloc _ (by simp) (by simp))
    have b2 : w2.cell? ⟨w'.heap.size + 1, 2, none⟩ = some (.bool true) := bcl hb2 (by simp) (by simp)
    have f2 : w2.frozen? ⟨w'.heap.size, 2, none⟩ = false := bfr hb2 (by simp; omega) (fr_alloc _ (by simp) (by simp))
    have r2 : w2.cell? ⟨w.heap.size, 2, none⟩ = some (.int .i64 0) := bcl hb2 (by simp; omega) (cl_alloc _ (by simp; omega) (cl_alloc _ hz1 r2))
    have t2 : w2.frozen? ⟨w.heap.size, 2, none⟩ = false := bfr hb2 (by simp; omega) (fr_alloc _ (by simp; omega) (fr_alloc _ hz1 t2))
    have a3 : w2.cell? ⟨w'.heap.size, 3, none⟩ = some (.int .i64 0) := bcl hb2 (by simp; omega) (cl_alloc _ (by simp) (by simp))
    have b3 : w2.cell? ⟨w'.heap.size + 1, 3, none⟩ = some (.bool false) := bcl hb2 (by simp) (by simp)
    have f3 : w2.frozen? ⟨w'.heap.size, 3, none⟩ = false := bfr hb2 (by simp; omega) (fr_alloc _ (by simp) (by simp))
    have r3 : w2.cell? ⟨w.heap.size, 3, none⟩ = some (.int .i64 0) := bcl hb2 (by simp; omega) (cl_alloc _ (by simp; omega) (cl_alloc _ hz1 r3))
    have t3 : w2.frozen? ⟨w.heap.size, 3, none⟩ = false := bfr hb2 (by simp; omega) (fr_alloc _ (by simp; omega) (fr_alloc _ hz1 t3))
    have hup : Below w.heap.size w w2 := by
      refine Below.trans (b := w') hup (Below.trans ?_ (hb2.mono (by simp; omega)))
      exact Below.alloc (Below.alloc (Below.refl _ _) (by omega) _) (by simp; omega) _
    have hy : w'.heap.size + 1 < w2.heap.size := by have := hb2.size; simp at this; omega
    clear hb2
    have hx : Below w.heap.size w (w2.setCell ⟨w'.heap.size, 1, none⟩ (.int .i64 (numA (rest l)))) := hup.setCell (by simp; omega) _
    have s1 : (w2.setCell ⟨w'.heap.size, 1, none⟩ (.int .i64 (numA (rest l)))).cell? ⟨w'.heap.size, 1, none⟩ = some (.int .i64 (numA (rest l))) := cl_same a1
    go_wp2_with fail
    refine (num_any (rest (rest l)) _ (he.up hx) (by omega)).mono ?_
    rintro e w3 ⟨rfl, hb2⟩
    have a0 : w3.cell? ⟨w'.heap.size, 0, none⟩ = some (.int .i64 k) := bcl hb2 (by rw [size_set]; omega) (cl_set (Or.inr (by decide)) a0)
    have r0 : w3.cell? ⟨w.heap.size, 0, none⟩ = some (.int .i64 0) := bcl hb2 (by rw [size_set]; omega) (cl_set (Or.inl (by omega)) r0)
    have t0 : w3.frozen? ⟨w.heap.size, 0, none⟩ = false := bfr hb2 (by rw [size_set]; omega) (fr_set t0)
    have a1 : w3.cell? ⟨w'.heap.size, 1, none⟩ = some (.int .i64 (numA (rest l))) := bcl hb2 (by rw [size_set]; omega) (cl_same a1)
    have b1 : w3.cell? ⟨w'.heap.size + 1, 1, none⟩ = some (.bool true) := bcl hb2 (by rw [size_set]; omega) (cl_set (Or.inl (by omega)) b1)
    have f1 : w3.frozen? ⟨w'.heap.size, 1, none⟩ = false := bfr hb2 (by rw [size_set]; omega) (fr_set f1)
    have r1 : w3.cell? ⟨w.heap.size, 1, none⟩ = some (.int .i64 0) := bcl hb2 (by rw [size_set]; omega) (cl_set (Or.inl (by omega)) r1)
    have t1 : w3.frozen? ⟨w.heap.size, 1, none⟩ = false := bfr hb2 (by rw [size_set]; omega) (fr_set t1)
    have a2 : w3.cell? ⟨w'.heap.size, 2, none⟩ = some (.int .i64 0) := bcl hb2 (by rw [size_set]; omega) (cl_set (Or.inr (by decide)) a2)
    have b2 : w3.cell? ⟨w'.heap.size + 1, 2, none⟩ = some (.bool true) := bcl hb2 (by rw [size_set]; omega) (cl_set (Or.inl (by omega)) b2)
    have f2 : w3.frozen? ⟨w'.heap.size, 2, none⟩ = false := bfr hb2 (by rw [size_set]; omega) (fr_set f2)
    have r2 : w3.cell? ⟨w.heap.size, 2, none⟩ = some (.int .i64 0) := bcl hb2 (by rw [size_set]; omega) (cl_set (Or.inl (by omega)) r2)
    have t2 : w3.frozen? ⟨w.heap.size, 2, none⟩ = false := bfr hb2 (by rw [size_set]; omega) (fr_set t2)
    have a3 : w3.cell? ⟨w'.heap.size, 3, none⟩ = some (.int .i64 0) := bcl hb2 (by rw [size_set]; omega) (cl_set (Or.inr (by decide)) a3)
    have b3 : w3.cell? ⟨w'.heap.size + 1, 3, none⟩ = some (.bool false) := bcl hb2 (by rw [size_set]; omega) (cl_set (Or.inl (by omega)) b3)
    have f3 : w3.frozen? ⟨w'.heap.size, 3, none⟩ = false := bfr hb2 (by rw [size_set]; omega) (fr_set f3)
    have r3 : w3.cell? ⟨w.heap.size, 3, none⟩ = some (.int .i64 0) := bcl hb2 (by rw [size_set]; omega) (cl_set (Or.inl (by omega)) r3)
    have t3 : w3.frozen? ⟨w.heap.size, 3, none⟩ = false := bfr hb2 (by rw [size_set]; omega) (fr_set t3)
    have hup : Below w.heap.size w w3 := hx.trans (hb2.mono (by rw [size_set]; omega))
    have hy : w'.heap.size + 1 < w3.heap.size := by have := hb2.size; simp at this; omega
    clear hb2
    have hx : Below w.heap.size w (w3.setCell ⟨w'.heap.size, 2, none⟩ (.int .i64 (numA (rest (rest l))))) := hup.setCell (by simp; omega) _
    have s2 : (w3.setCell ⟨w'.heap.size, 2, none⟩ (.int .i64 (numA (rest (rest l))))).cell? ⟨w'.heap.size, 2, none⟩ = some (.int .i64 (numA (rest (rest l)))) := cl_same a2
    have hne : ¬ w'.heap.size = w.heap.size := by omega
    have hne' : ¬ w.heap.size = w'.heap.size := by omega
    go_wp2
    refine bodyPost_ret (v := .agg #[.int .i64 k, .int .i64 (numA (rest l)), .int .i64 (numA (rest (rest l))), .int .i64 0]) ?_ rfl ⟨?_, ?_⟩
    · simp [results, Tryd.results35, go_sem, *]
    · have e1 : gK l = k := HK.out
      simp [gA, gB, gN, gR1, gR2, e1, hA, hB, hN]
    · exact (((hx.setCell (by simp) _).setCell (by simp) _).setCell (by simp) _).setCell (by simp) _
  · go_wp2_with fail
    refine (num_any (rest l) _ (he1.up (by repeat (first | exact Below.refl _ _ | assumption | refine Below.drew ?_ | refine Below.alloc ?_ (by first | (simp; done) | (simp; omega)) _ | refine Below.setCell ?_ (by first | (simp; done) | (simp; omega)) _))) (by omega)).mono ?_
    rintro e w2 ⟨rfl, hb2⟩
    have a0 : w2.cell? ⟨w'.heap.size, 0, none⟩ = some (.int .i64 k) := bcl hb2 (by simp; omega) (cl_alloc _ (by simp) (by simp))
    have r0 : w2.cell? ⟨w.heap.size, 0, none⟩ = some (.int .i64 0) := bcl hb2 (by simp; omega) (cl_alloc _ (by simp; omega) (cl_alloc _ hz1 r0))
    have t0 : w2.frozen? ⟨w.heap.size, 0, none⟩ = false := bfr hb2 (by simp; omega) (fr_alloc _ (by simp; omega) (fr_alloc _ hz1 t0))
    have a1 : w2.cell? ⟨w'.heap.size, 1, none⟩ = some (.int .i64 0) := bcl hb2 (by simp; omega) (cl_alloc _ (by simp) (by simp))
    have b1 : w2.cell? ⟨w'.heap.size + 1, 1, none⟩ = some (.bool true) := bcl hb2 (by simp) (by simp)
    have f1 : w2.frozen? ⟨w'.heap.size, 1, none⟩ = false := bfr hb2 (by simp; omega) (fr_alloc _ (by simp) (by simp))
    have r1 : w2.cell? ⟨w.heap.size, 1, none⟩ = some (.int .i64 0) := bcl hb2 (by simp; omega) (cl_alloc _ (by simp; omega) (cl_alloc _ hz1 r1))
    have t1 : w2.frozen? ⟨w.heap.size, 1, none⟩ = false := bfr hb2 (by simp; omega) (fr_alloc _ (by simp; omega) (fr_alloc _ hz1 t1))
    have a2 : w2.cell? ⟨w'.heap.size, 2, none⟩ = some (.int .i64 0) := bcl hb2 (by simp; omega) (cl_alloc _ (by simp) (by simp))
    have b2 : w2.cell? ⟨w'.heap.size + 1, 2, none⟩ = some (.bool true) := bcl hb2 (by simp) (by simp)
    have f2 : w2.frozen? ⟨w'.heap.size, 2, none⟩ = false := bfr hb2 (by simp; omega) (fr_alloc _ (by simp) (by simp))
    have r2 : w2.cell? ⟨w.heap.size, 2, none⟩ = some (.int .i64 0) := bcl hb2 (by simp; omega) (cl_alloc _ (by simp; omega) (cl_alloc _ hz1 r2))
    have t2 : w2.frozen? ⟨w.heap.size, 2, none⟩ = false := bfr hb2 (by simp; omega) (fr_alloc _ (by simp; omega) (fr_alloc _ hz1 t2))
    have a3 : w2.cell? ⟨w'.heap.size, 3, none⟩ = some (.int .i64 0) := bcl hb2 (by simp; omega) (cl_alloc _ (by simp) (by simp))
    have b3 : w2.cell? ⟨w'.heap.size + 1, 3, none⟩ = some (.bool true) := bcl hb2 (by simp) (by simp)
    have f3 : w2.frozen? ⟨w'.heap.size, 3, none⟩ = false := bfr hb2 (by simp; omega) (fr_alloc _ (by simp) (by simp))
    have r3 : w2.cell? ⟨w.heap.size, 3, none⟩ = some (.int .i64 0) := bcl hb2 (by simp; omega) (cl_alloc _ (by simp; omega) (cl_alloc _ hz1 r3))
    have t3 : w2.frozen? ⟨w.heap.size, 3, none⟩ = false := bfr hb2 (by simp; omega) (fr_alloc _ (by simp; omega) (fr_alloc _ hz1 t3))
    have hup : Below w.heap.size w w2 := by
      refine Below.trans (b := w') hup (Below.trans ?_ (hb2.mono (by simp; omega)))
      exact Below.alloc (Below.alloc (Below.refl _ _) (by omega) _) (by simp; omega) _
    have hy : w'.heap.size + 1 < w2.heap.size := by have := hb2.size; simp at this; omega
    clear hb2
    have hx : Below w.heap.size w (w2.setCell ⟨w'.heap.size, 1, none⟩ (.int .i64 (numA (rest l)))) := hup.setCell (by simp; omega) _
    have s1 : (w2.setCell ⟨w'.heap.size, 1, none⟩ (.int .i64 (numA (rest l)))).cell? ⟨w'.heap.size, 1, none⟩ = some (.int .i64 (numA (rest l))) := cl_same a1
    go_wp2_with fail
    refine (num_any (rest (rest l)) _ (he.up hx) (by omega)).mono ?_
    rintro e w3 ⟨rfl, hb2⟩
    have a0 : w3.cell? ⟨w'.heap.size, 0, none⟩ = some (.int .i64 k) := bcl hb2 (by rw [size_set]; omega) (cl_set (Or.inr (by decide)) a0)
    have r0 : w3.cell? ⟨w.heap.size, 0, none⟩ = some (.int .i64 0) := bcl hb2 (by rw [size_set]; omega) (cl_set (Or.inl (by omega)) r0)
    have t0 : w3.frozen? ⟨w.heap.size, 0, none⟩ = false := bfr hb2 (by rw [size_set]; omega) (fr_set t0)
    have a1 : w3.cell? ⟨w'.heap.size, 1, none⟩ = some (.int .i64 (numA (rest l))) := bcl hb2 (by rw [size_set]; omega) (cl_same a1)
    have b1 : w3.cell? ⟨w'.heap.size + 1, 1, none⟩ = some (.bool true) := bcl hb2 (by rw [size_set]; omega) (cl_set (Or.inl (by omega)) b1)
    have f1 : w3.frozen? ⟨w'.heap.size, 1, none⟩ = false := bfr hb2 (by rw [size_set]; omega) (fr_set f1)
    have r1 : w3.cell? ⟨w.heap.size, 1, none⟩ = some (.int .i64 0) := bcl hb2 (by rw [size_set]; omega) (cl_set (Or.inl (by omega)) r1)
    have t1 : w3.frozen? ⟨w.heap.size, 1, none⟩ = false := bfr hb2 (by rw [size_set]; omega) (fr_set t1)
    have a2 : w3.cell? ⟨w'.heap.size, 2, none⟩ = some (.int .i64 0) := bcl hb2 (by rw [size_set]; omega) (cl_set (Or.inr (by decide)) a2)
    have b2 : w3.cell? ⟨w'.heap.size + 1, 2, none⟩ = some (.bool true) := bcl hb2 (by rw [size_set]; omega) (cl_set (Or.inl (by omega)) b2)
    have f2 : w3.frozen? ⟨w'.heap.size, 2, none⟩ = false := bfr hb2 (by rw [size_set]; omega) (fr_set f2)
    have r2 : w3.cell? ⟨w.heap.size, 2, none⟩ = some (.int .i64 0) := bcl hb2 (by rw [size_set]; omega) (cl_set (Or.inl (by omega)) r2)
    have t2 : w3.frozen? ⟨w.heap.size, 2, none⟩ = false := bfr hb2 (by rw [size_set]; omega) (fr_set t2)
    have a3 : w3.cell? ⟨w'.heap.size, 3, none⟩ = some (.int .i64 0) := bcl hb2 (by rw [size_set]; omega) (cl_set (Or.inr (by decide)) a3)
    have b3 : w3.cell? ⟨w'.heap.size + 1, 3, none⟩ = some (.bool true) := bcl hb2 (by rw [size_set]; omega) (cl_set (Or.inl (by omega)) b3)
    have f3 : w3.frozen? ⟨w'.heap.size, 3, none⟩ = false := bfr hb2 (by rw [size_set]; omega) (fr_set f3)
    have r3 : w3.cell? ⟨w.heap.size, 3, none⟩ = some (.int .i64 0) := bcl hb2 (by rw [size_set]; omega) (cl_set (Or.inl (by omega)) r3)
    have t3 : w3.frozen? ⟨w.heap.size, 3, none⟩ = false := bfr hb2 (by rw [size_set]; omega) (fr_set t3)
    have hup : Below w.heap.size w w3 := hx.trans (hb2.mono (by rw [size_set]; omega))
    have hy : w'.heap.size + 1 < w3.heap.size := by have := hb2.size; simp at this; omega
    clear hb2
    have hx : Below w.heap.size w (w3.setCell ⟨w'.heap.size, 2, none⟩ (.int .i64 (numA (rest (rest l))))) := hup.setCell (by simp; omega) _
    have s2 : (w3.setCell ⟨w'.heap.size, 2, none⟩ (.int .i64 (numA (rest (rest l))))).cell? ⟨w'.heap.size, 2, none⟩ = some (.int .i64 (numA (rest (rest l)))) := cl_same a2
    go_wp2_with fail
    refine (num_any (rest (rest (rest l))) _ (he.up hx) (by omega)).mono ?_
    rintro e w4 ⟨rfl, hb2⟩
    have a0 : w4.cell? ⟨w'.heap.size, 0, none⟩ = some (.int .i64 k) := bcl hb2 (by rw [size_set]; omega) (cl_set (Or.inr (by decide)) a0)
    have r0 : w4.cell? ⟨w.heap.size, 0, none⟩ = some (.int .i64 0) := bcl hb2 (by rw [size_set]; omega) (cl_set (Or.inl (by omega)) r0)
    have t0 : w4.frozen? ⟨w.heap.size, 0, none⟩ = false := bfr hb2 (by rw [size_set]; omega) (fr_set t0)
    have a1 : w4.cell? ⟨w'.heap.size, 1, none⟩ = some (.int .i64 (numA (rest l))) := bcl hb2 (by rw [size_set]; omega) (cl_set (Or.inr (by decide)) a1)
    have b1 : w4.cell? ⟨w'.heap.size + 1, 1, none⟩ = some (.bool true) := bcl hb2 (by rw [size_set]; omega) (cl_set (Or.inl (by omega)) b1)
    have f1 : w4.frozen? ⟨w'.heap.size, 1, none⟩ = false := bfr hb2 (by rw [size_set]; omega) (fr_set f1)
    have r1 : w4.cell? ⟨w.heap.size, 1, none⟩ = some (.int .i64 0) := bcl hb2 (by rw [size_set]; omega) (cl_set (Or.inl (by omega)) r1)
    have t1 : w4.frozen? ⟨w.heap.size, 1, none⟩ = false := bfr hb2 (by rw [size_set]; omega) (fr_set t1)
    have a2 : w4.cell? ⟨w'.heap.size, 2, none⟩ = some (.int .i64 (numA (rest (rest l)))) := bcl hb2 (by rw [size_set]; omega) (cl_same a2)
    have b2 : w4.cell? ⟨w'.heap.size + 1, 2, none⟩ = some (.bool true) := bcl hb2 (by rw [size_set]; omega) (cl_set (Or.inl (by omega)) b2)
    have f2 : w4.frozen? ⟨w'.heap.size, 2, none⟩ = false := bfr hb2 (by rw [size_set]; omega) (fr_set f2)
    have r2 : w4.cell? ⟨w.heap.size, 2, none⟩ = some (.int .i64 0) := bcl hb2 (by rw [size_set]; omega) (cl_set (Or.inl (by omega)) r2)
    have t2 : w4.frozen? ⟨w.heap.size, 2, none⟩ = false := bfr hb2 (by rw [size_set]; omega) (fr_set t2)
    have a3 : w4.cell? ⟨w'.heap.size, 3, none⟩ = some (.int .i64 0) := bcl hb2 (by rw [size_set]; omega) (cl_set (Or.inr (by decide)) a3)
    have b3 : w4.cell? ⟨w'.heap.size + 1, 3, none⟩ = some (.bool true) := bcl hb2 (by rw [size_set]; omega) (cl_set (Or.inl (by omega)) b3)
    have f3 : w4.frozen? ⟨w'.heap.size, 3, none⟩ = false := bfr hb2 (by rw [size_set]; omega) (fr_set f3)
    have r3 : w4.cell? ⟨w.heap.size, 3, none⟩ = some (.int .i64 0) := bcl hb2 (by rw [size_set]; omega) (cl_set (Or.inl (by omega)) r3)
    have t3 : w4.frozen? ⟨w.heap.size, 3, none⟩ = false := bfr hb2 (by rw [size_set]; omega) (fr_set t3)
    have hup : Below w.heap.size w w4 := hx.trans (hb2.mono (by rw [size_set]; omega))
    have hy : w'.heap.size + 1 < w4.heap.size := by have := hb2.size; simp at this; omega
    clear hb2
    have hx : Below w.heap.size w (w4.setCell ⟨w'.heap.size, 3, none⟩ (.int .i64 (numA (rest (rest (rest l)))))) := hup.setCell (by simp; omega) _
    have s3 : (w4.setCell ⟨w'.heap.size, 3, none⟩ (.int .i64 (numA (rest (rest (rest l)))))).cell? ⟨w'.heap.size, 3, none⟩ = some (.int .i64 (numA (rest (rest (rest l))))) := cl_same a3
    have hne : ¬ w'.heap.size = w.heap.size := by omega
    have hne' : ¬ w.heap.size = w'.heap.size := by omega
    go_wp2
    refine bodyPost_ret (v := .agg #[.int .i64 k, .int .i64 (numA (rest l)), .int .i64 (numA (rest (rest l))), .int .i64 (numA (rest (rest (rest l))))]) ?_ rfl ⟨?_, ?_⟩
    · simp [results, Tryd.results35, go_sem, *]
    · have e1 : gK l = k := HK.out
      simp [gA, gB, gN, gR1, gR2, e1, hA, hB, hN]
    · exact (((hx.setCell (by simp) _).setCell (by simp) _).setCell (by simp) _).setCell (by simp) _
end Go.Proofs.YtclnedeodmlfeaaDoor

namespace Go.Proofs.YtclnedeodmlfeaaDoor
set_option linter.unusedSimpArgs false
set_option linter.unusedVariables false
open Go.RowKit Go.Sort
theorem numOf_in64 (l : List UInt8) : in64 (numOf l) := by
  unfold numOf
  cases h : Lib.atoiAll l with
  | ok v => exact Lib.atoiAll_bounds h
  | _ => exact ⟨by decide, by decide⟩
theorem zero_in64 : in64 0 := ⟨by decide, by decide⟩
theorem gA_in64 (l : List UInt8) : in64 (gA l) := by unfold gA; split; exact numOf_in64 _; exact zero_in64
theorem gB_in64 (l : List UInt8) : in64 (gB l) := by unfold gB; split; exact numOf_in64 _; exact zero_in64
theorem gN_in64 (l : List UInt8) : in64 (gN l) := by unfold gN; split; exact numOf_in64 _; exact zero_in64
def readOk (l : List UInt8) : Prop := chkI (gK l) (gA l) (gB l) (gN l) = 0 ∧ txt (gK l) (gA l) (gB l) (gN l) = l
def zero4 : Value := .agg #[.int .i64 0, .int .i64 0, .int .i64 0, .int .i64 0]
def gV (l : List UInt8) : Value := .agg #[.int .i64 (gK l), .int .i64 (gA l), .int .i64 (gB l), .int .i64 (gN l)]
set_option maxHeartbeats 1000000 in
theorem read_core (l : List UInt8) (w : World) (he : Env w) (hs : l.length < 281474976710657) (c : Int) (t : List UInt8) (hc : chkI (gK l) (gA l) (gB l) (gN l) = c) (ht : (if c = 0 then txt (gK l) (gA l) (gB l) (gN l) else []) = t)
    (r : Value) (hr : (if c = 0 ∧ t = l then Value.tuple #[gV l, .int .i64 0] else .tuple #[zero4, .int .i64 1]) = r) :
    Calls Tryd.prog 14 #[.string ⟨l.toArray⟩] w fun e w' => e = .returned r ∧ Below w.heap.size w w' := by
  have HR := Lib.hid hr
  clear hr
  have iA := gA_in64 l
  have iB := gB_in64 l
  have iN := gN_in64 l
  go_enter Tryd.func14, Tryd.ntmps14
  go_wp2_with fail
  refine (guess_any l _ (he.up (by repeat (first | exact Below.refl _ _ | assumption | refine Below.drew ?_ | refine Below.alloc ?_ (by first | (simp; done) | (simp; omega)) _ | refine Below.setCell ?_ (by first | (simp; done) | (simp; omega)) _))) hs).mono ?_
  rintro e w1 ⟨rfl, hb1⟩
  have he1 : Env w1 := (he.up ((Below.refl _ _).alloc (Nat.le_refl _) _)).up hb1
  have hup : Below w.heap.size w w1 := ((Below.refl _ _).alloc (Nat.le_refl _) _).trans (hb1.mono (by simp))
  have hz1 : w.heap.size < w1.heap.size := by have := hb1.size; simp at this; omega
  have r0 : w1.cell? ⟨w.heap.size, 0, none⟩ = some (.int .i64 0) := bcl hb1 (by simp) (by simp)
  have r1 : w1.cell? ⟨w.heap.size, 1, none⟩ = some (.int .i64 0) := bcl hb1 (by simp) (by simp)
  have r2 : w1.cell? ⟨w.heap.size, 2, none⟩ = some (.int .i64 0) := bcl hb1 (by simp) (by simp)
  have r3 : w1.cell? ⟨w.heap.size, 3, none⟩ = some (.int .i64 0) := bcl hb1 (by simp) (by simp)
  have t0 : w1.frozen? ⟨w.heap.size, 0, none⟩ = false := bfr hb1 (by simp) (by simp)
  have t1 : w1.frozen? ⟨w.heap.size, 1, none⟩ = false := bfr hb1 (by simp) (by simp)
  have t2 : w1.frozen? ⟨w.heap.size, 2, none⟩ = false := bfr hb1 (by simp) (by simp)
  have t3 : w1.frozen? ⟨w.heap.size, 3, none⟩ = false := bfr hb1 (by simp) (by simp)
  clear hb1
  have HC := Lib.hid hc
  have HT := Lib.hid ht
  clear hc ht
  go_wp2_with fail
  refine (show_any _ _ _ _ iA iB iN _ (he1.up (by repeat (first | exact Below.refl _ _ | assumption | refine Below.drew ?_ | refine Below.alloc ?_ (by first | (simp; done) | (simp; omega)) _ | refine Below.setCell ?_ (by first | (simp; done) | (simp; omega)) _)))).mono ?_
  rw [HC.out, Int.toNat_natCast, HT.out]
  rintro e w2 ⟨rfl, hb2⟩
  have a0 : w2.cell? ⟨w1.heap.size, 0, none⟩ = some (.int .i64 (gK l)) := bcl hb2 (by simp) (by simp)
  have a1 : w2.cell? ⟨w1.heap.size, 1, none⟩ = some (.int .i64 (gA l)) := bcl hb2 (by simp) (by simp)
  have a2 : w2.cell? ⟨w1.heap.size, 2, none⟩ = some (.int .i64 (gB l)) := bcl hb2 (by simp) (by simp)
  have a3 : w2.cell? ⟨w1.heap.size, 3, none⟩ = some (.int .i64 (gN l)) := bcl hb2 (by simp) (by simp)
  have r0 : w2.cell? ⟨w.heap.size, 0, none⟩ = some (.int .i64 0) := bcl hb2 (by simp; omega) (cl_alloc _ hz1 r0)
  have r1 : w2.cell? ⟨w.heap.size, 1, none⟩ = some (.int .i64 0) := bcl hb2 (by simp; omega) (cl_alloc _ hz1 r1)
  have r2 : w2.cell? ⟨w.heap.size, 2, none⟩ = some (.int .i64 0) := bcl hb2 (by simp; omega) (cl_alloc _ hz1 r2)
  have r3 : w2.cell? ⟨w.heap.size, 3, none⟩ = some (.int .i64 0) := bcl hb2 (by simp; omega) (cl_alloc _ hz1 r3)
  have t0 : w2.frozen? ⟨w.heap.size, 0, none⟩ = false := bfr hb2 (by simp; omega) (fr_alloc _ hz1 t0)
  have t1 : w2.frozen? ⟨w.heap.size, 1, none⟩ = false := bfr hb2 (by simp; omega) (fr_alloc _ hz1 t1)
  have t2 : w2.frozen? ⟨w.heap.size, 2, none⟩ = false := bfr hb2 (by simp; omega) (fr_alloc _ hz1 t2)
  have t3 : w2.frozen? ⟨w.heap.size, 3, none⟩ = false := bfr hb2 (by simp; omega) (fr_alloc _ hz1 t3)
  have hup : Below w.heap.size w w2 := by
    refine Below.trans (b := w1) hup (Below.trans ?_ (hb2.mono (by simp; omega)))
    exact Below.alloc (Below.refl _ _) (by omega) _
  have hx : ∀ a b c d, Below w.heap.size w ((((w2.setCell ⟨w.heap.size, 0, none⟩ a).setCell ⟨w.heap.size, 1, none⟩ b).setCell ⟨w.heap.size, 2, none⟩ c).setCell ⟨w.heap.size, 3, none⟩ d) := fun a b c d =>
    (((hup.setCell (by simp) _).setCell (by simp) _).setCell (by simp) _).setCell (by simp) _
  clear hb2 hup
  have HX := Lib.hid hx
  clear hx
  by_cases h0 : c = 0
  · by_cases h1 : t = l
    · subst h0 h1
      have ht : (t == t) = true := by simp
      go_wp2
      refine bodyPost_ret (v := .tuple #[gV t, .int .i64 0]) ?_ rfl ⟨by rw [← HR.out]; simp, ?_⟩
      · simp [results, Tryd.results14, go_sem, gV, *]
      · exact HX.out _ _ _ _
    · subst h0
      have ht : (t == l) = false := by simpa using h1
      have H1 := Lib.hid h1
      clear h1
      go_wp2
      refine bodyPost_ret (v := .tuple #[zero4, .int .i64 1]) ?_ rfl ⟨by rw [← HR.out, if_neg (fun h => H1.out h.2)], ?_⟩
      · simp [results, Tryd.results14, go_sem, zero4, *]
      · exact HX.out _ _ _ _
  · have hc' : (c != 0) = true := by simpa using h0
    have H0 := Lib.hid h0
    clear h0
    go_wp2
    refine bodyPost_ret (v := .tuple #[zero4, .int .i64 1]) ?_ rfl ⟨by rw [← HR.out, if_neg (fun h => H0.out h.1)], ?_⟩
    · simp [results, Tryd.results14, go_sem, zero4, *]
    · exact HX.out _ _ _ _
theorem read_any (l : List UInt8) (w : World) (he : Env w) (hs : l.length < 281474976710657) :
    Calls Tryd.prog 14 #[.string ⟨l.toArray⟩] w fun e w' => e = .returned (if chkI (gK l) (gA l) (gB l) (gN l) = 0 ∧ txt (gK l) (gA l) (gB l) (gN l) = l then .tuple #[gV l, .int .i64 0] else .tuple #[zero4, .int .i64 1]) ∧ Below w.heap.size w w' := by
  refine (read_core l w he hs _ _ rfl rfl _ rfl).mono ?_
  rintro e w' ⟨rfl, hb⟩
  refine ⟨?_, hb⟩
  by_cases h : chkI (gK l) (gA l) (gB l) (gN l) = 0
  · simp [h]
  · simp [h]
end Go.Proofs.YtclnedeodmlfeaaDoor

namespace Go.Proofs.YtclnedeodmlfeaaDoor
set_option linter.unusedSimpArgs false
set_option linter.unusedVariables false
open Go.RowKit Go.Sort
theorem index_app (x y : List UInt8) (h : ∀ c ∈ x, c ≠ 32) : Lib.index (x ++ 32 :: y) [32] = x.length := by
  induction x with
  | nil => simp [Lib.index]
  | cons c x ih =>
    have hc : c ≠ 32 := h c (by simp)
    have hi := ih (fun d hd => h d (by simp [hd]))
    rw [List.cons_append, Lib.index]
    rw [if_neg (by simp; exact fun e => hc e.symm), hi, if_neg (by simp)]
    simp
theorem index_no (x : List UInt8) (h : ∀ c ∈ x, c ≠ 32) : Lib.index x [32] = -1 := by
  induction x with
  | nil => simp [Lib.index]
  | cons c x ih =>
    have hc : c ≠ 32 := h c (by simp)
    have hi := ih (fun d hd => h d (by simp [hd]))
    rw [Lib.index, if_neg (by simp; exact fun e => hc e.symm), hi]
    simp
theorem cut_app (x y : List UInt8) (h : ∀ c ∈ x, c ≠ 32) : Lib.cut (x ++ 32 :: y) [32] = (x, y, true) := by
  unfold Lib.cut
  rw [index_app x y h, if_pos (by omega)]
  simp
theorem cut_no (x : List UInt8) (h : ∀ c ∈ x, c ≠ 32) : Lib.cut x [32] = (x, [], false) := by
  unfold Lib.cut
  rw [index_no x h, if_neg (by decide)]
def stepU (v : Nat) (c : UInt8) : Lib.NumEnd Nat := Lib.parseUint10 v [c]
theorem parse_snoc : ∀ (l : List UInt8) (acc v : Nat) (c : UInt8), Lib.parseUint10 acc l = .ok v → Lib.parseUint10 acc (l ++ [c]) = stepU v c
  | [], acc, v, c, h => by
    simp only [Lib.parseUint10, Lib.NumEnd.ok.injEq] at h
    subst h; rfl
  | d :: l, acc, v, c, h => by
    rw [List.cons_append]
    simp only [Lib.parseUint10] at h ⊢
    split at h
    · rename_i hd
      rw [if_pos hd]
      split at h
      · cases h
      · rename_i h1
        rw [if_neg h1]
        split at h
        · cases h
        · rename_i h2
          rw [if_neg h2]
          exact parse_snoc l _ v c h
    · cases h
theorem digit_toNat (u : Nat) (h : u < 10) : (UInt8.ofNat (48 + u)).toNat = 48 + u := by
  simp; omega
theorem parse_dec (u : Nat) (h : u < 18446744073709551616) : Lib.parseUint10 0 (Lib.decDigits u) = .ok u := by
  induction u using Nat.strongRecOn with
  | ind u ih =>
    by_cases hs : u < 10
    · rw [dec_small hs]
      simp only [Lib.parseUint10, digit_toNat u hs]
      rw [if_pos (by omega), if_neg (by omega), if_neg (by omega)]
      congr 1; omega
    · rw [dec_big hs, parse_snoc _ _ (u / 10) _ (ih (u / 10) (by omega) (by omega))]
      unfold stepU
      simp only [Lib.parseUint10, digit_toNat (u % 10) (by omega)]
      rw [if_pos (by omega), if_neg (by omega), if_neg (by omega)]
      congr 1; omega
theorem dec_digits (u : Nat) : ∀ c ∈ Lib.decDigits u, 48 ≤ c.toNat ∧ c.toNat ≤ 57 := by
  induction u using Nat.strongRecOn with
  | ind u ih =>
    by_cases hs : u < 10
    · rw [dec_small hs]
      intro c hc
      obtain rfl := List.mem_singleton.1 hc
      rw [digit_toNat u hs]; omega
    · rw [dec_big hs]
      intro c hc
      rcases List.mem_append.1 hc with h | h
      · exact ih (u / 10) (by omega) c h
      · obtain rfl := List.mem_singleton.1 h
        rw [digit_toNat (u % 10) (by omega)]; omega
theorem dec_ne (u : Nat) : Lib.decDigits u ≠ [] := by
  by_cases hs : u < 10
  · rw [dec_small hs]; simp
  · rw [dec_big hs]; simp
theorem atoi_neg (r : List UInt8) (u : Nat) (hr : r ≠ []) (hp : Lib.parseUint10 0 r = .ok u) (hu : u ≤ 9223372036854775808) : Lib.atoiAll (45 :: r) = .ok (-(u : Int)) := by
  have e : Lib.parseMag r = .ok u := by unfold Lib.parseMag; rw [if_neg hr]; exact hp
  unfold Lib.atoiAll
  have e2 : (if (45 : UInt8).toNat = 43 ∨ (45 : UInt8).toNat = 45 then r else 45 :: r) = r := if_pos (Or.inr rfl)
  simp only [e2, e]
  rw [if_neg (fun h => h.1 rfl), if_neg (fun h => by omega), if_pos (show UInt8.toNat 45 = 45 from rfl)]
theorem atoi_pos (c : UInt8) (r : List UInt8) (u : Nat) (hc : 48 ≤ c.toNat) (hp : Lib.parseUint10 0 (c :: r) = .ok u) (hu : u < 9223372036854775808) : Lib.atoiAll (c :: r) = .ok (u : Int) := by
  have e : Lib.parseMag (c :: r) = .ok u := by unfold Lib.parseMag; rw [if_neg (by simp)]; exact hp
  unfold Lib.atoiAll
  have e2 : (if c.toNat = 43 ∨ c.toNat = 45 then r else c :: r) = c :: r := if_neg (by omega)
  simp only [e2, e]
  rw [if_neg (fun h => by omega), if_neg (fun h => by omega), if_neg (by omega)]
theorem atoi_itoa (n : Int) (h : in64 n) : Lib.atoiAll (Lib.itoa n) = .ok n := by
  obtain ⟨h0, h1⟩ := h
  unfold Lib.itoa
  by_cases hneg : n < 0
  · rw [if_pos hneg, atoi_neg _ n.natAbs (dec_ne _) (parse_dec _ (by omega)) (by omega)]
    congr 1; omega
  · rw [if_neg hneg]
    have hp := parse_dec n.toNat (by omega)
    have hd := dec_digits n.toNat
    have hne := dec_ne n.toNat
    generalize Lib.decDigits n.toNat = l at *
    cases l with
    | nil => exact absurd rfl hne
    | cons c r =>
      rw [atoi_pos c r n.toNat (hd c (by simp)).1 hp (by omega)]
      congr 1; omega
theorem num_itoa (n : Int) (h : in64 n) : numOf (Lib.itoa n) = n := by unfold numOf; rw [atoi_itoa n h]
theorem itoa_no32 (n : Int) : ∀ c ∈ Lib.itoa n, c ≠ 32 := by
  intro c hc e
  subst e
  unfold Lib.itoa at hc
  split at hc
  · rcases List.mem_cons.1 hc with h | h
    · revert h; decide
    · have := dec_digits _ _ h; revert this; decide
  · have := dec_digits _ _ hc; revert this; decide
theorem rowW_no32 (k : Nat) (h : k < 16) : ∀ c ∈ rowW k, c ≠ 32 := by
  have : ∀ k, k < 16 → (rowW k).all (fun c => c != 32) = true := by decide
  intro c hc
  have := List.all_eq_true.1 (this k h) c hc
  simpa using this
theorem named_row (k : Nat) (h1 : 1 ≤ k) (h : k < 16) : namedF (rowW k) = k := by
  have : ∀ k, k < 16 → (k = 0 ∨ namedF (rowW k) = k) := by decide +kernel
  rcases this k h with h | h
  · omega
  · exact h
theorem cutS (x y : List UInt8) (h : ∀ c ∈ x, c ≠ 32) : numA (x ++ 32 :: y) = numOf x ∧ rest (x ++ 32 :: y) = y := by
  unfold numA rest; rw [cut_app x y h]; exact ⟨rfl, rfl⟩
theorem cutN (x : List UInt8) (h : ∀ c ∈ x, c ≠ 32) : numA x = numOf x ∧ rest x = [] := by
  unfold numA rest; rw [cut_no x h]; exact ⟨rfl, rfl⟩
theorem right_of {op a b n : Int} (h : chkI op a b n = 0) : ∃ k : Nat, op = k ∧ 1 ≤ k ∧ k < 16 ∧ (rowA k = false → a = 0) ∧ (rowB k = false → b = 0) ∧ (rowN k = false → n = 0) := by
  have ho : ¬ (op < 1 ∨ 15 < op) := fun ho => by unfold chkI at h; rw [if_pos ho] at h; omega
  unfold chkI at h
  rw [if_neg ho] at h
  refine ⟨op.toNat, by omega, by omega, by omega, ?_⟩
  unfold chkRow at h
  split at h
  · omega
  · split at h
    · omega
    · rename_i _ h2
      simp only [Bool.or_eq_true, Bool.and_eq_true, Bool.not_eq_true', bne_iff_ne, ne_eq, not_or, not_and, Decidable.not_not] at h2
      exact ⟨fun e => h2.1.1 e, fun e => h2.1.2 e, fun e => h2.2 e⟩
theorem guess_txt (k : Nat) (a b n : Int) (ha : in64 a) (hb : in64 b) (hn : in64 n) (h : chkI k a b n = 0) :
    gK (txt k a b n) = k ∧ gA (txt k a b n) = a ∧ gB (txt k a b n) = b ∧ gN (txt k a b n) = n := by
  obtain ⟨k', e, h1, h2, zA, zB, zN⟩ := right_of h
  obtain rfl : k = k' := by omega
  have w := rowW_no32 k h2
  have ia := itoa_no32 a
  have ib := itoa_no32 b
  have i_n := itoa_no32 n
  have nk := named_row k h1 h2
  have na := num_itoa a ha
  have nb := num_itoa b hb
  have nn := num_itoa n hn
  cases hA : rowA k <;> cases hB : rowB k <;> cases hN : rowN k
  all_goals
    have eK : gK (txt k a b n) = k := by
      unfold gK
      simp only [txt, hA, hB, hN, Bool.false_eq_true, if_false, if_true, List.append_nil, List.append_assoc, List.cons_append]
      first
      | rw [cut_app _ _ w, nk]
      | rw [cut_no _ w, nk]
    have eR : rest (txt k a b n) = (((if rowA k then 32 :: Lib.itoa a else []) ++ (if rowB k then 32 :: Lib.itoa b else [])) ++ (if rowN k then 32 :: Lib.itoa n else [])).drop 1 := by
      simp only [txt, hA, hB, hN, Bool.false_eq_true, if_false, if_true, List.append_nil, List.append_assoc, List.cons_append]
      first
      | (rw [(cutS _ _ w).2]; simp; done)
      | (rw [(cutN _ w).2]; simp; done)
    refine ⟨eK, ?_, ?_, ?_⟩
    all_goals
      simp only [gA, gB, gN, gR1, gR2, eK, eR, hA, hB, hN, Bool.false_eq_true, if_false, if_true, List.append_nil, List.append_assoc, List.cons_append, List.nil_append, List.drop_succ_cons, List.drop_zero]
      try simp only [(cutS _ _ ia).1, (cutS _ _ ia).2, (cutS _ _ ib).1, (cutS _ _ ib).2, (cutN _ ia).1, (cutN _ ib).1, (cutN _ i_n).1, na, nb, nn]
      try (first | exact (zA hA).symm | exact (zB hB).symm | exact (zN hN).symm)
end Go.Proofs.YtclnedeodmlfeaaDoor
