/- A part of the proofs over this seat's laws: what a function of the program, or of the reference, answers and leaves, told by its theorems below. -/
import Derived.Test.YtiadjglkjcmkpaaDoorIsaRead2
namespace Go.Proofs.YtiadjglkjcmkpaaDoor
set_option linter.unusedSimpArgs false
set_option linter.unusedVariables false
open Go.RowKit Go.Sort

theorem numOf_in64 (l : List UInt8) : in64 (numOf l) := by
  unfold numOf
  cases h : Lib.atoiAll l with
  | ok v => exact Lib.atoiAll_bounds h
  | _ => exact ⟨by decide, by decide⟩
theorem zero_in64 : in64 0 := ⟨by decide, by decide⟩
theorem gA_in64 (l : List UInt8) : in64 (gA l) := by unfold gA; split; exact numOf_in64 _; exact zero_in64
theorem gB_in64 (l : List UInt8) : in64 (gB l) := by unfold gB; split; exact numOf_in64 _; exact zero_in64
theorem gN_in64 (l : List UInt8) : in64 (gN l) := by unfold gN; split; exact numOf_in64 _; exact zero_in64

/-- What is handed on where a text is a right instruction's. -/
def readOk (l : List UInt8) : Prop := chkI (gK l) (gA l) (gB l) (gN l) = 0 ∧ txt (gK l) (gA l) (gB l) (gN l) = l
def zero4 : Value := .agg #[.int .i64 0, .int .i64 0, .int .i64 0, .int .i64 0]
def gV (l : List UInt8) : Value := .agg #[.int .i64 (gK l), .int .i64 (gA l), .int .i64 (gB l), .int .i64 (gN l)]

set_option maxHeartbeats 1000000 in
theorem read_core (l : List UInt8) (w : World) (he : Env w) (hs : l.length < 4294967281) (c : Int) (t : List UInt8) (hc : chkI (gK l) (gA l) (gB l) (gN l) = c) (ht : (if c = 0 then txt (gK l) (gA l) (gB l) (gN l) else []) = t)
    (r : Value) (hr : (if c = 0 ∧ t = l then Value.tuple #[gV l, .int .i64 0] else .tuple #[zero4, .int .i64 1]) = r) :
    Calls Tryd.prog 14 #[.string ⟨l.toArray⟩] w fun e w' => e = .returned r ∧ Below w.heap.size w w' := by
  have HR := Lib.hid hr
  clear hr
  have iA := gA_in64 l
  have iB := gB_in64 l
  have iN := gN_in64 l
  go_enter Tryd.func14, Tryd.ntmps14
  go_wp2_with fail
  refine (guess_any l _ (he.up (by repeat (first | exact Below.refl _ _ | assumption | refine Below.drew ?_ | refine Below.alloc ?_ (by simp) _ | refine Below.setCell ?_ (by simp) _))) hs).mono ?_
  rintro e w1 ⟨rfl, hb1⟩
  have he1 : Env w1 := (he.up ((Below.refl _ _).alloc (Nat.le_refl _) _)).up hb1
  have hup : Below w.heap.size w w1 := ((Below.refl _ _).alloc (Nat.le_refl _) _).trans (hb1.mono (by simp))
  have hz1 : w.heap.size < w1.heap.size := by have := hb1.size; simp at this; omega
  have r0 : w1.cell? ⟨w.heap.size, 0, none⟩ = some (.int .i64 0) := bcl hb1 (by simp) (by simp)
  have r1 : w1.cell? ⟨w.heap.size, 1, none⟩ = some (.int .i64 0) := bcl hb1 (by simp) (by simp)
  have r2 : w1.cell? ⟨w.heap.size, 2, none⟩ = some (.int .i64 0) := bcl hb1 (by simp) (by simp)
  have r3 : w1.cell? ⟨w.heap.size, 3, none⟩ = some (.int .i64 0) := bcl hb1 (by simp) (by simp)
  have t0 : w1.frozen? ⟨w.heap.size, 0, none⟩ = false := bfr hb1 (by simp) (by simp)
  have t1 : w1.frozen? ⟨w.heap.size, 1, none⟩ = false := bfr hb1 (by simp) (by simp)
  have t2 : w1.frozen? ⟨w.heap.size, 2, none⟩ = false := bfr hb1 (by simp) (by simp)
  have t3 : w1.frozen? ⟨w.heap.size, 3, none⟩ = false := bfr hb1 (by simp) (by simp)
  clear hb1
  have HC := Lib.hid hc
  have HT := Lib.hid ht
  clear hc ht
  go_wp2_with fail
  refine (show_any _ _ _ _ iA iB iN _ (he1.up (by repeat (first | exact Below.refl _ _ | assumption | refine Below.drew ?_ | refine Below.alloc ?_ (by simp) _ | refine Below.setCell ?_ (by simp) _)))).mono ?_
  rw [HC.out, Int.toNat_natCast, HT.out]
  rintro e w2 ⟨rfl, hb2⟩
  have a0 : w2.cell? ⟨w1.heap.size, 0, none⟩ = some (.int .i64 (gK l)) := bcl hb2 (by simp) (by simp)
  have a1 : w2.cell? ⟨w1.heap.size, 1, none⟩ = some (.int .i64 (gA l)) := bcl hb2 (by simp) (by simp)
  have a2 : w2.cell? ⟨w1.heap.size, 2, none⟩ = some (.int .i64 (gB l)) := bcl hb2 (by simp) (by simp)
  have a3 : w2.cell? ⟨w1.heap.size, 3, none⟩ = some (.int .i64 (gN l)) := bcl hb2 (by simp) (by simp)
  have r0 : w2.cell? ⟨w.heap.size, 0, none⟩ = some (.int .i64 0) := bcl hb2 (by simp; omega) (cl_alloc _ hz1 r0)
  have r1 : w2.cell? ⟨w.heap.size, 1, none⟩ = some (.int .i64 0) := bcl hb2 (by simp; omega) (cl_alloc _ hz1 r1)
  have r2 : w2.cell? ⟨w.heap.size, 2, none⟩ = some (.int .i64 0) := bcl hb2 (by simp; omega) (cl_alloc _ hz1 r2)
  have r3 : w2.cell? ⟨w.heap.size, 3, none⟩ = some (.int .i64 0) := bcl hb2 (by simp; omega) (cl_alloc _ hz1 r3)
  have t0 : w2.frozen? ⟨w.heap.size, 0, none⟩ = false := bfr hb2 (by simp; omega) (fr_alloc _ hz1 t0)
  have t1 : w2.frozen? ⟨w.heap.size, 1, none⟩ = false := bfr hb2 (by simp; omega) (fr_alloc _ hz1 t1)
  have t2 : w2.frozen? ⟨w.heap.size, 2, none⟩ = false := bfr hb2 (by simp; omega) (fr_alloc _ hz1 t2)
  have t3 : w2.frozen? ⟨w.heap.size, 3, none⟩ = false := bfr hb2 (by simp; omega) (fr_alloc _ hz1 t3)
  have hup : Below w.heap.size w w2 := by
    refine Below.trans (b := w1) hup (Below.trans ?_ (hb2.mono (by simp; omega)))
    exact Below.alloc (Below.refl _ _) (by omega) _
  have hx : ∀ a b c d, Below w.heap.size w ((((w2.setCell ⟨w.heap.size, 0, none⟩ a).setCell ⟨w.heap.size, 1, none⟩ b).setCell ⟨w.heap.size, 2, none⟩ c).setCell ⟨w.heap.size, 3, none⟩ d) := fun a b c d =>
    (((hup.setCell (by simp) _).setCell (by simp) _).setCell (by simp) _).setCell (by simp) _
  clear hb2 hup
  have HX := Lib.hid hx
  clear hx
  by_cases h0 : c = 0
  · by_cases h1 : t = l
    · subst h0 h1
      have ht : (t == t) = true := by simp
      go_wp2
      refine bodyPost_ret (v := .tuple #[gV t, .int .i64 0]) ?_ rfl ⟨by rw [← HR.out]; simp, ?_⟩
      · simp [results, Tryd.results14, go_sem, gV, *]
      · exact HX.out _ _ _ _
    · subst h0
      have ht : (t == l) = false := by simpa using h1
      have H1 := Lib.hid h1
      clear h1
      go_wp2
      refine bodyPost_ret (v := .tuple #[zero4, .int .i64 1]) ?_ rfl ⟨by rw [← HR.out, if_neg (fun h => H1.out h.2)], ?_⟩
      · simp [results, Tryd.results14, go_sem, zero4, *]
      · exact HX.out _ _ _ _
  · have hc' : (c != 0) = true := by simpa using h0
    have H0 := Lib.hid h0
    clear h0
    go_wp2
    refine bodyPost_ret (v := .tuple #[zero4, .int .i64 1]) ?_ rfl ⟨by rw [← HR.out, if_neg (fun h => H0.out h.1)], ?_⟩
    · simp [results, Tryd.results14, go_sem, zero4, *]
    · exact HX.out _ _ _ _

/-- isa.Read: the instruction that could be shown so, if it is right and is shown so; else none, and ErrForm. -/
theorem read_any (l : List UInt8) (w : World) (he : Env w) (hs : l.length < 4294967281) :
    Calls Tryd.prog 14 #[.string ⟨l.toArray⟩] w fun e w' => e = .returned (if chkI (gK l) (gA l) (gB l) (gN l) = 0 ∧ txt (gK l) (gA l) (gB l) (gN l) = l then .tuple #[gV l, .int .i64 0] else .tuple #[zero4, .int .i64 1]) ∧ Below w.heap.size w w' := by
  refine (read_core l w he hs _ _ rfl rfl _ rfl).mono ?_
  rintro e w' ⟨rfl, hb⟩
  refine ⟨?_, hb⟩
  by_cases h : chkI (gK l) (gA l) (gB l) (gN l) = 0
  · simp [h]
  · simp [h]
