/- A part of the proofs over this seat's laws: what a function of the program, or of the reference, answers and leaves, told by its theorems below. -/
import Derived.Test.YtiadjglkjcmkpaaDoorIsaRead3
namespace Go.Proofs.YtiadjglkjcmkpaaDoor
set_option linter.unusedSimpArgs false
set_option linter.unusedVariables false
open Go.RowKit Go.Sort

theorem it (n : Nat) (h : n < 10) : Lib.itoa n = [UInt8.ofNat (48 + n)] := itoa_digit n (by omega) (by omega)
theorem it0 : Lib.itoa 0 = [48] := it 0 (by decide)
theorem it1 : Lib.itoa 1 = [49] := it 1 (by decide)
theorem it2 : Lib.itoa 2 = [50] := it 2 (by decide)
theorem it3 : Lib.itoa 3 = [51] := it 3 (by decide)
theorem it5 : Lib.itoa 5 = [53] := it 5 (by decide)
theorem itm5 : Lib.itoa (-5) = [45, 53] := by rw [← itoa_neg1 (-5) (by decide)]; show 45 :: Lib.itoa 5 = _; rw [it5]
theorem txt_get : txt 13 1 2 3 = [103, 101, 116, 32, 49, 32, 50, 32, 51] := by unfold txt; rw [it1, it2, it3]; rfl
theorem txt_set : txt 1 0 0 (-5) = [115, 101, 116, 32, 48, 32, 45, 53] := by unfold txt; rw [it0, itm5]; rfl
theorem txt_set5 : txt 1 0 0 5 = [115, 101, 116, 32, 48, 32, 53] := by unfold txt; rw [it0, it5]; rfl

def sA : List UInt8 := [115, 101, 116, 32, 48, 32, 45, 53]
def sB : List UInt8 := [115, 101, 116, 32, 48, 32, 48, 53]
theorem gK_A : gK sA = 1 := by decide +kernel
theorem gA_A : gA sA = 0 := by decide +kernel
theorem gB_A : gB sA = 0 := by decide +kernel
theorem gN_A : gN sA = -5 := by decide +kernel
theorem gK_B : gK sB = 1 := by decide +kernel
theorem gA_B : gA sB = 0 := by decide +kernel
theorem gB_B : gB sB = 0 := by decide +kernel
theorem gN_B : gN sB = 5 := by decide +kernel

theorem read_A (w : World) (he : Env w) : Calls Tryd.prog 14 #[.string ⟨#[115, 101, 116, 32, 48, 32, 45, 53]⟩] w fun e w' => e = .returned (.tuple #[.agg #[.int .i64 1, .int .i64 0, .int .i64 0, .int .i64 (-5)], .int .i64 0]) ∧ Below w.heap.size w w' := by
  refine (read_any sA w he (by decide)).mono ?_
  rintro e w' ⟨rfl, hb⟩
  refine ⟨?_, hb⟩
  unfold gV
  rw [gK_A, gA_A, gB_A, gN_A, if_pos ⟨by decide, txt_set⟩]
  rfl
theorem read_B (w : World) (he : Env w) : Calls Tryd.prog 14 #[.string ⟨#[115, 101, 116, 32, 48, 32, 48, 53]⟩] w fun e w' => e = .returned (.tuple #[.agg #[.int .i64 0, .int .i64 0, .int .i64 0, .int .i64 0], .int .i64 1]) ∧ Below w.heap.size w w' := by
  refine (read_any sB w he (by decide)).mono ?_
  rintro e w' ⟨rfl, hb⟩
  refine ⟨?_, hb⟩
  rw [gK_B, gA_B, gB_B, gN_B, if_neg (fun h => by have := h.2; rw [txt_set5] at this; revert this; decide)]
  rfl
theorem show_C (w : World) (he : Env w) : Calls Tryd.prog 9 #[.agg #[.int .i64 13, .int .i64 1, .int .i64 2, .int .i64 3]] w fun e w' => e = .returned (.tuple #[.string ⟨#[103, 101, 116, 32, 49, 32, 50, 32, 51]⟩, .int .i64 0]) ∧ Below w.heap.size w w' := by
  refine (show_any 13 1 2 3 ⟨by decide, by decide⟩ ⟨by decide, by decide⟩ ⟨by decide, by decide⟩ w he).mono ?_
  rintro e w' ⟨rfl, hb⟩
  refine ⟨?_, hb⟩
  rw [if_pos (by decide), show Int.toNat 13 = 13 from rfl, txt_get]
  rfl
theorem chk_v (op a b n c : Int) (w : World) (he : Env w) (hc : chkI op a b n = c) : Calls Tryd.prog 13 #[.agg #[.int .i64 op, .int .i64 a, .int .i64 b, .int .i64 n]] w fun e w' => e = .returned (.int .i64 c) ∧ Below w.heap.size w w' := hc ▸ chk_any op a b n w he.shp

set_option maxHeartbeats 1000000 in
theorem begun_any (w : World) (he : Env w) : Calls Tryd.prog 12 #[] w fun e w' => e = .returned (.bool true) ∧ Below w.heap.size w w' := by
  go_enter Tryd.func12, Tryd.ntmps12
  go_wp2_with fail
  refine (show_C _ he).mono ?_
  rintro e w1 ⟨rfl, hb1⟩
  have he1 := he.up hb1
  go_wp2_with fail
  refine (read_A _ he1).mono ?_
  rintro e w2 ⟨rfl, hb2⟩
  have he2 := he1.up hb2
  go_wp2_with fail
  refine (read_B _ (he2.up (by repeat (first | exact Below.refl _ _ | assumption | refine Below.drew ?_ | refine Below.alloc ?_ (by simp) _ | refine Below.setCell ?_ (by simp) _)))).mono ?_
  rintro e w3 ⟨rfl, hb3⟩
  have he3 := (he2.up (by repeat (first | exact Below.refl _ _ | assumption | refine Below.drew ?_ | refine Below.alloc ?_ (by simp) _ | refine Below.setCell ?_ (by simp) _))).up hb3
  have a0 : w3.cell? ⟨w2.heap.size, 0, none⟩ = some (.int .i64 1) := bcl hb3 (by simp) (by simp)
  have a1 : w3.cell? ⟨w2.heap.size, 1, none⟩ = some (.int .i64 0) := bcl hb3 (by simp) (by simp)
  have a2 : w3.cell? ⟨w2.heap.size, 2, none⟩ = some (.int .i64 0) := bcl hb3 (by simp) (by simp)
  have a3 : w3.cell? ⟨w2.heap.size, 3, none⟩ = some (.int .i64 (-5)) := bcl hb3 (by simp) (by simp)
  have hz : w2.heap.size < w3.heap.size := by have := hb3.size; simp at this; omega
  have hup : Below w.heap.size w w3 := (hb1.trans (hb2.mono hb1.size)).trans (Below.trans (Below.alloc (Below.refl _ _) (Nat.le_trans hb1.size hb2.size) _) (hb3.mono (by simp; have := hb1.size; have := hb2.size; omega)))
  have hsz : w.heap.size ≤ w3.heap.size := hup.size
  clear hb1 hb2 hb3
  go_wp2_with fail
  refine (chk_v 0 0 0 0 4 _ (he3.up (by repeat (first | exact Below.refl _ _ | assumption | refine Below.drew ?_ | refine Below.alloc ?_ (by simp) _ | refine Below.setCell ?_ (by simp) _))) (by decide)).mono ?_
  rintro e w4 ⟨rfl, hb4⟩
  have he4 := (he3.up (by repeat (first | exact Below.refl _ _ | assumption | refine Below.drew ?_ | refine Below.alloc ?_ (by simp) _ | refine Below.setCell ?_ (by simp) _))).up hb4
  have hup4 : Below w.heap.size w w4 := (hup.alloc hsz _).trans (hb4.mono (by simp; omega))
  go_wp2_with fail
  refine (chk_v 15 1 0 0 1 _ he4 (by decide)).mono ?_
  rintro e w5 ⟨rfl, hb5⟩
  have he5 := he4.up hb5
  have hup5 : Below w.heap.size w w5 := hup4.trans (hb5.mono hup4.size)
  go_wp2_with fail
  refine (chk_v 8 0 0 20 3 _ he5 (by decide)).mono ?_
  rintro e w6 ⟨rfl, hb6⟩
  have hup6 : Below w.heap.size w w6 := hup5.trans (hb6.mono hup5.size)
  go_wp2
  go_ret
  exact ⟨rfl, hup6⟩

set_option maxHeartbeats 1000000 in
/-- The law IsaChecks answers true, whatever the instruction. -/
theorem isaChecks_any (op a b n : Int) (ha : in64 a) (hb : in64 b) (hn : in64 n) (w : World) (he : Env w) :
    Calls Tryd.prog 3 #[.agg #[.int .i64 op, .int .i64 a, .int .i64 b, .int .i64 n]] w fun e w' => e = .returned (.bool true) ∧ Below w.heap.size w w' := by
  generalize hc : chkI op a b n = c
  have HC := Lib.hid hc
  clear hc
  generalize ht : (if c = 0 then txt op.toNat a b n else []) = t
  have HT := Lib.hid ht
  clear ht
  go_enter Tryd.func3, Tryd.ntmps3
  go_wp2_with fail
  refine (show_any op a b n ha hb hn _ (he.up (by repeat (first | exact Below.refl _ _ | assumption | refine Below.drew ?_ | refine Below.alloc ?_ (by simp) _ | refine Below.setCell ?_ (by simp) _)))).mono ?_
  rw [HC.out, HT.out]
  rintro e w1 ⟨rfl, hb1⟩
  have he1 := (he.up (by repeat (first | exact Below.refl _ _ | assumption | refine Below.drew ?_ | refine Below.alloc ?_ (by simp) _ | refine Below.setCell ?_ (by simp) _))).up hb1
  have hup1 : Below w.heap.size w w1 := ((Below.refl _ _).alloc (Nat.le_refl _) _).trans (hb1.mono (by simp))
  have hz1 : w.heap.size < w1.heap.size := by have := hb1.size; simp at this; omega
  have a0 : w1.cell? ⟨w.heap.size, 0, none⟩ = some (.int .i64 op) := bcl hb1 (by simp) (by simp)
  have a1 : w1.cell? ⟨w.heap.size, 1, none⟩ = some (.int .i64 a) := bcl hb1 (by simp) (by simp)
  have a2 : w1.cell? ⟨w.heap.size, 2, none⟩ = some (.int .i64 b) := bcl hb1 (by simp) (by simp)
  have a3 : w1.cell? ⟨w.heap.size, 3, none⟩ = some (.int .i64 n) := bcl hb1 (by simp) (by simp)
  clear hb1
  go_wp2_with fail
  refine (chkRef_any op a b n hn _).mono ?_
  rw [HC.out]
  rintro e w2 ⟨rfl, hb2⟩
  have he2 := he1.up hb2
  have hup2 : Below w.heap.size w w2 := hup1.trans (hb2.mono hup1.size)
  have hz2 : w.heap.size < w2.heap.size := Nat.lt_of_lt_of_le hz1 hb2.size
  have a0 := bcl hb2 hz1 a0
  have a1 := bcl hb2 hz1 a1
  have a2 := bcl hb2 hz1 a2
  have a3 := bcl hb2 hz1 a3
  clear hb2
  by_cases h0 : c = 0
  · obtain ⟨k, hk1, hk2, rfl⟩ : ∃ k : Nat, 1 ≤ k ∧ k < 16 ∧ op = k := by
      have hc := HC.out
      have ho : ¬ (op < 1 ∨ 15 < op) := fun h => by unfold chkI at hc; rw [if_pos h] at hc; omega
      exact ⟨op.toNat, by omega, by omega, by omega⟩
    subst h0
    have ht := HT.out
    rw [if_pos rfl, Int.toNat_natCast] at ht
    have HT2 := Lib.hid ht
    clear ht
    go_wp2_with fail
    refine (text_any k hk1 hk2 a b n ha hb hn _).mono ?_
    rw [HT2.out]
    rintro e w3 ⟨rfl, hb3⟩
    have he3 := he2.up hb3
    have hup3 : Below w.heap.size w w3 := hup2.trans (hb3.mono hup2.size)
    have hz3 : w.heap.size < w3.heap.size := Nat.lt_of_lt_of_le hz2 hb3.size
    have a0 := bcl hb3 hz2 a0
    have a1 := bcl hb3 hz2 a1
    have a2 := bcl hb3 hz2 a2
    have a3 := bcl hb3 hz2 a3
    go_wp2_with fail
    refine (begun_any _ he3).mono ?_
    rintro e w4 ⟨rfl, hb4⟩
    have he4 := he3.up hb4
    have hup4 : Below w.heap.size w w4 := hup3.trans (hb4.mono hup3.size)
    have a0 := bcl hb4 hz3 a0
    have a1 := bcl hb4 hz3 a1
    have a2 := bcl hb4 hz3 a2
    have a3 := bcl hb4 hz3 a3
    go_wp2_with fail
    refine (chk_v k a b n 0 _ he4 HC.out).mono ?_
    rintro e w5 ⟨rfl, hb5⟩
    have hup5 : Below w.heap.size w w5 := hup4.trans (hb5.mono hup4.size)
    go_wp2
    go_ret
    exact ⟨by simp, hup5⟩
  · have ht := HT.out
    rw [if_neg h0] at ht
    subst ht
    have hc' : (c == 0) = false := by simpa using h0
    clear h0
    go_wp2_with fail
    refine (begun_any _ he2).mono ?_
    rintro e w4 ⟨rfl, hb4⟩
    have he4 := he2.up hb4
    have hup4 : Below w.heap.size w w4 := hup2.trans (hb4.mono hup2.size)
    have a0 := bcl hb4 hz2 a0
    have a1 := bcl hb4 hz2 a1
    have a2 := bcl hb4 hz2 a2
    have a3 := bcl hb4 hz2 a3
    go_wp2_with fail
    refine (chk_v op a b n c _ he4 HC.out).mono ?_
    rintro e w5 ⟨rfl, hb5⟩
    have hup5 : Below w.heap.size w w5 := hup4.trans (hb5.mono hup4.size)
    go_wp2
    go_ret
    exact ⟨by simp, hup5⟩
