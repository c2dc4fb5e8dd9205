/- A part of the proofs over this seat's laws: what a function of the program, or of the reference, answers and leaves, told by its theorems below. -/
import Derived.Test.YtiadjglkjcmkpaaDoorIsaMath
import Derived.Test.YtiadjglkjcmkpaaDoorIsaBegun
namespace Go.Proofs.YtiadjglkjcmkpaaDoor
set_option linter.unusedSimpArgs false
set_option linter.unusedVariables false
open Go.RowKit Go.Sort

theorem read_good (l : List UInt8) (w : World) (he : Env w) (hs : l.length < 4294967281) (h : readOk l) :
    Calls Tryd.prog 14 #[.string ⟨l.toArray⟩] w fun e w' => e = .returned (.tuple #[.agg #[.int .i64 (gK l), .int .i64 (gA l), .int .i64 (gB l), .int .i64 (gN l)], .int .i64 0]) ∧ Below w.heap.size w w' := by
  refine (read_any l w he hs).mono ?_
  rintro e w' ⟨rfl, hb⟩
  refine ⟨?_, hb⟩
  unfold readOk at h
  rw [if_pos h]; rfl
theorem read_bad (l : List UInt8) (w : World) (he : Env w) (hs : l.length < 4294967281) (h : ¬ readOk l) :
    Calls Tryd.prog 14 #[.string ⟨l.toArray⟩] w fun e w' => e = .returned (.tuple #[.agg #[.int .i64 0, .int .i64 0, .int .i64 0, .int .i64 0], .int .i64 1]) ∧ Below w.heap.size w w' := by
  refine (read_any l w he hs).mono ?_
  rintro e w' ⟨rfl, hb⟩
  refine ⟨?_, hb⟩
  unfold readOk at h
  rw [if_neg h]; rfl
theorem show_right (op a b n : Int) (t : List UInt8) (ha : in64 a) (hb : in64 b) (hn : in64 n) (h : chkI op a b n = 0) (ht : txt op.toNat a b n = t) (w : World) (he : Env w) :
    Calls Tryd.prog 9 #[.agg #[.int .i64 op, .int .i64 a, .int .i64 b, .int .i64 n]] w fun e w' => e = .returned (.tuple #[.string ⟨t.toArray⟩, .int .i64 0]) ∧ Below w.heap.size w w' := by
  refine (show_any op a b n ha hb hn w he).mono ?_
  rintro e w' ⟨rfl, hb⟩
  exact ⟨by rw [if_pos h, h, ht], hb⟩

theorem txt_len (k : Nat) (hk : k < 16) (a b n : Int) (ha : in64 a) (hb : in64 b) (hn : in64 n) : (txt k a b n).length ≤ 70 := by
  have h1 := rowW_le k hk
  have h2 := Lib.itoa_length_le a ha.1 ha.2
  have h3 := Lib.itoa_length_le b hb.1 hb.2
  have h4 := Lib.itoa_length_le n hn.1 hn.2
  unfold txt
  simp only [List.length_append]
  split <;> split <;> split <;> simp <;> omega

/-- A right instruction's text is read as it. -/
theorem readOk_txt (k : Nat) (a b n : Int) (ha : in64 a) (hb : in64 b) (hn : in64 n) (h : chkI k a b n = 0) : readOk (txt k a b n) := by
  obtain ⟨e1, e2, e3, e4⟩ := guess_txt k a b n ha hb hn h
  unfold readOk
  rw [e1, e2, e3, e4]
  exact ⟨h, rfl⟩
theorem read_txt (k : Nat) (a b n : Int) (ha : in64 a) (hb : in64 b) (hn : in64 n) (h : chkI k a b n = 0) (t : List UInt8) (ht : txt k a b n = t) (w : World) (he : Env w) :
    Calls Tryd.prog 14 #[.string ⟨t.toArray⟩] w fun e w' => e = .returned (.tuple #[.agg #[.int .i64 k, .int .i64 a, .int .i64 b, .int .i64 n], .int .i64 0]) ∧ Below w.heap.size w w' := by
  obtain ⟨k', e, _, hk, _⟩ := right_of h
  obtain rfl : k = k' := by omega
  have hl := txt_len k hk a b n ha hb hn
  obtain ⟨e1, e2, e3, e4⟩ := guess_txt k a b n ha hb hn h
  refine (read_good t w he (by rw [← ht]; omega) (ht ▸ readOk_txt k a b n ha hb hn h)).mono ?_
  rintro e w' ⟨rfl, hb⟩
  refine ⟨?_, hb⟩
  rw [← ht, e1, e2, e3, e4]

set_option maxHeartbeats 1000000 in
/-- Behind the first half: a text is read; if it is an instruction's, it is shown again. -/
theorem isaBack_any (op a b n : Int) (ha : in64 a) (hb : in64 b) (hn : in64 n) (l : List UInt8) (hs : l.length < 4294967281) (w : World) (he : Env w) :
    Calls Tryd.prog 5 #[.agg #[.int .i64 op, .int .i64 a, .int .i64 b, .int .i64 n], .string ⟨l.toArray⟩] w fun e w' => e = .returned (.bool true) ∧ Below w.heap.size w w' := by
  by_cases h0 : chkI op a b n = 0
  · obtain ⟨k, rfl, hk1, hk2, -⟩ := right_of h0
    generalize ht : txt k a b n = t
    have HT := Lib.hid ht
    clear ht
    have H0 := Lib.hid h0
    clear h0
    go_enter Tryd.func5, Tryd.ntmps5
    go_wp2_with fail
    refine (show_right k a b n t ha hb hn H0.out (by rw [Int.toNat_natCast]; exact HT.out) _ (he.up (by repeat (first | exact Below.refl _ _ | assumption | refine Below.drew ?_ | refine Below.alloc ?_ (by simp) _ | refine Below.setCell ?_ (by simp) _)))).mono ?_
    rintro e w1 ⟨rfl, hb1⟩
    have he1 := (he.up (by repeat (first | exact Below.refl _ _ | assumption | refine Below.drew ?_ | refine Below.alloc ?_ (by simp) _ | refine Below.setCell ?_ (by simp) _))).up hb1
    have hup1 : Below w.heap.size w w1 := ((Below.refl _ _).alloc (Nat.le_refl _) _).trans (hb1.mono (by simp))
    have hz1 : w.heap.size < w1.heap.size := by have := hb1.size; simp at this; omega
    have a0 : w1.cell? ⟨w.heap.size, 0, none⟩ = some (.int .i64 k) := bcl hb1 (by simp) (by simp)
    have a1 : w1.cell? ⟨w.heap.size, 1, none⟩ = some (.int .i64 a) := bcl hb1 (by simp) (by simp)
    have a2 : w1.cell? ⟨w.heap.size, 2, none⟩ = some (.int .i64 b) := bcl hb1 (by simp) (by simp)
    have a3 : w1.cell? ⟨w.heap.size, 3, none⟩ = some (.int .i64 n) := bcl hb1 (by simp) (by simp)
    clear hb1
    go_wp2_with fail
    refine (read_txt k a b n ha hb hn H0.out t HT.out _ he1).mono ?_
    rintro e w2 ⟨rfl, hb2⟩
    have he2 := he1.up hb2
    have hup2 : Below w.heap.size w w2 := hup1.trans (hb2.mono hup1.size)
    have hz2 : w.heap.size < w2.heap.size := Nat.lt_of_lt_of_le hz1 hb2.size
    have a0 := bcl hb2 hz1 a0
    have a1 := bcl hb2 hz1 a1
    have a2 := bcl hb2 hz1 a2
    have a3 := bcl hb2 hz1 a3
    clear hb2
    have kk : ((k : Int) == k) = true := by simp
    have aa : (a == a) = true := by simp
    have bb : (b == b) = true := by simp
    have nn : (n == n) = true := by simp
    by_cases hr : readOk l
    · have gg := hr
      have HR := Lib.hid hr
      clear hr gg
      go_wp2_with fail
      refine (read_good l _ (he2.up (by repeat (first | exact Below.refl _ _ | assumption | refine Below.drew ?_ | refine Below.alloc ?_ (by simp) _ | refine Below.setCell ?_ (by simp) _))) hs HR.out).mono ?_
      rintro e w3 ⟨rfl, hb3⟩
      have hup3 : Below w.heap.size w w3 := (hup2.alloc hup2.size _).trans (hb3.mono (by simp; omega))
      have he3 := he.up hup3
      clear hb3
      go_wp2_with fail
      refine (show_right (gK l) (gA l) (gB l) (gN l) l (gA_in64 l) (gB_in64 l) (gN_in64 l) HR.out.1 (by rw [Int.toNat_natCast]; exact HR.out.2) _ (he3.up (by repeat (first | exact Below.refl _ _ | assumption | refine Below.drew ?_ | refine Below.alloc ?_ (by simp) _ | refine Below.setCell ?_ (by simp) _)))).mono ?_
      rintro e w4 ⟨rfl, hb4⟩
      have hup4 : Below w.heap.size w w4 := (hup3.alloc hup3.size _).trans (hb4.mono (by simp; have := hup3.size; omega))
      have he4 := he.up hup4
      clear hb4
      go_wp2_with fail
      refine (begun_any _ he4).mono ?_
      rintro e w5 ⟨rfl, hb5⟩
      have hup5 : Below w.heap.size w w5 := hup4.trans (hb5.mono hup4.size)
      clear hb5
      go_wp2
      go_ret
      exact ⟨by simp, hup5⟩
    · have HR := Lib.hid hr
      clear hr
      go_wp2_with fail
      refine (read_bad l _ (he2.up (by repeat (first | exact Below.refl _ _ | assumption | refine Below.drew ?_ | refine Below.alloc ?_ (by simp) _ | refine Below.setCell ?_ (by simp) _))) hs HR.out).mono ?_
      rintro e w3 ⟨rfl, hb3⟩
      have hup3 : Below w.heap.size w w3 := (hup2.alloc hup2.size _).trans (hb3.mono (by simp; omega))
      have he3 := he.up hup3
      clear hb3
      go_wp2_with fail
      refine (begun_any _ (he3.up (by repeat (first | exact Below.refl _ _ | assumption | refine Below.drew ?_ | refine Below.alloc ?_ (by simp) _ | refine Below.setCell ?_ (by simp) _)))).mono ?_
      rintro e w5 ⟨rfl, hb5⟩
      have hup5 : Below w.heap.size w w5 := (hup3.alloc hup3.size _).trans (hb5.mono (by simp; have := hup3.size; omega))
      clear hb5
      go_wp2
      go_ret
      exact ⟨rfl, hup5⟩
  · generalize hc : chkI op a b n = c at h0
    have HC := Lib.hid hc
    clear hc
    have hc' : (c == 0) = false := by simpa using h0
    have H0 := Lib.hid h0
    clear h0
    go_enter Tryd.func5, Tryd.ntmps5
    go_wp2_with fail
    refine (show_any op a b n ha hb hn _ (he.up (by repeat (first | exact Below.refl _ _ | assumption | refine Below.drew ?_ | refine Below.alloc ?_ (by simp) _ | refine Below.setCell ?_ (by simp) _)))).mono ?_
    rw [HC.out, if_neg H0.out]
    rintro e w1 ⟨rfl, hb1⟩
    have hup1 : Below w.heap.size w w1 := ((Below.refl _ _).alloc (Nat.le_refl _) _).trans (hb1.mono (by simp))
    have he1 := he.up hup1
    clear hb1
    by_cases hr : readOk l
    · have gg := hr
      have HR := Lib.hid hr
      clear hr gg
      go_wp2_with fail
      refine (read_good l _ he1 hs HR.out).mono ?_
      rintro e w3 ⟨rfl, hb3⟩
      have hup3 : Below w.heap.size w w3 := hup1.trans (hb3.mono hup1.size)
      have he3 := he.up hup3
      clear hb3
      go_wp2_with fail
      refine (show_right (gK l) (gA l) (gB l) (gN l) l (gA_in64 l) (gB_in64 l) (gN_in64 l) HR.out.1 (by rw [Int.toNat_natCast]; exact HR.out.2) _ (he3.up (by repeat (first | exact Below.refl _ _ | assumption | refine Below.drew ?_ | refine Below.alloc ?_ (by simp) _ | refine Below.setCell ?_ (by simp) _)))).mono ?_
      rintro e w4 ⟨rfl, hb4⟩
      have hup4 : Below w.heap.size w w4 := (hup3.alloc hup3.size _).trans (hb4.mono (by simp; have := hup3.size; omega))
      have he4 := he.up hup4
      clear hb4
      go_wp2_with fail
      refine (begun_any _ he4).mono ?_
      rintro e w5 ⟨rfl, hb5⟩
      have hup5 : Below w.heap.size w w5 := hup4.trans (hb5.mono hup4.size)
      clear hb5
      go_wp2
      go_ret
      exact ⟨by simp, hup5⟩
    · have HR := Lib.hid hr
      clear hr
      go_wp2_with fail
      refine (read_bad l _ he1 hs HR.out).mono ?_
      rintro e w3 ⟨rfl, hb3⟩
      have hup3 : Below w.heap.size w w3 := hup1.trans (hb3.mono hup1.size)
      have he3 := he.up hup3
      clear hb3
      go_wp2_with fail
      refine (begun_any _ (he3.up (by repeat (first | exact Below.refl _ _ | assumption | refine Below.drew ?_ | refine Below.alloc ?_ (by simp) _ | refine Below.setCell ?_ (by simp) _)))).mono ?_
      rintro e w5 ⟨rfl, hb5⟩
      have hup5 : Below w.heap.size w w5 := (hup3.alloc hup3.size _).trans (hb5.mono (by simp; have := hup3.size; omega))
      clear hb5
      go_wp2
      go_ret
      exact ⟨rfl, hup5⟩
