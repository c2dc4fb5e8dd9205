/- A part of the proofs over this seat's laws: what a function of the program, or of the reference, answers and leaves, told by its theorems below. -/
import Derived.Test.YtclnedeodmlfeaaDoorJ1
import Derived.Test.YtclnedeodmlfeaaDoorJ3
import Derived.Test.YtclnedeodmlfeaaDoorRows
import Derived.ProofKit
import Derived.OpenShut
import Derived.Lib.LaidTab
import Derived.Stop.LaidErr
import Derived.LaidLaws
import Derived.Shelf.LaysM
import Derived.WideWitness
import Derived.KernelRfl
import Derived.WalkKit
import Derived.Carry
import Derived.Lib.SmallJoins
import Derived.Deep.DeepHandedRow
import Derived.SizedLaws
namespace Go.Proofs.YtclnedeodmlfeaaDoor
set_option linter.unusedSimpArgs false
set_option linter.unusedVariables false
open Go.RowKit Go.Sort
theorem read_good (l : List UInt8) (w : World) (he : Env w) (hs : l.length < 281474976710657) (h : readOk l) :
    Calls Tryd.prog 14 #[.string ⟨l.toArray⟩] w fun e w' => e = .returned (.tuple #[.agg #[.int .i64 (gK l), .int .i64 (gA l), .int .i64 (gB l), .int .i64 (gN l)], .int .i64 0]) ∧ Below w.heap.size w w' := by
  refine (read_any l w he hs).mono ?_
  rintro e w' ⟨rfl, hb⟩
  refine ⟨?_, hb⟩
  unfold readOk at h
  rw [if_pos h]; rfl
theorem read_bad (l : List UInt8) (w : World) (he : Env w) (hs : l.length < 281474976710657) (h : ¬ readOk l) :
    Calls Tryd.prog 14 #[.string ⟨l.toArray⟩] w fun e w' => e = .returned (.tuple #[.agg #[.int .i64 0, .int .i64 0, .int .i64 0, .int .i64 0], .int .i64 1]) ∧ Below w.heap.size w w' := by
  refine (read_any l w he hs).mono ?_
  rintro e w' ⟨rfl, hb⟩
  refine ⟨?_, hb⟩
  unfold readOk at h
  rw [if_neg h]; rfl
theorem show_right (op a b n : Int) (t : List UInt8) (ha : in64 a) (hb : in64 b) (hn : in64 n) (h : chkI op a b n = 0) (ht : txt op.toNat a b n = t) (w : World) (he : Env w) :
    Calls Tryd.prog 9 #[.agg #[.int .i64 op, .int .i64 a, .int .i64 b, .int .i64 n]] w fun e w' => e = .returned (.tuple #[.string ⟨t.toArray⟩, .int .i64 0]) ∧ Below w.heap.size w w' := by
  refine (show_any op a b n ha hb hn w he).mono ?_
  rintro e w' ⟨rfl, hb⟩
  exact ⟨by rw [if_pos h, h, ht], hb⟩
theorem txt_len (k : Nat) (hk : k < 16) (a b n : Int) (ha : in64 a) (hb : in64 b) (hn : in64 n) : (txt k a b n).length ≤ 70 := by
  have h1 := rowW_le k hk
  have h2 := Lib.itoa_length_le a ha.1 ha.2
  have h3 := Lib.itoa_length_le b hb.1 hb.2
  have h4 := Lib.itoa_length_le n hn.1 hn.2
  unfold txt
  simp only [List.length_append]
  split <;> split <;> split <;> simp <;> omega
theorem readOk_txt (k : Nat) (a b n : Int) (ha : in64 a) (hb : in64 b) (hn : in64 n) (h : chkI k a b n = 0) : readOk (txt k a b n) := by
  obtain ⟨e1, e2, e3, e4⟩ := guess_txt k a b n ha hb hn h
  unfold readOk
  rw [e1, e2, e3, e4]
  exact ⟨h, rfl⟩
theorem read_txt (k : Nat) (a b n : Int) (ha : in64 a) (hb : in64 b) (hn : in64 n) (h : chkI k a b n = 0) (t : List UInt8) (ht : txt k a b n = t) (w : World) (he : Env w) :
    Calls Tryd.prog 14 #[.string ⟨t.toArray⟩] w fun e w' => e = .returned (.tuple #[.agg #[.int .i64 k, .int .i64 a, .int .i64 b, .int .i64 n], .int .i64 0]) ∧ Below w.heap.size w w' := by
  obtain ⟨k', e, _, hk, _⟩ := right_of h
  obtain rfl : k = k' := by omega
  have hl := txt_len k hk a b n ha hb hn
  obtain ⟨e1, e2, e3, e4⟩ := guess_txt k a b n ha hb hn h
  refine (read_good t w he (by rw [← ht]; omega) (ht ▸ readOk_txt k a b n ha hb hn h)).mono ?_
  rintro e w' ⟨rfl, hb⟩
  refine ⟨?_, hb⟩
  rw [← ht, e1, e2, e3, e4]
set_option maxHeartbeats 1000000 in
theorem isaBack_any (op a b n : Int) (ha : in64 a) (hb : in64 b) (hn : in64 n) (l : List UInt8) (hs : l.length < 281474976710657) (w : World) (he : Env w) :
    Calls Tryd.prog 5 #[.agg #[.int .i64 op, .int .i64 a, .int .i64 b, .int .i64 n], .string ⟨l.toArray⟩] w fun e w' => e = .returned (.bool true) ∧ Below w.heap.size w w' := by
  by_cases h0 : chkI op a b n = 0
  · obtain ⟨k, rfl, hk1, hk2, -⟩ := right_of h0
    generalize ht : txt k a b n = t
    have HT := Lib.hid ht
    clear ht
    have H0 := Lib.hid h0
    clear h0
    go_enter Tryd.func5, Tryd.ntmps5
    go_wp2_with fail
    refine (show_right k a b n t ha hb hn H0.out (by rw [Int.toNat_natCast]; exact HT.out) _ (he.up (by repeat (first | exact Below.refl _ _ | assumption | refine Below.drew ?_ | refine Below.alloc ?_ (by first | (simp; done) | (simp; omega)) _ | refine Below.setCell ?_ (by first | (simp; done) | (simp; omega)) _)))).mono ?_
    rintro e w1 ⟨rfl, hb1⟩
    have he1 := (he.up (by repeat (first | exact Below.refl _ _ | assumption | refine Below.drew ?_ | refine Below.alloc ?_ (by first | (simp; done) | (simp; omega)) _ | refine Below.setCell ?_ (by first | (simp; done) | (simp; omega)) _))).up hb1
    have hup1 : Below w.heap.size w w1 := ((Below.refl _ _).alloc (Nat.le_refl _) _).trans (hb1.mono (by simp))
    have hz1 : w.heap.size < w1.heap.size := by have := hb1.size; simp at this; omega
    have a0 : w1.cell? ⟨w.heap.size, 0, none⟩ = some (.int .i64 k) := bcl hb1 (by simp) (by simp)
    have a1 : w1.cell? ⟨w.heap.size, 1, none⟩ = some (.int .i64 a) := bcl hb1 (by simp) (by simp)
    have a2 : w1.cell? ⟨w.heap.size, 2, none⟩ = some (.int .i64 b) := bcl hb1 (by simp) (by simp)
    have a3 : w1.cell? ⟨w.heap.size, 3, none⟩ = some (.int .i64 n) := bcl hb1 (by simp) (by simp)
    clear hb1
    go_wp2_with fail
    refine (read_txt k a b n ha hb hn H0.out t HT.out _ he1).mono ?_
    rintro e w2 ⟨rfl, hb2⟩
    have he2 := he1.up hb2
    have hup2 : Below w.heap.size w w2 := hup1.trans (hb2.mono hup1.size)
    have hz2 : w.heap.size < w2.heap.size := Nat.lt_of_lt_of_le hz1 hb2.size
    have a0 := bcl hb2 hz1 a0
    have a1 := bcl hb2 hz1 a1
    have a2 := bcl hb2 hz1 a2
    have a3 := bcl hb2 hz1 a3
    clear hb2
    have kk : ((k : Int) == k) = true := by simp
    have aa : (a == a) = true := by simp
    have bb : (b == b) = true := by simp
    have nn : (n == n) = true := by simp
    by_cases hr : readOk l
    · have gg := hr
      have HR := Lib.hid hr
      clear hr gg
      go_wp2_with fail
      refine (read_good l _ (he2.up (by repeat (first | exact Below.refl _ _ | assumption | refine Below.drew ?_ | refine Below.alloc ?_ (by first | (simp; done) | (simp; omega)) _ | refine Below.setCell ?_ (by first | (simp; done) | (simp; omega)) _))) hs HR.out).mono ?_
      rintro e w3 ⟨rfl, hb3⟩
      have hup3 : Below w.heap.size w w3 := (hup2.alloc hup2.size _).trans (hb3.mono (by simp; omega))
      have he3 := he.up hup3
      clear hb3
      go_wp2_with fail
      refine (show_right (gK l) (gA l) (gB l) (gN l) l (gA_in64 l) (gB_in64 l) (gN_in64 l) HR.out.1 (by rw [Int.toNat_natCast]; exact HR.out.2) _ (he3.up (by repeat (first | exact Below.refl _ _ | assumption | refine Below.drew ?_ | refine Below.alloc ?_ (by first | (simp; done) | (simp; omega)) _ | refine Below.setCell ?_ (by first | (simp; done) | (simp; omega)) _)))).mono ?_
      rintro e w4 ⟨rfl, hb4⟩
      have hup4 : Below w.heap.size w w4 := (hup3.alloc hup3.size _).trans (hb4.mono (by simp; have := hup3.size; omega))
      have he4 := he.up hup4
      clear hb4
      go_wp2_with fail
      refine (begun_any _ he4).mono ?_
      rintro e w5 ⟨rfl, hb5⟩
      have hup5 : Below w.heap.size w w5 := hup4.trans (hb5.mono hup4.size)
      clear hb5
      go_wp2
      go_ret
      exact ⟨by simp, hup5⟩
    · have HR := Lib.hid hr
      clear hr
      go_wp2_with fail
      refine (read_bad l _ (he2.up (by repeat (first | exact Below.refl _ _ | assumption | refine Below.drew ?_ | refine Below.alloc ?_ (by first | (simp; done) | (simp; omega)) _ | refine Below.setCell ?_ (by first | (simp; done) | (simp; omega)) _))) hs HR.out).mono ?_
      rintro e w3 ⟨rfl, hb3⟩
      have hup3 : Below w.heap.size w w3 := (hup2.alloc hup2.size _).trans (hb3.mono (by simp; omega))
      have he3 := he.up hup3
      clear hb3
      go_wp2_with fail
      refine (begun_any _ (he3.up (by repeat (first | exact Below.refl _ _ | assumption | refine Below.drew ?_ | refine Below.alloc ?_ (by first | (simp; done) | (simp; omega)) _ | refine Below.setCell ?_ (by first | (simp; done) | (simp; omega)) _)))).mono ?_
      rintro e w5 ⟨rfl, hb5⟩
      have hup5 : Below w.heap.size w w5 := (hup3.alloc hup3.size _).trans (hb5.mono (by simp; have := hup3.size; omega))
      clear hb5
      go_wp2
      go_ret
      exact ⟨rfl, hup5⟩
  · generalize hc : chkI op a b n = c at h0
    have HC := Lib.hid hc
    clear hc
    have hc' : (c == 0) = false := by simpa using h0
    have H0 := Lib.hid h0
    clear h0
    go_enter Tryd.func5, Tryd.ntmps5
    go_wp2_with fail
    refine (show_any op a b n ha hb hn _ (he.up (by repeat (first | exact Below.refl _ _ | assumption | refine Below.drew ?_ | refine Below.alloc ?_ (by first | (simp; done) | (simp; omega)) _ | refine Below.setCell ?_ (by first | (simp; done) | (simp; omega)) _)))).mono ?_
    rw [HC.out, if_neg H0.out]
    rintro e w1 ⟨rfl, hb1⟩
    have hup1 : Below w.heap.size w w1 := ((Below.refl _ _).alloc (Nat.le_refl _) _).trans (hb1.mono (by simp))
    have he1 := he.up hup1
    clear hb1
    by_cases hr : readOk l
    · have gg := hr
      have HR := Lib.hid hr
      clear hr gg
      go_wp2_with fail
      refine (read_good l _ he1 hs HR.out).mono ?_
      rintro e w3 ⟨rfl, hb3⟩
      have hup3 : Below w.heap.size w w3 := hup1.trans (hb3.mono hup1.size)
      have he3 := he.up hup3
      clear hb3
      go_wp2_with fail
      refine (show_right (gK l) (gA l) (gB l) (gN l) l (gA_in64 l) (gB_in64 l) (gN_in64 l) HR.out.1 (by rw [Int.toNat_natCast]; exact HR.out.2) _ (he3.up (by repeat (first | exact Below.refl _ _ | assumption | refine Below.drew ?_ | refine Below.alloc ?_ (by first | (simp; done) | (simp; omega)) _ | refine Below.setCell ?_ (by first | (simp; done) | (simp; omega)) _)))).mono ?_
      rintro e w4 ⟨rfl, hb4⟩
      have hup4 : Below w.heap.size w w4 := (hup3.alloc hup3.size _).trans (hb4.mono (by simp; have := hup3.size; omega))
      have he4 := he.up hup4
      clear hb4
      go_wp2_with fail
      refine (begun_any _ he4).mono ?_
      rintro e w5 ⟨rfl, hb5⟩
      have hup5 : Below w.heap.size w w5 := hup4.trans (hb5.mono hup4.size)
      clear hb5
      go_wp2
      go_ret
      exact ⟨by simp, hup5⟩
    · have HR := Lib.hid hr
      clear hr
      go_wp2_with fail
      refine (read_bad l _ he1 hs HR.out).mono ?_
      rintro e w3 ⟨rfl, hb3⟩
      have hup3 : Below w.heap.size w w3 := hup1.trans (hb3.mono hup1.size)
      have he3 := he.up hup3
      clear hb3
      go_wp2_with fail
      refine (begun_any _ (he3.up (by repeat (first | exact Below.refl _ _ | assumption | refine Below.drew ?_ | refine Below.alloc ?_ (by first | (simp; done) | (simp; omega)) _ | refine Below.setCell ?_ (by first | (simp; done) | (simp; omega)) _)))).mono ?_
      rintro e w5 ⟨rfl, hb5⟩
      have hup5 : Below w.heap.size w w5 := (hup3.alloc hup3.size _).trans (hb5.mono (by simp; have := hup3.size; omega))
      clear hb5
      go_wp2
      go_ret
      exact ⟨rfl, hup5⟩
end Go.Proofs.YtclnedeodmlfeaaDoor

namespace Go.Proofs.YtclnedeodmlfeaaDoor
set_option linter.unusedSimpArgs false
set_option linter.unusedVariables false
open Go.RowKit Go.Sort
theorem split_app (m : Nat) (h : 0 < m) : ∀ (x cur y : List UInt8), (∀ c ∈ x, c ≠ 32) → splitG 32 m cur (x ++ 32 :: y) = (cur ++ x) :: splitG 32 (m - 1) [] y
  | [], cur, y, _ => by rw [List.nil_append, splitG_hit 32 m cur y h, List.append_nil]
  | c :: x, cur, y, hx => by
    rw [List.cons_append, splitG_miss 32 c m cur _ h (hx c (by simp)), split_app m h x (cur ++ [c]) y (fun d hd => hx d (by simp [hd]))]
    simp
theorem split_one (m : Nat) (h : 0 < m) : ∀ (x cur : List UInt8), (∀ c ∈ x, c ≠ 32) → splitG 32 m cur x = [cur ++ x]
  | [], cur, _ => by rw [splitG_end 32 m cur h, List.append_nil]
  | c :: x, cur, hx => by
    rw [splitG_miss 32 c m cur _ h (hx c (by simp)), split_one m h x (cur ++ [c]) (fun d hd => hx d (by simp [hd]))]
    simp
theorem ref_txt (k : Nat) (a b n : Int) (ha : in64 a) (hb : in64 b) (hn : in64 n) (h : chkI k a b n = 0) :
    rK (txt k a b n) = k ∧ rA (txt k a b n) = a ∧ rB (txt k a b n) = b ∧ rN (txt k a b n) = n := by
  obtain ⟨k', e, h1, h2, zA, zB, zN⟩ := right_of h
  obtain rfl : k = k' := by omega
  have w := rowW_no32 k h2
  have ia := itoa_no32 a
  have ib := itoa_no32 b
  have i_n := itoa_no32 n
  have nk := named_row k h1 h2
  have na := said_itoa a ha
  have nb := said_itoa b hb
  have nn := said_itoa n hn
  have eS : splitF 32 5 (txt k a b n) = rowW k :: ((if rowA k then [Lib.itoa a] else []) ++ ((if rowB k then [Lib.itoa b] else []) ++ (if rowN k then [Lib.itoa n] else []))) := by
    unfold splitF
    cases hA : rowA k <;> cases hB : rowB k <;> cases hN : rowN k
    all_goals
      simp only [txt, hA, hB, hN, Bool.false_eq_true, if_false, if_true, List.append_nil, List.append_assoc, List.cons_append, List.nil_append]
      repeat (first
        | rw [split_app _ (by decide) _ _ _ w, List.nil_append]
        | rw [split_app _ (by decide) _ _ _ ia, List.nil_append]
        | rw [split_app _ (by decide) _ _ _ ib, List.nil_append]
        | rw [split_one _ (by decide) _ _ w, List.nil_append]
        | rw [split_one _ (by decide) _ _ ia, List.nil_append]
        | rw [split_one _ (by decide) _ _ ib, List.nil_append]
        | rw [split_one _ (by decide) _ _ i_n, List.nil_append])
  have eK : rK (txt k a b n) = k := by unfold rK; rw [eS]; exact nk
  have eW : rW (txt k a b n) = ((if rowA k then [Lib.itoa a] else []) ++ ((if rowB k then [Lib.itoa b] else []) ++ (if rowN k then [Lib.itoa n] else []))) ++ [[], [], []] := by unfold rW; rw [eS]; rfl
  refine ⟨eK, ?_⟩
  cases hA : rowA k <;> cases hB : rowB k <;> cases hN : rowN k
  all_goals
    simp only [rA, rB, rN, rW1, rW2, eK, eW, hA, hB, hN, Bool.false_eq_true, if_false, if_true, List.append_nil, List.nil_append, List.cons_append, List.headD_cons, List.tail_cons, na, nb, nn, and_true, true_and]
    try (first | exact ⟨(zA hA).symm, (zB hB).symm, (zN hN).symm⟩ | exact ⟨(zA hA).symm, (zB hB).symm⟩ | exact ⟨(zB hB).symm, (zN hN).symm⟩ | exact ⟨(zA hA).symm, (zN hN).symm⟩ | exact (zA hA).symm | exact (zB hB).symm | exact (zN hN).symm)
theorem rA_in64 (l : List UInt8) : in64 (rA l) := by unfold rA; split; exact said_in64 _; exact zero_in64
theorem rB_in64 (l : List UInt8) : in64 (rB l) := by unfold rB; split; exact said_in64 _; exact zero_in64
theorem rN_in64 (l : List UInt8) : in64 (rN l) := by unfold rN; split; exact said_in64 _; exact zero_in64
theorem ref_ok {l : List UInt8} (h : readOk l) : chkI (rK l) (rA l) (rB l) (rN l) = 0 ∧ txt (rK l) (rA l) (rB l) (rN l) = l ∧ rV l = gV l := by
  obtain ⟨h1, h2⟩ := h
  obtain ⟨e1, e2, e3, e4⟩ := ref_txt (gK l) (gA l) (gB l) (gN l) (gA_in64 l) (gB_in64 l) (gN_in64 l) h1
  rw [h2] at e1 e2 e3 e4
  refine ⟨by rw [e1, e2, e3, e4]; exact h1, by rw [e1, e2, e3, e4]; exact h2, ?_⟩
  unfold rV gV; rw [e1, e2, e3, e4]
theorem ref_bad {l : List UInt8} (h : ¬ readOk l) : ¬ (chkI (rK l) (rA l) (rB l) (rN l) = 0 ∧ txt (rK l) (rA l) (rB l) (rN l) = l) := by
  rintro ⟨h1, h2⟩
  apply h
  have := readOk_txt (rK l) (rA l) (rB l) (rN l) (rA_in64 l) (rB_in64 l) (rN_in64 l) h1
  rwa [h2] at this
theorem from_good (l : List UInt8) (hs : l.length < 281474976710657) (h : readOk l) (w : World) :
    Calls Tryd.prog 15 #[.string ⟨l.toArray⟩] w fun e w' => e = .returned (.tuple #[.agg #[.int .i64 (gK l), .int .i64 (gA l), .int .i64 (gB l), .int .i64 (gN l)], .bool true]) ∧ Below w.heap.size w w' := by
  obtain ⟨h1, h2, h3⟩ := ref_ok h
  refine (from_any l hs w).mono ?_
  rintro e w' ⟨rfl, hb⟩
  refine ⟨?_, hb⟩
  rw [if_pos ⟨h1, h2⟩, h3]; rfl
theorem from_bad (l : List UInt8) (hs : l.length < 281474976710657) (h : ¬ readOk l) (w : World) :
    Calls Tryd.prog 15 #[.string ⟨l.toArray⟩] w fun e w' => e = .returned (.tuple #[.agg #[.int .i64 0, .int .i64 0, .int .i64 0, .int .i64 0], .bool false]) ∧ Below w.heap.size w w' := by
  refine (from_any l hs w).mono ?_
  rintro e w' ⟨rfl, hb⟩
  refine ⟨?_, hb⟩
  rw [if_neg (ref_bad h)]; rfl
set_option maxHeartbeats 1000000 in
theorem isaReads_any (l : List UInt8) (hs : l.length < 281474976710657) (w : World) (he : Env w) :
    Calls Tryd.prog 4 #[.string ⟨l.toArray⟩] w fun e w' => e = .returned (.bool true) ∧ Below w.heap.size w w' := by
  by_cases hr : readOk l
  · have HR := Lib.hid hr
    clear hr
    have k1 : ((gK l : Int) == gK l) = true := by simp
    have k2 : (gA l == gA l) = true := by simp
    have k3 : (gB l == gB l) = true := by simp
    have k4 : (gN l == gN l) = true := by simp
    go_enter Tryd.func4, Tryd.ntmps4
    go_wp2_with fail
    refine (read_good l _ he hs HR.out).mono ?_
    rintro e w1 ⟨rfl, hb1⟩
    go_wp2_with fail
    refine (from_good l hs HR.out _).mono ?_
    rintro e w2 ⟨rfl, hb2⟩
    have hup2 : Below w.heap.size w w2 := Below.trans (hb1.alloc hb1.size _) (hb2.mono (by simp; have := hb1.size; omega))
    have y0 : w2.cell? ⟨w1.heap.size, 0, none⟩ = some (.int .i64 (gK l)) := bcl hb2 (by simp) (by simp)
    have y1 : w2.cell? ⟨w1.heap.size, 1, none⟩ = some (.int .i64 (gA l)) := bcl hb2 (by simp) (by simp)
    have y2 : w2.cell? ⟨w1.heap.size, 2, none⟩ = some (.int .i64 (gB l)) := bcl hb2 (by simp) (by simp)
    have y3 : w2.cell? ⟨w1.heap.size, 3, none⟩ = some (.int .i64 (gN l)) := bcl hb2 (by simp) (by simp)
    have hz2 : w1.heap.size < w2.heap.size := by have := hb2.size; simp at this; omega
    clear hb1 hb2
    have he2 := he.up hup2
    go_wp2_with fail
    refine (begun_any _ (he2.up (by repeat (first | exact Below.refl _ _ | assumption | refine Below.drew ?_ | refine Below.alloc ?_ (by first | (simp; done) | (simp; omega)) _ | refine Below.setCell ?_ (by first | (simp; done) | (simp; omega)) _)))).mono ?_
    rintro e w3 ⟨rfl, hb3⟩
    have hup3 : Below w.heap.size w w3 := Below.trans (hup2.alloc hup2.size _) (hb3.mono (by simp; have := hup2.size; omega))
    have y0 := bcl hb3 (by simp; omega) (cl_alloc _ hz2 y0)
    have y1 := bcl hb3 (by simp; omega) (cl_alloc _ hz2 y1)
    have y2 := bcl hb3 (by simp; omega) (cl_alloc _ hz2 y2)
    have y3 := bcl hb3 (by simp; omega) (cl_alloc _ hz2 y3)
    have v0 : w3.cell? ⟨w2.heap.size, 0, none⟩ = some (.int .i64 (gK l)) := bcl hb3 (by simp) (by simp)
    have v1 : w3.cell? ⟨w2.heap.size, 1, none⟩ = some (.int .i64 (gA l)) := bcl hb3 (by simp) (by simp)
    have v2 : w3.cell? ⟨w2.heap.size, 2, none⟩ = some (.int .i64 (gB l)) := bcl hb3 (by simp) (by simp)
    have v3 : w3.cell? ⟨w2.heap.size, 3, none⟩ = some (.int .i64 (gN l)) := bcl hb3 (by simp) (by simp)
    clear hb3
    go_wp2
    go_ret
    exact ⟨by simp, hup3⟩
  · have HR := Lib.hid hr
    clear hr
    go_enter Tryd.func4, Tryd.ntmps4
    go_wp2_with fail
    refine (read_bad l _ he hs HR.out).mono ?_
    rintro e w1 ⟨rfl, hb1⟩
    go_wp2_with fail
    refine (from_bad l hs HR.out _).mono ?_
    rintro e w2 ⟨rfl, hb2⟩
    have hup2 : Below w.heap.size w w2 := Below.trans (hb1.alloc hb1.size _) (hb2.mono (by simp; have := hb1.size; omega))
    have y0 : w2.cell? ⟨w1.heap.size, 0, none⟩ = some (.int .i64 0) := bcl hb2 (by simp) (by simp)
    have y1 : w2.cell? ⟨w1.heap.size, 1, none⟩ = some (.int .i64 0) := bcl hb2 (by simp) (by simp)
    have y2 : w2.cell? ⟨w1.heap.size, 2, none⟩ = some (.int .i64 0) := bcl hb2 (by simp) (by simp)
    have y3 : w2.cell? ⟨w1.heap.size, 3, none⟩ = some (.int .i64 0) := bcl hb2 (by simp) (by simp)
    have hz2 : w1.heap.size < w2.heap.size := by have := hb2.size; simp at this; omega
    clear hb1 hb2
    have he2 := he.up hup2
    go_wp2_with fail
    refine (begun_any _ (he2.up (by repeat (first | exact Below.refl _ _ | assumption | refine Below.drew ?_ | refine Below.alloc ?_ (by first | (simp; done) | (simp; omega)) _ | refine Below.setCell ?_ (by first | (simp; done) | (simp; omega)) _)))).mono ?_
    rintro e w3 ⟨rfl, hb3⟩
    have hup3 : Below w.heap.size w w3 := Below.trans (hup2.alloc hup2.size _) (hb3.mono (by simp; have := hup2.size; omega))
    have y0 := bcl hb3 (by simp; omega) (cl_alloc _ hz2 y0)
    have y1 := bcl hb3 (by simp; omega) (cl_alloc _ hz2 y1)
    have y2 := bcl hb3 (by simp; omega) (cl_alloc _ hz2 y2)
    have y3 := bcl hb3 (by simp; omega) (cl_alloc _ hz2 y3)
    have v0 : w3.cell? ⟨w2.heap.size, 0, none⟩ = some (.int .i64 0) := bcl hb3 (by simp) (by simp)
    have v1 : w3.cell? ⟨w2.heap.size, 1, none⟩ = some (.int .i64 0) := bcl hb3 (by simp) (by simp)
    have v2 : w3.cell? ⟨w2.heap.size, 2, none⟩ = some (.int .i64 0) := bcl hb3 (by simp) (by simp)
    have v3 : w3.cell? ⟨w2.heap.size, 3, none⟩ = some (.int .i64 0) := bcl hb3 (by simp) (by simp)
    clear hb3
    go_wp2
    go_ret
    exact ⟨by simp, hup3⟩
end Go.Proofs.YtclnedeodmlfeaaDoor

namespace Go.Proofs.YtclnedeodmlfeaaDoor
set_option linter.unusedSimpArgs false
set_option linter.unusedVariables false
open Go.RowKit Go.Sort
theorem gER : Tryd.prog.globalNamed "strconv.ErrRange" = some 4 := by kernel_rfl
theorem gERType : (Tryd.prog.globals[4]?).map (·.type) = some 74 := by kernel_rfl
theorem gES : Tryd.prog.globalNamed "strconv.ErrSyntax" = some 3 := by kernel_rfl
theorem gESType : (Tryd.prog.globals[3]?).map (·.type) = some 74 := by kernel_rfl
theorem gPowType : (Tryd.prog.globals[2]?).map (·.type) = some 100 := by kernel_rfl
theorem gShp : Tryd.prog.globalNamed "lychgate/isa.shapes" = some 0 := by kernel_rfl
theorem gShpType : (Tryd.prog.globals[0]?).map (·.type) = some 56 := by kernel_rfl
theorem gDb : Tryd.prog.globalNamed "math/bits.deBruijn64tab" = some 6 := by kernel_rfl
theorem star : "*" ++ "errors.errorString" = "*errors.errorString" := by decide
theorem row122 (u : TypeId) (h : Tryd.prog.typeName? 3 u = some "*errors.errorString") : u = 122 :=
  typeName_ptr_named (nm := "errors.errorString") (by rw [star]; kernel_rfl) (by kernel_rfl) (by decide) u (by rw [star]; exact h)
theorem cells124 : Tryd.prog.cellsOf 124 = 1 := by kernel_rfl
theorem cells9 : Tryd.prog.cellsOf 9 = 1 := by kernel_rfl
theorem cells90 : Tryd.prog.cellsOf 90 = 1 := by kernel_rfl
theorem cells100 : Tryd.prog.cellsOf 100 = 20 := by kernel_rfl
theorem cells55 : Tryd.prog.cellsOf 55 = 6 := by kernel_rfl
theorem cells4 : Tryd.prog.cellsOf 4 = 1 := by kernel_rfl
theorem cells3 : Tryd.prog.cellsOf 3 = 1 := by kernel_rfl
def rowD {H : Type} (k : Nat) : DataW H := .agg [.lit (.string (rowW k)), .lit (.bool (rowA k)), .lit (.bool (rowB k)), .lit (.bool (rowN k)), .lit (.int .i64 (rowLo k)), .lit (.int .i64 (rowHi k))]
theorem laid_rows {H : Type} : (Rows.laid_lychgate_isa_shapes : DataW H) = .agg ((List.range 16).map rowD) := rfl
theorem at_of {cs : List Value} {o : Nat} {v : Value} (h : (cs.drop o).take 1 = [v]) : cs[o]? = some v := by
  have := congrArg (·[0]?) h
  simpa [List.getElem?_take, List.getElem?_drop] using this
theorem at_in {cs : List Value} {a o : Nat} {v : Value} (h : ((cs.drop a).take 6)[o]? = some v) (ho : o < 6) : cs[a + o]? = some v := by
  rw [List.getElem?_take, if_pos ho, List.getElem?_drop] at h; exact h
theorem row_cells {H : Type} {enc : TypeId × Value → H} {W : World} {base : Nat} {sp : Nat → Bool} {held : Bool} {fuel : Nat} {cs : List Value} {k : Nat} {p : List MemPlace}
    (h : DataW.trod enc Tryd.prog W base sp held fuel 55 cs = some (rowD k, p)) :
    cs[0]? = some (.string ⟨(rowW k).toArray⟩) ∧ cs[1]? = some (.bool (rowA k)) ∧ cs[2]? = some (.bool (rowB k)) ∧ cs[3]? = some (.bool (rowN k)) ∧ cs[4]? = some (.int .i64 (rowLo k)) ∧ cs[5]? = some (.int .i64 (rowHi k)) := by
  obtain ⟨xs, n, _, hx, hl, hlen, hf⟩ := DataW.trod_struct Tryd.underlying55 h
  have f0 := hf 0 _ rfl
  have f1 := hf 1 _ rfl
  have f2 := hf 2 _ rfl
  have f3 := hf 3 _ rfl
  have f4 := hf 4 _ rfl
  have f5 := hf 5 _ rfl
  match xs, hlen with
  | [y0, y1, y2, y3, y4, y5], _ =>
    simp only [rowD, Prod.mk.injEq, DataW.agg.injEq, List.map_cons, List.map_nil, List.cons.injEq, and_true] at hx
    obtain ⟨⟨e0, e1, e2, e3, e4, e5⟩, _⟩ := hx
    obtain ⟨s, c0, d0, _⟩ := DataW.trod_string Tryd.underlying9 f0
    obtain ⟨b1, c1, d1⟩ := DataW.trod_bool Tryd.underlying4 f1
    obtain ⟨b2, c2, d2⟩ := DataW.trod_bool Tryd.underlying4 f2
    obtain ⟨b3, c3, d3⟩ := DataW.trod_bool Tryd.underlying4 f3
    obtain ⟨n4, c4, d4, _⟩ := DataW.trod_int Tryd.underlying3 f4
    obtain ⟨n5, c5, d5, _⟩ := DataW.trod_int Tryd.underlying3 f5
    subst d0 d1 d2 d3 d4 d5
    simp only [DataW.lit.injEq, Lit.string.injEq, Lit.bool.injEq, Lit.int.injEq, true_and] at e0 e1 e2 e3 e4 e5
    subst e1 e2 e3 e4 e5
    change (cs.drop 0).take (Tryd.prog.cellsOf 9) = _ at c0
    change (cs.drop 1).take (Tryd.prog.cellsOf 4) = _ at c1
    change (cs.drop 2).take (Tryd.prog.cellsOf 4) = _ at c2
    change (cs.drop 3).take (Tryd.prog.cellsOf 4) = _ at c3
    change (cs.drop 4).take (Tryd.prog.cellsOf 3) = _ at c4
    change (cs.drop 5).take (Tryd.prog.cellsOf 3) = _ at c5
    rw [cells9] at c0
    rw [cells4] at c1 c2 c3
    rw [cells3] at c4 c5
    have es : s = ⟨(rowW k).toArray⟩ := by
      apply ByteArray.ext
      rw [e0]
    exact ⟨es ▸ at_of c0, at_of c1, at_of c2, at_of c3, at_of c4, at_of c5⟩
theorem shp_of {W : World} {r : List (String × DataW Unit)} (h : laidMet Tryd.prog (("lychgate/isa.shapes", Rows.laid_lychgate_isa_shapes) :: r) W) : Shp W := by
  obtain ⟨ps, ⟨g', t', cs, fuel, p, q, hg', ht', hvar, hd, _, _⟩, _⟩ := h
  obtain rfl := Option.some.inj (gShp.symm.trans hg')
  obtain rfl := Option.some.inj (gShpType.symm.trans ht')
  obtain ⟨xs, m, _, hx, hl, hlen, hf⟩ := DataW.trod_array Tryd.underlying56 hd
  have hrow : ∀ k, k < 16 → ∃ p', DataW.trod (fun _ => ()) Tryd.prog W 0 (fun _ => true) false m 55 ((cs.toList.drop (k * 6)).take 6) = some (rowD k, p') := by
    intro k hk
    have h1 := hf k hk
    rw [cells55] at h1
    have h2 : xs.map (·.1) = (List.range 16).map rowD := by
      have := congrArg Prod.fst hx
      simp only [laid_rows, DataW.agg.injEq] at this
      exact this.symm
    have h3 := congrArg (·[k]?) h2
    simp only [List.getElem?_map, List.getElem?_range hk, Option.map_some] at h3
    cases hy : xs[k]? with
    | none => rw [hy] at h3; cases h3
    | some y =>
      rw [hy] at h3
      simp only [Option.map_some, Option.some.injEq] at h3
      refine ⟨y.2, ?_⟩
      rw [h1, hy, ← h3]
  have cell : ∀ i, W.cell? ⟨0, i, none⟩ = cs[i]? := fun i => World.var?_cell gShp hvar i
  have key : ∀ k, k < 16 → ∀ j v, j < 6 → ((cs.toList.drop (k * 6)).take 6)[j]? = some v → W.cell? ⟨0, k * 6 + j, none⟩ = some v := by
    intro k hk j v hj h
    have := at_in h hj
    rw [cell, ← Array.getElem?_toList]
    exact this
  refine ⟨?_, fun k hk => ?_, fun k hk => ?_, fun k hk => ?_, fun k hk => ?_, fun k hk => ?_, fun k hk => ?_⟩
  · have h0 : W.var? Tryd.prog "lychgate/isa.shapes" = some cs := hvar
    unfold World.var? at h0
    rw [gShp] at h0
    simp only [Option.bind_some] at h0
    rcases Nat.lt_or_ge 0 W.heap.size with h' | h'
    · exact h'
    · simp [Array.getElem?_eq_none h'] at h0
  all_goals obtain ⟨p', hp⟩ := hrow k hk
  all_goals obtain ⟨r0, r1, r2, r3, r4, r5⟩ := row_cells hp
  · exact key k hk 0 _ (by decide) r0
  · exact key k hk 1 _ (by decide) r1
  · exact key k hk 2 _ (by decide) r2
  · exact key k hk 3 _ (by decide) r3
  · exact key k hk 4 _ (by decide) r4
  · exact key k hk 5 _ (by decide) r5
theorem var_lt {W : World} {n : String} {g : Nat} {cs : Array Value} (hg : Tryd.prog.globalNamed n = some g) (h : W.var? Tryd.prog n = some cs) : g < W.heap.size := by
  unfold World.var? at h
  rw [hg] at h
  simp only [Option.bind_some] at h
  rcases Nat.lt_or_ge g W.heap.size with h' | h'
  · exact h'
  · simp [Array.getElem?_eq_none h'] at h
theorem max_of (w : World) (h : w.ShapedOpen Tryd.prog) : ∃ m, w.cell? ⟨1, 0, none⟩ = some (.int .i64 m) :=
  Go.Proofs.cell_of_shapedOpen_int (zero := #[.int .i64 0]) (t := 3) h (of_decide_eq_true (by kernel_rfl)) (by kernel_rfl) rfl (by kernel_rfl) (by kernel_rfl) Tryd.underlying3
theorem pow10_eq : Lib.pow10Tab = [1, 10, 100, 1000, 10000, 100000, 1000000, 10000000, 100000000, 1000000000, 10000000000, 100000000000, 1000000000000, 10000000000000, 100000000000000, 1000000000000000, 10000000000000000, 100000000000000000, 1000000000000000000, 10000000000000000000] := by decide +kernel
theorem env_of {W : World} (h : laidMetH Tryd.prog Rows.isaChecksRow.laid W) (hs : W.ShapedOpen Tryd.prog) : Env W := by
  have h0 : laidMet Tryd.prog Rows.isaChecksRow.laid W := h
  have h2 : laidMet Tryd.prog _ W := h0.tail
  have h3 : laidMet Tryd.prog _ W := h2.tail
  have h4 : laidMet Tryd.prog _ W := h3.tail
  have h5 : laidMet Tryd.prog _ W := h4.tail
  have h6 : laidMet Tryd.prog _ W := h5.tail
  obtain ⟨a0, s0, hv0, -, -, -⟩ := laid_sentinel h4 gER gERType Tryd.underlying74 row122 Tryd.underlying122 Tryd.underlying124 rfl rfl Tryd.underlying9 cells124 cells9
  obtain ⟨a1, s1, hv1, -, -, -⟩ := laid_sentinel h5 gES gESType Tryd.underlying74 row122 Tryd.underlying122 Tryd.underlying124 rfl rfl Tryd.underlying9 cells124 cells9
  have ht := Lib.tabIs_of_head (zs := [1, 10, 100, 1000, 10000, 100000, 1000000, 10000000, 100000000, 1000000000, 10000000000, 100000000000, 1000000000000, 10000000000000, 100000000000000, 1000000000000000, 10000000000000000, 100000000000000000, 1000000000000000000, 10000000000000000000]) gPow gPowType Tryd.underlying100 Tryd.underlying90 cells90 cells100 h3
  refine ⟨shp_of h6, by rw [pow10_eq]; exact ht, ⟨_, _, by have h0 := World.var?_cell gES hv1 0; simpa using h0⟩, ⟨_, _, by have h0 := World.var?_cell gER hv0 0; simpa using h0⟩, max_of W hs, ?_⟩
  obtain ⟨ps, ⟨g', t', cs, fuel, p, q, hg', ht', hvar, hd, _, _⟩, _⟩ := h2
  exact var_lt gDb hvar
end Go.Proofs.YtclnedeodmlfeaaDoor

namespace Go.Proofs.YtclnedeodmlfeaaDoor
set_option linter.unusedSimpArgs false
set_option linter.unusedVariables false
def laidW (P : Program) (os : Os) : World :=
  let low := (World.holding P default ⟨#[], #[], []⟩).heap.size
  let w0 := World.holding P os ⟨#[.cells #[.string ⟨#[105, 110, 118, 97, 108, 105, 100, 32, 115, 121, 110, 116, 97, 120]⟩] 124, .cells #[.string ⟨#[118, 97, 108, 117, 101, 32, 111, 117, 116, 32, 111, 102, 32, 114, 97, 110, 103, 101]⟩] 124], #[], []⟩
  let put := fun (h : Array Obj) (g : Nat) (cs : Array Value) => h.modify g fun
      | .cells _ t frozen => .cells cs t frozen
      | o => o
  { w0 with heap := put (put (put (put (put (put w0.heap 0 #[.string ⟨#[]⟩, .bool false, .bool false, .bool false, .int .i64 0, .int .i64 0, .string ⟨#[115, 101, 116]⟩, .bool true, .bool false, .bool true, .int .i64 (-9223372036854775808), .int .i64 9223372036854775807, .string ⟨#[99, 111, 112, 121]⟩, .bool true, .bool true, .bool false, .int .i64 0, .int .i64 0, .string ⟨#[97, 100, 100]⟩, .bool true, .bool true, .bool false, .int .i64 0, .int .i64 0, .string ⟨#[115, 117, 98]⟩, .bool true, .bool true, .bool false, .int .i64 0, .int .i64 0, .string ⟨#[108, 101, 115, 115]⟩, .bool true, .bool true, .bool false, .int .i64 0, .int .i64 0, .string ⟨#[108, 111, 97, 100]⟩, .bool true, .bool true, .bool false, .int .i64 0, .int .i64 0, .string ⟨#[115, 97, 118, 101]⟩, .bool true, .bool true, .bool false, .int .i64 0, .int .i64 0, .string ⟨#[106, 117, 109, 112]⟩, .bool false, .bool false, .bool true, .int .i64 0, .int .i64 19, .string ⟨#[122, 101, 114, 111]⟩, .bool true, .bool false, .bool true, .int .i64 0, .int .i64 19, .string ⟨#[105, 110]⟩, .bool true, .bool false, .bool false, .int .i64 0, .int .i64 0, .string ⟨#[111, 117, 116]⟩, .bool true, .bool false, .bool false, .int .i64 0, .int .i64 0, .string ⟨#[112, 117, 116]⟩, .bool true, .bool false, .bool true, .int .i64 0, .int .i64 5, .string ⟨#[103, 101, 116]⟩, .bool true, .bool true, .bool true, .int .i64 0, .int .i64 5, .string ⟨#[114, 101, 115, 116]⟩, .bool false, .bool false, .bool false, .int .i64 0, .int .i64 0, .string ⟨#[115, 116, 111, 112]⟩, .bool false, .bool false, .bool false, .int .i64 0, .int .i64 0]) 2 #[.int .u64 1, .int .u64 10, .int .u64 100, .int .u64 1000, .int .u64 10000, .int .u64 100000, .int .u64 1000000, .int .u64 10000000, .int .u64 100000000, .int .u64 1000000000, .int .u64 10000000000, .int .u64 100000000000, .int .u64 1000000000000, .int .u64 10000000000000, .int .u64 100000000000000, .int .u64 1000000000000000, .int .u64 10000000000000000, .int .u64 100000000000000000, .int .u64 1000000000000000000, .int .u64 10000000000000000000]) 3 #[.iface 122 (.pointer (some ⟨low, 0, none⟩))]) 4 #[.iface 122 (.pointer (some ⟨low + 1, 0, none⟩))]) 5 #[.int .u8 0, .int .u8 1, .int .u8 28, .int .u8 2, .int .u8 29, .int .u8 14, .int .u8 24, .int .u8 3, .int .u8 30, .int .u8 22, .int .u8 20, .int .u8 15, .int .u8 25, .int .u8 17, .int .u8 4, .int .u8 8, .int .u8 31, .int .u8 27, .int .u8 13, .int .u8 23, .int .u8 21, .int .u8 19, .int .u8 16, .int .u8 7, .int .u8 26, .int .u8 12, .int .u8 18, .int .u8 6, .int .u8 11, .int .u8 5, .int .u8 10, .int .u8 9]) 6 #[.int .u8 0, .int .u8 1, .int .u8 56, .int .u8 2, .int .u8 57, .int .u8 49, .int .u8 28, .int .u8 3, .int .u8 61, .int .u8 58, .int .u8 42, .int .u8 50, .int .u8 38, .int .u8 29, .int .u8 17, .int .u8 4, .int .u8 62, .int .u8 47, .int .u8 59, .int .u8 36, .int .u8 45, .int .u8 43, .int .u8 51, .int .u8 22, .int .u8 53, .int .u8 39, .int .u8 33, .int .u8 30, .int .u8 24, .int .u8 18, .int .u8 12, .int .u8 5, .int .u8 63, .int .u8 55, .int .u8 48, .int .u8 27, .int .u8 60, .int .u8 41, .int .u8 37, .int .u8 16, .int .u8 46, .int .u8 35, .int .u8 44, .int .u8 21, .int .u8 52, .int .u8 32, .int .u8 23, .int .u8 11, .int .u8 54, .int .u8 26, .int .u8 40, .int .u8 15, .int .u8 34, .int .u8 20, .int .u8 31, .int .u8 10, .int .u8 25, .int .u8 14, .int .u8 19, .int .u8 9, .int .u8 13, .int .u8 8, .int .u8 7, .int .u8 6] }
end Go.Proofs.YtclnedeodmlfeaaDoor

namespace Go.Proofs.YtclnedeodmlfeaaDoor
set_option linter.unusedSimpArgs false
set_option linter.unusedVariables false
open Go.ChangeShapes Go.WideShapes Go.ChangeAt Go.RowKit
theorem trodAll_below {H : Type} {enc : TypeId × Value → H} {P : Program} (hl : laidOutB P = true) {W W' : World} (hb : Below W.heap.size W W') :
    ∀ (ts : List TypeId) (vs : List Value) (ds : List (DataW H)) (ps : List MemPlace), (∀ t ∈ ts, P.readableRec t = true ∧ t < P.types.size) → DataW.TrodAll enc P W 0 (fun _ => true) true ts vs ds ps → (∀ x ∈ ps, x.block < W.heap.size) →
      DataW.TrodAll enc P W' 0 (fun b => decide (b < W.heap.size)) true ts vs ds ps
  | [], [], [], _, _, h, _ => h
  | t :: ts, v :: vs, d :: ds, ps, hr, h, hlt => by
    obtain ⟨p, q, h1, h2, rfl⟩ := h
    exact ⟨p, q, Below.trod hl (hr t (by simp)).1 (hr t (by simp)).2 h1 hb (fun x hx => hlt x (by simp [hx])), trodAll_below hl hb ts vs ds q (fun t ht => hr t (by simp [ht])) h2 (fun x hx => hlt x (by simp [hx])), rfl⟩
  | [], _ :: _, _, _, _, h, _ => by cases h
  | [], [], _ :: _, _, _, h, _ => by cases h
  | _ :: _, [], _, _, _, h, _ => by cases h
  | _ :: _, _ :: _, [], _, _, h, _ => by cases h
theorem law_post {H : Type} {enc : TypeId × Value → H} {P : Program} {fn : Func} {s : ChangeSpec} {W W' : World} {args : Array Value} {ds gs : List (DataW H)} {before : List MemPlace} {tb : TypeId}
    (hl : laidOutB P = true) (hp : ∀ t ∈ fn.params.toList, P.readableRec t = true ∧ t < P.types.size) (hvars : s.vars = []) (hres : fn.resultTypes = #[tb]) (hbool : P.underlying tb = some .bool)
    (hW : DataW.Whole enc P fn.params.toList s.vars false W args.toList ds gs before)
    (hfn : gs = [] → (s.fn H (ds ++ gs)).results = [.lit (.bool true)] ∧ (s.fn H (ds ++ gs)).args = ds ∧ (s.fn H (ds ++ gs)).vars = [])
    (hb : Below W.heap.size W W') : s.post enc P fn false true false false W args (.bool true) W' := by
  have hW' := hW
  have hlt := hW.lt
  obtain ⟨p, q, hA, hV, rfl, hfz, hnd⟩ := hW
  rw [hvars] at hV
  obtain ⟨rfl, rfl⟩ := trodVars_none hV
  obtain ⟨e1, e2, e3⟩ := hfn rfl
  refine ⟨ds, [], p ++ [], [], p, [], hW', ?_, ?_, ?_, hb.frame _, fun h => by cases h⟩
  · rw [e1, hres]
    exact trodAll_cons_mk (shut_bool hbool _) trodAll_mk0
  · rw [e2]
    exact trodAll_below hl hb _ _ _ _ hp hA (fun x hx => hlt x (by simp [hx]))
  · rw [e3, hvars]
    rfl
end Go.Proofs.YtclnedeodmlfeaaDoor

namespace Go.Proofs.YtclnedeodmlfeaaDoor
set_option linter.unusedSimpArgs false
set_option linter.unusedVariables false
open Go.ChangeShapes Go.WideShapes Go.ChangeAt Go.RowKit Go.Joins
open Go.ChangeMaps (open_string)
theorem own : ownKnob Tryd.prog.godebug = none := by kernel_rfl
theorem laidOut : laidOutB Tryd.prog = true := by kernel_rfl
theorem cells23 : Tryd.prog.cellsOf 23 = 4 := by kernel_rfl
theorem in64_of {n : Int} (h : (Lit.int .i64 n).wf = true) : in64 n := by
  have := bounds_i64 h
  exact ⟨this.1, this.2⟩
set_option maxRecDepth 100000 in
theorem open_instr {H : Type} {enc : TypeId × Value → H} {W : World} {r : Reach} {b0 base : Nat} {sp : Nat → Bool} {held : Bool} {v : Value} {d : DataW H} {p : List MemPlace} (hv : Value.okWide Tryd.prog W r b0 23 v) (h : DataW.Trod enc Tryd.prog W base sp held 23 v d p) :
    ∃ op a b n : Int, v = .agg #[.int .i64 op, .int .i64 a, .int .i64 b, .int .i64 n] ∧ in64 op ∧ in64 a ∧ in64 b ∧ in64 n := by
  obtain ⟨c0, c1, c2, c3, y0, y1, y2, y3, m, rfl, rfl, rfl, h0, h1, h2, h3⟩ := open_agg4 Tryd.underlying23 (by kernel_rfl) cells23 hv h
  obtain ⟨op, e0, -, w0⟩ := DataW.trod_int Tryd.underlying3 h0
  obtain ⟨a, e1, -, w1⟩ := DataW.trod_int Tryd.underlying3 h1
  obtain ⟨b, e2, -, w2⟩ := DataW.trod_int Tryd.underlying3 h2
  obtain ⟨n, e3, -, w3⟩ := DataW.trod_int Tryd.underlying3 h3
  simp only [List.cons.injEq, and_true] at e0 e1 e2 e3
  subst e0 e1 e2 e3
  exact ⟨op, a, b, n, rfl, in64_of w0, in64_of w1, in64_of w2, in64_of w3⟩
set_option maxRecDepth 100000 in
theorem open_strW {H : Type} {enc : TypeId × Value → H} {W : World} {r : Reach} {b0 base : Nat} {sp : Nat → Bool} {held : Bool} {v : Value} {d : DataW H} {p : List MemPlace} (hv : Value.okWide Tryd.prog W r b0 9 v) (h : DataW.Trod enc Tryd.prog W base sp held 9 v d p)
    (hw : ∀ n ∈ d.weights Tryd.prog 9, n ≤ reachBytes) : ∃ l : List UInt8, v = .string ⟨l.toArray⟩ ∧ l.length < 281474976710657 := by
  obtain ⟨s, rfl, rfl, -, -⟩ := open_string Tryd.underlying9 hv h
  have hr : reachBytes ≤ 140737488355328 := by decide
  have := hw s.data.toList.length (by simp [DataW.weights])
  exact ⟨s.data.toList, by simp, by omega⟩
end Go.Proofs.YtclnedeodmlfeaaDoor
