/- A part of the proofs over this seat's laws: what a function of the program, or of the reference, answers and leaves, told by its theorems below. -/
import Derived.Test.YtiadjglkjcmkpaaDoorIsaFrom
import Derived.Test.YtiadjglkjcmkpaaDoorIsaBack
namespace Go.Proofs.YtiadjglkjcmkpaaDoor
set_option linter.unusedSimpArgs false
set_option linter.unusedVariables false
open Go.RowKit Go.Sort

theorem split_app (m : Nat) (h : 0 < m) : ∀ (x cur y : List UInt8), (∀ c ∈ x, c ≠ 32) → splitG 32 m cur (x ++ 32 :: y) = (cur ++ x) :: splitG 32 (m - 1) [] y
  | [], cur, y, _ => by rw [List.nil_append, splitG_hit 32 m cur y h, List.append_nil]
  | c :: x, cur, y, hx => by
    rw [List.cons_append, splitG_miss 32 c m cur _ h (hx c (by simp)), split_app m h x (cur ++ [c]) y (fun d hd => hx d (by simp [hd]))]
    simp
theorem split_one (m : Nat) (h : 0 < m) : ∀ (x cur : List UInt8), (∀ c ∈ x, c ≠ 32) → splitG 32 m cur x = [cur ++ x]
  | [], cur, _ => by rw [splitG_end 32 m cur h, List.append_nil]
  | c :: x, cur, hx => by
    rw [splitG_miss 32 c m cur _ h (hx c (by simp)), split_one m h x (cur ++ [c]) (fun d hd => hx d (by simp [hd]))]
    simp

/-- A right instruction's text is made into it by the reference too. -/
theorem ref_txt (k : Nat) (a b n : Int) (ha : in64 a) (hb : in64 b) (hn : in64 n) (h : chkI k a b n = 0) :
    rK (txt k a b n) = k ∧ rA (txt k a b n) = a ∧ rB (txt k a b n) = b ∧ rN (txt k a b n) = n := by
  obtain ⟨k', e, h1, h2, zA, zB, zN⟩ := right_of h
  obtain rfl : k = k' := by omega
  have w := rowW_no32 k h2
  have ia := itoa_no32 a
  have ib := itoa_no32 b
  have i_n := itoa_no32 n
  have nk := named_row k h1 h2
  have na := said_itoa a ha
  have nb := said_itoa b hb
  have nn := said_itoa n hn
  have eS : splitF 32 5 (txt k a b n) = rowW k :: ((if rowA k then [Lib.itoa a] else []) ++ ((if rowB k then [Lib.itoa b] else []) ++ (if rowN k then [Lib.itoa n] else []))) := by
    unfold splitF
    cases hA : rowA k <;> cases hB : rowB k <;> cases hN : rowN k
    all_goals
      simp only [txt, hA, hB, hN, Bool.false_eq_true, if_false, if_true, List.append_nil, List.append_assoc, List.cons_append, List.nil_append]
      repeat (first
        | rw [split_app _ (by decide) _ _ _ w, List.nil_append]
        | rw [split_app _ (by decide) _ _ _ ia, List.nil_append]
        | rw [split_app _ (by decide) _ _ _ ib, List.nil_append]
        | rw [split_one _ (by decide) _ _ w, List.nil_append]
        | rw [split_one _ (by decide) _ _ ia, List.nil_append]
        | rw [split_one _ (by decide) _ _ ib, List.nil_append]
        | rw [split_one _ (by decide) _ _ i_n, List.nil_append])
  have eK : rK (txt k a b n) = k := by unfold rK; rw [eS]; exact nk
  have eW : rW (txt k a b n) = ((if rowA k then [Lib.itoa a] else []) ++ ((if rowB k then [Lib.itoa b] else []) ++ (if rowN k then [Lib.itoa n] else []))) ++ [[], [], []] := by unfold rW; rw [eS]; rfl
  refine ⟨eK, ?_⟩
  cases hA : rowA k <;> cases hB : rowB k <;> cases hN : rowN k
  all_goals
    simp only [rA, rB, rN, rW1, rW2, eK, eW, hA, hB, hN, Bool.false_eq_true, if_false, if_true, List.append_nil, List.nil_append, List.cons_append, List.headD_cons, List.tail_cons, na, nb, nn, and_true, true_and]
    try (first | exact ⟨(zA hA).symm, (zB hB).symm, (zN hN).symm⟩ | exact ⟨(zA hA).symm, (zB hB).symm⟩ | exact ⟨(zB hB).symm, (zN hN).symm⟩ | exact ⟨(zA hA).symm, (zN hN).symm⟩ | exact (zA hA).symm | exact (zB hB).symm | exact (zN hN).symm)

theorem rA_in64 (l : List UInt8) : in64 (rA l) := by unfold rA; split; exact said_in64 _; exact zero_in64
theorem rB_in64 (l : List UInt8) : in64 (rB l) := by unfold rB; split; exact said_in64 _; exact zero_in64
theorem rN_in64 (l : List UInt8) : in64 (rN l) := by unfold rN; split; exact said_in64 _; exact zero_in64

/-- Both readers take the same texts, and make the same of them. -/
theorem ref_ok {l : List UInt8} (h : readOk l) : chkI (rK l) (rA l) (rB l) (rN l) = 0 ∧ txt (rK l) (rA l) (rB l) (rN l) = l ∧ rV l = gV l := by
  obtain ⟨h1, h2⟩ := h
  obtain ⟨e1, e2, e3, e4⟩ := ref_txt (gK l) (gA l) (gB l) (gN l) (gA_in64 l) (gB_in64 l) (gN_in64 l) h1
  rw [h2] at e1 e2 e3 e4
  refine ⟨by rw [e1, e2, e3, e4]; exact h1, by rw [e1, e2, e3, e4]; exact h2, ?_⟩
  unfold rV gV; rw [e1, e2, e3, e4]
theorem ref_bad {l : List UInt8} (h : ¬ readOk l) : ¬ (chkI (rK l) (rA l) (rB l) (rN l) = 0 ∧ txt (rK l) (rA l) (rB l) (rN l) = l) := by
  rintro ⟨h1, h2⟩
  apply h
  have := readOk_txt (rK l) (rA l) (rB l) (rN l) (rA_in64 l) (rB_in64 l) (rN_in64 l) h1
  rwa [h2] at this

theorem from_good (l : List UInt8) (hs : l.length < 4294967281) (h : readOk l) (w : World) :
    Calls Tryd.prog 15 #[.string ⟨l.toArray⟩] w fun e w' => e = .returned (.tuple #[.agg #[.int .i64 (gK l), .int .i64 (gA l), .int .i64 (gB l), .int .i64 (gN l)], .bool true]) ∧ Below w.heap.size w w' := by
  obtain ⟨h1, h2, h3⟩ := ref_ok h
  refine (from_any l hs w).mono ?_
  rintro e w' ⟨rfl, hb⟩
  refine ⟨?_, hb⟩
  rw [if_pos ⟨h1, h2⟩, h3]; rfl
theorem from_bad (l : List UInt8) (hs : l.length < 4294967281) (h : ¬ readOk l) (w : World) :
    Calls Tryd.prog 15 #[.string ⟨l.toArray⟩] w fun e w' => e = .returned (.tuple #[.agg #[.int .i64 0, .int .i64 0, .int .i64 0, .int .i64 0], .bool false]) ∧ Below w.heap.size w w' := by
  refine (from_any l hs w).mono ?_
  rintro e w' ⟨rfl, hb⟩
  refine ⟨?_, hb⟩
  rw [if_neg (ref_bad h)]; rfl

set_option maxHeartbeats 1000000 in
theorem isaReads_any (l : List UInt8) (hs : l.length < 4294967281) (w : World) (he : Env w) :
    Calls Tryd.prog 4 #[.string ⟨l.toArray⟩] w fun e w' => e = .returned (.bool true) ∧ Below w.heap.size w w' := by
  by_cases hr : readOk l
  · have HR := Lib.hid hr
    clear hr
    have k1 : ((gK l : Int) == gK l) = true := by simp
    have k2 : (gA l == gA l) = true := by simp
    have k3 : (gB l == gB l) = true := by simp
    have k4 : (gN l == gN l) = true := by simp
    go_enter Tryd.func4, Tryd.ntmps4
    go_wp2_with fail
    refine (read_good l _ he hs HR.out).mono ?_
    rintro e w1 ⟨rfl, hb1⟩
    go_wp2_with fail
    refine (from_good l hs HR.out _).mono ?_
    rintro e w2 ⟨rfl, hb2⟩
    have hup2 : Below w.heap.size w w2 := Below.trans (hb1.alloc hb1.size _) (hb2.mono (by simp; have := hb1.size; omega))
    have y0 : w2.cell? ⟨w1.heap.size, 0, none⟩ = some (.int .i64 (gK l)) := bcl hb2 (by simp) (by simp)
    have y1 : w2.cell? ⟨w1.heap.size, 1, none⟩ = some (.int .i64 (gA l)) := bcl hb2 (by simp) (by simp)
    have y2 : w2.cell? ⟨w1.heap.size, 2, none⟩ = some (.int .i64 (gB l)) := bcl hb2 (by simp) (by simp)
    have y3 : w2.cell? ⟨w1.heap.size, 3, none⟩ = some (.int .i64 (gN l)) := bcl hb2 (by simp) (by simp)
    have hz2 : w1.heap.size < w2.heap.size := by have := hb2.size; simp at this; omega
    clear hb1 hb2
    have he2 := he.up hup2
    go_wp2_with fail
    refine (begun_any _ (he2.up (by repeat (first | exact Below.refl _ _ | assumption | refine Below.drew ?_ | refine Below.alloc ?_ (by simp) _ | refine Below.setCell ?_ (by simp) _)))).mono ?_
    rintro e w3 ⟨rfl, hb3⟩
    have hup3 : Below w.heap.size w w3 := Below.trans (hup2.alloc hup2.size _) (hb3.mono (by simp; have := hup2.size; omega))
    have y0 := bcl hb3 (by simp; omega) (cl_alloc _ hz2 y0)
    have y1 := bcl hb3 (by simp; omega) (cl_alloc _ hz2 y1)
    have y2 := bcl hb3 (by simp; omega) (cl_alloc _ hz2 y2)
    have y3 := bcl hb3 (by simp; omega) (cl_alloc _ hz2 y3)
    have v0 : w3.cell? ⟨w2.heap.size, 0, none⟩ = some (.int .i64 (gK l)) := bcl hb3 (by simp) (by simp)
    have v1 : w3.cell? ⟨w2.heap.size, 1, none⟩ = some (.int .i64 (gA l)) := bcl hb3 (by simp) (by simp)
    have v2 : w3.cell? ⟨w2.heap.size, 2, none⟩ = some (.int .i64 (gB l)) := bcl hb3 (by simp) (by simp)
    have v3 : w3.cell? ⟨w2.heap.size, 3, none⟩ = some (.int .i64 (gN l)) := bcl hb3 (by simp) (by simp)
    clear hb3
    go_wp2
    go_ret
    exact ⟨by simp, hup3⟩
  · have HR := Lib.hid hr
    clear hr
    go_enter Tryd.func4, Tryd.ntmps4
    go_wp2_with fail
    refine (read_bad l _ he hs HR.out).mono ?_
    rintro e w1 ⟨rfl, hb1⟩
    go_wp2_with fail
    refine (from_bad l hs HR.out _).mono ?_
    rintro e w2 ⟨rfl, hb2⟩
    have hup2 : Below w.heap.size w w2 := Below.trans (hb1.alloc hb1.size _) (hb2.mono (by simp; have := hb1.size; omega))
    have y0 : w2.cell? ⟨w1.heap.size, 0, none⟩ = some (.int .i64 0) := bcl hb2 (by simp) (by simp)
    have y1 : w2.cell? ⟨w1.heap.size, 1, none⟩ = some (.int .i64 0) := bcl hb2 (by simp) (by simp)
    have y2 : w2.cell? ⟨w1.heap.size, 2, none⟩ = some (.int .i64 0) := bcl hb2 (by simp) (by simp)
    have y3 : w2.cell? ⟨w1.heap.size, 3, none⟩ = some (.int .i64 0) := bcl hb2 (by simp) (by simp)
    have hz2 : w1.heap.size < w2.heap.size := by have := hb2.size; simp at this; omega
    clear hb1 hb2
    have he2 := he.up hup2
    go_wp2_with fail
    refine (begun_any _ (he2.up (by repeat (first | exact Below.refl _ _ | assumption | refine Below.drew ?_ | refine Below.alloc ?_ (by simp) _ | refine Below.setCell ?_ (by simp) _)))).mono ?_
    rintro e w3 ⟨rfl, hb3⟩
    have hup3 : Below w.heap.size w w3 := Below.trans (hup2.alloc hup2.size _) (hb3.mono (by simp; have := hup2.size; omega))
    have y0 := bcl hb3 (by simp; omega) (cl_alloc _ hz2 y0)
    have y1 := bcl hb3 (by simp; omega) (cl_alloc _ hz2 y1)
    have y2 := bcl hb3 (by simp; omega) (cl_alloc _ hz2 y2)
    have y3 := bcl hb3 (by simp; omega) (cl_alloc _ hz2 y3)
    have v0 : w3.cell? ⟨w2.heap.size, 0, none⟩ = some (.int .i64 0) := bcl hb3 (by simp) (by simp)
    have v1 : w3.cell? ⟨w2.heap.size, 1, none⟩ = some (.int .i64 0) := bcl hb3 (by simp) (by simp)
    have v2 : w3.cell? ⟨w2.heap.size, 2, none⟩ = some (.int .i64 0) := bcl hb3 (by simp) (by simp)
    have v3 : w3.cell? ⟨w2.heap.size, 3, none⟩ = some (.int .i64 0) := bcl hb3 (by simp) (by simp)
    clear hb3
    go_wp2
    go_ret
    exact ⟨by simp, hup3⟩
