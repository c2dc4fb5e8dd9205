/- Cells: their values, and the small calls on them. -/
import Derived.Test.YtjhjaafoikadgaaDoorJb
namespace Go.Proofs.YtjhjaafoikadgaaDoor
set_option linter.unusedSimpArgs false
set_option linter.unusedVariables false
open Go.RowKit Go.Sort

/-- A cell but its Out. -/
structure Cel where
  at_ : Int
  r0 : Int
  r1 : Int
  r2 : Int
  r3 : Int
  m0 : Int
  m1 : Int
  m2 : Int
  m3 : Int
  m4 : Int
  m5 : Int
  m6 : Int
  m7 : Int
  read : Int
  en : Int
/-- A cell's value; o: its Out's slice. -/
def Cel.v (c : Cel) (o : Value) : Value := .agg #[.int .i64 c.at_, .int .i64 c.r0, .int .i64 c.r1, .int .i64 c.r2, .int .i64 c.r3, .int .i64 c.m0, .int .i64 c.m1, .int .i64 c.m2, .int .i64 c.m3, .int .i64 c.m4, .int .i64 c.m5, .int .i64 c.m6, .int .i64 c.m7, .int .i64 c.read, o, .int .i64 c.en]
/-- Is it right? n: Out's length. -/
def Cel.fine (c : Cel) (n : Nat) : Bool := decide (0 ≤ c.at_) && decide (c.at_ ≤ 20) && (decide (0 ≤ c.read) && decide (c.read ≤ 12)) && (decide (0 ≤ c.en) && decide (c.en ≤ 2)) && decide (n ≤ 16)
def Cel.err (c : Cel) (n : Nat) : Int := if c.fine n then 0 else 1
theorem fine_iff (c : Cel) (n : Nat) : c.fine n = true ↔ (0 ≤ c.at_ ∧ c.at_ ≤ 20 ∧ 0 ≤ c.read ∧ c.read ≤ 12 ∧ 0 ≤ c.en ∧ c.en ≤ 2 ∧ n ≤ 16) := by
  unfold Cel.fine; simp only [Bool.and_eq_true, decide_eq_true_eq]; omega
theorem err_yes {c : Cel} {n : Nat} (h : 0 ≤ c.at_ ∧ c.at_ ≤ 20 ∧ 0 ≤ c.read ∧ c.read ≤ 12 ∧ 0 ≤ c.en ∧ c.en ≤ 2 ∧ n ≤ 16) : (0 : Int) = c.err n := by
  unfold Cel.err; rw [(fine_iff c n).2 h]; rfl
theorem err_no {c : Cel} {n : Nat} (h : ¬ (0 ≤ c.at_ ∧ c.at_ ≤ 20 ∧ 0 ≤ c.read ∧ c.read ≤ 12 ∧ 0 ≤ c.en ∧ c.en ≤ 2 ∧ n ≤ 16)) : (1 : Int) = c.err n := by
  unfold Cel.err; rw [if_neg (fun e => h ((fine_iff c n).1 e))]

set_option maxRecDepth 100000 in
set_option maxHeartbeats 2000000 in
theorem cellCheck_any (c : Cel) (ao : Option Addr) (n cap : Nat) (w : World) : Calls Tryd.prog 59 #[c.v (.slice ao n cap)] w fun e w' => e = .returned (.int .i64 (c.err n)) ∧ Below w.heap.size w w' := by
  unfold Cel.v
  go_enter Tryd.func59, Tryd.ntmps59
  go_wp2
  all_goals go_ret
  all_goals refine ⟨ret_int ?_, (by repeat (first | exact Below.refl _ _ | assumption | refine Below.drew ?_ | refine Below.alloc ?_ (by first | (simp; done) | (simp; omega)) _ | refine Below.setCell ?_ (by first | (simp; done) | (simp; omega)) _))⟩
  all_goals first
    | (refine err_no ?_; simp_all; omega)
    | (refine err_no ?_; omega)
    | (refine err_yes ?_; omega)
    | (refine err_no ?_; simp_all; done)
    | (refine err_yes ?_; rename_i h1 h2; simp only [bne_eq_false_iff_eq] at h1; omega)
    | (exfalso; simp_all; done)

set_option maxRecDepth 100000 in
set_option maxHeartbeats 2000000 in
/-- The reference's CellFine. -/
theorem cellFine_any (c : Cel) (ao : Option Addr) (n cap : Nat) (w : World) : Calls Tryd.prog 34 #[c.v (.slice ao n cap)] w fun e w' => e = .returned (.bool (c.fine n)) ∧ Below w.heap.size w w' := by
  unfold Cel.v
  have hf : c.fine n = (withinB c.at_ 0 20 && withinB c.read 0 12 && withinB c.en 0 2 && decide ((n : Int) ≤ 16)) := by
    unfold Cel.fine withinB
    congr 1
    simp
    omega
  go_enter Tryd.func34, Tryd.ntmps34
  go_wp2_with (go_at_call 27; refine (within_any _ _ _ _).mono ?_; rintro e w' ⟨rfl, rfl⟩)
  all_goals go_ret
  all_goals refine ⟨ret_bool ?_, (by repeat (first | exact Below.refl _ _ | assumption | refine Below.drew ?_ | refine Below.alloc ?_ (by first | (simp; done) | (simp; omega)) _ | refine Below.setCell ?_ (by first | (simp; done) | (simp; omega)) _))⟩
  all_goals (rw [hf]; simp_all)

/-- '==' of two arrays that are the same. -/
theorem eq26 (a b c d : Int) (w : World) : (Op.equalIn 10000 50 (.agg #[.int .i64 a, .int .i64 b, .int .i64 c, .int .i64 d]) (.agg #[.int .i64 a, .int .i64 b, .int .i64 c, .int .i64 d])).run Tryd.prog w = .ok true w := by
  have u3 := Tryd.underlying3
  have a3 := Tryd.isAgg3
  have z3 := Tryd.sizeOf3
  rw [show (10000 : Nat) = 9999 + 1 from rfl, Op.equalIn]
  simp only [Sem.run_bind, run_underlying Tryd.underlying50, Result.andThen_ok]
  simp only [Std.Legacy.Range.forIn_eq_forIn_range', Std.Legacy.Range.size, Nat.sub_zero, Nat.add_sub_cancel, Nat.div_one, List.range'_succ, List.range'_zero, List.forIn_cons, List.forIn_nil]
  go_simp
theorem eq27 (a b c d e f g h : Int) (w : World) : (Op.equalIn 10000 51 (.agg #[.int .i64 a, .int .i64 b, .int .i64 c, .int .i64 d, .int .i64 e, .int .i64 f, .int .i64 g, .int .i64 h]) (.agg #[.int .i64 a, .int .i64 b, .int .i64 c, .int .i64 d, .int .i64 e, .int .i64 f, .int .i64 g, .int .i64 h])).run Tryd.prog w = .ok true w := by
  have u3 := Tryd.underlying3
  have a3 := Tryd.isAgg3
  have z3 := Tryd.sizeOf3
  rw [show (10000 : Nat) = 9999 + 1 from rfl, Op.equalIn]
  simp only [Sem.run_bind, run_underlying Tryd.underlying51, Result.andThen_ok]
  simp only [Std.Legacy.Range.forIn_eq_forIn_range', Std.Legacy.Range.size, Nat.sub_zero, Nat.add_sub_cancel, Nat.div_one, List.range'_succ, List.range'_zero, List.forIn_cons, List.forIn_nil]
  go_simp

set_option maxRecDepth 100000 in
set_option maxHeartbeats 2000000 in
/-- SameCells of cells that are the same, Outs too. -/
theorem sameCells_yes (c : Cel) (xs : List Int) (v u : Value) (w : World) (hx : Sl w 1 v xs.length (ints xs)) (hy : Sl w 1 u xs.length (ints xs)) (hm : xs.length < 4294967281) :
    Calls Tryd.prog 22 #[c.v v, c.v u] w fun e w' => e = .returned (.bool true) ∧ Below w.heap.size w w' := by
  unfold Cel.v
  have HX := Lib.hid hx
  have HY := Lib.hid hy
  clear hx hy
  have q26 := eq26 c.r0 c.r1 c.r2 c.r3
  have q27 := eq27 c.m0 c.m1 c.m2 c.m3 c.m4 c.m5 c.m6 c.m7
  go_enter Tryd.func22, Tryd.ntmps22
  go_wp2_with (go_at_call 23; refine (sameInts_any xs xs _ _ _ (HX.out.up (by repeat (first | exact Below.refl _ _ | assumption | refine Below.drew ?_ | refine Below.alloc ?_ (by first | (simp; done) | (simp; omega)) _ | refine Below.setCell ?_ (by first | (simp; done) | (simp; omega)) _))) (HY.out.up (by repeat (first | exact Below.refl _ _ | assumption | refine Below.drew ?_ | refine Below.alloc ?_ (by first | (simp; done) | (simp; omega)) _ | refine Below.setCell ?_ (by first | (simp; done) | (simp; omega)) _))) hm true (by simp)).mono ?_; rintro e w1 ⟨rfl, b1⟩)
  go_ret
  refine ⟨rfl, Below.trans ?_ (b1.mono (by simp; omega))⟩
  exact (by repeat (first | exact Below.refl _ _ | assumption | refine Below.drew ?_ | refine Below.alloc ?_ (by first | (simp; done) | (simp; omega)) _ | refine Below.setCell ?_ (by first | (simp; done) | (simp; omega)) _))
end Go.Proofs.YtjhjaafoikadgaaDoor

namespace Go.Proofs.YtjhjaafoikadgaaDoor
set_option linter.unusedSimpArgs false
set_option linter.unusedVariables false
open Go.RowKit Go.Sort

theorem bit_any (b : Bool) (w : World) : Calls Tryd.prog 90 #[.bool b] w fun e w' => e = .returned (.int .i64 (if b then 1 else 0)) ∧ w' = w := by
  cases b
  all_goals
    go_enter Tryd.func90, Tryd.ntmps90
    go_wp2
    go_ret
    exact ⟨rfl, rfl⟩
theorem truth_any (b : Bool) (w : World) : Calls Tryd.prog 67 #[.bool b] w fun e w' => e = .returned (.int .i64 (if b then 1 else 0)) ∧ w' = w := by
  cases b
  all_goals
    go_enter Tryd.func67, Tryd.ntmps67
    go_wp2
    go_ret
    exact ⟨rfl, rfl⟩
def kindB (k : Int) : Bool := k == 1 || k == 2
theorem kindFine_any (k : Int) (w : World) : Calls Tryd.prog 29 #[.int .i64 k] w fun e w' => e = .returned (.bool (kindB k)) ∧ w' = w := by
  by_cases h : k = 1
  · subst h
    go_enter Tryd.func29, Tryd.ntmps29
    go_wp2
    all_goals go_ret
    all_goals exact ⟨rfl, rfl⟩
  · have h' : (k == 1) = false := by simpa using h
    go_enter Tryd.func29, Tryd.ntmps29
    go_wp2
    all_goals go_ret
    all_goals exact ⟨ret_bool (by simp [kindB, h']), rfl⟩
theorem cellReg_any (a : Int) (w : World) : Calls Tryd.prog 98 #[.int .i64 a] w fun e w' => e = .returned (.bool (regB a)) ∧ w' = w := by
  by_cases h : 0 ≤ a
  all_goals
  go_enter Tryd.func98, Tryd.ntmps98
  go_wp2
  all_goals go_ret
  all_goals exact ⟨ret_bool (by simp [regB]; try omega), rfl⟩

/-- What Reply answers as its error. -/
def replyE (f : Bool) (k reg flag kind : Int) : Int := if !f then 1 else if (k != 12 && k != 13) || !kindB kind then 4 else if !regB reg || !regB flag then 3 else 0
def wantV (k ch reg flag val : Int) : Value := .agg #[.int .i64 k, .int .i64 ch, .int .i64 reg, .int .i64 flag, .int .i64 val]

set_option maxRecDepth 100000 in
set_option maxHeartbeats 4000000 in
theorem checkReply_any (c : Cel) (ao : Option Addr) (n cap : Nat) (k ch reg flag val kind : Int) (f : Bool) (hf : c.fine n = f) (w : World) :
    Calls Tryd.prog 89 #[c.v (.slice ao n cap), wantV k ch reg flag val, .int .i64 kind] w fun e w' => e = .returned (.int .i64 (replyE f k reg flag kind)) ∧ Below w.heap.size w w' := by
  have he : c.err n = if f then 0 else 1 := by rw [← hf]; rfl
  have hcc : ∀ w, Calls Tryd.prog 59 #[c.v (.slice ao n cap)] w fun e w' => e = .returned (.int .i64 (if f then 0 else 1)) ∧ Below w.heap.size w w' := fun w => he ▸ cellCheck_any c ao n cap w
  have HC := Lib.hid hcc
  clear he hf hcc
  unfold Cel.v at HC
  unfold Cel.v wantV
  cases f
  · go_enter Tryd.func89, Tryd.ntmps89
    go_wp2_with fail
    refine (HC.out _).mono ?_
    rintro e w1 ⟨rfl, b1⟩
    go_wp2
    go_ret
    refine ⟨rfl, Below.trans ?_ (b1.mono (by simp; omega))⟩
    exact (by repeat (first | exact Below.refl _ _ | assumption | refine Below.drew ?_ | refine Below.alloc ?_ (by first | (simp; done) | (simp; omega)) _ | refine Below.setCell ?_ (by first | (simp; done) | (simp; omega)) _))
  · go_enter Tryd.func89, Tryd.ntmps89
    go_wp2_with fail
    refine (HC.out _).mono ?_
    rintro e w1 ⟨rfl, b1⟩
    have a0 : w1.cell? ⟨w.heap.size + 1, 0, none⟩ = some (.int .i64 k) := bcl b1 (by simp) (by simp)
    have a2 : w1.cell? ⟨w.heap.size + 1, 2, none⟩ = some (.int .i64 reg) := bcl b1 (by simp) (by simp)
    have a3 : w1.cell? ⟨w.heap.size + 1, 3, none⟩ = some (.int .i64 flag) := bcl b1 (by simp) (by simp)
    have u1 : Below w.heap.size w w1 := by
      refine Below.trans ?_ (b1.mono (by simp; omega))
      exact (by repeat (first | exact Below.refl _ _ | assumption | refine Below.drew ?_ | refine Below.alloc ?_ (by first | (simp; done) | (simp; omega)) _ | refine Below.setCell ?_ (by first | (simp; done) | (simp; omega)) _))
    clear b1 HC
    go_wp2_with (go_at_call 98; refine (cellReg_any _ _).mono ?_; rintro e w' ⟨rfl, rfl⟩)
    all_goals go_ret
    all_goals refine ⟨ret_int ?_, u1⟩
    all_goals (simp_all [replyE, kindB]; done)

end Go.Proofs.YtjhjaafoikadgaaDoor

namespace Go.Proofs.YtjhjaafoikadgaaDoor
set_option linter.unusedSimpArgs false
set_option linter.unusedVariables false
open Go.RowKit Go.Sort

/-- d: the program's error; i: how many come in; f: is the cell right; r: how many it has read. -/
def stepE (d : Int) (i : Nat) (f : Bool) (r : Int) : Int := if d != 0 then d else if 12 < i then 2 else if !f then 1 else if (i : Int) < r then 1 else 0
def partV (v u : Value) : Value := .agg #[v, u]

set_option maxRecDepth 100000 in
set_option maxHeartbeats 4000000 in
theorem checkStep_any (l : List Ins) (v : Value) (iao : Option Addr) (i icap : Nat) (c : Cel) (ao : Option Addr) (n cap : Nat) (d : Int) (hd : chkC l = d) (f : Bool) (hf : c.fine n = f) (w : World) (he : Env w) (hS : Sl w 4 v l.length (codeC l)) :
    Calls Tryd.prog 84 #[partV v (.slice iao i icap), c.v (.slice ao n cap)] w fun e w' => e = .returned (.int .i64 (stepE d i f c.read)) ∧ Below w.heap.size w w' := by
  have hE : c.err n = if f then 0 else 1 := by rw [← hf]; rfl
  have hcc : ∀ w, Calls Tryd.prog 59 #[c.v (.slice ao n cap)] w fun e w' => e = .returned (.int .i64 (if f then 0 else 1)) ∧ Below w.heap.size w w' := fun w => hE ▸ cellCheck_any c ao n cap w
  have hkk : ∀ w, Env w → Sl w 4 v l.length (codeC l) → Calls Tryd.prog 52 #[v] w fun e w' => e = .returned (.int .i64 d) ∧ Below w.heap.size w w' := fun w he hS => hd ▸ codeCheck_any l v w he hS
  have HC := Lib.hid hcc
  have HK := Lib.hid hkk
  have HS := Lib.hid hS
  clear hE hf hcc hkk hS hd
  unfold Cel.v at HC
  unfold Cel.v partV
  go_enter Tryd.func84, Tryd.ntmps84
  go_wp2_with fail
  refine (HK.out _ (he.up (by repeat (first | exact Below.refl _ _ | assumption | refine Below.drew ?_ | refine Below.alloc ?_ (by first | (simp; done) | (simp; omega)) _ | refine Below.setCell ?_ (by first | (simp; done) | (simp; omega)) _))) (HS.out.up (by repeat (first | exact Below.refl _ _ | assumption | refine Below.drew ?_ | refine Below.alloc ?_ (by first | (simp; done) | (simp; omega)) _ | refine Below.setCell ?_ (by first | (simp; done) | (simp; omega)) _)))).mono ?_
  rintro e w1 ⟨rfl, b1⟩
  have k0 : w1.cell? ⟨w.heap.size + 1, 0, none⟩ = some (.int .i64 c.at_) := bcl b1 (by simp) (by simp)
  have k1 : w1.cell? ⟨w.heap.size + 1, 1, none⟩ = some (.int .i64 c.r0) := bcl b1 (by simp) (by simp)
  have k2 : w1.cell? ⟨w.heap.size + 1, 2, none⟩ = some (.int .i64 c.r1) := bcl b1 (by simp) (by simp)
  have k3 : w1.cell? ⟨w.heap.size + 1, 3, none⟩ = some (.int .i64 c.r2) := bcl b1 (by simp) (by simp)
  have k4 : w1.cell? ⟨w.heap.size + 1, 4, none⟩ = some (.int .i64 c.r3) := bcl b1 (by simp) (by simp)
  have k5 : w1.cell? ⟨w.heap.size + 1, 5, none⟩ = some (.int .i64 c.m0) := bcl b1 (by simp) (by simp)
  have k6 : w1.cell? ⟨w.heap.size + 1, 6, none⟩ = some (.int .i64 c.m1) := bcl b1 (by simp) (by simp)
  have k7 : w1.cell? ⟨w.heap.size + 1, 7, none⟩ = some (.int .i64 c.m2) := bcl b1 (by simp) (by simp)
  have k8 : w1.cell? ⟨w.heap.size + 1, 8, none⟩ = some (.int .i64 c.m3) := bcl b1 (by simp) (by simp)
  have k9 : w1.cell? ⟨w.heap.size + 1, 9, none⟩ = some (.int .i64 c.m4) := bcl b1 (by simp) (by simp)
  have k10 : w1.cell? ⟨w.heap.size + 1, 10, none⟩ = some (.int .i64 c.m5) := bcl b1 (by simp) (by simp)
  have k11 : w1.cell? ⟨w.heap.size + 1, 11, none⟩ = some (.int .i64 c.m6) := bcl b1 (by simp) (by simp)
  have k12 : w1.cell? ⟨w.heap.size + 1, 12, none⟩ = some (.int .i64 c.m7) := bcl b1 (by simp) (by simp)
  have k13 : w1.cell? ⟨w.heap.size + 1, 13, none⟩ = some (.int .i64 c.read) := bcl b1 (by simp) (by simp)
  have k14 : w1.cell? ⟨w.heap.size + 1, 14, none⟩ = some (.slice ao n cap) := bcl b1 (by simp) (by simp)
  have k15 : w1.cell? ⟨w.heap.size + 1, 15, none⟩ = some (.int .i64 c.en) := bcl b1 (by simp) (by simp)
  have p1 : w1.cell? ⟨w.heap.size, 1, none⟩ = some (.slice iao i icap) := bcl b1 (by simp; omega) (cl_alloc _ (by simp) (by simp))
  have hz1 : w.heap.size + 1 < w1.heap.size := by have := b1.size; simp at this; omega
  have u1 : Below w.heap.size w w1 := by
    refine Below.trans ?_ (b1.mono (by simp; omega))
    exact (by repeat (first | exact Below.refl _ _ | assumption | refine Below.drew ?_ | refine Below.alloc ?_ (by first | (simp; done) | (simp; omega)) _ | refine Below.setCell ?_ (by first | (simp; done) | (simp; omega)) _))
  clear b1 HK
  by_cases h0 : d = 0
  · subst h0
    by_cases h1 : 12 < i
    · have h1' : (12 : Int) < i := by omega
      go_wp2
      go_ret
      exact ⟨ret_int (by simp [stepE, h1]), u1⟩
    · have h1' : ¬ (12 : Int) < i := by omega
      go_wp2_with fail
      refine (HC.out _).mono ?_
      rintro e w2 ⟨rfl, b2⟩
      have k13 := bcl b2 hz1 k13
      have p1 := bcl b2 (Nat.lt_of_succ_lt hz1) p1
      have u2 := u1.trans (b2.mono u1.size)
      clear b2 HC k0 k1 k2 k3 k4 k5 k6 k7 k8 k9 k10 k11 k12 k14 k15
      cases f
      all_goals go_wp2
      all_goals go_ret
      all_goals refine ⟨ret_int ?_, u2⟩
      all_goals first
        | (simp_all [stepE]; done)
        | (unfold stepE; rw [if_neg (by simp), if_neg h1, if_neg (by simp), if_neg (by omega)])
  · have h0' : (d != 0) = true := by simpa using h0
    go_wp2
    go_ret
    exact ⟨ret_int (by simp [stepE, h0]), u1⟩

end Go.Proofs.YtjhjaafoikadgaaDoor
