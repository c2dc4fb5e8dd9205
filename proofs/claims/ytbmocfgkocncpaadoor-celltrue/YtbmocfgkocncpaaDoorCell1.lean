/- The errors of Step and Reply, the program's and the reference's. -/
import Derived.Test.YtbmocfgkocncpaaDoorCell0
namespace Go.Proofs.YtbmocfgkocncpaaDoor
set_option linter.unusedSimpArgs false
set_option linter.unusedVariables false
open Go.RowKit Go.Sort

theorem bit_any (b : Bool) (w : World) : Calls Tryd.prog 25 #[.bool b] w fun e w' => e = .returned (.int .i64 (if b then 1 else 0)) ∧ w' = w := by
  cases b
  all_goals
    go_enter Tryd.func25, Tryd.ntmps25
    go_wp2
    go_ret
    exact ⟨rfl, rfl⟩
theorem truth_any (b : Bool) (w : World) : Calls Tryd.prog 28 #[.bool b] w fun e w' => e = .returned (.int .i64 (if b then 1 else 0)) ∧ w' = w := by
  cases b
  all_goals
    go_enter Tryd.func28, Tryd.ntmps28
    go_wp2
    go_ret
    exact ⟨rfl, rfl⟩
def kindB (k : Int) : Bool := k == 1 || k == 2
theorem kindFine_any (k : Int) (w : World) : Calls Tryd.prog 26 #[.int .i64 k] w fun e w' => e = .returned (.bool (kindB k)) ∧ w' = w := by
  by_cases h : k = 1
  · subst h
    go_enter Tryd.func26, Tryd.ntmps26
    go_wp2
    all_goals go_ret
    all_goals exact ⟨rfl, rfl⟩
  · have h' : (k == 1) = false := by simpa using h
    go_enter Tryd.func26, Tryd.ntmps26
    go_wp2
    all_goals go_ret
    all_goals exact ⟨ret_bool (by simp [kindB, h']), rfl⟩
theorem cellReg_any (a : Int) (w : World) : Calls Tryd.prog 34 #[.int .i64 a] w fun e w' => e = .returned (.bool (regB a)) ∧ w' = w := by
  by_cases h : 0 ≤ a
  all_goals
  go_enter Tryd.func34, Tryd.ntmps34
  go_wp2
  all_goals go_ret
  all_goals exact ⟨ret_bool (by simp [regB]; try omega), rfl⟩

/-- What Reply answers as its error. -/
def replyE (f : Bool) (k reg flag kind : Int) : Int := if !f then 1 else if (k != 12 && k != 13) || !kindB kind then 4 else if !regB reg || !regB flag then 3 else 0
def wantV (k ch reg flag val : Int) : Value := .agg #[.int .i64 k, .int .i64 ch, .int .i64 reg, .int .i64 flag, .int .i64 val]

set_option maxRecDepth 100000 in
set_option maxHeartbeats 4000000 in
theorem checkReply_any (c : Cel) (ao : Option Addr) (n cap : Nat) (k ch reg flag val kind : Int) (f : Bool) (hf : c.fine n = f) (w : World) :
    Calls Tryd.prog 24 #[c.v (.slice ao n cap), wantV k ch reg flag val, .int .i64 kind] w fun e w' => e = .returned (.int .i64 (replyE f k reg flag kind)) ∧ Below w.heap.size w w' := by
  have he : c.err n = if f then 0 else 1 := by rw [← hf]; rfl
  have hcc : ∀ w, Calls Tryd.prog 10 #[c.v (.slice ao n cap)] w fun e w' => e = .returned (.int .i64 (if f then 0 else 1)) ∧ Below w.heap.size w w' := fun w => he ▸ cellCheck_any c ao n cap w
  have HC := Lib.hid hcc
  clear he hf hcc
  unfold Cel.v at HC
  unfold Cel.v wantV
  cases f
  · go_enter Tryd.func24, Tryd.ntmps24
    go_wp2_with fail
    refine (HC.out _).mono ?_
    rintro e w1 ⟨rfl, b1⟩
    go_wp2
    go_ret
    refine ⟨rfl, Below.trans ?_ (b1.mono (by simp; omega))⟩
    exact (by repeat (first | exact Below.refl _ _ | assumption | refine Below.drew ?_ | refine Below.alloc ?_ (by first | (simp; done) | (simp; omega)) _ | refine Below.setCell ?_ (by first | (simp; done) | (simp; omega)) _))
  · go_enter Tryd.func24, Tryd.ntmps24
    go_wp2_with fail
    refine (HC.out _).mono ?_
    rintro e w1 ⟨rfl, b1⟩
    have a0 : w1.cell? ⟨w.heap.size + 1, 0, none⟩ = some (.int .i64 k) := bcl b1 (by simp) (by simp)
    have a2 : w1.cell? ⟨w.heap.size + 1, 2, none⟩ = some (.int .i64 reg) := bcl b1 (by simp) (by simp)
    have a3 : w1.cell? ⟨w.heap.size + 1, 3, none⟩ = some (.int .i64 flag) := bcl b1 (by simp) (by simp)
    have u1 : Below w.heap.size w w1 := by
      refine Below.trans ?_ (b1.mono (by simp; omega))
      exact (by repeat (first | exact Below.refl _ _ | assumption | refine Below.drew ?_ | refine Below.alloc ?_ (by first | (simp; done) | (simp; omega)) _ | refine Below.setCell ?_ (by first | (simp; done) | (simp; omega)) _))
    clear b1 HC
    go_wp2_with (go_at_call 34; refine (cellReg_any _ _).mono ?_; rintro e w' ⟨rfl, rfl⟩)
    all_goals go_ret
    all_goals refine ⟨ret_int ?_, u1⟩
    all_goals (simp_all [replyE, kindB]; done)

set_option maxRecDepth 100000 in
set_option maxHeartbeats 4000000 in
theorem replyError_any (c : Cel) (ao : Option Addr) (n cap : Nat) (k ch reg flag val kind : Int) (f : Bool) (hf : c.fine n = f) (w : World) :
    Calls Tryd.prog 14 #[c.v (.slice ao n cap), wantV k ch reg flag val, .int .i64 kind] w fun e w' => e = .returned (.int .i64 (replyE f k reg flag kind)) ∧ Below w.heap.size w w' := by
  have hcc : ∀ w, Calls Tryd.prog 11 #[c.v (.slice ao n cap)] w fun e w' => e = .returned (.bool f) ∧ Below w.heap.size w w' := fun w => hf ▸ cellFine_any c ao n cap w
  have HC := Lib.hid hcc
  clear hf hcc
  unfold Cel.v at HC
  unfold Cel.v wantV
  go_enter Tryd.func14, Tryd.ntmps14
  go_wp2_with fail
  refine (HC.out _).mono ?_
  rintro e w1 ⟨rfl, b1⟩
  have a0 : w1.cell? ⟨w.heap.size + 1, 0, none⟩ = some (.int .i64 k) := bcl b1 (by simp) (by simp)
  have a2 : w1.cell? ⟨w.heap.size + 1, 2, none⟩ = some (.int .i64 reg) := bcl b1 (by simp) (by simp)
  have a3 : w1.cell? ⟨w.heap.size + 1, 3, none⟩ = some (.int .i64 flag) := bcl b1 (by simp) (by simp)
  have u1 : Below w.heap.size w w1 := by
    refine Below.trans ?_ (b1.mono (by simp; omega))
    exact (by repeat (first | exact Below.refl _ _ | assumption | refine Below.drew ?_ | refine Below.alloc ?_ (by first | (simp; done) | (simp; omega)) _ | refine Below.setCell ?_ (by first | (simp; done) | (simp; omega)) _))
  clear b1 HC
  cases f
  all_goals go_wp2_with (first | (go_at_call 27; refine (register_any _ _).mono ?_; rintro e w' ⟨rfl, rfl⟩) | (go_at_call 26; refine (kindFine_any _ _).mono ?_; rintro e w' ⟨rfl, rfl⟩))
  all_goals go_ret
  all_goals refine ⟨ret_int ?_, u1⟩
  all_goals (simp_all [replyE]; done)
end Go.Proofs.YtbmocfgkocncpaaDoor
