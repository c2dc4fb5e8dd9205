/- Channels: the small calls on lines. -/
import Derived.Test.YtpikadbljhfoiaaCSame
namespace Go.Proofs.Ytpikadbljhfoiaa
set_option linter.unusedSimpArgs false
set_option linter.unusedVariables false
open Go.RowKit Go.Sort

/-- What Check tells of a line of so many numbers. -/
def chkL (kind : Int) (n : Nat) : Int := if kind = 1 then (if 1 < n then 2 else 0) else if kind = 2 then (if 3 < n then 2 else 0) else 4
theorem chkL_zero {kind : Int} {n : Nat} (h : chkL kind n = 0) : (kind = 1 ∧ n ≤ 1) ∨ (kind = 2 ∧ n ≤ 3) := by
  unfold chkL at h
  split at h
  · rename_i h1
    split at h
    · omega
    · omega
  · split at h
    · split at h
      · omega
      · omega
    · omega
def roomI (kind : Int) : Int := if kind = 1 then 1 else if kind = 2 then 3 else 0

theorem room_any (kind : Int) (w : World) : Calls Try.prog 15 #[.int .i64 kind] w fun e w' => e = .returned (.int .i64 (roomI kind)) ∧ w' = w := by
  unfold roomI
  by_cases h1 : kind = 1
  · subst h1
    go_enter Try.func15, Try.ntmps15
    go_wp2
    all_goals go_ret
    all_goals exact ⟨rfl, rfl⟩
  · by_cases h2 : kind = 2
    · subst h2
      go_enter Try.func15, Try.ntmps15
      go_wp2
      all_goals go_ret
      all_goals exact ⟨rfl, rfl⟩
    · rw [if_neg h1, if_neg h2]
      have h1' : (kind == 1) = false := by simpa using h1
      have h2' : (kind == 2) = false := by simpa using h2
      go_enter Try.func15, Try.ntmps15
      go_wp2
      all_goals go_ret
      all_goals exact ⟨rfl, rfl⟩

set_option maxHeartbeats 1000000 in
theorem chk_any (kind : Int) (ao : Option Addr) (n cap : Nat) (w : World) (c : Int) (hc : chkL kind n = c) : Calls Try.prog 11 #[.int .i64 kind, .agg #[.slice ao n cap]] w fun e w' => e = .returned (.int .i64 c) ∧ Below w.heap.size w w' := by
  subst hc
  unfold chkL
  by_cases h1 : kind = 1
  · subst h1
    go_enter Try.func11, Try.ntmps11
    go_wp2_with (go_at_call 15; refine (room_any _ _).mono ?_; rintro e w' ⟨rfl, rfl⟩; simp only [roomI])
    all_goals go_ret
    all_goals exact ⟨ret_int (by simp; try omega), (by repeat (first | exact Below.refl _ _ | assumption | refine Below.drew ?_ | refine Below.alloc ?_ (by first | (simp; done) | (simp; omega)) _ | refine Below.setCell ?_ (by first | (simp; done) | (simp; omega)) _))⟩
  · by_cases h2 : kind = 2
    · subst h2
      go_enter Try.func11, Try.ntmps11
      go_wp2_with (go_at_call 15; refine (room_any _ _).mono ?_; rintro e w' ⟨rfl, rfl⟩; simp only [roomI])
      all_goals go_ret
      all_goals exact ⟨ret_int (by simp; try omega), (by repeat (first | exact Below.refl _ _ | assumption | refine Below.drew ?_ | refine Below.alloc ?_ (by first | (simp; done) | (simp; omega)) _ | refine Below.setCell ?_ (by first | (simp; done) | (simp; omega)) _))⟩
    · have hr : roomI kind = 0 := by unfold roomI; rw [if_neg h1, if_neg h2]
      rw [if_neg h1, if_neg h2]
      go_enter Try.func11, Try.ntmps11
      go_wp2_with (go_at_call 15; refine (room_any _ _).mono ?_; rw [hr]; rintro e w' ⟨rfl, rfl⟩)
      all_goals go_ret
      all_goals exact ⟨rfl, (by repeat (first | exact Below.refl _ _ | assumption | refine Below.drew ?_ | refine Below.alloc ?_ (by first | (simp; done) | (simp; omega)) _ | refine Below.setCell ?_ (by first | (simp; done) | (simp; omega)) _))⟩

def kindB (kind : Int) : Bool := kind == 1 || kind == 2
theorem kind_any (kind : Int) (w : World) : Calls Try.prog 16 #[.int .i64 kind] w fun e w' => e = .returned (.bool (kindB kind)) ∧ w' = w := by
  unfold kindB
  generalize h1 : (kind == 1) = p
  generalize h2 : (kind == 2) = q
  cases p <;> cases q
  all_goals
    go_enter Try.func16, Try.ntmps16
    go_wp2
    all_goals go_ret
    all_goals exact ⟨rfl, rfl⟩

set_option maxHeartbeats 1000000 in
theorem chkRef_any (kind : Int) (ao : Option Addr) (n cap : Nat) (w : World) (c : Int) (hc : chkL kind n = c) : Calls Try.prog 7 #[.int .i64 kind, .agg #[.slice ao n cap]] w fun e w' => e = .returned (.int .i64 c) ∧ Below w.heap.size w w' := by
  subst hc
  unfold chkL
  by_cases h1 : kind = 1
  · subst h1
    go_enter Try.func7, Try.ntmps7
    go_wp2_with (go_at_call 16; refine (kind_any _ _).mono ?_; rintro e w' ⟨rfl, rfl⟩; rw [show kindB 1 = true from rfl])
    all_goals go_ret
    all_goals exact ⟨ret_int (by simp; try omega), (by repeat (first | exact Below.refl _ _ | assumption | refine Below.drew ?_ | refine Below.alloc ?_ (by first | (simp; done) | (simp; omega)) _ | refine Below.setCell ?_ (by first | (simp; done) | (simp; omega)) _))⟩
  · by_cases h2 : kind = 2
    · subst h2
      go_enter Try.func7, Try.ntmps7
      go_wp2_with (go_at_call 16; refine (kind_any _ _).mono ?_; rintro e w' ⟨rfl, rfl⟩; rw [show kindB 2 = true from rfl])
      all_goals go_ret
      all_goals exact ⟨ret_int (by simp; try omega), (by repeat (first | exact Below.refl _ _ | assumption | refine Below.drew ?_ | refine Below.alloc ?_ (by first | (simp; done) | (simp; omega)) _ | refine Below.setCell ?_ (by first | (simp; done) | (simp; omega)) _))⟩
    · have hr : kindB kind = false := by unfold kindB; simp [h1, h2]
      rw [if_neg h1, if_neg h2]
      go_enter Try.func7, Try.ntmps7
      go_wp2_with (go_at_call 16; refine (kind_any _ _).mono ?_; rw [hr]; rintro e w' ⟨rfl, rfl⟩)
      all_goals go_ret
      all_goals exact ⟨rfl, (by repeat (first | exact Below.refl _ _ | assumption | refine Below.drew ?_ | refine Below.alloc ?_ (by first | (simp; done) | (simp; omega)) _ | refine Below.setCell ?_ (by first | (simp; done) | (simp; omega)) _))⟩
end Go.Proofs.Ytpikadbljhfoiaa
