/- A part of the proofs over this seat's laws: what a function of the program, or of the reference, answers and leaves, told by its theorems below. -/
import Derived.Test.YtbmocfgkocncpaaDoorCEnv
namespace Go.Proofs.YtbmocfgkocncpaaDoor
set_option linter.unusedSimpArgs false
set_option linter.unusedVariables false
open Go.RowKit Go.Sort

def withinB (n lo hi : Int) : Bool := decide (lo ≤ n) && decide (n ≤ hi)

theorem within_any (n lo hi : Int) (w : World) : Calls Tryd.prog 22 #[.int .i64 n, .int .i64 lo, .int .i64 hi] w fun e w' => e = .returned (.bool (withinB n lo hi)) ∧ w' = w := by
  by_cases h : lo ≤ n
  all_goals
  go_enter Tryd.func22, Tryd.ntmps22
  go_wp2
  all_goals go_ret
  all_goals exact ⟨ret_bool (by simp [withinB]; try omega), rfl⟩

theorem regB_eq (a : Int) : withinB a 0 3 = regB a := by
  unfold withinB regB; congr 1; simp; omega

theorem register_any (a : Int) (w : World) : Calls Tryd.prog 27 #[.int .i64 a] w fun e w' => e = .returned (.bool (regB a)) ∧ w' = w := by
  go_enter Tryd.func27, Tryd.ntmps27
  go_wp2_with (go_at_call 22; refine (within_any _ _ _ _).mono ?_; rintro e w' ⟨rfl, rfl⟩)
  go_ret
  exact ⟨ret_bool (regB_eq a), rfl⟩

theorem has_none (op : Int) (ho : op < 1 ∨ 15 < op) (w : World) : Calls Tryd.prog 39 #[.int .i64 op] w fun e w' => e = .returned (.tuple #[.bool false, .bool false, .bool false]) ∧ w' = w := by
  have h1 : (op == 1) = false := by simp; omega
  have h2 : (op == 2) = false := by simp; omega
  have h3 : (op == 3) = false := by simp; omega
  have h4 : (op == 4) = false := by simp; omega
  have h5 : (op == 5) = false := by simp; omega
  have h6 : (op == 6) = false := by simp; omega
  have h7 : (op == 7) = false := by simp; omega
  have h8 : (op == 8) = false := by simp; omega
  have h9 : (op == 9) = false := by simp; omega
  have h10 : (op == 10) = false := by simp; omega
  have h11 : (op == 11) = false := by simp; omega
  have h12 : (op == 12) = false := by simp; omega
  have h13 : (op == 13) = false := by simp; omega
  clear ho
  go_enter Tryd.func39, Tryd.ntmps39
  go_wp2
  all_goals go_ret3
  all_goals exact ⟨rfl, rfl⟩

theorem has_any (op : Int) (w : World) : Calls Tryd.prog 39 #[.int .i64 op] w fun e w' => e = .returned (.tuple #[.bool (rowA op.toNat), .bool (rowB op.toNat), .bool (rowN op.toNat)]) ∧ w' = w := by
  by_cases ho : op < 1 ∨ 15 < op
  · have e1 : rowA op.toNat = false := by
      rcases ho with h | h
      · rw [show op.toNat = 0 by omega]; rfl
      · unfold rowA; rw [List.getD_eq_getElem?_getD, List.getElem?_eq_none (by simp; omega)]; rfl
    have e2 : rowB op.toNat = false := by
      rcases ho with h | h
      · rw [show op.toNat = 0 by omega]; rfl
      · unfold rowB; rw [List.getD_eq_getElem?_getD, List.getElem?_eq_none (by simp; omega)]; rfl
    have e3 : rowN op.toNat = false := by
      rcases ho with h | h
      · rw [show op.toNat = 0 by omega]; rfl
      · unfold rowN; rw [List.getD_eq_getElem?_getD, List.getElem?_eq_none (by simp; omega)]; rfl
    rw [e1, e2, e3]
    exact has_none op ho w
  · have h : op = 1 ∨ op = 2 ∨ op = 3 ∨ op = 4 ∨ op = 5 ∨ op = 6 ∨ op = 7 ∨ op = 8 ∨ op = 9 ∨ op = 10 ∨ op = 11 ∨ op = 12 ∨ op = 13 ∨ op = 14 ∨ op = 15 := by omega
    clear ho
    rcases h with rfl | rfl | rfl | rfl | rfl | rfl | rfl | rfl | rfl | rfl | rfl | rfl | rfl | rfl | rfl
    all_goals
      go_enter Tryd.func39, Tryd.ntmps39
      go_wp2
      go_ret3
      exact ⟨rfl, rfl⟩

/-- The reference's own test of the number N. -/
theorem chkRef_other (k : Nat) (hk1 : 1 ≤ k) (hk : k < 16) (ba bb bn : Bool) (eA : rowA k = ba) (eB : rowB k = bb) (eN : rowN k = bn) (a b n : Int) (w : World)
    (h8 : ((k : Int) == 8) = false) (h9 : ((k : Int) == 9) = false) (h12 : ((k : Int) == 12) = false) (h13 : ((k : Int) == 13) = false) (lo hi : Int) (hl : lo ≤ n) (hh : n ≤ hi) :
    Calls Tryd.prog 33 #[.agg #[.int .i64 k, .int .i64 a, .int .i64 b, .int .i64 n]] w fun e w' => e = .returned (.int .i64 (chkRow ba bb bn lo hi a b n)) ∧ Below w.heap.size w w' := by
  have hw : withinB k 1 15 = true := by unfold withinB; simp; omega
  go_enter Tryd.func33, Tryd.ntmps33
  go_wp2_with (first | (go_at_call 22; refine (within_any _ _ _ _).mono ?_; rintro e w' ⟨rfl, rfl⟩) | (go_at_call 27; refine (register_any _ _).mono ?_; rintro e w' ⟨rfl, rfl⟩) | (go_at_call 39; refine (has_any _ _).mono ?_; rw [Int.toNat_natCast, eA, eB, eN]; rintro e w' ⟨rfl, rfl⟩))
  all_goals go_ret
  all_goals refine ⟨ret_int ?_, (by repeat (first | exact Below.refl _ _ | assumption | refine Below.drew ?_ | refine Below.alloc ?_ (by first | (simp; done) | (simp; omega)) _ | refine Below.setCell ?_ (by first | (simp; done) | (simp; omega)) _))⟩
  all_goals clear h8 h9 h12 h13 hw eA eB eN
  all_goals (have q1 : decide (n < lo) = false := by simp; omega
             have q2 : decide (hi < n) = false := by simp; omega
             simp_all [chkRow])

theorem chkRef_8 (a b n : Int) (w : World) :
    Calls Tryd.prog 33 #[.agg #[.int .i64 8, .int .i64 a, .int .i64 b, .int .i64 n]] w fun e w' => e = .returned (.int .i64 (chkRow false false true 0 19 a b n)) ∧ Below w.heap.size w w' := by
  have hw : withinB 8 1 15 = true := by decide
  go_enter Tryd.func33, Tryd.ntmps33
  go_wp2_with (first | (go_at_call 22; refine (within_any _ _ _ _).mono ?_; rintro e w' ⟨rfl, rfl⟩) | (go_at_call 27; refine (register_any _ _).mono ?_; rintro e w' ⟨rfl, rfl⟩) | (go_at_call 39; refine (has_any _ _).mono ?_; rw [show rowA (Int.toNat 8) = false from rfl, show rowB (Int.toNat 8) = false from rfl, show rowN (Int.toNat 8) = true from rfl]; rintro e w' ⟨rfl, rfl⟩))
  all_goals go_ret
  all_goals refine ⟨ret_int ?_, (by repeat (first | exact Below.refl _ _ | assumption | refine Below.drew ?_ | refine Below.alloc ?_ (by first | (simp; done) | (simp; omega)) _ | refine Below.setCell ?_ (by first | (simp; done) | (simp; omega)) _))⟩
  all_goals clear hw
  all_goals (simp_all [chkRow, withinB]; try omega)

theorem chkRef_9 (a b n : Int) (w : World) :
    Calls Tryd.prog 33 #[.agg #[.int .i64 9, .int .i64 a, .int .i64 b, .int .i64 n]] w fun e w' => e = .returned (.int .i64 (chkRow true false true 0 19 a b n)) ∧ Below w.heap.size w w' := by
  have hw : withinB 9 1 15 = true := by decide
  go_enter Tryd.func33, Tryd.ntmps33
  go_wp2_with (first | (go_at_call 22; refine (within_any _ _ _ _).mono ?_; rintro e w' ⟨rfl, rfl⟩) | (go_at_call 27; refine (register_any _ _).mono ?_; rintro e w' ⟨rfl, rfl⟩) | (go_at_call 39; refine (has_any _ _).mono ?_; rw [show rowA (Int.toNat 9) = true from rfl, show rowB (Int.toNat 9) = false from rfl, show rowN (Int.toNat 9) = true from rfl]; rintro e w' ⟨rfl, rfl⟩))
  all_goals go_ret
  all_goals refine ⟨ret_int ?_, (by repeat (first | exact Below.refl _ _ | assumption | refine Below.drew ?_ | refine Below.alloc ?_ (by first | (simp; done) | (simp; omega)) _ | refine Below.setCell ?_ (by first | (simp; done) | (simp; omega)) _))⟩
  all_goals clear hw
  all_goals (simp_all [chkRow, withinB]; try omega)

theorem chkRef_12 (a b n : Int) (w : World) :
    Calls Tryd.prog 33 #[.agg #[.int .i64 12, .int .i64 a, .int .i64 b, .int .i64 n]] w fun e w' => e = .returned (.int .i64 (chkRow true false true 0 5 a b n)) ∧ Below w.heap.size w w' := by
  have hw : withinB 12 1 15 = true := by decide
  go_enter Tryd.func33, Tryd.ntmps33
  go_wp2_with (first | (go_at_call 22; refine (within_any _ _ _ _).mono ?_; rintro e w' ⟨rfl, rfl⟩) | (go_at_call 27; refine (register_any _ _).mono ?_; rintro e w' ⟨rfl, rfl⟩) | (go_at_call 39; refine (has_any _ _).mono ?_; rw [show rowA (Int.toNat 12) = true from rfl, show rowB (Int.toNat 12) = false from rfl, show rowN (Int.toNat 12) = true from rfl]; rintro e w' ⟨rfl, rfl⟩))
  all_goals go_ret
  all_goals refine ⟨ret_int ?_, (by repeat (first | exact Below.refl _ _ | assumption | refine Below.drew ?_ | refine Below.alloc ?_ (by first | (simp; done) | (simp; omega)) _ | refine Below.setCell ?_ (by first | (simp; done) | (simp; omega)) _))⟩
  all_goals clear hw
  all_goals (simp_all [chkRow, withinB]; try omega)

theorem chkRef_13 (a b n : Int) (w : World) :
    Calls Tryd.prog 33 #[.agg #[.int .i64 13, .int .i64 a, .int .i64 b, .int .i64 n]] w fun e w' => e = .returned (.int .i64 (chkRow true true true 0 5 a b n)) ∧ Below w.heap.size w w' := by
  have hw : withinB 13 1 15 = true := by decide
  go_enter Tryd.func33, Tryd.ntmps33
  go_wp2_with (first | (go_at_call 22; refine (within_any _ _ _ _).mono ?_; rintro e w' ⟨rfl, rfl⟩) | (go_at_call 27; refine (register_any _ _).mono ?_; rintro e w' ⟨rfl, rfl⟩) | (go_at_call 39; refine (has_any _ _).mono ?_; rw [show rowA (Int.toNat 13) = true from rfl, show rowB (Int.toNat 13) = true from rfl, show rowN (Int.toNat 13) = true from rfl]; rintro e w' ⟨rfl, rfl⟩))
  all_goals go_ret
  all_goals refine ⟨ret_int ?_, (by repeat (first | exact Below.refl _ _ | assumption | refine Below.drew ?_ | refine Below.alloc ?_ (by first | (simp; done) | (simp; omega)) _ | refine Below.setCell ?_ (by first | (simp; done) | (simp; omega)) _))⟩
  all_goals clear hw
  all_goals (simp_all [chkRow, withinB]; try omega)

theorem chkRef_out (op a b n : Int) (w : World) (ho : op < 1 ∨ 15 < op) :
    Calls Tryd.prog 33 #[.agg #[.int .i64 op, .int .i64 a, .int .i64 b, .int .i64 n]] w fun e w' => e = .returned (.int .i64 4) ∧ Below w.heap.size w w' := by
  have hw : withinB op 1 15 = false := by unfold withinB; simp; omega
  clear ho
  go_enter Tryd.func33, Tryd.ntmps33
  go_wp2_with (go_at_call 22; refine (within_any _ _ _ _).mono ?_; rintro e w' ⟨rfl, rfl⟩)
  go_ret
  exact ⟨rfl, (by repeat (first | exact Below.refl _ _ | assumption | refine Below.drew ?_ | refine Below.alloc ?_ (by first | (simp; done) | (simp; omega)) _ | refine Below.setCell ?_ (by first | (simp; done) | (simp; omega)) _))⟩

/-- The reference answers as isa.Check does. -/
theorem chkRef_any (op a b n : Int) (hn : in64 n) (w : World) :
    Calls Tryd.prog 33 #[.agg #[.int .i64 op, .int .i64 a, .int .i64 b, .int .i64 n]] w fun e w' => e = .returned (.int .i64 (chkI op a b n)) ∧ Below w.heap.size w w' := by
  by_cases ho : op < 1 ∨ 15 < op
  · unfold chkI; rw [if_pos ho]; exact chkRef_out op a b n w ho
  · unfold chkI; rw [if_neg ho]
    by_cases e8 : op = 8
    · subst e8; exact chkRef_8 a b n w
    by_cases e9 : op = 9
    · subst e9; exact chkRef_9 a b n w
    by_cases e12 : op = 12
    · subst e12; exact chkRef_12 a b n w
    by_cases e13 : op = 13
    · subst e13; exact chkRef_13 a b n w
    obtain ⟨k, rfl⟩ := Int.eq_ofNat_of_zero_le (show 0 ≤ op by omega)
    rw [Int.toNat_natCast]
    by_cases e1 : k = 1
    · subst e1
      exact chkRef_other 1 (by omega) (by omega) _ _ _ rfl rfl rfl a b n w (by decide) (by decide) (by decide) (by decide) _ _ hn.1 hn.2
    · have hN : rowN k = false := by
        have : ∀ k, k < 16 → (k = 1 ∨ k = 8 ∨ k = 9 ∨ k = 12 ∨ k = 13 ∨ rowN k = false) := by decide
        rcases this k (by omega) with h | h | h | h | h | h
        · exact absurd h e1
        · omega
        · omega
        · omega
        · omega
        · exact h
      have e : chkRow (rowA k) (rowB k) (rowN k) (rowLo k) (rowHi k) a b n = chkRow (rowA k) (rowB k) (rowN k) n n a b n := by
        rw [hN]; rfl
      rw [e]
      exact chkRef_other k (by omega) (by omega) _ _ _ rfl rfl rfl a b n w (by simp; omega) (by simp; omega) (by simp; omega) (by simp; omega) _ _ (Int.le_refl _) (Int.le_refl _)
