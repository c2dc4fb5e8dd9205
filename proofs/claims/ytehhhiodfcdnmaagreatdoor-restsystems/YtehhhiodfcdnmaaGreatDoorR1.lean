/- A part of the proofs over this seat's laws: what a function of the program, or of the reference, answers and leaves, told by its theorems below. -/
import Derived.Test.YtehhhiodfcdnmaaGreatDoorProg
import Derived.Test.YtehhhiodfcdnmaaGreatDoorR0
import Derived.WalkKit
import Derived.Outline
import Derived.WalkSmall
import Derived.Sort.Grow
import Derived.Lib.Hide
import Derived.Deep.AppendLies
import Derived.Deep.LoopGhost
namespace Go.Proofs.YtehhhiodfcdnmaaGreatDoor
set_option linter.unusedSimpArgs false
set_option linter.unusedVariables false
set_option maxHeartbeats 2000000
open Go.RowKit
def regB (a : Int) : Bool := decide (0 ≤ a) && decide (a < 4)
theorem isReg_any (a : Int) (w : World) : Calls Tryz.prog 149 #[.int .i64 a] w fun e w' => e = .returned (.bool (regB a)) ∧ w' = w := by
 by_cases h : 0 ≤ a
 all_goals
 go_enter Tryz.func149, Tryz.ntmps149
 go_wp2
 all_goals go_ret
 all_goals exact ⟨ret_bool (by simp [regB]; try omega), rfl⟩
def chkRow (ba bb bn : Bool) (lo hi a b n : Int) : Int :=
 if (ba && !regB a) || (bb && !regB b) || (bn && (decide (n < lo) || decide (hi < n))) then 3
 else if (!ba && a != 0) || (!bb && b != 0) || (!bn && n != 0) then 1 else 0
theorem chk_row (k : Nat) (hk1 : 1 ≤ k) (hk : k < 16) (ws : ByteArray) (ba bb bn : Bool) (lo hi a b n : Int) (w : World) (hz : 0 < w.heap.size)
 (c0 : w.cell? ⟨0, k * 6, none⟩ = some (.string ws)) (c1 : w.cell? ⟨0, k * 6 + 1, none⟩ = some (.bool ba))
 (c2 : w.cell? ⟨0, k * 6 + 2, none⟩ = some (.bool bb)) (c3 : w.cell? ⟨0, k * 6 + 3, none⟩ = some (.bool bn))
 (c4 : w.cell? ⟨0, k * 6 + 4, none⟩ = some (.int .i64 lo)) (c5 : w.cell? ⟨0, k * 6 + 5, none⟩ = some (.int .i64 hi)) : Calls Tryz.prog 121 #[.agg #[.int .i64 k, .int .i64 a, .int .i64 b, .int .i64 n]] w fun e w' => e = .returned (.int .i64 (chkRow ba bb bn lo hi a b n)) ∧ Below w.heap.size w w' := by
 have hk1' : ¬ ((k : Int) < 1) := by omega
 have hk2' : ¬ ((15 : Int) < k) := by omega
 go_enter Tryz.func121, Tryz.ntmps121
 go_wp2_with (go_at_call 149; refine (isReg_any _ _).mono ?_; rintro e w' ⟨rfl, rfl⟩)
 all_goals go_ret
 all_goals refine ⟨ret_int ?_, up0⟩
 all_goals (simp_all [chkRow]; done)
def rowA (k : Nat) : Bool := [false, true, true, true, true, true, true, true, false, true, true, true, true, true, false, false].getD k false
def rowB (k : Nat) : Bool := [false, false, true, true, true, true, true, true, false, false, false, false, false, true, false, false].getD k false
def rowN (k : Nat) : Bool := [false, true, false, false, false, false, false, false, true, true, false, false, true, true, false, false].getD k false
def rowLo (k : Nat) : Int := if k = 1 then -9223372036854775808 else 0
def rowHi (k : Nat) : Int := if k = 1 then 9223372036854775807 else if k = 8 ∨ k = 9 then 19 else if k = 12 ∨ k = 13 then 5 else 0
def rowW (k : Nat) : List UInt8 := [[], [115, 101, 116], [99, 111, 112, 121], [97, 100, 100], [115, 117, 98], [108, 101, 115, 115], [108, 111, 97, 100], [115, 97, 118, 101], [106, 117, 109, 112], [122, 101, 114, 111], [105, 110], [111, 117, 116], [112, 117, 116], [103, 101, 116], [114, 101, 115, 116], [115, 116, 111, 112]].getD k []
structure Shp (w : World) : Prop where
 size : 0 < w.heap.size
 c0 : ∀ k, k < 16 → w.cell? ⟨0, k * 6, none⟩ = some (.string ⟨(rowW k).toArray⟩)
 c1 : ∀ k, k < 16 → w.cell? ⟨0, k * 6 + 1, none⟩ = some (.bool (rowA k))
 c2 : ∀ k, k < 16 → w.cell? ⟨0, k * 6 + 2, none⟩ = some (.bool (rowB k))
 c3 : ∀ k, k < 16 → w.cell? ⟨0, k * 6 + 3, none⟩ = some (.bool (rowN k))
 c4 : ∀ k, k < 16 → w.cell? ⟨0, k * 6 + 4, none⟩ = some (.int .i64 (rowLo k))
 c5 : ∀ k, k < 16 → w.cell? ⟨0, k * 6 + 5, none⟩ = some (.int .i64 (rowHi k))
theorem Shp.up {w w' : World} (h : Shp w) (hb : Below w.heap.size w w') : Shp w' :=
 ⟨Nat.lt_of_lt_of_le h.size hb.size, fun k hk => (hb.cell h.size).trans (h.c0 k hk), fun k hk => (hb.cell h.size).trans (h.c1 k hk), fun k hk => (hb.cell h.size).trans (h.c2 k hk),
  fun k hk => (hb.cell h.size).trans (h.c3 k hk), fun k hk => (hb.cell h.size).trans (h.c4 k hk), fun k hk => (hb.cell h.size).trans (h.c5 k hk)⟩
def chkI (op a b n : Int) : Int := if op < 1 ∨ 15 < op then 4 else chkRow (rowA op.toNat) (rowB op.toNat) (rowN op.toNat) (rowLo op.toNat) (rowHi op.toNat) a b n
theorem chk_out (op a b n : Int) (w : World) (ho : op < 1 ∨ 15 < op) : Calls Tryz.prog 121 #[.agg #[.int .i64 op, .int .i64 a, .int .i64 b, .int .i64 n]] w fun e w' => e = .returned (.int .i64 4) ∧ Below w.heap.size w w' := by
 by_cases h : op < 1
 ·clear ho
  go_enter Tryz.func121, Tryz.ntmps121
  go_wp2
  all_goals go_ret
  all_goals exact ⟨rfl, up0⟩
 ·have h2 : 15 < op := by omega
  clear ho
  go_enter Tryz.func121, Tryz.ntmps121
  go_wp2
  all_goals go_ret
  all_goals exact ⟨rfl, up0⟩
theorem chk_any (op a b n : Int) (w : World) (h : Shp w) : Calls Tryz.prog 121 #[.agg #[.int .i64 op, .int .i64 a, .int .i64 b, .int .i64 n]] w fun e w' => e = .returned (.int .i64 (chkI op a b n)) ∧ Below w.heap.size w w' := by
 by_cases ho : op < 1 ∨ 15 < op
 ·unfold chkI; rw [if_pos ho]; exact chk_out op a b n w ho
 ·obtain ⟨k, rfl⟩ := Int.eq_ofNat_of_zero_le (show 0 ≤ op by omega)
  unfold chkI; rw [if_neg ho, Int.toNat_natCast]
  exact chk_row k om om _ _ _ _ _ _ a b n w h.size (h.c0 k om) (h.c1 k om) (h.c2 k om) (h.c3 k om) (h.c4 k om) (h.c5 k om)
open Go.RowKit Go.Sort
structure Env (w : World) : Prop where
 shp : Shp w
theorem Env.up {w w' : World} (h : Env w) (hb : Below w.heap.size w w') : Env w' := ⟨h.shp.up hb⟩
def in64 (n : Int) : Prop := -9223372036854775808 ≤ n ∧ n ≤ 9223372036854775807
theorem chk_v (op a b n c : Int) (w : World) (he : Env w) (hc : chkI op a b n = c) : Calls Tryz.prog 121 #[.agg #[.int .i64 op, .int .i64 a, .int .i64 b, .int .i64 n]] w fun e w' => e = .returned (.int .i64 c) ∧ Below w.heap.size w w' := hc ▸ chk_any op a b n w he.shp
def withinB (n lo hi : Int) : Bool := decide (lo ≤ n) && decide (n ≤ hi)
theorem within_any (n lo hi : Int) (w : World) : Calls Tryz.prog 34 #[.int .i64 n, .int .i64 lo, .int .i64 hi] w fun e w' => e = .returned (.bool (withinB n lo hi)) ∧ w' = w := by
 by_cases h : lo ≤ n
 all_goals
 go_enter Tryz.func34, Tryz.ntmps34
 go_wp2
 all_goals go_ret
 all_goals exact ⟨ret_bool (by simp [withinB]; try omega), rfl⟩
theorem regB_eq (a : Int) : withinB a 0 3 = regB a := by
 unfold withinB regB; congr 1; simp; omega
theorem register_any (a : Int) (w : World) : Calls Tryz.prog 148 #[.int .i64 a] w fun e w' => e = .returned (.bool (regB a)) ∧ w' = w := by
 go_enter Tryz.func148, Tryz.ntmps148
 go_wp2_with (go_at_call 34; refine (within_any _ _ _ _).mono ?_; rintro e w' ⟨rfl, rfl⟩)
 go_ret
 exact ⟨ret_bool (regB_eq a), rfl⟩
theorem has_none (op : Int) (ho : op < 1 ∨ 15 < op) (w : World) : Calls Tryz.prog 147 #[.int .i64 op] w fun e w' => e = .returned (.tuple #[.bool false, .bool false, .bool false]) ∧ w' = w := by
 have h1 : (op == 1) = false := by simp; omega
 have h2 : (op == 2) = false := by simp; omega
 have h3 : (op == 3) = false := by simp; omega
 have h4 : (op == 4) = false := by simp; omega
 have h5 : (op == 5) = false := by simp; omega
 have h6 : (op == 6) = false := by simp; omega
 have h7 : (op == 7) = false := by simp; omega
 have h8 : (op == 8) = false := by simp; omega
 have h9 : (op == 9) = false := by simp; omega
 have h10 : (op == 10) = false := by simp; omega
 have h11 : (op == 11) = false := by simp; omega
 have h12 : (op == 12) = false := by simp; omega
 have h13 : (op == 13) = false := by simp; omega
 clear ho
 go_enter Tryz.func147, Tryz.ntmps147
 go_wp2
 all_goals go_ret3
 all_goals exact ⟨rfl, rfl⟩
theorem has_any (op : Int) (w : World) : Calls Tryz.prog 147 #[.int .i64 op] w fun e w' => e = .returned (.tuple #[.bool (rowA op.toNat), .bool (rowB op.toNat), .bool (rowN op.toNat)]) ∧ w' = w := by
 by_cases ho : op < 1 ∨ 15 < op
 ·have e1 : rowA op.toNat = false := by
   rcases ho with h | h
   ·rw [show op.toNat = 0 by omega]; rfl
   ·unfold rowA; rw [List.getD_eq_getElem?_getD, List.getElem?_eq_none so]; rfl
  have e2 : rowB op.toNat = false := by
   rcases ho with h | h
   ·rw [show op.toNat = 0 by omega]; rfl
   ·unfold rowB; rw [List.getD_eq_getElem?_getD, List.getElem?_eq_none so]; rfl
  have e3 : rowN op.toNat = false := by
   rcases ho with h | h
   ·rw [show op.toNat = 0 by omega]; rfl
   ·unfold rowN; rw [List.getD_eq_getElem?_getD, List.getElem?_eq_none so]; rfl
  rw [e1, e2, e3]
  exact has_none op ho w
 ·have h : op = 1 ∨ op = 2 ∨ op = 3 ∨ op = 4 ∨ op = 5 ∨ op = 6 ∨ op = 7 ∨ op = 8 ∨ op = 9 ∨ op = 10 ∨ op = 11 ∨ op = 12 ∨ op = 13 ∨ op = 14 ∨ op = 15 := by omega
  clear ho
  rcases h with rfl | rfl | rfl | rfl | rfl | rfl | rfl | rfl | rfl | rfl | rfl | rfl | rfl | rfl | rfl
  all_goals
   go_enter Tryz.func147, Tryz.ntmps147
   go_wp2
   go_ret3
   exact ⟨rfl, rfl⟩
theorem chkRef_other (k : Nat) (hk1 : 1 ≤ k) (hk : k < 16) (ba bb bn : Bool) (eA : rowA k = ba) (eB : rowB k = bb) (eN : rowN k = bn) (a b n : Int) (w : World)
  (h8 : ((k : Int) == 8) = false) (h9 : ((k : Int) == 9) = false) (h12 : ((k : Int) == 12) = false) (h13 : ((k : Int) == 13) = false) (lo hi : Int) (hl : lo ≤ n) (hh : n ≤ hi) :
  Calls Tryz.prog 117 #[.agg #[.int .i64 k, .int .i64 a, .int .i64 b, .int .i64 n]] w fun e w' => e = .returned (.int .i64 (chkRow ba bb bn lo hi a b n)) ∧ Below w.heap.size w w' := by
 have hw : withinB k 1 15 = true := by unfold withinB; simp; omega
 go_enter Tryz.func117, Tryz.ntmps117
 go_wp2_with (first | (go_at_call 34; refine (within_any _ _ _ _).mono ?_; rintro e w' ⟨rfl, rfl⟩) | (go_at_call 148; refine (register_any _ _).mono ?_; rintro e w' ⟨rfl, rfl⟩) | (go_at_call 147; refine (has_any _ _).mono ?_; rw [Int.toNat_natCast, eA, eB, eN]; rintro e w' ⟨rfl, rfl⟩))
 all_goals go_ret
 all_goals refine ⟨ret_int ?_, up0⟩
 all_goals clear h8 h9 h12 h13 hw eA eB eN
 all_goals (have q1 : decide (n < lo) = false := by simp; omega
            have q2 : decide (hi < n) = false := by simp; omega
            simp_all [chkRow])
theorem chkRef_8 (a b n : Int) (w : World) :
  Calls Tryz.prog 117 #[.agg #[.int .i64 8, .int .i64 a, .int .i64 b, .int .i64 n]] w fun e w' => e = .returned (.int .i64 (chkRow false false true 0 19 a b n)) ∧ Below w.heap.size w w' := by
 have hw : withinB 8 1 15 = true := by decide
 go_enter Tryz.func117, Tryz.ntmps117
 go_wp2_with (first | (go_at_call 34; refine (within_any _ _ _ _).mono ?_; rintro e w' ⟨rfl, rfl⟩) | (go_at_call 148; refine (register_any _ _).mono ?_; rintro e w' ⟨rfl, rfl⟩) | (go_at_call 147; refine (has_any _ _).mono ?_; rw [show rowA (Int.toNat 8) = false from rfl, show rowB (Int.toNat 8) = false from rfl, show rowN (Int.toNat 8) = true from rfl]; rintro e w' ⟨rfl, rfl⟩))
 all_goals go_ret
 all_goals refine ⟨ret_int ?_, up0⟩
 all_goals clear hw
 all_goals (simp_all [chkRow, withinB]; try omega)
theorem chkRef_9 (a b n : Int) (w : World) :
  Calls Tryz.prog 117 #[.agg #[.int .i64 9, .int .i64 a, .int .i64 b, .int .i64 n]] w fun e w' => e = .returned (.int .i64 (chkRow true false true 0 19 a b n)) ∧ Below w.heap.size w w' := by
 have hw : withinB 9 1 15 = true := by decide
 go_enter Tryz.func117, Tryz.ntmps117
 go_wp2_with (first | (go_at_call 34; refine (within_any _ _ _ _).mono ?_; rintro e w' ⟨rfl, rfl⟩) | (go_at_call 148; refine (register_any _ _).mono ?_; rintro e w' ⟨rfl, rfl⟩) | (go_at_call 147; refine (has_any _ _).mono ?_; rw [show rowA (Int.toNat 9) = true from rfl, show rowB (Int.toNat 9) = false from rfl, show rowN (Int.toNat 9) = true from rfl]; rintro e w' ⟨rfl, rfl⟩))
 all_goals go_ret
 all_goals refine ⟨ret_int ?_, up0⟩
 all_goals clear hw
 all_goals (simp_all [chkRow, withinB]; try omega)
theorem chkRef_12 (a b n : Int) (w : World) :
  Calls Tryz.prog 117 #[.agg #[.int .i64 12, .int .i64 a, .int .i64 b, .int .i64 n]] w fun e w' => e = .returned (.int .i64 (chkRow true false true 0 5 a b n)) ∧ Below w.heap.size w w' := by
 have hw : withinB 12 1 15 = true := by decide
 go_enter Tryz.func117, Tryz.ntmps117
 go_wp2_with (first | (go_at_call 34; refine (within_any _ _ _ _).mono ?_; rintro e w' ⟨rfl, rfl⟩) | (go_at_call 148; refine (register_any _ _).mono ?_; rintro e w' ⟨rfl, rfl⟩) | (go_at_call 147; refine (has_any _ _).mono ?_; rw [show rowA (Int.toNat 12) = true from rfl, show rowB (Int.toNat 12) = false from rfl, show rowN (Int.toNat 12) = true from rfl]; rintro e w' ⟨rfl, rfl⟩))
 all_goals go_ret
 all_goals refine ⟨ret_int ?_, up0⟩
 all_goals clear hw
 all_goals (simp_all [chkRow, withinB]; try omega)
theorem chkRef_13 (a b n : Int) (w : World) :
  Calls Tryz.prog 117 #[.agg #[.int .i64 13, .int .i64 a, .int .i64 b, .int .i64 n]] w fun e w' => e = .returned (.int .i64 (chkRow true true true 0 5 a b n)) ∧ Below w.heap.size w w' := by
 have hw : withinB 13 1 15 = true := by decide
 go_enter Tryz.func117, Tryz.ntmps117
 go_wp2_with (first | (go_at_call 34; refine (within_any _ _ _ _).mono ?_; rintro e w' ⟨rfl, rfl⟩) | (go_at_call 148; refine (register_any _ _).mono ?_; rintro e w' ⟨rfl, rfl⟩) | (go_at_call 147; refine (has_any _ _).mono ?_; rw [show rowA (Int.toNat 13) = true from rfl, show rowB (Int.toNat 13) = true from rfl, show rowN (Int.toNat 13) = true from rfl]; rintro e w' ⟨rfl, rfl⟩))
 all_goals go_ret
 all_goals refine ⟨ret_int ?_, up0⟩
 all_goals clear hw
 all_goals (simp_all [chkRow, withinB]; try omega)
theorem chkRef_out (op a b n : Int) (w : World) (ho : op < 1 ∨ 15 < op) :
  Calls Tryz.prog 117 #[.agg #[.int .i64 op, .int .i64 a, .int .i64 b, .int .i64 n]] w fun e w' => e = .returned (.int .i64 4) ∧ Below w.heap.size w w' := by
 have hw : withinB op 1 15 = false := by unfold withinB; simp; omega
 clear ho
 go_enter Tryz.func117, Tryz.ntmps117
 go_wp2_with (go_at_call 34; refine (within_any _ _ _ _).mono ?_; rintro e w' ⟨rfl, rfl⟩)
 go_ret
 exact ⟨rfl, up0⟩
theorem chkRef_any (op a b n : Int) (hn : in64 n) (w : World) :
  Calls Tryz.prog 117 #[.agg #[.int .i64 op, .int .i64 a, .int .i64 b, .int .i64 n]] w fun e w' => e = .returned (.int .i64 (chkI op a b n)) ∧ Below w.heap.size w w' := by
 by_cases ho : op < 1 ∨ 15 < op
 ·unfold chkI; rw [if_pos ho]; exact chkRef_out op a b n w ho
 ·unfold chkI; rw [if_neg ho]
  by_cases e8 : op = 8
  ·subst e8; exact chkRef_8 a b n w
  by_cases e9 : op = 9
  ·subst e9; exact chkRef_9 a b n w
  by_cases e12 : op = 12
  ·subst e12; exact chkRef_12 a b n w
  by_cases e13 : op = 13
  ·subst e13; exact chkRef_13 a b n w
  obtain ⟨k, rfl⟩ := Int.eq_ofNat_of_zero_le (show 0 ≤ op by omega)
  rw [Int.toNat_natCast]
  by_cases e1 : k = 1
  ·subst e1
   exact chkRef_other 1 om om _ _ _ rfl rfl rfl a b n w (by decide) (by decide) (by decide) (by decide) _ _ hn.1 hn.2
  ·have hN : rowN k = false := by
    have : ∀ k, k < 16 → (k = 1 ∨ k = 8 ∨ k = 9 ∨ k = 12 ∨ k = 13 ∨ rowN k = false) := by decide
    rcases this k om with h | h | h | h | h | h
    ·exact absurd h e1
    ·omega
    ·omega
    ·omega
    ·omega
    ·exact h
   have e : chkRow (rowA k) (rowB k) (rowN k) (rowLo k) (rowHi k) a b n = chkRow (rowA k) (rowB k) (rowN k) n n a b n := by
    rw [hN]; rfl
   rw [e]
   exact chkRef_other k om om _ _ _ rfl rfl rfl a b n w so so so so _ _ (Int.le_refl _) (Int.le_refl _)
structure Ins where
 op : Int
 a : Int
 b : Int
 n : Int
def Ins.v (i : Ins) : Value := .agg #[.int .i64 i.op, .int .i64 i.a, .int .i64 i.b, .int .i64 i.n]
def Ins.cells (i : Ins) : List Value := [.int .i64 i.op, .int .i64 i.a, .int .i64 i.b, .int .i64 i.n]
def Ins.ok (i : Ins) : Prop := in64 i.op ∧ in64 i.a ∧ in64 i.b ∧ in64 i.n
def Ins.chk (i : Ins) : Int := chkI i.op i.a i.b i.n
def codeC : List Ins → List Value
 | [] => []
 | i :: r => i.cells ++ codeC r
theorem codeC_len : ∀ l : List Ins, (codeC l).length = l.length * 4
 | [] => rfl
 | i :: r => by rw [codeC, List.length_append, codeC_len r]; simp [Ins.cells]; omega
theorem codeC_at : ∀ (l : List Ins) (k j : Nat) (h : k < l.length), j < 4 → (codeC l)[k * 4 + j]? = l[k].cells[j]?
 | i :: r, 0, j, _, hj => by
  rw [codeC, List.getElem?_append_left (by simp [Ins.cells]; omega)]; simp
 | i :: r, k + 1, j, h, hj => by
  rw [codeC, List.getElem?_append_right (by simp [Ins.cells]; omega)]
  have := codeC_at r k j (by simpa using h) hj
  rw [show (k + 1) * 4 + j - i.cells.length = k * 4 + j by simp [Ins.cells]; omega, this]
  rfl
theorem code_cells {w : World} {b off : Nat} {l : List Ins} (hc : ∀ j u, (codeC l)[j]? = some u → w.cell? ⟨b, off + j, none⟩ = some u) (k : Nat) (h : k < l.length) :
  w.cell? ⟨b, off + k * 4, none⟩ = some (.int .i64 l[k].op) ∧ w.cell? ⟨b, off + k * 4 + 1, none⟩ = some (.int .i64 l[k].a) ∧ w.cell? ⟨b, off + k * 4 + 2, none⟩ = some (.int .i64 l[k].b) ∧ w.cell? ⟨b, off + k * 4 + 3, none⟩ = some (.int .i64 l[k].n) := by
 refine ⟨?_, ?_, ?_, ?_⟩
 ·exact hc (k * 4) _ (by have := codeC_at l k 0 h (by decide); simpa [Ins.cells] using this)
 ·exact hc (k * 4 + 1) _ (by rw [codeC_at l k 1 h (by decide)]; rfl)
 ·exact hc (k * 4 + 2) _ (by rw [codeC_at l k 2 h (by decide)]; rfl)
 ·exact hc (k * 4 + 3) _ (by rw [codeC_at l k 3 h (by decide)]; rfl)
def firstE : List Ins → Int
 | [] => 0
 | i :: r => if i.chk = 0 then firstE r else i.chk
def chkC (l : List Ins) : Int := if l.length < 1 ∨ 20 < l.length then 2 else firstE l
theorem firstE_at : ∀ (l : List Ins) (k : Nat) (h : k < l.length), (∀ j (hj : j < l.length), j < k → l[j].chk = 0) → l[k].chk ≠ 0 → firstE l = l[k].chk
 | i :: r, 0, _, _, hne => by rw [firstE, if_neg (show ¬ i.chk = 0 from hne)]; rfl
 | i :: r, k + 1, h, hz, hne => by
  rw [firstE, if_pos (show i.chk = 0 from hz 0 (by simp) om)]
  exact firstE_at r k (by simpa using h) (fun j hj hlt => hz (j + 1) (by simpa using hj) om) hne
theorem firstE_all : ∀ l : List Ins, (∀ j (hj : j < l.length), l[j].chk = 0) → firstE l = 0
 | [], _ => rfl
 | i :: r, hz => by
  rw [firstE, if_pos (show i.chk = 0 from hz 0 (by simp))]
  exact firstE_all r (fun j hj => hz (j + 1) (by simpa using hj))
theorem firstE_zero : ∀ {l : List Ins}, firstE l = 0 → ∀ j (hj : j < l.length), l[j].chk = 0
 | i :: r, h, j, hj => by
  rw [firstE] at h
  by_cases hc : i.chk = 0
  ·rw [if_pos hc] at h
   cases j with
   | zero => exact hc
   | succ j => exact firstE_zero h j (by simpa using hj)
  ·rw [if_neg hc] at h; exact absurd h hc
theorem chkC_zero {l : List Ins} (h : chkC l = 0) : 1 ≤ l.length ∧ l.length ≤ 20 ∧ ∀ j (hj : j < l.length), l[j].chk = 0 := by
 unfold chkC at h
 by_cases hl : l.length < 1 ∨ 20 < l.length
 ·rw [if_pos hl] at h; omega
 ·rw [if_neg hl] at h
  exact ⟨by omega, by omega, firstE_zero h⟩
theorem codeCheck_any (l : List Ins) (v : Value) (w : World) (he : Env w) (hS : Sl w 4 v l.length (codeC l)) : Calls Tryz.prog 89 #[v] w fun e w' => e = .returned (.int .i64 (chkC l)) ∧ Below w.heap.size w w' := by
 by_cases hl : l.length < 1 ∨ 20 < l.length
 ·obtain ⟨ao, cap, rfl⟩ := hS.form
  unfold chkC
  rw [if_pos hl]
  by_cases h1 : l.length < 1
  ·have h1' : (l.length : Int) < 1 := by omega
   clear hl
   go_enter Tryz.func89, Tryz.ntmps89
   go_wp2
   go_ret
   exact ⟨rfl, Below.refl _ _⟩
  ·have h1' : ¬ (l.length : Int) < 1 := by omega
   have h2' : (20 : Int) < l.length := by omega
   clear hl
   go_enter Tryz.func89, Tryz.ntmps89
   go_wp2
   go_ret
   exact ⟨rfl, Below.refl _ _⟩
 ·unfold chkC
  rw [if_neg hl]
  have h1' : ¬ (l.length : Int) < 1 := by omega
  have h2' : ¬ (20 : Int) < l.length := by omega
  obtain ⟨b, off, cap, rfl, hcap, hbw, hc⟩ := hS.open om
  have HC := hd hc
  obtain ⟨res, hres⟩ : ∃ res, res = firstE l := ⟨_, rfl⟩
  rw [← hres]
  have HR := hd hres
  have hl20 : l.length ≤ 20 := by omega
  clear hl hc hS hres
  go_enter Tryz.func89, Tryz.ntmps89
  go_wp2
  go_loopw [16] (fun i wr => ∃ k : Nat, i = .int .i64 k ∧ k ≤ l.length ∧ Hid (∀ j (hj : j < l.length), j < k → l[j].chk = 0) ∧ Below w.heap.size w wr) (fun i _ => l.length - (intOf i).toNat)
  case atStart => exact ⟨0, rfl, Nat.zero_le _, fun j hj h => by omega, Below.refl _ _⟩
  case round =>
   obtain ⟨k, rfl, hk, HZ, hbel⟩ := hrel
   by_cases hlt : k < l.length
   ·obtain ⟨c0, c1, c2, c3⟩ := code_cells HC.out k hlt
    have c0 := bcl hbel hbw c0
    have c1 := bcl hbel hbw c1
    have c2 := bcl hbel hbw c2
    have c3 := bcl hbel hbw c3
    have her := he.up hbel
    have hbr : b < wr.heap.size := Nat.lt_of_lt_of_le hbw hbel.size
    have hkc : (k : Int) < l.length := by omega
    obtain ⟨ck, hck⟩ : ∃ ck, ck = l[k].chk := ⟨_, rfl⟩
    by_cases h0 : ck = 0
    ·have HCK : Hid (chkI l[k].op l[k].a l[k].b l[k].n = 0) := by show l[k].chk = 0; rw [← hck, h0]
     clear hck h0
     go_wp2_with (go_at_call 121; refine (chk_v _ _ _ _ 0 _ ?_ HCK.out).mono ?_; (exact her.up up0); rintro e w1 ⟨rfl, hb1⟩)
     go_roundw
     case rel => exact ⟨k + 1, by go_num, by omega, fun j hj hjk => by
      by_cases e : j = k
      ·subst e; exact HCK.out
      ·exact HZ.out j hj om, (hbel.alloc hbel.size _).trans (hb1.mono (by simp; have := hbel.size; omega))⟩
     case measure => simp [intOf]; omega
    ·have HCK : Hid (chkI l[k].op l[k].a l[k].b l[k].n = ck) := by show l[k].chk = ck; rw [hck]
     have HRR : Hid (ck = res) := by
      show ck = res
      rw [HR.out, hck]; exact (firstE_at l k hlt HZ.out (by rw [← hck]; exact h0)).symm
     have h0' : (ck != 0) = true := by simpa using h0
     clear hck h0
     go_wp2_with (go_at_call 121; refine (chk_v _ _ _ _ ck _ ?_ HCK.out).mono ?_; (exact her.up up0); rintro e w1 ⟨rfl, hb1⟩)
     go_ret
     exact ⟨ret_int HRR.out, (hbel.alloc hbel.size _).trans (hb1.mono (by simp; have := hbel.size; omega))⟩
   ·have hkc : ¬ (k : Int) < l.length := by omega
    have HRR : Hid ((0 : Int) = res) := by
     show (0 : Int) = res
     rw [HR.out]; exact (firstE_all l (fun j hj => HZ.out j hj om)).symm
    go_wp2
    go_ret
    exact ⟨ret_int HRR.out, hbel⟩
theorem sameInts_any (xs ys : List Int) (v u : Value) (w : World) (hx : Sl w 1 v xs.length (ints xs)) (hy : Sl w 1 u ys.length (ints ys)) (hm : xs.length < 4294967281) (r : Bool) (hr : decide (xs = ys) = r) :
  Calls Tryz.prog 41 #[v, u] w fun e w' => e = .returned (.bool r) ∧ Below w.heap.size w w' := by
 obtain ⟨ax, cx, rfl⟩ := hx.form
 obtain ⟨ay, cy, rfl⟩ := hy.form
 by_cases hl : xs.length = ys.length
 ·have hl' : ((xs.length : Int) != (ys.length : Int)) = false := by simp; omega
  have HX := hd hx
  have HY := hd hy
  have HL := hd hl
  have HR := hd hr
  clear hx hy hl hr
  go_enter Tryz.func41, Tryz.ntmps41
  go_wp2
  go_loopw [5] (fun i wr => ∃ k : Nat, i = .int .i64 k ∧ k ≤ xs.length ∧ Hid (xs.take k = ys.take k) ∧ Below w.heap.size w wr) (fun i _ => xs.length - (intOf i).toNat)
  case atStart => exact ⟨0, rfl, Nat.zero_le _, rfl, Below.refl _ _⟩
  case round =>
   obtain ⟨k, rfl, hk, HZ, hbel⟩ := hrel
   by_cases hlt : k < xs.length
   ·have hly : k < ys.length := by have := HL.out; omega
    obtain ⟨b, off, cap, e1, hcap, hbw, hc⟩ := HX.out.open om
    obtain ⟨b', off', cap', e2, hcap', hbw', hc'⟩ := HY.out.open om
    cases e1
    cases e2
    have c0 := bcl hbel hbw (hc k _ (ints_at xs k hlt))
    have c1 := bcl hbel hbw' (hc' k _ (ints_at ys k hly))
    have i1 : (0 : Int) ≤ k := by omega
    have i2 : (k : Int) < xs.length := by omega
    have i3 : (k : Int) < ys.length := by omega
    have HT : Hid (xs[k] = ys[k] → xs.take (k + 1) = ys.take (k + 1)) := fun e => by
     rw [List.take_succ_eq_append_getElem hlt, List.take_succ_eq_append_getElem hly, e, HZ.out]
    have HN : Hid (xs[k] ≠ ys[k] → r = false) := fun hne => by
     rw [← HR.out]
     simp only [decide_eq_false_iff_not]
     intro e
     subst e
     exact hne rfl
    clear hc hc' HZ
    by_cases hq : xs[k] = ys[k]
    ·have hq' : (xs[k] != ys[k]) = false := by simp [hq]
     have HQ := hd (HT.out hq)
     clear hq HT HN
     go_wp2
     go_region
     all_goals go_wp2
     all_goals
      go_roundw
      case rel => exact ⟨k + 1, by go_num, by omega, HQ, by first | exact hbel | exact hbel.drew⟩
      case measure => simp [intOf]; omega
    ·have hq' : (xs[k] != ys[k]) = true := by simp [hq]
     have HQ := hd (HN.out hq)
     clear hq HT HN
     go_wp2
     go_region
     all_goals go_wp2
     all_goals go_ret
     all_goals exact ⟨ret_bool (by rw [HQ.out]), by first | exact hbel | exact hbel.drew⟩
   ·have hkc : ¬ (k : Int) < xs.length := by omega
    have HQ : Hid (true = r) := by
     show true = r
     have h := HZ.out
     rw [List.take_of_length_le om, List.take_of_length_le (by have := HL.out; omega)] at h
     rw [← HR.out, h]; simp
    go_wp2
    go_ret
    exact ⟨ret_bool HQ.out, hbel⟩
 ·have hl' : ((xs.length : Int) != (ys.length : Int)) = true := by simp; omega
  have HR : Hid (false = r) := by
   show false = r
   rw [← hr]
   symm
   simp only [decide_eq_false_iff_not]
   intro e; subst e; exact hl rfl
  clear hx hy hl hr
  go_enter Tryz.func41, Tryz.ntmps41
  go_wp2
  go_ret
  exact ⟨ret_bool HR.out, Below.refl _ _⟩
theorem codeRef_any (l : List Ins) (hok : ∀ j (hj : j < l.length), l[j].ok) (v : Value) (w : World) (hS : Sl w 4 v l.length (codeC l)) : Calls Tryz.prog 76 #[v] w fun e w' => e = .returned (.int .i64 (chkC l)) ∧ Below w.heap.size w w' := by
 by_cases hl : l.length < 1 ∨ 20 < l.length
 ·obtain ⟨ao, cap, rfl⟩ := hS.form
  unfold chkC
  rw [if_pos hl]
  have hw : withinB l.length 1 20 = false := by unfold withinB; simp; omega
  clear hl
  go_enter Tryz.func76, Tryz.ntmps76
  go_wp2_with (go_at_call 34; refine (within_any _ _ _ _).mono ?_; rintro e w' ⟨rfl, rfl⟩)
  go_ret
  exact ⟨rfl, Below.refl _ _⟩
 ·unfold chkC
  rw [if_neg hl]
  have hw : withinB l.length 1 20 = true := by unfold withinB; simp; omega
  obtain ⟨b, off, cap, rfl, hcap, hbw, hc⟩ := hS.open om
  have HC := hd hc
  obtain ⟨res, hres⟩ : ∃ res, res = firstE l := ⟨_, rfl⟩
  rw [← hres]
  have HR := hd hres
  have hl20 : l.length ≤ 20 := by omega
  have HOK := hd hok
  clear hl hc hS hres hok
  go_enter Tryz.func76, Tryz.ntmps76
  go_wp2_with (go_at_call 34; refine (within_any _ _ _ _).mono ?_; rintro e w' ⟨rfl, rfl⟩)
  go_loopw [3] (fun i wr => ∃ k : Nat, i = .int .i64 k ∧ k ≤ l.length ∧ Hid (∀ j (hj : j < l.length), j < k → l[j].chk = 0) ∧ Below w'.heap.size w' wr) (fun i _ => l.length - (intOf i).toNat)
  case atStart => exact ⟨0, rfl, Nat.zero_le _, fun j hj h => by omega, Below.refl _ _⟩
  case round =>
   obtain ⟨k, rfl, hk, HZ, hbel⟩ := hrel
   by_cases hlt : k < l.length
   ·obtain ⟨c0, c1, c2, c3⟩ := code_cells HC.out k hlt
    have c0 := bcl hbel hbw c0
    have c1 := bcl hbel hbw c1
    have c2 := bcl hbel hbw c2
    have c3 := bcl hbel hbw c3
    have hbr : b < wr.heap.size := Nat.lt_of_lt_of_le hbw hbel.size
    have hkc : (k : Int) < l.length := by omega
    have hin := (HOK.out k hlt).2.2.2
    obtain ⟨ck, hck⟩ : ∃ ck, ck = l[k].chk := ⟨_, rfl⟩
    by_cases h0 : ck = 0
    ·have HCK : Hid (chkI l[k].op l[k].a l[k].b l[k].n = 0) := by show l[k].chk = 0; rw [← hck, h0]
     clear hck h0
     go_wp2_with (go_at_call 117; refine (chkRef_any _ _ _ _ hin _).mono ?_; rw [HCK.out]; rintro e w1 ⟨rfl, hb1⟩)
     go_roundw
     case rel => exact ⟨k + 1, by go_num, by omega, fun j hj hjk => by
      by_cases e : j = k
      ·subst e; exact HCK.out
      ·exact HZ.out j hj om, hbel.trans (hb1.mono hbel.size)⟩
     case measure => simp [intOf]; omega
    ·have HCK : Hid (chkI l[k].op l[k].a l[k].b l[k].n = ck) := by show l[k].chk = ck; rw [hck]
     have HRR : Hid (ck = res) := by
      show ck = res
      rw [HR.out, hck]; exact (firstE_at l k hlt HZ.out (by rw [← hck]; exact h0)).symm
     have h0' : (ck != 0) = true := by simpa using h0
     clear hck h0
     go_wp2_with (go_at_call 117; refine (chkRef_any _ _ _ _ hin _).mono ?_; rw [HCK.out]; rintro e w1 ⟨rfl, hb1⟩)
     go_ret
     exact ⟨ret_int HRR.out, hbel.trans (hb1.mono hbel.size)⟩
   ·have hkc : ¬ (k : Int) < l.length := by omega
    have HRR : Hid ((0 : Int) = res) := by
     show (0 : Int) = res
     rw [HR.out]; exact (firstE_all l (fun j hj => HZ.out j hj om)).symm
    go_wp2
    go_ret
    exact ⟨ret_int HRR.out, hbel⟩
def tellerL : List Ins := [⟨13, 0, 1, 0⟩, ⟨9, 1, 0, 0⟩, ⟨11, 0, 0, 0⟩, ⟨12, 0, 0, 1⟩, ⟨8, 0, 0, 0⟩]
end Go.Proofs.YtehhhiodfcdnmaaGreatDoor
