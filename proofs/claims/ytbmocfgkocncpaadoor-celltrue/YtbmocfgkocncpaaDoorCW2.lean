/- A part of the proofs over this seat's laws: what a function of the program, or of the reference, answers and leaves, told by its theorems below. -/
import Derived.Test.YtbmocfgkocncpaaDoorCW1
namespace Go.Proofs.YtbmocfgkocncpaaDoor
set_option linter.unusedSimpArgs false
set_option linter.unusedVariables false
open Go.RowKit

def rowA (k : Nat) : Bool := [false, true, true, true, true, true, true, true, false, true, true, true, true, true, false, false].getD k false
def rowB (k : Nat) : Bool := [false, false, true, true, true, true, true, true, false, false, false, false, false, true, false, false].getD k false
def rowN (k : Nat) : Bool := [false, true, false, false, false, false, false, false, true, true, false, false, true, true, false, false].getD k false
def rowLo (k : Nat) : Int := if k = 1 then -9223372036854775808 else 0
def rowHi (k : Nat) : Int := if k = 1 then 9223372036854775807 else if k = 8 ∨ k = 9 then 19 else if k = 12 ∨ k = 13 then 5 else 0
def rowW (k : Nat) : List UInt8 := [[], [115, 101, 116], [99, 111, 112, 121], [97, 100, 100], [115, 117, 98], [108, 101, 115, 115], [108, 111, 97, 100], [115, 97, 118, 101], [106, 117, 109, 112], [122, 101, 114, 111], [105, 110], [111, 117, 116], [112, 117, 116], [103, 101, 116], [114, 101, 115, 116], [115, 116, 111, 112]].getD k []

/-- The table isa.shapes lies in its variable as its initialiser lays it. -/
structure Shp (w : World) : Prop where
  size : 0 < w.heap.size
  c0 : ∀ k, k < 16 → w.cell? ⟨0, k * 6, none⟩ = some (.string ⟨(rowW k).toArray⟩)
  c1 : ∀ k, k < 16 → w.cell? ⟨0, k * 6 + 1, none⟩ = some (.bool (rowA k))
  c2 : ∀ k, k < 16 → w.cell? ⟨0, k * 6 + 2, none⟩ = some (.bool (rowB k))
  c3 : ∀ k, k < 16 → w.cell? ⟨0, k * 6 + 3, none⟩ = some (.bool (rowN k))
  c4 : ∀ k, k < 16 → w.cell? ⟨0, k * 6 + 4, none⟩ = some (.int .i64 (rowLo k))
  c5 : ∀ k, k < 16 → w.cell? ⟨0, k * 6 + 5, none⟩ = some (.int .i64 (rowHi k))

theorem Shp.up {w w' : World} (h : Shp w) (hb : Below w.heap.size w w') : Shp w' :=
  ⟨Nat.lt_of_lt_of_le h.size hb.size, fun k hk => (hb.cell h.size).trans (h.c0 k hk), fun k hk => (hb.cell h.size).trans (h.c1 k hk), fun k hk => (hb.cell h.size).trans (h.c2 k hk),
    fun k hk => (hb.cell h.size).trans (h.c3 k hk), fun k hk => (hb.cell h.size).trans (h.c4 k hk), fun k hk => (hb.cell h.size).trans (h.c5 k hk)⟩

/-- What isa.Check answers. -/
def chkI (op a b n : Int) : Int := if op < 1 ∨ 15 < op then 4 else chkRow (rowA op.toNat) (rowB op.toNat) (rowN op.toNat) (rowLo op.toNat) (rowHi op.toNat) a b n

theorem chk_out (op a b n : Int) (w : World) (ho : op < 1 ∨ 15 < op) : Calls Tryd.prog 35 #[.agg #[.int .i64 op, .int .i64 a, .int .i64 b, .int .i64 n]] w fun e w' => e = .returned (.int .i64 4) ∧ Below w.heap.size w w' := by
  by_cases h : op < 1
  · clear ho
    go_enter Tryd.func35, Tryd.ntmps35
    go_wp2
    all_goals go_ret
    all_goals exact ⟨rfl, (by repeat (first | exact Below.refl _ _ | assumption | refine Below.drew ?_ | refine Below.alloc ?_ (by first | (simp; done) | (simp; omega)) _ | refine Below.setCell ?_ (by first | (simp; done) | (simp; omega)) _))⟩
  · have h2 : 15 < op := by omega
    clear ho
    go_enter Tryd.func35, Tryd.ntmps35
    go_wp2
    all_goals go_ret
    all_goals exact ⟨rfl, (by repeat (first | exact Below.refl _ _ | assumption | refine Below.drew ?_ | refine Below.alloc ?_ (by first | (simp; done) | (simp; omega)) _ | refine Below.setCell ?_ (by first | (simp; done) | (simp; omega)) _))⟩

theorem chk_any (op a b n : Int) (w : World) (h : Shp w) : Calls Tryd.prog 35 #[.agg #[.int .i64 op, .int .i64 a, .int .i64 b, .int .i64 n]] w fun e w' => e = .returned (.int .i64 (chkI op a b n)) ∧ Below w.heap.size w w' := by
  by_cases ho : op < 1 ∨ 15 < op
  · unfold chkI; rw [if_pos ho]; exact chk_out op a b n w ho
  · obtain ⟨k, rfl⟩ := Int.eq_ofNat_of_zero_le (show 0 ≤ op by omega)
    unfold chkI; rw [if_neg ho, Int.toNat_natCast]
    exact chk_row k (by omega) (by omega) _ _ _ _ _ _ a b n w h.size (h.c0 k (by omega)) (h.c1 k (by omega)) (h.c2 k (by omega)) (h.c3 k (by omega)) (h.c4 k (by omega)) (h.c5 k (by omega))
