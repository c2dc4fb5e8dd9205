/- A part of the proofs over this seat's laws: what a function of the program, or of the reference, answers and leaves, told by its theorems below. -/
import Derived.Test.YtclnedeodmlfeaaDoorProg
import Derived.WalkKit
import Derived.Outline
import Derived.Shelf.Strings.Builder1
import Derived.Shelf.Strconv.Atoi
import Derived.Shelf.Strconv.Itoa0
import Derived.Shelf.Strconv.Itoa1
import Derived.Shelf.LaysM
import Derived.Shelf.Strconv.Itoa2
import Derived.Shelf.Strconv.Itoa3
import Derived.Shelf.Strconv.AtoiErrFast
import Derived.Shelf.Strconv.ParseIntEmpty
import Derived.Shelf.Strconv.AtoiFail
import Derived.Shelf.Strconv.Clone
import Derived.Shelf.Strconv.SyntaxError
import Derived.Shelf.LaysC
import Derived.Shelf.Strconv.ToError
import Derived.Shelf.Strconv.Lower
import Derived.Shelf.Strconv.ParseUint10
import Derived.Shelf.Strconv.ParseUint10Empty
import Derived.Shelf.Strconv.ParseUint10Any
import Derived.Shelf.Strconv.ParseInt10
import Derived.Shelf.Strconv.AtoiLong
import Derived.Shelf.Strconv.AtoiInnerAll
import Derived.Shelf.Strconv.RangeError
import Derived.Shelf.Strconv.ToErrorRange
import Derived.Shelf.Strconv.AtoiAll
import Derived.Shelf.Strconv.ErrVarAll
import Derived.Shelf.Strings.Search1
import Derived.Shelf.Strings.Search2
import Derived.Shelf.Strings.Cut
import Derived.Shelf.Strings.Shaped
import Derived.WalkSmall
import Derived.Lib.ItoaLen
import Derived.Deep.RegionWith
import Derived.Deep.DrawnRows
import Derived.Sort.Grow
import Derived.Lib.Hide
import Derived.Lib.IndexBytes
import Derived.Lib.IndexMore
import Derived.Lib.Bytealg
import Derived.Laws.Externs
namespace Go.Proofs.YtclnedeodmlfeaaDoor
set_option linter.unusedSimpArgs false
set_option linter.unusedVariables false
open Go.RowKit
theorem ret_bool {a b : Bool} (h : a = b) : Ending.returned (.bool a) = .returned (.bool b) := by rw [h]
theorem ret_int {k : IntKind} {a b : Int} (h : a = b) : Ending.returned (.int k a) = .returned (.int k b) := by rw [h]
def regB (a : Int) : Bool := decide (0 ≤ a) && decide (a < 4)
theorem isReg_any (a : Int) (w : World) : Calls Tryd.prog 34 #[.int .i64 a] w fun e w' => e = .returned (.bool (regB a)) ∧ w' = w := by
  by_cases h : 0 ≤ a
  all_goals
  go_enter Tryd.func34, Tryd.ntmps34
  go_wp2
  all_goals go_ret
  all_goals exact ⟨ret_bool (by simp [regB]; try omega), rfl⟩
def chkRow (ba bb bn : Bool) (lo hi a b n : Int) : Int :=
  if (ba && !regB a) || (bb && !regB b) || (bn && (decide (n < lo) || decide (hi < n))) then 3
  else if (!ba && a != 0) || (!bb && b != 0) || (!bn && n != 0) then 1 else 0
set_option maxHeartbeats 2000000 in
theorem chk_row (k : Nat) (hk1 : 1 ≤ k) (hk : k < 16) (ws : ByteArray) (ba bb bn : Bool) (lo hi a b n : Int) (w : World) (hz : 0 < w.heap.size)
   (c0 : w.cell? ⟨0, k * 6, none⟩ = some (.string ws)) (c1 : w.cell? ⟨0, k * 6 + 1, none⟩ = some (.bool ba))
   (c2 : w.cell? ⟨0, k * 6 + 2, none⟩ = some (.bool bb)) (c3 : w.cell? ⟨0, k * 6 + 3, none⟩ = some (.bool bn))
   (c4 : w.cell? ⟨0, k * 6 + 4, none⟩ = some (.int .i64 lo)) (c5 : w.cell? ⟨0, k * 6 + 5, none⟩ = some (.int .i64 hi)) : Calls Tryd.prog 13 #[.agg #[.int .i64 k, .int .i64 a, .int .i64 b, .int .i64 n]] w fun e w' => e = .returned (.int .i64 (chkRow ba bb bn lo hi a b n)) ∧ Below w.heap.size w w' := by
  have hk1' : ¬ ((k : Int) < 1) := by omega
  have hk2' : ¬ ((15 : Int) < k) := by omega
  go_enter Tryd.func13, Tryd.ntmps13
  go_wp2_with (go_at_call 34; refine (isReg_any _ _).mono ?_; rintro e w' ⟨rfl, rfl⟩)
  all_goals go_ret
  all_goals refine ⟨ret_int ?_, (by repeat (first | exact Below.refl _ _ | assumption | refine Below.drew ?_ | refine Below.alloc ?_ (by first | (simp; done) | (simp; omega)) _ | refine Below.setCell ?_ (by first | (simp; done) | (simp; omega)) _))⟩
  all_goals (simp_all [chkRow]; done)
end Go.Proofs.YtclnedeodmlfeaaDoor

namespace Go.Proofs.YtclnedeodmlfeaaDoor
set_option linter.unusedSimpArgs false
set_option linter.unusedVariables false
open Go.RowKit
def rowA (k : Nat) : Bool := [false, true, true, true, true, true, true, true, false, true, true, true, true, true, false, false].getD k false
def rowB (k : Nat) : Bool := [false, false, true, true, true, true, true, true, false, false, false, false, false, true, false, false].getD k false
def rowN (k : Nat) : Bool := [false, true, false, false, false, false, false, false, true, true, false, false, true, true, false, false].getD k false
def rowLo (k : Nat) : Int := if k = 1 then -9223372036854775808 else 0
def rowHi (k : Nat) : Int := if k = 1 then 9223372036854775807 else if k = 8 ∨ k = 9 then 19 else if k = 12 ∨ k = 13 then 5 else 0
def rowW (k : Nat) : List UInt8 := [[], [115, 101, 116], [99, 111, 112, 121], [97, 100, 100], [115, 117, 98], [108, 101, 115, 115], [108, 111, 97, 100], [115, 97, 118, 101], [106, 117, 109, 112], [122, 101, 114, 111], [105, 110], [111, 117, 116], [112, 117, 116], [103, 101, 116], [114, 101, 115, 116], [115, 116, 111, 112]].getD k []
structure Shp (w : World) : Prop where
  size : 0 < w.heap.size
  c0 : ∀ k, k < 16 → w.cell? ⟨0, k * 6, none⟩ = some (.string ⟨(rowW k).toArray⟩)
  c1 : ∀ k, k < 16 → w.cell? ⟨0, k * 6 + 1, none⟩ = some (.bool (rowA k))
  c2 : ∀ k, k < 16 → w.cell? ⟨0, k * 6 + 2, none⟩ = some (.bool (rowB k))
  c3 : ∀ k, k < 16 → w.cell? ⟨0, k * 6 + 3, none⟩ = some (.bool (rowN k))
  c4 : ∀ k, k < 16 → w.cell? ⟨0, k * 6 + 4, none⟩ = some (.int .i64 (rowLo k))
  c5 : ∀ k, k < 16 → w.cell? ⟨0, k * 6 + 5, none⟩ = some (.int .i64 (rowHi k))
theorem Shp.up {w w' : World} (h : Shp w) (hb : Below w.heap.size w w') : Shp w' :=
  ⟨Nat.lt_of_lt_of_le h.size hb.size, fun k hk => (hb.cell h.size).trans (h.c0 k hk), fun k hk => (hb.cell h.size).trans (h.c1 k hk), fun k hk => (hb.cell h.size).trans (h.c2 k hk),
    fun k hk => (hb.cell h.size).trans (h.c3 k hk), fun k hk => (hb.cell h.size).trans (h.c4 k hk), fun k hk => (hb.cell h.size).trans (h.c5 k hk)⟩
def chkI (op a b n : Int) : Int := if op < 1 ∨ 15 < op then 4 else chkRow (rowA op.toNat) (rowB op.toNat) (rowN op.toNat) (rowLo op.toNat) (rowHi op.toNat) a b n
theorem chk_out (op a b n : Int) (w : World) (ho : op < 1 ∨ 15 < op) : Calls Tryd.prog 13 #[.agg #[.int .i64 op, .int .i64 a, .int .i64 b, .int .i64 n]] w fun e w' => e = .returned (.int .i64 4) ∧ Below w.heap.size w w' := by
  by_cases h : op < 1
  · clear ho
    go_enter Tryd.func13, Tryd.ntmps13
    go_wp2
    all_goals go_ret
    all_goals exact ⟨rfl, (by repeat (first | exact Below.refl _ _ | assumption | refine Below.drew ?_ | refine Below.alloc ?_ (by first | (simp; done) | (simp; omega)) _ | refine Below.setCell ?_ (by first | (simp; done) | (simp; omega)) _))⟩
  · have h2 : 15 < op := by omega
    clear ho
    go_enter Tryd.func13, Tryd.ntmps13
    go_wp2
    all_goals go_ret
    all_goals exact ⟨rfl, (by repeat (first | exact Below.refl _ _ | assumption | refine Below.drew ?_ | refine Below.alloc ?_ (by first | (simp; done) | (simp; omega)) _ | refine Below.setCell ?_ (by first | (simp; done) | (simp; omega)) _))⟩
theorem chk_any (op a b n : Int) (w : World) (h : Shp w) : Calls Tryd.prog 13 #[.agg #[.int .i64 op, .int .i64 a, .int .i64 b, .int .i64 n]] w fun e w' => e = .returned (.int .i64 (chkI op a b n)) ∧ Below w.heap.size w w' := by
  by_cases ho : op < 1 ∨ 15 < op
  · unfold chkI; rw [if_pos ho]; exact chk_out op a b n w ho
  · obtain ⟨k, rfl⟩ := Int.eq_ofNat_of_zero_le (show 0 ≤ op by omega)
    unfold chkI; rw [if_neg ho, Int.toNat_natCast]
    exact chk_row k (by omega) (by omega) _ _ _ _ _ _ a b n w h.size (h.c0 k (by omega)) (h.c1 k (by omega)) (h.c2 k (by omega)) (h.c3 k (by omega)) (h.c4 k (by omega)) (h.c5 k (by omega))
end Go.Proofs.YtclnedeodmlfeaaDoor

namespace Go.Proofs
set_option linter.unusedSimpArgs false
set_option linter.unusedVariables false
open Go.Shelf
def Tryd.laysM171_ren : Go.Shelf.Ren := ⟨fun | 171 => 28 | 243 => 44 | 246 => 49 | 283 => 53 | 284 => 54 | 285 => 55 | 286 => 56 | 129 => 64 | 317 => 63 | 318 => 65 | 319 => 66 | 320 => 67 | 337 => 75 | 338 => 76 | n => n, fun | 3 => 3 | 9 => 9 | 2 => 2 | 4 => 4 | 171 => 89 | 0 => 0 | 53 => 90 | 37 => 70 | 5 => 5 | 173 => 93 | 212 => 100 | 51 => 101 | 20 => 20 | 213 => 102 | 46 => 98 | 232 => 119 | 233 => 120 | n => n, fun | 17 => 2 | 18 => 5 | 19 => 6 | n => n⟩
theorem Tryd.laysM171 : Go.Proofs.LaysM.n171 Tryd.prog Tryd.laysM171_ren := {
  mixed := by kernel_rfl
  f129 := Tryd.func64.trans (congrArg some (by kernel_rfl))
  f171 := Tryd.func28.trans (congrArg some (by kernel_rfl))
  f243 := Tryd.func44.trans (congrArg some (by kernel_rfl))
  f246 := Tryd.func49.trans (congrArg some (by kernel_rfl))
  f283 := Tryd.func53.trans (congrArg some (by kernel_rfl))
  f284 := Tryd.func54.trans (congrArg some (by kernel_rfl))
  f285 := Tryd.func55.trans (congrArg some (by kernel_rfl))
  f286 := Tryd.func56.trans (congrArg some (by kernel_rfl))
  f317 := Tryd.func63.trans (congrArg some (by kernel_rfl))
  f318 := Tryd.func65.trans (congrArg some (by kernel_rfl))
  f319 := Tryd.func66.trans (congrArg some (by kernel_rfl))
  f320 := Tryd.func67.trans (congrArg some (by kernel_rfl))
  f337 := Tryd.func75.trans (congrArg some (by kernel_rfl))
  f338 := Tryd.func76.trans (congrArg some (by kernel_rfl))
  t0 := Tryd.underlying0
  a0 := Tryd.isAgg0
  z0 := Tryd.sizeOf0
  v0 := Tryd.zeroValue0
  t2 := Tryd.underlying2
  a2 := Tryd.isAgg2
  z2 := Tryd.sizeOf2
  v2 := Tryd.zeroValue2
  t3 := Tryd.underlying3
  a3 := Tryd.isAgg3
  z3 := Tryd.sizeOf3
  v3 := Tryd.zeroValue3
  t4 := Tryd.underlying4
  a4 := Tryd.isAgg4
  z4 := Tryd.sizeOf4
  v4 := Tryd.zeroValue4
  t5 := Tryd.underlying5
  a5 := Tryd.isAgg5
  z5 := Tryd.sizeOf5
  v5 := Tryd.zeroValue5
  t9 := Tryd.underlying9
  a9 := Tryd.isAgg9
  z9 := Tryd.sizeOf9
  v9 := Tryd.zeroValue9
  t20 := Tryd.underlying20
  a20 := Tryd.isAgg20
  z20 := Tryd.sizeOf20
  v20 := Tryd.zeroValue20
  t37 := Tryd.underlying70
  a37 := Tryd.isAgg70
  z37 := Tryd.sizeOf70
  v37 := Tryd.zeroValue70
  t46 := Tryd.underlying98
  a46 := Tryd.isAgg98
  z46 := Tryd.sizeOf98
  v46 := Tryd.zeroValue98
  t51 := Tryd.underlying101
  a51 := Tryd.isAgg101
  z51 := Tryd.sizeOf101
  v51 := Tryd.zeroValue101
  t53 := Tryd.underlying90
  a53 := Tryd.isAgg90
  z53 := Tryd.sizeOf90
  v53 := Tryd.zeroValue90
  t171 := Tryd.underlying89
  a171 := Tryd.isAgg89
  z171 := Tryd.sizeOf89
  v171 := Tryd.zeroValue89
  t173 := Tryd.underlying93
  a173 := Tryd.isAgg93
  z173 := Tryd.sizeOf93
  v173 := Tryd.zeroValue93
  t212 := Tryd.underlying100
  a212 := Tryd.isAgg100
  z212 := Tryd.sizeOf100
  v212 := Tryd.zeroValue100
  t213 := Tryd.underlying102
  a213 := Tryd.isAgg102
  z213 := Tryd.sizeOf102
  t232 := Tryd.underlying119
  a232 := Tryd.isAgg119
  z232 := Tryd.sizeOf119
  v232 := Tryd.zeroValue119
  t233 := Tryd.underlying120
  a233 := Tryd.isAgg120
  z233 := Tryd.sizeOf120
  v233 := Tryd.zeroValue120
  g17 := by kernel_rfl
  g18 := by kernel_rfl
  g19 := by kernel_rfl
  i0 := by kernel_rfl
  i2 := by kernel_rfl
  i3 := by kernel_rfl
  i4 := by kernel_rfl
  i5 := by kernel_rfl
  i9 := by kernel_rfl
  i20 := by kernel_rfl
  i37 := by kernel_rfl
  i46 := by kernel_rfl
  i51 := by kernel_rfl
  i53 := by kernel_rfl
  i171 := by kernel_rfl
  i173 := by kernel_rfl
  i212 := by kernel_rfl
  i232 := by kernel_rfl
  i233 := by kernel_rfl
  m17 := by kernel_rfl
  m18 := by kernel_rfl
  m19 := by kernel_rfl }
open Go.RowKit Go.Sort Go.Lib in
theorem Tryd.strconv_Itoa (n : Int) (h0 : -9223372036854775808 ≤ n) (h1 : n ≤ 9223372036854775807) (w : World) (htab : Lib.TabIs Tryd.prog w "internal/strconv.uint64pow10" .u64 Lib.pow10Tab) :
    Calls Tryd.prog 28 #[.int .i64 n] w fun e w' => e = .returned (.string ⟨(Lib.itoa n).toArray⟩) ∧ ∃ k os, w' = grow (w.drewN k) os := Any.strconv_Itoa Tryd.laysM171 n h0 h1 w htab
def Tryd.laysC172_ren : Go.Shelf.Ren := ⟨fun | 172 => 50 | 244 => 57 | 245 => 58 | 247 => 68 | 279 => 69 | 280 => 70 | 281 => 71 | 282 => 72 | 287 => 77 | 316 => 78 | 171 => 28 | 205 => 79 | 321 => 80 | 322 => 81 | 243 => 44 | 246 => 49 | 283 => 53 | 284 => 54 | 285 => 55 | 286 => 56 | 129 => 64 | 317 => 63 | 318 => 65 | 319 => 66 | 320 => 67 | 337 => 75 | 338 => 76 | n => n, fun | 9 => 9 | 3 => 3 | 75 => 74 | 76 => 75 | 4 => 4 | 5 => 5 | 167 => 104 | 37 => 70 | 0 => 0 | 85 => 105 | 2 => 2 | 168 => 107 | 53 => 90 | 175 => 113 | 46 => 98 | 210 => 117 | 127 => 84 | 145 => 124 | 143 => 122 | 21 => 21 | 171 => 89 | 173 => 93 | 212 => 100 | 51 => 101 | 20 => 20 | 213 => 102 | 232 => 119 | 233 => 120 | 80 => 78 | n => n, fun | 15 => 3 | 16 => 4 | 17 => 2 | 18 => 5 | 19 => 6 | n => n⟩
theorem Tryd.laysC172 : Go.Proofs.LaysC.n172 Tryd.prog Tryd.laysC172_ren := {
  mixed := by kernel_rfl
  f129 := Tryd.func64.trans (congrArg some (by kernel_rfl))
  f171 := Tryd.func28.trans (congrArg some (by kernel_rfl))
  f172 := Tryd.func50.trans (congrArg some (by kernel_rfl))
  f205 := Tryd.func79.trans (congrArg some (by kernel_rfl))
  f243 := Tryd.func44.trans (congrArg some (by kernel_rfl))
  f244 := Tryd.func57.trans (congrArg some (by kernel_rfl))
  f245 := Tryd.func58.trans (congrArg some (by kernel_rfl))
  f246 := Tryd.func49.trans (congrArg some (by kernel_rfl))
  f247 := Tryd.func68.trans (congrArg some (by kernel_rfl))
  f279 := Tryd.func69.trans (congrArg some (by kernel_rfl))
  f280 := Tryd.func70.trans (congrArg some (by kernel_rfl))
  f281 := Tryd.func71.trans (congrArg some (by kernel_rfl))
  f282 := Tryd.func72.trans (congrArg some (by kernel_rfl))
  f283 := Tryd.func53.trans (congrArg some (by kernel_rfl))
  f284 := Tryd.func54.trans (congrArg some (by kernel_rfl))
  f285 := Tryd.func55.trans (congrArg some (by kernel_rfl))
  f286 := Tryd.func56.trans (congrArg some (by kernel_rfl))
  f287 := Tryd.func77.trans (congrArg some (by kernel_rfl))
  f316 := Tryd.func78.trans (congrArg some (by kernel_rfl))
  f317 := Tryd.func63.trans (congrArg some (by kernel_rfl))
  f318 := Tryd.func65.trans (congrArg some (by kernel_rfl))
  f319 := Tryd.func66.trans (congrArg some (by kernel_rfl))
  f320 := Tryd.func67.trans (congrArg some (by kernel_rfl))
  f321 := Tryd.func80.trans (congrArg some (by kernel_rfl))
  f322 := Tryd.func81.trans (congrArg some (by kernel_rfl))
  f337 := Tryd.func75.trans (congrArg some (by kernel_rfl))
  f338 := Tryd.func76.trans (congrArg some (by kernel_rfl))
  t0 := Tryd.underlying0
  a0 := Tryd.isAgg0
  z0 := Tryd.sizeOf0
  v0 := Tryd.zeroValue0
  t2 := Tryd.underlying2
  a2 := Tryd.isAgg2
  z2 := Tryd.sizeOf2
  v2 := Tryd.zeroValue2
  t3 := Tryd.underlying3
  a3 := Tryd.isAgg3
  z3 := Tryd.sizeOf3
  v3 := Tryd.zeroValue3
  t4 := Tryd.underlying4
  a4 := Tryd.isAgg4
  z4 := Tryd.sizeOf4
  v4 := Tryd.zeroValue4
  t5 := Tryd.underlying5
  a5 := Tryd.isAgg5
  z5 := Tryd.sizeOf5
  v5 := Tryd.zeroValue5
  t9 := Tryd.underlying9
  a9 := Tryd.isAgg9
  z9 := Tryd.sizeOf9
  v9 := Tryd.zeroValue9
  t20 := Tryd.underlying20
  a20 := Tryd.isAgg20
  z20 := Tryd.sizeOf20
  v20 := Tryd.zeroValue20
  t21 := Tryd.underlying21
  a21 := Tryd.isAgg21
  z21 := Tryd.sizeOf21
  v21 := Tryd.zeroValue21
  t37 := Tryd.underlying70
  a37 := Tryd.isAgg70
  z37 := Tryd.sizeOf70
  v37 := Tryd.zeroValue70
  t46 := Tryd.underlying98
  a46 := Tryd.isAgg98
  z46 := Tryd.sizeOf98
  v46 := Tryd.zeroValue98
  t51 := Tryd.underlying101
  a51 := Tryd.isAgg101
  z51 := Tryd.sizeOf101
  v51 := Tryd.zeroValue101
  t53 := Tryd.underlying90
  a53 := Tryd.isAgg90
  z53 := Tryd.sizeOf90
  v53 := Tryd.zeroValue90
  t75 := Tryd.underlying74
  a75 := Tryd.isAgg74
  z75 := Tryd.sizeOf74
  v75 := Tryd.zeroValue74
  t76 := Tryd.underlying75
  a76 := Tryd.isAgg75
  z76 := Tryd.sizeOf75
  v76 := Tryd.zeroValue75
  t85 := Tryd.underlying105
  a85 := Tryd.isAgg105
  z85 := Tryd.sizeOf105
  v85 := Tryd.zeroValue105
  t127 := Tryd.underlying84
  a127 := Tryd.isAgg84
  z127 := Tryd.sizeOf84
  v127 := Tryd.zeroValue84
  t143 := Tryd.underlying122
  a143 := Tryd.isAgg122
  z143 := Tryd.sizeOf122
  v143 := Tryd.zeroValue122
  t145 := Tryd.underlying124
  a145 := Tryd.isAgg124
  z145 := Tryd.sizeOf124
  v145 := Tryd.zeroValue124
  t167 := Tryd.underlying104
  a167 := Tryd.isAgg104
  z167 := Tryd.sizeOf104
  v167 := Tryd.zeroValue104
  t168 := Tryd.underlying107
  a168 := Tryd.isAgg107
  z168 := Tryd.sizeOf107
  v168 := Tryd.zeroValue107
  t171 := Tryd.underlying89
  a171 := Tryd.isAgg89
  z171 := Tryd.sizeOf89
  v171 := Tryd.zeroValue89
  t173 := Tryd.underlying93
  a173 := Tryd.isAgg93
  z173 := Tryd.sizeOf93
  v173 := Tryd.zeroValue93
  t175 := Tryd.underlying113
  a175 := Tryd.isAgg113
  z175 := Tryd.sizeOf113
  v175 := Tryd.zeroValue113
  t210 := Tryd.underlying117
  a210 := Tryd.isAgg117
  z210 := Tryd.sizeOf117
  v210 := Tryd.zeroValue117
  t212 := Tryd.underlying100
  a212 := Tryd.isAgg100
  z212 := Tryd.sizeOf100
  v212 := Tryd.zeroValue100
  t213 := Tryd.underlying102
  a213 := Tryd.isAgg102
  z213 := Tryd.sizeOf102
  t232 := Tryd.underlying119
  a232 := Tryd.isAgg119
  z232 := Tryd.sizeOf119
  v232 := Tryd.zeroValue119
  t233 := Tryd.underlying120
  a233 := Tryd.isAgg120
  z233 := Tryd.sizeOf120
  v233 := Tryd.zeroValue120
  g15 := by kernel_rfl
  g16 := by kernel_rfl
  g17 := by kernel_rfl
  g18 := by kernel_rfl
  g19 := by kernel_rfl
  t80 := Tryd.underlying78
  a80 := Tryd.isAgg78
  z80 := Tryd.sizeOf78
  v80 := Tryd.zeroValue78
  i0 := by kernel_rfl
  i2 := by kernel_rfl
  i3 := by kernel_rfl
  i4 := by kernel_rfl
  i5 := by kernel_rfl
  i9 := by kernel_rfl
  i20 := by kernel_rfl
  i21 := by kernel_rfl
  i37 := by kernel_rfl
  i46 := by kernel_rfl
  i51 := by kernel_rfl
  i53 := by kernel_rfl
  i75 := by kernel_rfl
  i76 := by kernel_rfl
  i80 := by kernel_rfl
  i85 := by kernel_rfl
  i127 := by kernel_rfl
  i143 := by kernel_rfl
  i145 := by kernel_rfl
  i167 := by kernel_rfl
  i168 := by kernel_rfl
  i171 := by kernel_rfl
  i173 := by kernel_rfl
  i175 := by kernel_rfl
  i210 := by kernel_rfl
  i212 := by kernel_rfl
  i232 := by kernel_rfl
  i233 := by kernel_rfl
  m15 := by kernel_rfl
  m16 := by kernel_rfl
  m17 := by kernel_rfl
  m18 := by kernel_rfl
  m19 := by kernel_rfl
  c0 := by kernel_rfl
  c2 := by kernel_rfl
  c3 := by kernel_rfl
  c4 := by kernel_rfl
  c5 := by kernel_rfl
  c9 := by kernel_rfl
  c20 := by kernel_rfl
  c21 := by kernel_rfl
  c37 := by kernel_rfl
  c46 := by kernel_rfl
  c51 := by kernel_rfl
  c53 := by kernel_rfl
  c75 := by kernel_rfl
  c76 := by kernel_rfl
  c80 := by kernel_rfl
  c85 := by kernel_rfl
  c127 := by kernel_rfl
  c143 := by kernel_rfl
  c145 := by kernel_rfl
  c167 := by kernel_rfl
  c168 := by kernel_rfl
  c171 := by kernel_rfl
  c173 := by kernel_rfl
  c175 := by kernel_rfl
  c210 := by kernel_rfl
  c212 := by kernel_rfl
  c213 := by kernel_rfl
  c232 := by kernel_rfl
  c233 := by kernel_rfl }
end Go.Proofs

namespace Go.Proofs.YtclnedeodmlfeaaDoor
set_option linter.unusedSimpArgs false
set_option linter.unusedVariables false
open Go.RowKit Go.Sort
structure Env (w : World) : Prop where
  shp : Shp w
  tab : Lib.TabIs Tryd.prog w "internal/strconv.uint64pow10" .u64 Lib.pow10Tab
  syn : ∃ tp p, w.cell? ⟨3, 0, none⟩ = some (.iface tp p)
  rng : ∃ tp p, w.cell? ⟨4, 0, none⟩ = some (.iface tp p)
  max : ∃ m, w.cell? ⟨1, 0, none⟩ = some (.int .i64 m)
  size : 7 ≤ w.heap.size
theorem gPow : Tryd.prog.globalNamed "internal/strconv.uint64pow10" = some 2 := by kernel_rfl
theorem Env.up {w w' : World} (h : Env w) (hb : Below w.heap.size w w') : Env w' := by
  have hz := h.size
  obtain ⟨tp, p, e1⟩ := h.syn
  obtain ⟨tq, q, e2⟩ := h.rng
  obtain ⟨m, e3⟩ := h.max
  exact ⟨h.shp.up hb, var?_below hb gPow (by omega) h.tab, ⟨tp, p, (hb.cell (p := ⟨3, 0, none⟩) (by simp; omega)).trans e1⟩, ⟨tq, q, (hb.cell (p := ⟨4, 0, none⟩) (by simp; omega)).trans e2⟩,
    ⟨m, (hb.cell (p := ⟨1, 0, none⟩) (by simp; omega)).trans e3⟩, Nat.le_trans hz hb.size⟩
def in64 (n : Int) : Prop := -9223372036854775808 ≤ n ∧ n ≤ 9223372036854775807
theorem below_grow (w : World) (k : Nat) (os : Array Obj) : Below w.heap.size w (grow (w.drewN k) os) := by
  refine (below_drewN (Below.refl _ w) k).trans ⟨rfl, rfl, rfl, ?_, fun i hi => ?_⟩
  · simp [grow]
  · simp only [grow]
    exact Array.getElem?_append_left hi
theorem itoa_any (n : Int) (h : in64 n) (w : World) (he : Env w) : Calls Tryd.prog 28 #[.int .i64 n] w fun e w' => e = .returned (.string ⟨(Lib.itoa n).toArray⟩) ∧ Below w.heap.size w w' := by
  refine (Tryd.strconv_Itoa n h.1 h.2 w he.tab).mono ?_
  rintro e w' ⟨rfl, k, os, rfl⟩
  exact ⟨rfl, below_grow w k os⟩
def numOf (l : List UInt8) : Int := match Lib.atoiAll l with
  | .ok v => v
  | _ => 0
theorem atoi_any (s : ByteArray) (w : World) (he : Env w) (hs : s.size < 281474976710657) : Calls Tryd.prog 50 #[.string s] w fun e w' =>
    ((∃ v, Lib.atoiAll s.data.toList = .ok v ∧ e = .returned (.tuple #[.int .i64 v, .nilIface])) ∨
     (numOf s.data.toList = 0 ∧ ∃ z p, e = .returned (.tuple #[.int .i64 z, .iface 107 p]))) ∧ Below w.heap.size w w' := by
  obtain ⟨t1, p1, e1⟩ := he.syn
  obtain ⟨t2, p2, e2⟩ := he.rng
  cases h : Lib.atoiAll s.data.toList with
  | ok v =>
    refine (Any.strconv_Atoi_ok Tryd.laysC172 s (by omega) v h w).mono ?_
    rintro e w' ⟨rfl, hw⟩
    refine ⟨Or.inl ⟨v, rfl, rfl⟩, ?_⟩
    rcases hw with rfl | ⟨t, rfl⟩
    · exact Below.refl _ _
    · exact Lib.bytesWorld_below _ _ _
  | _ =>
    first
    | (refine (Any.strconv_Atoi_syntax Tryd.laysC172 s (by omega) h _ w e1 (Or.inr ⟨t1, p1, rfl⟩)).mono ?_
       rintro e w' ⟨N, rfl, _, _, hb⟩
       exact ⟨Or.inr ⟨by simp [numOf, h], _, _, rfl⟩, hb⟩)
    | (refine (Any.strconv_Atoi_range Tryd.laysC172 s (by omega) h _ w e2 (Or.inr ⟨t2, p2, rfl⟩)).mono ?_
       rintro e w' ⟨N, rfl, _, _, hb⟩
       exact ⟨Or.inr ⟨by simp [numOf, h], _, _, rfl⟩, hb⟩)
end Go.Proofs.YtclnedeodmlfeaaDoor

namespace Go.Proofs.YtclnedeodmlfeaaDoor
set_option linter.unusedSimpArgs false
set_option linter.unusedVariables false
open Go.RowKit Go.Sort
def txt (k : Nat) (a b n : Int) : List UInt8 :=
  ((rowW k ++ (if rowA k then 32 :: Lib.itoa a else [])) ++ (if rowB k then 32 :: Lib.itoa b else [])) ++ (if rowN k then 32 :: Lib.itoa n else [])
theorem ba_app (l m : List UInt8) : (⟨l.toArray⟩ : ByteArray) ++ ⟨m.toArray⟩ = ⟨(l ++ m).toArray⟩ := by
  apply ByteArray.ext; simp
theorem ba_app1 (c : UInt8) (m : List UInt8) : (⟨#[c]⟩ : ByteArray) ++ ⟨m.toArray⟩ = ⟨(c :: m).toArray⟩ := by
  apply ByteArray.ext; simp
theorem rowW_le (k : Nat) (h : k < 16) : (rowW k).length ≤ 4 := by
  have : ∀ k, k < 16 → (rowW k).length ≤ 4 := by decide
  exact this k h
theorem show_no (op a b n : Int) (w : World) (he : Env w) (hc : chkI op a b n ≠ 0) : Calls Tryd.prog 9 #[.agg #[.int .i64 op, .int .i64 a, .int .i64 b, .int .i64 n]] w fun e w' => e = .returned (.tuple #[.string ⟨#[]⟩, .int .i64 (chkI op a b n)]) ∧ Below w.heap.size w w' := by
  have hc' : (chkI op a b n != 0) = true := by simpa using hc
  clear hc
  go_enter Tryd.func9, Tryd.ntmps9
  go_wp2_with (go_at_call 13; refine (chk_any _ _ _ _ _ ?_).mono ?_; (exact he.shp.up (by repeat (first | exact Below.refl _ _ | assumption | refine Below.drew ?_ | refine Below.alloc ?_ (by first | (simp; done) | (simp; omega)) _ | refine Below.setCell ?_ (by first | (simp; done) | (simp; omega)) _))); rintro e w1 ⟨rfl, hb1⟩)
  go_ret2
  exact ⟨rfl, ((Below.refl _ _).alloc (Nat.le_refl _) _).trans (hb1.mono (by simp))⟩
set_option maxHeartbeats 2000000 in
theorem show_yes (k : Nat) (hk1 : 1 ≤ k) (hk : k < 16) (a b n : Int) (ha : in64 a) (hb : in64 b) (hn : in64 n) (w : World) (he : Env w) (hc : chkI k a b n = 0) : Calls Tryd.prog 9 #[.agg #[.int .i64 k, .int .i64 a, .int .i64 b, .int .i64 n]] w fun e w' => e = .returned (.tuple #[.string ⟨(txt k a b n).toArray⟩, .int .i64 0]) ∧ Below w.heap.size w w' := by
  go_enter Tryd.func9, Tryd.ntmps9
  go_wp2_with (go_at_call 13; refine (chk_any _ _ _ _ _ ?_).mono ?_; (exact he.shp.up (by repeat (first | exact Below.refl _ _ | assumption | refine Below.drew ?_ | refine Below.alloc ?_ (by first | (simp; done) | (simp; omega)) _ | refine Below.setCell ?_ (by first | (simp; done) | (simp; omega)) _))); rintro e w1 ⟨rfl, hb1⟩; refine Hid.out ?_)
  have he1 : Env w1 := (he.up ((Below.refl _ _).alloc (Nat.le_refl _) _)).up hb1
  have p1 : w1.cell? ⟨w.heap.size, 1, none⟩ = some (.int .i64 a) := (hb1.cell (by simp)).trans (by simp)
  have p2 : w1.cell? ⟨w.heap.size, 2, none⟩ = some (.int .i64 b) := (hb1.cell (by simp)).trans (by simp)
  have p3 : w1.cell? ⟨w.heap.size, 3, none⟩ = some (.int .i64 n) := (hb1.cell (by simp)).trans (by simp)
  have p0 : w1.cell? ⟨w.heap.size, 0, none⟩ = some (.int .i64 k) := (hb1.cell (by simp)).trans (by simp)
  have hz1 : w.heap.size < w1.heap.size := by have := hb1.size; simp at this; omega
  have hz0 := he1.shp.size
  have q0 := he1.shp.c0 k hk
  have q1 := he1.shp.c1 k hk
  have q2 := he1.shp.c2 k hk
  have q3 := he1.shp.c3 k hk
  have q4 := he1.shp.c4 k hk
  have q5 := he1.shp.c5 k hk
  have hlw : (rowW k).length ≤ 4 := rowW_le k hk
  have hla := Lib.itoa_length_le a ha.1 ha.2
  have hlb := Lib.itoa_length_le b hb.1 hb.2
  have hln := Lib.itoa_length_le n hn.1 hn.2
  have hup1 : Below w.heap.size w w1 := ((Below.refl _ _).alloc (Nat.le_refl _) _).trans (hb1.mono (by simp))
  clear hb1 hc
  refine Lib.hid ?_
  go_wp2_with (go_at_call 28; refine (itoa_any _ ?_ _ ?_).mono ?_; (first | exact ha | exact hb | exact hn); (first | exact he1.up (Below.alloc (Below.refl _ _) (Nat.le_refl _) _) | exact he2); rintro e w2 ⟨rfl, hb2⟩; refine Hid.out ?_)
  all_goals try (go_ret2; refine ⟨?_, by first | exact hup2 | exact hup1.alloc (Nat.le_of_lt hz1) _⟩; (simp [txt, ba_app, ba_app1, *]; done))
  all_goals
    have hz2 : w1.heap.size < w2.heap.size := by have := hb2.size; (first | omega | (simp at this; omega))
    have hup2 : Below w.heap.size w w2 := by first | (refine hup2.trans (hb2.mono ?_); omega) | (refine (hup1.alloc (Nat.le_of_lt hz1) _).trans (hb2.mono ?_); simp; omega)
    have r2 : w2.cell? ⟨w.heap.size, 2, none⟩ = some (.int .i64 b) := by rw [hb2.cell (p := ⟨w.heap.size, 2, none⟩) (by first | (show w.heap.size < _; omega) | (simp; done) | (simp; omega))]; first | assumption | (simp [World.cell?_alloc_past, *]; done)
    have r3 : w2.cell? ⟨w.heap.size, 3, none⟩ = some (.int .i64 n) := by rw [hb2.cell (p := ⟨w.heap.size, 3, none⟩) (by first | (show w.heap.size < _; omega) | (simp; done) | (simp; omega))]; first | assumption | (simp [World.cell?_alloc_past, *]; done)
    have t2 : w2.cell? ⟨w1.heap.size, 2, none⟩ = some (.bool (rowB k)) := by rw [hb2.cell (p := ⟨w1.heap.size, 2, none⟩) (by first | (show w1.heap.size < _; omega) | (simp; done) | (simp; omega))]; first | assumption | (simp [World.cell?_alloc_past, *]; done)
    have t3 : w2.cell? ⟨w1.heap.size, 3, none⟩ = some (.bool (rowN k)) := by rw [hb2.cell (p := ⟨w1.heap.size, 3, none⟩) (by first | (show w1.heap.size < _; omega) | (simp; done) | (simp; omega))]; first | assumption | (simp [World.cell?_alloc_past, *]; done)
    have he2 : Env w2 := he.up hup2
    refine Lib.hid ?_
    go_wp2_with (go_at_call 28; refine (itoa_any _ ?_ _ ?_).mono ?_; (first | exact ha | exact hb | exact hn); (first | exact he1.up (Below.alloc (Below.refl _ _) (Nat.le_refl _) _) | exact he2); rintro e w2 ⟨rfl, hb2⟩; refine Hid.out ?_)
  all_goals try (go_ret2; refine ⟨?_, by first | exact hup2 | exact hup1.alloc (Nat.le_of_lt hz1) _⟩; (simp [txt, ba_app, ba_app1, *]; done))
  all_goals
    have hz2 : w1.heap.size < w2.heap.size := by have := hb2.size; (first | omega | (simp at this; omega))
    have hup2 : Below w.heap.size w w2 := by first | (refine hup2.trans (hb2.mono ?_); omega) | (refine (hup1.alloc (Nat.le_of_lt hz1) _).trans (hb2.mono ?_); simp; omega)
    have r2 : w2.cell? ⟨w.heap.size, 2, none⟩ = some (.int .i64 b) := by rw [hb2.cell (p := ⟨w.heap.size, 2, none⟩) (by first | (show w.heap.size < _; omega) | (simp; done) | (simp; omega))]; first | assumption | (simp [World.cell?_alloc_past, *]; done)
    have r3 : w2.cell? ⟨w.heap.size, 3, none⟩ = some (.int .i64 n) := by rw [hb2.cell (p := ⟨w.heap.size, 3, none⟩) (by first | (show w.heap.size < _; omega) | (simp; done) | (simp; omega))]; first | assumption | (simp [World.cell?_alloc_past, *]; done)
    have t2 : w2.cell? ⟨w1.heap.size, 2, none⟩ = some (.bool (rowB k)) := by rw [hb2.cell (p := ⟨w1.heap.size, 2, none⟩) (by first | (show w1.heap.size < _; omega) | (simp; done) | (simp; omega))]; first | assumption | (simp [World.cell?_alloc_past, *]; done)
    have t3 : w2.cell? ⟨w1.heap.size, 3, none⟩ = some (.bool (rowN k)) := by rw [hb2.cell (p := ⟨w1.heap.size, 3, none⟩) (by first | (show w1.heap.size < _; omega) | (simp; done) | (simp; omega))]; first | assumption | (simp [World.cell?_alloc_past, *]; done)
    have he2 : Env w2 := he.up hup2
    refine Lib.hid ?_
    go_wp2_with (go_at_call 28; refine (itoa_any _ ?_ _ ?_).mono ?_; (first | exact ha | exact hb | exact hn); (first | exact he1.up (Below.alloc (Below.refl _ _) (Nat.le_refl _) _) | exact he2); rintro e w2 ⟨rfl, hb2⟩; refine Hid.out ?_)
  all_goals try (go_ret2; refine ⟨?_, by first | exact hup2 | exact hup1.alloc (Nat.le_of_lt hz1) _⟩; (simp [txt, ba_app, ba_app1, *]; done))
  all_goals
    have hz2 : w1.heap.size < w2.heap.size := by have := hb2.size; (first | omega | (simp at this; omega))
    have hup2 : Below w.heap.size w w2 := by first | (refine hup2.trans (hb2.mono ?_); omega) | (refine (hup1.alloc (Nat.le_of_lt hz1) _).trans (hb2.mono ?_); simp; omega)
    have r2 : w2.cell? ⟨w.heap.size, 2, none⟩ = some (.int .i64 b) := by rw [hb2.cell (p := ⟨w.heap.size, 2, none⟩) (by first | (show w.heap.size < _; omega) | (simp; done) | (simp; omega))]; first | assumption | (simp [World.cell?_alloc_past, *]; done)
    have r3 : w2.cell? ⟨w.heap.size, 3, none⟩ = some (.int .i64 n) := by rw [hb2.cell (p := ⟨w.heap.size, 3, none⟩) (by first | (show w.heap.size < _; omega) | (simp; done) | (simp; omega))]; first | assumption | (simp [World.cell?_alloc_past, *]; done)
    have t2 : w2.cell? ⟨w1.heap.size, 2, none⟩ = some (.bool (rowB k)) := by rw [hb2.cell (p := ⟨w1.heap.size, 2, none⟩) (by first | (show w1.heap.size < _; omega) | (simp; done) | (simp; omega))]; first | assumption | (simp [World.cell?_alloc_past, *]; done)
    have t3 : w2.cell? ⟨w1.heap.size, 3, none⟩ = some (.bool (rowN k)) := by rw [hb2.cell (p := ⟨w1.heap.size, 3, none⟩) (by first | (show w1.heap.size < _; omega) | (simp; done) | (simp; omega))]; first | assumption | (simp [World.cell?_alloc_past, *]; done)
    have he2 : Env w2 := he.up hup2
    refine Lib.hid ?_
    go_wp2_with (go_at_call 28; refine (itoa_any _ ?_ _ ?_).mono ?_; (first | exact ha | exact hb | exact hn); (first | exact he1.up (Below.alloc (Below.refl _ _) (Nat.le_refl _) _) | exact he2); rintro e w2 ⟨rfl, hb2⟩; refine Hid.out ?_)
  all_goals (go_ret2; refine ⟨?_, hup2⟩; simp [txt, ba_app, ba_app1, *])
def Right (op a b n : Int) : Prop := chkI op a b n = 0
theorem show_any (op a b n : Int) (ha : in64 a) (hb : in64 b) (hn : in64 n) (w : World) (he : Env w) : Calls Tryd.prog 9 #[.agg #[.int .i64 op, .int .i64 a, .int .i64 b, .int .i64 n]] w fun e w' =>
    e = .returned (.tuple #[.string ⟨(if chkI op a b n = 0 then txt op.toNat a b n else []).toArray⟩, .int .i64 (chkI op a b n)]) ∧ Below w.heap.size w w' := by
  by_cases hc : chkI op a b n = 0
  · have ho : ¬ (op < 1 ∨ 15 < op) := fun h => by unfold chkI at hc; rw [if_pos h] at hc; omega
    obtain ⟨k, rfl⟩ := Int.eq_ofNat_of_zero_le (show 0 ≤ op by omega)
    rw [if_pos hc, hc, Int.toNat_natCast]
    exact show_yes k (by omega) (by omega) a b n ha hb hn w he hc
  · rw [if_neg hc]
    exact show_no op a b n w he hc
end Go.Proofs.YtclnedeodmlfeaaDoor

namespace Go.Proofs.YtclnedeodmlfeaaDoor
set_option linter.unusedSimpArgs false
set_option linter.unusedVariables false
open Go.RowKit Go.Sort
def withinB (n lo hi : Int) : Bool := decide (lo ≤ n) && decide (n ≤ hi)
theorem within_any (n lo hi : Int) (w : World) : Calls Tryd.prog 29 #[.int .i64 n, .int .i64 lo, .int .i64 hi] w fun e w' => e = .returned (.bool (withinB n lo hi)) ∧ w' = w := by
  by_cases h : lo ≤ n
  all_goals
  go_enter Tryd.func29, Tryd.ntmps29
  go_wp2
  all_goals go_ret
  all_goals exact ⟨ret_bool (by simp [withinB]; try omega), rfl⟩
theorem regB_eq (a : Int) : withinB a 0 3 = regB a := by
  unfold withinB regB; congr 1; simp; omega
theorem register_any (a : Int) (w : World) : Calls Tryd.prog 31 #[.int .i64 a] w fun e w' => e = .returned (.bool (regB a)) ∧ w' = w := by
  go_enter Tryd.func31, Tryd.ntmps31
  go_wp2_with (go_at_call 29; refine (within_any _ _ _ _).mono ?_; rintro e w' ⟨rfl, rfl⟩)
  go_ret
  exact ⟨ret_bool (regB_eq a), rfl⟩
theorem has_none (op : Int) (ho : op < 1 ∨ 15 < op) (w : World) : Calls Tryd.prog 30 #[.int .i64 op] w fun e w' => e = .returned (.tuple #[.bool false, .bool false, .bool false]) ∧ w' = w := by
  have h1 : (op == 1) = false := by simp; omega
  have h2 : (op == 2) = false := by simp; omega
  have h3 : (op == 3) = false := by simp; omega
  have h4 : (op == 4) = false := by simp; omega
  have h5 : (op == 5) = false := by simp; omega
  have h6 : (op == 6) = false := by simp; omega
  have h7 : (op == 7) = false := by simp; omega
  have h8 : (op == 8) = false := by simp; omega
  have h9 : (op == 9) = false := by simp; omega
  have h10 : (op == 10) = false := by simp; omega
  have h11 : (op == 11) = false := by simp; omega
  have h12 : (op == 12) = false := by simp; omega
  have h13 : (op == 13) = false := by simp; omega
  clear ho
  go_enter Tryd.func30, Tryd.ntmps30
  go_wp2
  all_goals go_ret3
  all_goals exact ⟨rfl, rfl⟩
theorem has_any (op : Int) (w : World) : Calls Tryd.prog 30 #[.int .i64 op] w fun e w' => e = .returned (.tuple #[.bool (rowA op.toNat), .bool (rowB op.toNat), .bool (rowN op.toNat)]) ∧ w' = w := by
  by_cases ho : op < 1 ∨ 15 < op
  · have e1 : rowA op.toNat = false := by
      rcases ho with h | h
      · rw [show op.toNat = 0 by omega]; rfl
      · unfold rowA; rw [List.getD_eq_getElem?_getD, List.getElem?_eq_none (by simp; omega)]; rfl
    have e2 : rowB op.toNat = false := by
      rcases ho with h | h
      · rw [show op.toNat = 0 by omega]; rfl
      · unfold rowB; rw [List.getD_eq_getElem?_getD, List.getElem?_eq_none (by simp; omega)]; rfl
    have e3 : rowN op.toNat = false := by
      rcases ho with h | h
      · rw [show op.toNat = 0 by omega]; rfl
      · unfold rowN; rw [List.getD_eq_getElem?_getD, List.getElem?_eq_none (by simp; omega)]; rfl
    rw [e1, e2, e3]
    exact has_none op ho w
  · have h : op = 1 ∨ op = 2 ∨ op = 3 ∨ op = 4 ∨ op = 5 ∨ op = 6 ∨ op = 7 ∨ op = 8 ∨ op = 9 ∨ op = 10 ∨ op = 11 ∨ op = 12 ∨ op = 13 ∨ op = 14 ∨ op = 15 := by omega
    clear ho
    rcases h with rfl | rfl | rfl | rfl | rfl | rfl | rfl | rfl | rfl | rfl | rfl | rfl | rfl | rfl | rfl
    all_goals
      go_enter Tryd.func30, Tryd.ntmps30
      go_wp2
      go_ret3
      exact ⟨rfl, rfl⟩
theorem chkRef_other (k : Nat) (hk1 : 1 ≤ k) (hk : k < 16) (ba bb bn : Bool) (eA : rowA k = ba) (eB : rowB k = bb) (eN : rowN k = bn) (a b n : Int) (w : World)
    (h8 : ((k : Int) == 8) = false) (h9 : ((k : Int) == 9) = false) (h12 : ((k : Int) == 12) = false) (h13 : ((k : Int) == 13) = false) (lo hi : Int) (hl : lo ≤ n) (hh : n ≤ hi) :
    Calls Tryd.prog 10 #[.agg #[.int .i64 k, .int .i64 a, .int .i64 b, .int .i64 n]] w fun e w' => e = .returned (.int .i64 (chkRow ba bb bn lo hi a b n)) ∧ Below w.heap.size w w' := by
  have hw : withinB k 1 15 = true := by unfold withinB; simp; omega
  go_enter Tryd.func10, Tryd.ntmps10
  go_wp2_with (first | (go_at_call 29; refine (within_any _ _ _ _).mono ?_; rintro e w' ⟨rfl, rfl⟩) | (go_at_call 31; refine (register_any _ _).mono ?_; rintro e w' ⟨rfl, rfl⟩) | (go_at_call 30; refine (has_any _ _).mono ?_; rw [Int.toNat_natCast, eA, eB, eN]; rintro e w' ⟨rfl, rfl⟩))
  all_goals go_ret
  all_goals refine ⟨ret_int ?_, (by repeat (first | exact Below.refl _ _ | assumption | refine Below.drew ?_ | refine Below.alloc ?_ (by first | (simp; done) | (simp; omega)) _ | refine Below.setCell ?_ (by first | (simp; done) | (simp; omega)) _))⟩
  all_goals clear h8 h9 h12 h13 hw eA eB eN
  all_goals (have q1 : decide (n < lo) = false := by simp; omega
             have q2 : decide (hi < n) = false := by simp; omega
             simp_all [chkRow])
theorem chkRef_8 (a b n : Int) (w : World) :
    Calls Tryd.prog 10 #[.agg #[.int .i64 8, .int .i64 a, .int .i64 b, .int .i64 n]] w fun e w' => e = .returned (.int .i64 (chkRow false false true 0 19 a b n)) ∧ Below w.heap.size w w' := by
  have hw : withinB 8 1 15 = true := by decide
  go_enter Tryd.func10, Tryd.ntmps10
  go_wp2_with (first | (go_at_call 29; refine (within_any _ _ _ _).mono ?_; rintro e w' ⟨rfl, rfl⟩) | (go_at_call 31; refine (register_any _ _).mono ?_; rintro e w' ⟨rfl, rfl⟩) | (go_at_call 30; refine (has_any _ _).mono ?_; rw [show rowA (Int.toNat 8) = false from rfl, show rowB (Int.toNat 8) = false from rfl, show rowN (Int.toNat 8) = true from rfl]; rintro e w' ⟨rfl, rfl⟩))
  all_goals go_ret
  all_goals refine ⟨ret_int ?_, (by repeat (first | exact Below.refl _ _ | assumption | refine Below.drew ?_ | refine Below.alloc ?_ (by first | (simp; done) | (simp; omega)) _ | refine Below.setCell ?_ (by first | (simp; done) | (simp; omega)) _))⟩
  all_goals clear hw
  all_goals (simp_all [chkRow, withinB]; try omega)
theorem chkRef_9 (a b n : Int) (w : World) :
    Calls Tryd.prog 10 #[.agg #[.int .i64 9, .int .i64 a, .int .i64 b, .int .i64 n]] w fun e w' => e = .returned (.int .i64 (chkRow true false true 0 19 a b n)) ∧ Below w.heap.size w w' := by
  have hw : withinB 9 1 15 = true := by decide
  go_enter Tryd.func10, Tryd.ntmps10
  go_wp2_with (first | (go_at_call 29; refine (within_any _ _ _ _).mono ?_; rintro e w' ⟨rfl, rfl⟩) | (go_at_call 31; refine (register_any _ _).mono ?_; rintro e w' ⟨rfl, rfl⟩) | (go_at_call 30; refine (has_any _ _).mono ?_; rw [show rowA (Int.toNat 9) = true from rfl, show rowB (Int.toNat 9) = false from rfl, show rowN (Int.toNat 9) = true from rfl]; rintro e w' ⟨rfl, rfl⟩))
  all_goals go_ret
  all_goals refine ⟨ret_int ?_, (by repeat (first | exact Below.refl _ _ | assumption | refine Below.drew ?_ | refine Below.alloc ?_ (by first | (simp; done) | (simp; omega)) _ | refine Below.setCell ?_ (by first | (simp; done) | (simp; omega)) _))⟩
  all_goals clear hw
  all_goals (simp_all [chkRow, withinB]; try omega)
theorem chkRef_12 (a b n : Int) (w : World) :
    Calls Tryd.prog 10 #[.agg #[.int .i64 12, .int .i64 a, .int .i64 b, .int .i64 n]] w fun e w' => e = .returned (.int .i64 (chkRow true false true 0 5 a b n)) ∧ Below w.heap.size w w' := by
  have hw : withinB 12 1 15 = true := by decide
  go_enter Tryd.func10, Tryd.ntmps10
  go_wp2_with (first | (go_at_call 29; refine (within_any _ _ _ _).mono ?_; rintro e w' ⟨rfl, rfl⟩) | (go_at_call 31; refine (register_any _ _).mono ?_; rintro e w' ⟨rfl, rfl⟩) | (go_at_call 30; refine (has_any _ _).mono ?_; rw [show rowA (Int.toNat 12) = true from rfl, show rowB (Int.toNat 12) = false from rfl, show rowN (Int.toNat 12) = true from rfl]; rintro e w' ⟨rfl, rfl⟩))
  all_goals go_ret
  all_goals refine ⟨ret_int ?_, (by repeat (first | exact Below.refl _ _ | assumption | refine Below.drew ?_ | refine Below.alloc ?_ (by first | (simp; done) | (simp; omega)) _ | refine Below.setCell ?_ (by first | (simp; done) | (simp; omega)) _))⟩
  all_goals clear hw
  all_goals (simp_all [chkRow, withinB]; try omega)
theorem chkRef_13 (a b n : Int) (w : World) :
    Calls Tryd.prog 10 #[.agg #[.int .i64 13, .int .i64 a, .int .i64 b, .int .i64 n]] w fun e w' => e = .returned (.int .i64 (chkRow true true true 0 5 a b n)) ∧ Below w.heap.size w w' := by
  have hw : withinB 13 1 15 = true := by decide
  go_enter Tryd.func10, Tryd.ntmps10
  go_wp2_with (first | (go_at_call 29; refine (within_any _ _ _ _).mono ?_; rintro e w' ⟨rfl, rfl⟩) | (go_at_call 31; refine (register_any _ _).mono ?_; rintro e w' ⟨rfl, rfl⟩) | (go_at_call 30; refine (has_any _ _).mono ?_; rw [show rowA (Int.toNat 13) = true from rfl, show rowB (Int.toNat 13) = true from rfl, show rowN (Int.toNat 13) = true from rfl]; rintro e w' ⟨rfl, rfl⟩))
  all_goals go_ret
  all_goals refine ⟨ret_int ?_, (by repeat (first | exact Below.refl _ _ | assumption | refine Below.drew ?_ | refine Below.alloc ?_ (by first | (simp; done) | (simp; omega)) _ | refine Below.setCell ?_ (by first | (simp; done) | (simp; omega)) _))⟩
  all_goals clear hw
  all_goals (simp_all [chkRow, withinB]; try omega)
theorem chkRef_out (op a b n : Int) (w : World) (ho : op < 1 ∨ 15 < op) :
    Calls Tryd.prog 10 #[.agg #[.int .i64 op, .int .i64 a, .int .i64 b, .int .i64 n]] w fun e w' => e = .returned (.int .i64 4) ∧ Below w.heap.size w w' := by
  have hw : withinB op 1 15 = false := by unfold withinB; simp; omega
  clear ho
  go_enter Tryd.func10, Tryd.ntmps10
  go_wp2_with (go_at_call 29; refine (within_any _ _ _ _).mono ?_; rintro e w' ⟨rfl, rfl⟩)
  go_ret
  exact ⟨rfl, (by repeat (first | exact Below.refl _ _ | assumption | refine Below.drew ?_ | refine Below.alloc ?_ (by first | (simp; done) | (simp; omega)) _ | refine Below.setCell ?_ (by first | (simp; done) | (simp; omega)) _))⟩
theorem chkRef_any (op a b n : Int) (hn : in64 n) (w : World) :
    Calls Tryd.prog 10 #[.agg #[.int .i64 op, .int .i64 a, .int .i64 b, .int .i64 n]] w fun e w' => e = .returned (.int .i64 (chkI op a b n)) ∧ Below w.heap.size w w' := by
  by_cases ho : op < 1 ∨ 15 < op
  · unfold chkI; rw [if_pos ho]; exact chkRef_out op a b n w ho
  · unfold chkI; rw [if_neg ho]
    by_cases e8 : op = 8
    · subst e8; exact chkRef_8 a b n w
    by_cases e9 : op = 9
    · subst e9; exact chkRef_9 a b n w
    by_cases e12 : op = 12
    · subst e12; exact chkRef_12 a b n w
    by_cases e13 : op = 13
    · subst e13; exact chkRef_13 a b n w
    obtain ⟨k, rfl⟩ := Int.eq_ofNat_of_zero_le (show 0 ≤ op by omega)
    rw [Int.toNat_natCast]
    by_cases e1 : k = 1
    · subst e1
      exact chkRef_other 1 (by omega) (by omega) _ _ _ rfl rfl rfl a b n w (by decide) (by decide) (by decide) (by decide) _ _ hn.1 hn.2
    · have hN : rowN k = false := by
        have : ∀ k, k < 16 → (k = 1 ∨ k = 8 ∨ k = 9 ∨ k = 12 ∨ k = 13 ∨ rowN k = false) := by decide
        rcases this k (by omega) with h | h | h | h | h | h
        · exact absurd h e1
        · omega
        · omega
        · omega
        · omega
        · exact h
      have e : chkRow (rowA k) (rowB k) (rowN k) (rowLo k) (rowHi k) a b n = chkRow (rowA k) (rowB k) (rowN k) n n a b n := by
        rw [hN]; rfl
      rw [e]
      exact chkRef_other k (by omega) (by omega) _ _ _ rfl rfl rfl a b n w (by simp; omega) (by simp; omega) (by simp; omega) (by simp; omega) _ _ (Int.le_refl _) (Int.le_refl _)
end Go.Proofs.YtclnedeodmlfeaaDoor

namespace Go.Proofs.YtclnedeodmlfeaaDoor
set_option linter.unusedSimpArgs false
set_option linter.unusedVariables false
open Go.RowKit Go.Sort
theorem dec_small {u : Nat} (h : u < 10) : Lib.decDigits u = [UInt8.ofNat (48 + u)] := by rw [Lib.decDigits, dif_pos h]
theorem dec_big {u : Nat} (h : ¬ u < 10) : Lib.decDigits u = Lib.decDigits (u / 10) ++ [UInt8.ofNat (48 + u % 10)] := by rw [Lib.decDigits, dif_neg h]
theorem itoa_nn {n : Int} (h : 0 ≤ n) : Lib.itoa n = Lib.decDigits n.toNat := by unfold Lib.itoa; rw [if_neg (by omega)]
theorem itoa_digit (n : Int) (h0 : 0 ≤ n) (h : n < 10) : Lib.itoa n = [UInt8.ofNat (48 + n.toNat)] := by
  rw [itoa_nn h0, dec_small (by omega)]
theorem itoa_pos (n : Int) (h : 10 ≤ n) : Lib.itoa (n / 10) ++ Lib.itoa (n % 10) = Lib.itoa n := by
  rw [itoa_nn (show 0 ≤ n by omega), itoa_nn (show 0 ≤ n / 10 by omega), itoa_nn (show 0 ≤ n % 10 by omega), dec_big (u := n.toNat) (by omega), dec_small (u := (n % 10).toNat) (by omega)]
  rw [show (n / 10).toNat = n.toNat / 10 by omega, show (n % 10).toNat = n.toNat % 10 by omega]
theorem itoa_neg1 (n : Int) (h : n < 0) : 45 :: Lib.itoa (-n) = Lib.itoa n := by
  rw [itoa_nn (show 0 ≤ -n by omega)]; unfold Lib.itoa; rw [if_pos h, show (-n).toNat = n.natAbs by omega]
theorem itoa_neg2 (n : Int) (h : n ≤ -10) (q r : Int) (hq : q = n.tdiv 10) (hr : r = -(n.tmod 10)) : Lib.itoa q ++ Lib.itoa r = Lib.itoa n := by
  have e1 : n = -(-n) := by omega
  have hd : n.tdiv 10 = -((-n) / 10) := by
    rw [e1, Int.neg_tdiv, Int.tdiv_eq_ediv_of_nonneg (by omega)]; simp
  have hm : n.tmod 10 = -((-n) % 10) := by
    rw [e1, Int.neg_tmod, Int.tmod_eq_emod_of_nonneg (by omega)]; simp
  rw [hd] at hq; rw [hm] at hr
  subst hq hr
  rw [← itoa_neg1 n (by omega), ← itoa_neg1 (-((-n) / 10)) (by omega), Int.neg_neg, Int.neg_neg, List.cons_append, itoa_pos (-n) (by omega)]
theorem digit_conv (n : Int) (w : World) (h0 : 0 ≤ n) (h : n < 10) :
    (convert 70 9 (Value.slice (some ⟨w.heap.size, 0, none⟩) 1 1)).run Tryd.prog (w.alloc (.cells #[.int .u8 (48 + n)] 5)) = .ok (.string ⟨[UInt8.ofNat (48 + n.toNat)].toArray⟩) (w.alloc (.cells #[.int .u8 (48 + n)] 5)) := by
  refine run_convert_bytes_back (P := Tryd.prog) (w.alloc (.cells #[.int .u8 (48 + n)] 5)) 70 9 5 ⟨w.heap.size, 0, none⟩ 1 [UInt8.ofNat (48 + n.toNat)] Tryd.underlying70 Tryd.underlying5 Tryd.underlying9 ?_
  intro j hj
  obtain rfl : j = 0 := by simpa using hj
  have : (48 + n.toNat) % 256 = 48 + n.toNat := by omega
  simp [Addr.add, this]
  omega
set_option maxRecDepth 100000 in
theorem dig_small (n : Int) (w : World) (h0 : 0 ≤ n) (h : n < 10) : Calls Tryd.prog 33 #[.int .i64 n] w fun e w' => e = .returned (.string ⟨(Lib.itoa n).toArray⟩) ∧ Below w.heap.size w w' := by
  rw [itoa_digit n h0 h]
  have hc := digit_conv n w h0 h
  go_enter Tryd.func33, Tryd.ntmps33
  go_wp2
  go_ret
  exact ⟨rfl, (by repeat (first | exact Below.refl _ _ | assumption | refine Below.drew ?_ | refine Below.alloc ?_ (by first | (simp; done) | (simp; omega)) _ | refine Below.setCell ?_ (by first | (simp; done) | (simp; omega)) _))⟩
set_option maxRecDepth 100000 in
theorem dig_pos (n : Int) (hn : in64 n) (h : 10 ≤ n) (ih : ∀ m : Int, 0 ≤ m → m < n → ∀ w : World, Calls Tryd.prog 33 #[.int .i64 m] w fun e w' => e = .returned (.string ⟨(Lib.itoa m).toArray⟩) ∧ Below w.heap.size w w') (w : World) :
    Calls Tryd.prog 33 #[.int .i64 n] w fun e w' => e = .returned (.string ⟨(Lib.itoa n).toArray⟩) ∧ Below w.heap.size w w' := by
  obtain ⟨hn1, hn2⟩ := hn
  have IH := Lib.hid ih
  clear ih
  have hl1 := Lib.itoa_length_le (n / 10) (by omega) (by omega)
  have hl2 := Lib.itoa_length_le (n % 10) (by omega) (by omega)
  have HE := Lib.hid (itoa_pos n h)
  go_enter Tryd.func33, Tryd.ntmps33
  go_wp2_with fail
  refine (IH.out _ (by omega) (by omega) _).mono ?_
  rintro e w1 ⟨rfl, hb1⟩
  go_wp2_with fail
  refine (IH.out _ (by omega) (by omega) _).mono ?_
  rintro e w2 ⟨rfl, hb2⟩
  go_wp2
  go_ret
  refine ⟨?_, hb1.trans (hb2.mono hb1.size)⟩
  simp [ba_app, HE.out]
set_option maxRecDepth 100000 in
theorem dig_neg1 (n : Int) (h : n < 0) (h2 : -10 < n) (w : World) :
    Calls Tryd.prog 33 #[.int .i64 n] w fun e w' => e = .returned (.string ⟨(Lib.itoa n).toArray⟩) ∧ Below w.heap.size w w' := by
  have hl1 := Lib.itoa_length_le (-n) (by omega) (by omega)
  have HE := Lib.hid (itoa_neg1 n h)
  go_enter Tryd.func33, Tryd.ntmps33
  go_wp2_with fail
  refine (dig_small _ _ (by omega) (by omega)).mono ?_
  rintro e w1 ⟨rfl, hb1⟩
  go_wp2
  go_ret
  refine ⟨?_, hb1⟩
  simp [ba_app1, HE.out]
theorem neg_bounds (n : Int) (h : n < 0) : n ≤ n.tdiv 10 * 10 ∧ n.tdiv 10 * 10 ≤ n + 9 ∧ -9 ≤ n.tmod 10 ∧ n.tmod 10 ≤ 0 := by
  have e1 : n = -(-n) := by omega
  have hd : n.tdiv 10 = -((-n) / 10) := by
    rw [e1, Int.neg_tdiv, Int.tdiv_eq_ediv_of_nonneg (by omega)]; simp
  have hm : n.tmod 10 = -((-n) % 10) := by
    rw [e1, Int.neg_tmod, Int.tmod_eq_emod_of_nonneg (by omega)]; simp
  rw [hd, hm]; omega
set_option maxRecDepth 100000 in
theorem dig_neg2 (n : Int) (hn : in64 n) (h : n ≤ -10) (ih : ∀ m : Int, in64 m → m.natAbs < n.natAbs → ∀ w : World, Calls Tryd.prog 33 #[.int .i64 m] w fun e w' => e = .returned (.string ⟨(Lib.itoa m).toArray⟩) ∧ Below w.heap.size w w') (w : World) :
    Calls Tryd.prog 33 #[.int .i64 n] w fun e w' => e = .returned (.string ⟨(Lib.itoa n).toArray⟩) ∧ Below w.heap.size w w' := by
  obtain ⟨hn1, hn2⟩ := hn
  have IH := Lib.hid ih
  clear ih
  obtain ⟨q1, q2, r1, r2⟩ := neg_bounds n (by omega)
  have HE := Lib.hid (itoa_neg2 n h _ _ rfl rfl)
  have hl1 := Lib.itoa_length_le (n.tdiv 10) (by omega) (by omega)
  have hl2 := Lib.itoa_length_le (-(n.tmod 10)) (by omega) (by omega)
  go_enter Tryd.func33, Tryd.ntmps33
  go_wp2_with fail
  refine (IH.out _ ⟨by omega, by omega⟩ (by omega) _).mono ?_
  rintro e w1 ⟨rfl, hb1⟩
  go_wp2_with fail
  refine (IH.out _ ⟨by omega, by omega⟩ (by omega) _).mono ?_
  rintro e w2 ⟨rfl, hb2⟩
  go_wp2
  go_ret
  refine ⟨?_, hb1.trans (hb2.mono hb1.size)⟩
  simp [ba_app, HE.out]
theorem digits_any (n : Int) (hn : in64 n) (w : World) :
    Calls Tryd.prog 33 #[.int .i64 n] w fun e w' => e = .returned (.string ⟨(Lib.itoa n).toArray⟩) ∧ Below w.heap.size w w' := by
  suffices h : ∀ k : Nat, ∀ n : Int, in64 n → n.natAbs ≤ k → ∀ w : World, Calls Tryd.prog 33 #[.int .i64 n] w fun e w' => e = .returned (.string ⟨(Lib.itoa n).toArray⟩) ∧ Below w.heap.size w w' from h n.natAbs n hn (Nat.le_refl _) w
  intro k
  induction k with
  | zero =>
    intro n hn hk w
    exact dig_small n w (by omega) (by omega)
  | succ k ih =>
    intro n hn hk w
    by_cases h1 : n ≤ -10
    · exact dig_neg2 n hn h1 (fun m hm hlt w => ih m hm (by omega) w) w
    by_cases h2 : n < 0
    · exact dig_neg1 n h2 (by omega) w
    by_cases h3 : n < 10
    · exact dig_small n w (by omega) h3
    · exact dig_pos n hn (by omega) (fun m h0 hlt w => ih m ⟨by have := hn.1; omega, by have := hn.2; omega⟩ (by omega) w) w
end Go.Proofs.YtclnedeodmlfeaaDoor

namespace Go.Proofs.YtclnedeodmlfeaaDoor
set_option linter.unusedSimpArgs false
set_option linter.unusedVariables false
open Go.RowKit Go.Sort
theorem words_any (w : World) : Calls Tryd.prog 32 #[] w fun e w' => e = .returned (.slice (some ⟨w.heap.size, 0, none⟩) 16 16) ∧ (∀ k, k < 16 → w'.cell? ⟨w.heap.size, k, none⟩ = some (.string ⟨(rowW k).toArray⟩)) ∧ w.heap.size < w'.heap.size ∧ Below w.heap.size w w' := by
  go_enter Tryd.func32, Tryd.ntmps32
  go_wp2
  go_ret
  refine ⟨rfl, ?_, by simp, (by repeat (first | exact Below.refl _ _ | assumption | refine Below.drew ?_ | refine Below.alloc ?_ (by first | (simp; done) | (simp; omega)) _ | refine Below.setCell ?_ (by first | (simp; done) | (simp; omega)) _))⟩
  intro k hk
  have : ∀ k, k < 16 → (#[Value.string ⟨(rowW 0).toArray⟩, .string ⟨(rowW 1).toArray⟩, .string ⟨(rowW 2).toArray⟩, .string ⟨(rowW 3).toArray⟩, .string ⟨(rowW 4).toArray⟩, .string ⟨(rowW 5).toArray⟩, .string ⟨(rowW 6).toArray⟩, .string ⟨(rowW 7).toArray⟩, .string ⟨(rowW 8).toArray⟩, .string ⟨(rowW 9).toArray⟩, .string ⟨(rowW 10).toArray⟩, .string ⟨(rowW 11).toArray⟩, .string ⟨(rowW 12).toArray⟩, .string ⟨(rowW 13).toArray⟩, .string ⟨(rowW 14).toArray⟩, .string ⟨(rowW 15).toArray⟩])[k]? = some (Value.string ⟨(rowW k).toArray⟩) := by
    intro k hk
    match k, hk with
    | 0, _ => rfl
    | 1, _ => rfl
    | 2, _ => rfl
    | 3, _ => rfl
    | 4, _ => rfl
    | 5, _ => rfl
    | 6, _ => rfl
    | 7, _ => rfl
    | 8, _ => rfl
    | 9, _ => rfl
    | 10, _ => rfl
    | 11, _ => rfl
    | 12, _ => rfl
    | 13, _ => rfl
    | 14, _ => rfl
    | 15, _ => rfl
    | k + 16, h => omega
  rw [World.cell?_alloc_new]
  exact this k hk
theorem ba_app2 (c : UInt8) (m : List UInt8) : (⟨m.toArray⟩ : ByteArray) ++ ⟨#[c]⟩ = ⟨(m ++ [c]).toArray⟩ := by
  apply ByteArray.ext; simp
set_option maxHeartbeats 2000000 in
set_option maxRecDepth 100000 in
theorem text_any (k : Nat) (hk1 : 1 ≤ k) (hk : k < 16) (a b n : Int) (ha : in64 a) (hb : in64 b) (hn : in64 n) (w : World) : Calls Tryd.prog 11 #[.agg #[.int .i64 k, .int .i64 a, .int .i64 b, .int .i64 n]] w fun e w' => e = .returned (.string ⟨(txt k a b n).toArray⟩) ∧ Below w.heap.size w w' := by
  have hlw : (rowW k).length ≤ 4 := rowW_le k hk
  have hla := Lib.itoa_length_le a ha.1 ha.2
  have hlb := Lib.itoa_length_le b hb.1 hb.2
  have hln := Lib.itoa_length_le n hn.1 hn.2
  have i1 : (0 : Int) ≤ k := by omega
  have i2 : (k : Int) < 16 := by omega
  go_enter Tryd.func11, Tryd.ntmps11
  go_wp2_with fail
  go_region_with (first | (go_at_call 32; refine (words_any _).mono ?_; rintro e w1 ⟨rfl, hcs, hsz, hb0⟩; have hc0 : w1.cell? ⟨w.heap.size + 1, k, none⟩ = some (.string ⟨(rowW k).toArray⟩) := (by have := hcs k hk; simpa using this); have hp0 : w1.cell? ⟨w.heap.size, 0, none⟩ = some (.int .i64 k) := (hb0.cell (by simp)).trans (by simp)))
  all_goals
    have r1 : w1.cell? ⟨w.heap.size, 1, none⟩ = some (.int .i64 a) := (hb0.cell (by simp)).trans (by simp)
    have r2 : w1.cell? ⟨w.heap.size, 2, none⟩ = some (.int .i64 b) := (hb0.cell (by simp)).trans (by simp)
    have r3 : w1.cell? ⟨w.heap.size, 3, none⟩ = some (.int .i64 n) := (hb0.cell (by simp)).trans (by simp)
    have hup : Below w.heap.size w w1 := by refine Below.trans ?_ (hb0.mono (by simp)); exact (by repeat (first | exact Below.refl _ _ | assumption | refine Below.drew ?_ | refine Below.alloc ?_ (by first | (simp; done) | (simp; omega)) _ | refine Below.setCell ?_ (by first | (simp; done) | (simp; omega)) _))
    have hz : w.heap.size < w1.heap.size := by have := hb0.size; simp at this; omega
    clear hb0 hcs hsz
    go_wp2_with (first | (go_at_call 30; refine (has_any _ _).mono ?_; rw [Int.toNat_natCast]; rintro e w' ⟨rfl, rfl⟩) | (go_at_call 33; refine (digits_any _ ?_ _).mono ?_; (first | exact ha | exact hb | exact hn); rintro e w2 ⟨rfl, hb2⟩; refine Hid.out ?_))
  all_goals try (go_ret; refine ⟨?_, hup⟩; (simp [txt, ba_app, ba_app1, ba_app2, *]; done))
  all_goals
    have r2 := (hb2.cell (p := ⟨w.heap.size, 2, none⟩) hz).trans r2
    have r3 := (hb2.cell (p := ⟨w.heap.size, 3, none⟩) hz).trans r3
    have hup : Below w.heap.size w w2 := hup.trans (hb2.mono (Nat.le_of_lt hz))
    have hz : w.heap.size < w2.heap.size := Nat.lt_of_lt_of_le hz hb2.size
    refine Lib.hid ?_
    go_wp2_with (first | (go_at_call 30; refine (has_any _ _).mono ?_; rw [Int.toNat_natCast]; rintro e w' ⟨rfl, rfl⟩) | (go_at_call 33; refine (digits_any _ ?_ _).mono ?_; (first | exact ha | exact hb | exact hn); rintro e w2 ⟨rfl, hb2⟩; refine Hid.out ?_))
  all_goals try (go_ret; refine ⟨?_, hup⟩; (simp [txt, ba_app, ba_app1, ba_app2, *]; done))
  all_goals
    have r2 := (hb2.cell (p := ⟨w.heap.size, 2, none⟩) hz).trans r2
    have r3 := (hb2.cell (p := ⟨w.heap.size, 3, none⟩) hz).trans r3
    have hup : Below w.heap.size w w2 := hup.trans (hb2.mono (Nat.le_of_lt hz))
    have hz : w.heap.size < w2.heap.size := Nat.lt_of_lt_of_le hz hb2.size
    refine Lib.hid ?_
    go_wp2_with (first | (go_at_call 30; refine (has_any _ _).mono ?_; rw [Int.toNat_natCast]; rintro e w' ⟨rfl, rfl⟩) | (go_at_call 33; refine (digits_any _ ?_ _).mono ?_; (first | exact ha | exact hb | exact hn); rintro e w2 ⟨rfl, hb2⟩; refine Hid.out ?_))
  all_goals try (go_ret; refine ⟨?_, hup⟩; (simp [txt, ba_app, ba_app1, ba_app2, *]; done))
  all_goals
    have r2 := (hb2.cell (p := ⟨w.heap.size, 2, none⟩) hz).trans r2
    have r3 := (hb2.cell (p := ⟨w.heap.size, 3, none⟩) hz).trans r3
    have hup : Below w.heap.size w w2 := hup.trans (hb2.mono (Nat.le_of_lt hz))
    have hz : w.heap.size < w2.heap.size := Nat.lt_of_lt_of_le hz hb2.size
    refine Lib.hid ?_
    go_wp2_with (first | (go_at_call 30; refine (has_any _ _).mono ?_; rw [Int.toNat_natCast]; rintro e w' ⟨rfl, rfl⟩) | (go_at_call 33; refine (digits_any _ ?_ _).mono ?_; (first | exact ha | exact hb | exact hn); rintro e w2 ⟨rfl, hb2⟩; refine Hid.out ?_))
  all_goals (go_ret; refine ⟨?_, hup⟩; simp [txt, ba_app, ba_app1, ba_app2, *])
end Go.Proofs.YtclnedeodmlfeaaDoor

namespace Go.Proofs.YtclnedeodmlfeaaDoor
set_option linter.unusedSimpArgs false
set_option linter.unusedVariables false
open Go.RowKit Go.Sort
theorem ext_eqU (l : List UInt8) (fr k : Nat) : (⟨l.toArray⟩ : ByteArray).extract fr k = ⟨((l.drop fr).take (k - fr)).toArray⟩ := by
  apply ByteArray.ext
  simp
def cut1 (c : UInt8) : List UInt8 → List UInt8 × List UInt8 × Bool
  | [] => ([], [], false)
  | b :: r => if b = c then ([], r, true) else (b :: (cut1 c r).1, (cut1 c r).2.1, (cut1 c r).2.2)
theorem cut1_none {c : UInt8} : ∀ {l : List UInt8}, Lib.indexByte l c = -1 → cut1 c l = (l, [], false)
  | [], _ => rfl
  | b :: r, h => by
    unfold Lib.indexByte at h
    by_cases hb : b = c
    · subst hb
      simp at h
    · rw [if_neg (by simpa using hb)] at h
      split at h
      · rename_i h1
        have h1 : Lib.indexByte r c = -1 := by simpa using h1
        rw [cut1, if_neg hb, cut1_none h1]
      · rename_i h1
        have := Lib.indexByte_ge r c
        omega
theorem cut1_some {c : UInt8} : ∀ {l : List UInt8} {i : Nat}, Lib.indexByte l c = i → cut1 c l = (l.take i, l.drop (i + 1), true) ∧ i < l.length
  | [], i, h => by
    have : (-1 : Int) = i := h
    omega
  | b :: r, i, h => by
    unfold Lib.indexByte at h
    by_cases hb : b = c
    · subst hb
      simp at h
      obtain rfl : i = 0 := by omega
      rw [cut1, if_pos rfl]
      simp
    · rw [if_neg (by simpa using hb)] at h
      split at h
      · omega
      · rename_i h1
        have h1 : ¬ Lib.indexByte r c = -1 := by simpa using h1
        have := Lib.indexByte_ge r c
        obtain ⟨j, hj⟩ : ∃ j : Nat, Lib.indexByte r c = j := ⟨(Lib.indexByte r c).toNat, by omega⟩
        obtain rfl : i = j + 1 := by omega
        obtain ⟨e1, e2⟩ := cut1_some hj
        rw [cut1, if_neg hb, e1]
        exact ⟨rfl, by simp; omega⟩
set_option maxRecDepth 100000 in
theorem indexByte_any (l : List UInt8) (c : UInt8) (w : World) :
    Calls Tryd.prog 59 #[.string ⟨l.toArray⟩, .int .u8 c.toNat] w fun e w' => e = .returned (.int .i64 (Lib.indexByte l c)) ∧ w' = w := by
  have hc : ((c.toNat : Int)).toNat.toUInt8 = c := by simp
  go_enter Tryd.func59, Tryd.ntmps59
  go_wp2
  rw [run_callFunc_extern Tryd.func73 (by kernel_rfl) (by kernel_rfl) (by kernel_rfl) (e := Extern.BytealgIndexByte.indexByte) (by kernel_rfl), Lib.run_indexByteString, hc]
  simp only [Result.andThen]
  rw [Oper.upon_value]
  go_wp2
  go_ret
  exact ⟨rfl, rfl⟩
set_option maxRecDepth 100000 in
set_option maxHeartbeats 4000000 in
theorem index1_any (l : List UInt8) (c : UInt8) (w : World) :
    Calls Tryd.prog 52 #[.string ⟨l.toArray⟩, .string ⟨#[c]⟩] w fun e w' => e = .returned (.int .i64 (Lib.indexByte l c)) ∧ w' = w := by
  by_cases hl : l = [c]
  · subst hl
    go_enter Tryd.func52, Tryd.ntmps52
    go_wp2
    go_ret
    exact ⟨by simp [Lib.indexByte], rfl⟩
  · have hne : ([c] == l) = false := by simpa using fun e => hl e.symm
    have HN := Lib.hid (indexByte_any l c)
    generalize Lib.indexByte l c = q at HN
    clear hl
    go_enter Tryd.func52, Tryd.ntmps52
    go_wp2_with fail
    refine (HN.out _).mono ?_
    rintro e w1 ⟨rfl, hw⟩
    have hw' := hw.symm
    clear hw
    subst hw'
    go_wp2
    go_ret
    exact ⟨rfl, rfl⟩
set_option maxRecDepth 100000 in
set_option maxHeartbeats 4000000 in
theorem scut_any (l : List UInt8) (c : UInt8) (hl : l.length ≤ 281474976710656) (w : World) :
    Calls Tryd.prog 48 #[.string ⟨l.toArray⟩, .string ⟨#[c]⟩] w fun e w' => e = .returned (.tuple #[.string ⟨(cut1 c l).1.toArray⟩, .string ⟨(cut1 c l).2.1.toArray⟩, .bool (cut1 c l).2.2]) ∧ Below w.heap.size w w' := by
  have HN := Lib.hid (index1_any l c)
  by_cases hq : Lib.indexByte l c = -1
  · have HC := Lib.hid (cut1_none hq)
    rw [hq] at HN
    clear hq
    go_enter Tryd.func48, Tryd.ntmps48
    go_wp2_with fail
    refine (HN.out _).mono ?_
    rintro e w1 ⟨rfl, hw⟩
    have hw' := hw.symm
    clear hw
    subst hw'
    go_wp2
    go_ret3
    exact ⟨by rw [HC.out] <;> rfl, Below.refl _ _⟩
  · have := Lib.indexByte_ge l c
    obtain ⟨i, hi⟩ : ∃ i : Nat, Lib.indexByte l c = i := ⟨(Lib.indexByte l c).toNat, by omega⟩
    obtain ⟨hc, hlt⟩ := cut1_some hi
    have HC := Lib.hid hc
    rw [hi] at HN
    have e1 : (⟨l.toArray⟩ : ByteArray).extract 0 i = ⟨(l.take i).toArray⟩ := by rw [ext_eqU]; simp
    have e2 : (⟨l.toArray⟩ : ByteArray).extract (i + 1) l.length = ⟨(l.drop (i + 1)).toArray⟩ := by rw [ext_eqU, List.take_of_length_le (by rw [List.length_drop]; omega)]
    have hli : (i : Int) ≤ l.length := by omega
    have hlj : (i : Int) + 1 ≤ l.length := by omega
    have hw1 : IntKind.i64.wrap ((i : Int) + 1) = ((i + 1 : Nat) : Int) := by simp [IntKind.wrap, IntKind.bits, IntKind.signed]; omega
    clear hq hi hc this
    go_enter Tryd.func48, Tryd.ntmps48
    go_wp2_with fail
    refine (HN.out _).mono ?_
    rintro e w1 ⟨rfl, hw⟩
    have hw' := hw.symm
    clear hw
    subst hw'
    go_wp2
    go_region
    all_goals go_wp2
    all_goals go_ret3
    all_goals exact ⟨by rw [HC.out] <;> rfl, (Below.refl _ _).drew⟩
set_option maxRecDepth 100000 in
set_option maxHeartbeats 4000000 in
theorem cut1_any (l : List UInt8) (c : UInt8) (hl : l.length ≤ 281474976710656) (w : World) :
    Calls Tryd.prog 43 #[.string ⟨l.toArray⟩, .string ⟨#[c]⟩] w fun e w' => e = .returned (.tuple #[.string ⟨(cut1 c l).1.toArray⟩, .string ⟨(cut1 c l).2.1.toArray⟩, .bool (cut1 c l).2.2]) ∧ Below w.heap.size w w' := by
  have HN := Lib.hid (scut_any l c hl w)
  generalize cut1 c l = q at HN
  go_enter Tryd.func43, Tryd.ntmps43
  go_wp2_with fail
  refine HN.out.mono ?_
  rintro e w1 ⟨rfl, b1⟩
  have B1 := Lib.hid b1
  clear b1
  go_wp2
  go_ret3
  exact ⟨rfl, B1.out⟩
theorem cut1_cut (c : UInt8) (l : List UInt8) : cut1 c l = Lib.cut l [c] := by
  unfold Lib.cut
  rw [Lib.index_one]
  by_cases hq : Lib.indexByte l c = -1
  · rw [cut1_none hq, if_neg (by omega)]
  · have := Lib.indexByte_ge l c
    obtain ⟨i, hi⟩ : ∃ i : Nat, Lib.indexByte l c = i := ⟨(Lib.indexByte l c).toNat, by omega⟩
    rw [(cut1_some hi).1, hi, if_pos (by omega)]
    simp
end Go.Proofs.YtclnedeodmlfeaaDoor

namespace Go.Proofs.YtclnedeodmlfeaaDoor
set_option linter.unusedSimpArgs false
set_option linter.unusedVariables false
open Go.RowKit Go.Sort
theorem cut_len (l sep : List UInt8) : (Lib.cut l sep).1.length ≤ l.length ∧ (Lib.cut l sep).2.1.length ≤ l.length := by
  unfold Lib.cut
  split
  · exact ⟨List.length_take_le' _ _, by simp⟩
  · exact ⟨Nat.le_refl _, Nat.zero_le _⟩
theorem cutL (l sep : List UInt8) (w : World) (he : Env w) (hs : l.length < 281474976710657) (h1 : ∃ c, sep = [c] := by exact ⟨_, rfl⟩) : Calls Tryd.prog 43 #[.string ⟨l.toArray⟩, .string ⟨sep.toArray⟩] w fun e w' => e = .returned (.tuple #[.string ⟨(Lib.cut l sep).1.toArray⟩, .string ⟨(Lib.cut l sep).2.1.toArray⟩, .bool (Lib.cut l sep).2.2]) ∧ Below w.heap.size w w' := by
  obtain ⟨c, rfl⟩ := h1
  have := cut1_any l c (by omega) w
  rw [cut1_cut] at this
  exact this
theorem number_any (l : List UInt8) (w : World) (he : Env w) (hs : l.length < 281474976710657) : Calls Tryd.prog 46 #[.string ⟨l.toArray⟩] w fun e w' => e = .returned (.tuple #[.int .i64 (numOf (Lib.cut l [32]).1), .string ⟨(Lib.cut l [32]).2.1.toArray⟩]) ∧ Below w.heap.size w w' := by
  have hl := (cut_len l [32]).1
  go_enter Tryd.func46, Tryd.ntmps46
  go_wp2_with fail
  refine (cutL l [32] _ he hs).mono ?_
  rintro e w1 ⟨rfl, hb1⟩
  have he1 := he.up hb1
  go_wp2_with fail
  refine (atoi_any ⟨(Lib.cut l [32]).1.toArray⟩ _ he1 (by simp [ByteArray.size]; omega)).mono ?_
  rintro e w2 ⟨h, hb2⟩
  rcases h with ⟨v, hv, rfl⟩ | ⟨hv, z, p, rfl⟩
  · have hv' : numOf (Lib.cut l [32]).1 = v := by unfold numOf; rw [show Lib.atoiAll (Lib.cut l [32]).1 = _ from hv]
    have HV := Lib.hid hv'
    clear hv hv'
    go_wp2
    go_ret2
    exact ⟨by rw [HV.out]; rfl, hb1.trans (hb2.mono hb1.size)⟩
  · have hv' : numOf (Lib.cut l [32]).1 = 0 := hv
    have HV := Lib.hid hv'
    clear hv hv'
    go_wp2
    go_ret2
    exact ⟨by rw [HV.out]; rfl, hb1.trans (hb2.mono hb1.size)⟩
def namedF (l : List UInt8) : Nat := ((List.range 16).find? fun k => 1 ≤ k && rowW k == l).getD 0
theorem namedF_at (l : List UInt8) (k : Nat) (h1 : 1 ≤ k) (hk : k < 16) (hno : ∀ j, 1 ≤ j → j < k → rowW j ≠ l) (h : rowW k = l) : namedF l = k := by
  unfold namedF
  have : (List.range 16).find? (fun k => 1 ≤ k && rowW k == l) = some k := by
    rw [List.find?_range_eq_some]
    refine ⟨by simp [h, h1], by simp; omega, ?_⟩
    intro j hj
    by_cases h0 : 1 ≤ j
    · simp [hno j h0 hj]
    · simp; omega
  rw [this]; rfl
theorem namedF_none (l : List UInt8) (hno : ∀ j, 1 ≤ j → j < 16 → rowW j ≠ l) : namedF l = 0 := by
  unfold namedF
  have : (List.range 16).find? (fun k => 1 ≤ k && rowW k == l) = none := by
    rw [List.find?_range_eq_none]
    intro j hj
    by_cases h0 : 1 ≤ j
    · simp [hno j h0 hj]
    · simp; omega
  rw [this]; rfl
set_option maxHeartbeats 1000000 in
theorem named_any (l : List UInt8) (w : World) (hs : Shp w) : Calls Tryd.prog 45 #[.string ⟨l.toArray⟩] w fun e w' => e = .returned (.int .i64 (namedF l)) ∧ w' = w := by
  have hz := hs.size
  go_enter Tryd.func45, Tryd.ntmps45
  go_wp2
  go_loop [3] (fun i => ∃ k : Nat, 1 ≤ k ∧ k ≤ 16 ∧ i = .int .i64 k ∧ ∀ j, 1 ≤ j → j < k → rowW j ≠ l) (fun i => 16 - (intOf i).toNat)
  case atStart => exact ⟨1, by omega, by omega, rfl, fun j h1 h2 => by omega⟩
  case round =>
    obtain ⟨k, hk1, hk2, rfl, hno⟩ := hrel
    have HN := Lib.hid hno
    clear hno
    by_cases hlt : k < 16
    · have q0 := hs.c0 k hlt
      by_cases hq : rowW k = l
      · have hq' : (rowW k == l) = true := by simp [hq]
        have HF := Lib.hid (namedF_at l k hk1 hlt HN.out hq)
        clear hq
        go_wp2
        go_ret
        exact ⟨by rw [HF.out]; rfl, rfl⟩
      · have hq' : (rowW k == l) = false := by simp [hq]
        have HQ := Lib.hid hq
        clear hq
        go_wp2
        go_round
        case rel => exact ⟨k + 1, by omega, by omega, by go_num, fun j h1 h2 => by
          by_cases e : j = k
          · subst e; exact HQ.out
          · exact HN.out j h1 (by omega)⟩
        case measure => simp [intOf]; omega
    · obtain rfl : k = 16 := by omega
      have HF := Lib.hid (namedF_none l HN.out)
      go_wp2
      go_ret
      exact ⟨by rw [HF.out]; rfl, rfl⟩
end Go.Proofs.YtclnedeodmlfeaaDoor
