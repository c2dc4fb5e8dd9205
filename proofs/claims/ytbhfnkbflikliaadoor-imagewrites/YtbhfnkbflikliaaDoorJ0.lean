/- Small laws on what a world's cells hold behind new blocks, stores and calls that keep what was there. -/
import Derived.WalkKit
import Derived.WalkSmall
import Derived.Outline
import Derived.Sort.Grow
import Derived.Lib.Hide
import Derived.Deep.AppendLies
import Derived.Deep.LoopGhost
import Derived.Test.YtbhfnkbflikliaaDoorProg
namespace Go.Proofs.YtbhfnkbflikliaaDoor
set_option linter.unusedSimpArgs false
set_option linter.unusedVariables false
open Go.RowKit
theorem bcl {B : Nat} {w w' : World} {b i : Nat} {v : Value} (h : Below B w w') (hb : b < B) (hc : w.cell? ⟨b, i, none⟩ = some v) : w'.cell? ⟨b, i, none⟩ = some v := (h.cell (p := ⟨b, i, none⟩) hb).trans hc
theorem bfr {B : Nat} {w w' : World} {b i : Nat} (h : Below B w w') (hb : b < B) (hc : w.frozen? ⟨b, i, none⟩ = false) : w'.frozen? ⟨b, i, none⟩ = false := (h.frozen (p := ⟨b, i, none⟩) hb).trans hc
theorem cl_alloc {w : World} {b i : Nat} {v : Value} (o : Obj) (hb : b < w.heap.size) (h : w.cell? ⟨b, i, none⟩ = some v) : (w.alloc o).cell? ⟨b, i, none⟩ = some v := (World.cell?_alloc_lt w o ⟨b, i, none⟩ hb).trans h
theorem cl_set {w : World} {b i c j : Nat} {v u : Value} (hne : b ≠ c ∨ i ≠ j) (h : w.cell? ⟨b, i, none⟩ = some v) : (w.setCell ⟨c, j, none⟩ u).cell? ⟨b, i, none⟩ = some v :=
  (World.cell?_setCell_other w _ _ _ (by intro e; simp at e; omega)).trans h
theorem cl_same {w : World} {b i : Nat} {v u : Value} (h : w.cell? ⟨b, i, none⟩ = some v) : (w.setCell ⟨b, i, none⟩ u).cell? ⟨b, i, none⟩ = some u := World.cell?_setCell_same w _ _ h
theorem fr_set {w : World} {b i c j : Nat} {u : Value} (h : w.frozen? ⟨b, i, none⟩ = false) : (w.setCell ⟨c, j, none⟩ u).frozen? ⟨b, i, none⟩ = false := (World.frozen?_setCell w _ _ _).trans h
theorem size_set (w : World) (a : Addr) (u : Value) : (w.setCell a u).heap.size = w.heap.size := by simp [World.setCell]
end Go.Proofs.YtbhfnkbflikliaaDoor

namespace Go.Proofs.YtbhfnkbflikliaaDoor
set_option linter.unusedSimpArgs false
set_option linter.unusedVariables false
open Go.RowKit Go.Sort
theorem ret_bool {a b : Bool} (h : a = b) : Ending.returned (.bool a) = .returned (.bool b) := by rw [h]
theorem ret_int {k : IntKind} {a b : Int} (h : a = b) : Ending.returned (.int k a) = .returned (.int k b) := by rw [h]
def Sl (w : World) (size : Nat) (v : Value) (n : Nat) (xs : List Value) : Prop :=
  xs.length = n * size ∧ ∃ ao cap, v = .slice ao n cap ∧ n ≤ cap ∧ (0 < n → ∃ b off, ao = some ⟨b, off, none⟩ ∧ b < w.heap.size ∧ ∀ j u, xs[j]? = some u → w.cell? ⟨b, off + j, none⟩ = some u)
theorem Sl.up {w w' : World} {size : Nat} {v : Value} {n : Nat} {xs : List Value} (h : Sl w size v n xs) (hb : Below w.heap.size w w') : Sl w' size v n xs := by
  obtain ⟨h1, ao, cap, h2, h3, h4⟩ := h
  refine ⟨h1, ao, cap, h2, h3, fun hn => ?_⟩
  obtain ⟨b, off, e, hlt, hc⟩ := h4 hn
  exact ⟨b, off, e, Nat.lt_of_lt_of_le hlt hb.size, fun j u hj => bcl hb hlt (hc j u hj)⟩
theorem Sl.open {w : World} {size : Nat} {v : Value} {n : Nat} {xs : List Value} (h : Sl w size v n xs) (hn : 0 < n) : ∃ b off cap, v = .slice (some ⟨b, off, none⟩) n cap ∧ n ≤ cap ∧ b < w.heap.size ∧ ∀ j u, xs[j]? = some u → w.cell? ⟨b, off + j, none⟩ = some u := by
  obtain ⟨_, ao, cap, rfl, h3, h4⟩ := h
  obtain ⟨b, off, rfl, hlt, hc⟩ := h4 hn
  exact ⟨b, off, cap, rfl, h3, hlt, hc⟩
theorem Sl.form {w : World} {size : Nat} {v : Value} {n : Nat} {xs : List Value} (h : Sl w size v n xs) : ∃ ao cap, v = .slice ao n cap := by
  obtain ⟨_, ao, cap, rfl, _⟩ := h
  exact ⟨ao, cap, rfl⟩
theorem Sl.nil (w : World) (size : Nat) : Sl w size (.slice none 0 0) 0 [] := ⟨by simp, none, 0, rfl, Nat.le_refl _, fun h => by omega⟩
def ints (zs : List Int) : List Value := zs.map fun z => .int .i64 z
theorem ints_at (zs : List Int) (k : Nat) (h : k < zs.length) : (ints zs)[k]? = some (.int .i64 zs[k]) := by simp [ints, h]
theorem own_sl {w : World} {base : Nat} {e : TypeId} {v : Value} {n : Nat} {size : Nat} {xs : List Value} (h : w.ownsRow base e size v n xs) : Sl w size v n xs := by
  refine ⟨h.1, ?_⟩
  rcases h.2 with ⟨rfl, rfl⟩ | ⟨g, cap, cur, rfl, hg, hh, hn, _, hs, ht⟩
  · exact ⟨none, 0, rfl, Nat.le_refl _, fun h => by omega⟩
  · refine ⟨_, cap, rfl, hn, fun _ => ⟨g, 0, rfl, ?_, fun j u hj => ?_⟩⟩
    · rcases Nat.lt_or_ge g w.heap.size with hlt | hge
      · exact hlt
      · rw [Array.getElem?_eq_none hge] at hh; cases hh
    · have hadd : (⟨g, 0, none⟩ : Addr).add j = ⟨g, j, none⟩ := by unfold Addr.add; split <;> simp_all
      have := h.cells (g := g) rfl j u hj
      rw [hadd] at this
      rw [Nat.zero_add]; exact this
theorem info_parts {P : Program} {t : TypeId} {z : Value} {s b : Nat} (h : (P.info? t).map (fun i => (i.zero, i.size, i.bytes)) = some (some z, s, b)) : ∃ i, P.info? t = some i ∧ i.zero = some z ∧ i.size = s ∧ i.bytes = b := by
  obtain ⟨i, hi, he⟩ := Option.map_eq_some_iff.1 h
  simp only [Prod.mk.injEq] at he
  exact ⟨i, hi, he.1, he.2.1, he.2.2⟩
theorem own_form {w : World} {base : Nat} {e : TypeId} {size : Nat} {v : Value} {n : Nat} {xs : List Value} (h : w.ownsRow base e size v n xs) : ∃ ao cap, v = .slice ao n cap := by
  rcases h.2 with ⟨rfl, rfl⟩ | ⟨g, cap, cur, rfl, _⟩
  · exact ⟨none, 0, rfl⟩
  · exact ⟨_, _, rfl⟩
theorem ext_eq (l : List UInt8) (fr k : Nat) : (⟨l.toArray⟩ : ByteArray).extract fr k = ⟨((l.drop fr).take (k - fr)).toArray⟩ := by
  apply ByteArray.ext
  simp
theorem one_new (w : World) (v : Value) (t : TypeId) : ∀ j u, [v][j]? = some u → (w.alloc (.cells #[v] t)).cell? ((⟨w.heap.size, 0, none⟩ : Addr).add j) = some u := by
  intro j u hj
  match j, hj with
  | 0, hj => simp at hj; subst hj; simp [Addr.add]
  | j + 1, hj => simp at hj
theorem own_block {w : World} {base : Nat} {e : TypeId} {size : Nat} {v : Value} {n : Nat} {xs : List Value} (h : w.ownsRow base e size v n xs) : ∀ k, v.ownBlock = some k → base ≤ k := by
  intro k hk
  rcases h.2 with ⟨rfl, _⟩ | ⟨g, cap, cur, rfl, hb, _⟩
  · cases hk
  · simp [Value.ownBlock] at hk; omega
theorem own_low {w : World} {base base' : Nat} {e : TypeId} {size : Nat} {v : Value} {n : Nat} {xs : List Value} (h : w.ownsRow base e size v n xs) (hb : base' ≤ base) : w.ownsRow base' e size v n xs :=
  ⟨h.1, h.2.imp id fun ⟨g, cap, cur, h1, h2, h3⟩ => ⟨g, cap, cur, h1, Nat.le_trans hb h2, h3⟩⟩
theorem Sl.set {w : World} {size : Nat} {v : Value} {n : Nat} {xs : List Value} (h : Sl w size v n xs) {c j : Nat} (u : Value) (hne : v.ownBlock ≠ some c) : Sl (w.setCell ⟨c, j, none⟩ u) size v n xs := by
  obtain ⟨h1, ao, cap, rfl, h3, h4⟩ := h
  refine ⟨h1, ao, cap, rfl, h3, fun hn => ?_⟩
  obtain ⟨b, off, rfl, hlt, hc⟩ := h4 hn
  exact ⟨b, off, rfl, by rw [size_set]; exact hlt, fun k u' hk => cl_set (Or.inl (by simpa [Value.ownBlock] using hne)) (hc k u' hk)⟩
end Go.Proofs.YtbhfnkbflikliaaDoor

namespace Go.Proofs.YtbhfnkbflikliaaDoor
set_option linter.unusedSimpArgs false
set_option linter.unusedVariables false
open Go.RowKit
def regB (a : Int) : Bool := decide (0 ≤ a) && decide (a < 4)
theorem isReg_any (a : Int) (w : World) : Calls Tryd.prog 68 #[.int .i64 a] w fun e w' => e = .returned (.bool (regB a)) ∧ w' = w := by
  by_cases h : 0 ≤ a
  all_goals
  go_enter Tryd.func68, Tryd.ntmps68
  go_wp2
  all_goals go_ret
  all_goals exact ⟨ret_bool (by simp [regB]; try omega), rfl⟩
def chkRow (ba bb bn : Bool) (lo hi a b n : Int) : Int :=
  if (ba && !regB a) || (bb && !regB b) || (bn && (decide (n < lo) || decide (hi < n))) then 3
  else if (!ba && a != 0) || (!bb && b != 0) || (!bn && n != 0) then 1 else 0
set_option maxHeartbeats 2000000 in
theorem chk_row (k : Nat) (hk1 : 1 ≤ k) (hk : k < 16) (ws : ByteArray) (ba bb bn : Bool) (lo hi a b n : Int) (w : World) (hz : 0 < w.heap.size)
   (c0 : w.cell? ⟨0, k * 6, none⟩ = some (.string ws)) (c1 : w.cell? ⟨0, k * 6 + 1, none⟩ = some (.bool ba))
   (c2 : w.cell? ⟨0, k * 6 + 2, none⟩ = some (.bool bb)) (c3 : w.cell? ⟨0, k * 6 + 3, none⟩ = some (.bool bn))
   (c4 : w.cell? ⟨0, k * 6 + 4, none⟩ = some (.int .i64 lo)) (c5 : w.cell? ⟨0, k * 6 + 5, none⟩ = some (.int .i64 hi)) : Calls Tryd.prog 45 #[.agg #[.int .i64 k, .int .i64 a, .int .i64 b, .int .i64 n]] w fun e w' => e = .returned (.int .i64 (chkRow ba bb bn lo hi a b n)) ∧ Below w.heap.size w w' := by
  have hk1' : ¬ ((k : Int) < 1) := by omega
  have hk2' : ¬ ((15 : Int) < k) := by omega
  go_enter Tryd.func45, Tryd.ntmps45
  go_wp2_with (go_at_call 68; refine (isReg_any _ _).mono ?_; rintro e w' ⟨rfl, rfl⟩)
  all_goals go_ret
  all_goals refine ⟨ret_int ?_, (by repeat (first | exact Below.refl _ _ | assumption | refine Below.drew ?_ | refine Below.alloc ?_ (by first | (simp; done) | (simp; omega)) _ | refine Below.setCell ?_ (by first | (simp; done) | (simp; omega)) _))⟩
  all_goals (simp_all [chkRow]; done)
end Go.Proofs.YtbhfnkbflikliaaDoor

namespace Go.Proofs.YtbhfnkbflikliaaDoor
set_option linter.unusedSimpArgs false
set_option linter.unusedVariables false
open Go.RowKit
def rowA (k : Nat) : Bool := [false, true, true, true, true, true, true, true, false, true, true, true, true, true, false, false].getD k false
def rowB (k : Nat) : Bool := [false, false, true, true, true, true, true, true, false, false, false, false, false, true, false, false].getD k false
def rowN (k : Nat) : Bool := [false, true, false, false, false, false, false, false, true, true, false, false, true, true, false, false].getD k false
def rowLo (k : Nat) : Int := if k = 1 then -9223372036854775808 else 0
def rowHi (k : Nat) : Int := if k = 1 then 9223372036854775807 else if k = 8 ∨ k = 9 then 19 else if k = 12 ∨ k = 13 then 5 else 0
def rowW (k : Nat) : List UInt8 := [[], [115, 101, 116], [99, 111, 112, 121], [97, 100, 100], [115, 117, 98], [108, 101, 115, 115], [108, 111, 97, 100], [115, 97, 118, 101], [106, 117, 109, 112], [122, 101, 114, 111], [105, 110], [111, 117, 116], [112, 117, 116], [103, 101, 116], [114, 101, 115, 116], [115, 116, 111, 112]].getD k []
structure Shp (w : World) : Prop where
  size : 0 < w.heap.size
  c0 : ∀ k, k < 16 → w.cell? ⟨0, k * 6, none⟩ = some (.string ⟨(rowW k).toArray⟩)
  c1 : ∀ k, k < 16 → w.cell? ⟨0, k * 6 + 1, none⟩ = some (.bool (rowA k))
  c2 : ∀ k, k < 16 → w.cell? ⟨0, k * 6 + 2, none⟩ = some (.bool (rowB k))
  c3 : ∀ k, k < 16 → w.cell? ⟨0, k * 6 + 3, none⟩ = some (.bool (rowN k))
  c4 : ∀ k, k < 16 → w.cell? ⟨0, k * 6 + 4, none⟩ = some (.int .i64 (rowLo k))
  c5 : ∀ k, k < 16 → w.cell? ⟨0, k * 6 + 5, none⟩ = some (.int .i64 (rowHi k))
theorem Shp.up {w w' : World} (h : Shp w) (hb : Below w.heap.size w w') : Shp w' :=
  ⟨Nat.lt_of_lt_of_le h.size hb.size, fun k hk => (hb.cell h.size).trans (h.c0 k hk), fun k hk => (hb.cell h.size).trans (h.c1 k hk), fun k hk => (hb.cell h.size).trans (h.c2 k hk),
    fun k hk => (hb.cell h.size).trans (h.c3 k hk), fun k hk => (hb.cell h.size).trans (h.c4 k hk), fun k hk => (hb.cell h.size).trans (h.c5 k hk)⟩
def chkI (op a b n : Int) : Int := if op < 1 ∨ 15 < op then 4 else chkRow (rowA op.toNat) (rowB op.toNat) (rowN op.toNat) (rowLo op.toNat) (rowHi op.toNat) a b n
theorem chk_out (op a b n : Int) (w : World) (ho : op < 1 ∨ 15 < op) : Calls Tryd.prog 45 #[.agg #[.int .i64 op, .int .i64 a, .int .i64 b, .int .i64 n]] w fun e w' => e = .returned (.int .i64 4) ∧ Below w.heap.size w w' := by
  by_cases h : op < 1
  · clear ho
    go_enter Tryd.func45, Tryd.ntmps45
    go_wp2
    all_goals go_ret
    all_goals exact ⟨rfl, (by repeat (first | exact Below.refl _ _ | assumption | refine Below.drew ?_ | refine Below.alloc ?_ (by first | (simp; done) | (simp; omega)) _ | refine Below.setCell ?_ (by first | (simp; done) | (simp; omega)) _))⟩
  · have h2 : 15 < op := by omega
    clear ho
    go_enter Tryd.func45, Tryd.ntmps45
    go_wp2
    all_goals go_ret
    all_goals exact ⟨rfl, (by repeat (first | exact Below.refl _ _ | assumption | refine Below.drew ?_ | refine Below.alloc ?_ (by first | (simp; done) | (simp; omega)) _ | refine Below.setCell ?_ (by first | (simp; done) | (simp; omega)) _))⟩
theorem chk_any (op a b n : Int) (w : World) (h : Shp w) : Calls Tryd.prog 45 #[.agg #[.int .i64 op, .int .i64 a, .int .i64 b, .int .i64 n]] w fun e w' => e = .returned (.int .i64 (chkI op a b n)) ∧ Below w.heap.size w w' := by
  by_cases ho : op < 1 ∨ 15 < op
  · unfold chkI; rw [if_pos ho]; exact chk_out op a b n w ho
  · obtain ⟨k, rfl⟩ := Int.eq_ofNat_of_zero_le (show 0 ≤ op by omega)
    unfold chkI; rw [if_neg ho, Int.toNat_natCast]
    exact chk_row k (by omega) (by omega) _ _ _ _ _ _ a b n w h.size (h.c0 k (by omega)) (h.c1 k (by omega)) (h.c2 k (by omega)) (h.c3 k (by omega)) (h.c4 k (by omega)) (h.c5 k (by omega))
end Go.Proofs.YtbhfnkbflikliaaDoor

namespace Go.Proofs.YtbhfnkbflikliaaDoor
set_option linter.unusedSimpArgs false
set_option linter.unusedVariables false
open Go.RowKit Go.Sort
structure Env (w : World) : Prop where
  shp : Shp w
theorem Env.up {w w' : World} (h : Env w) (hb : Below w.heap.size w w') : Env w' := ⟨h.shp.up hb⟩
def in64 (n : Int) : Prop := -9223372036854775808 ≤ n ∧ n ≤ 9223372036854775807
theorem chk_v (op a b n c : Int) (w : World) (he : Env w) (hc : chkI op a b n = c) : Calls Tryd.prog 45 #[.agg #[.int .i64 op, .int .i64 a, .int .i64 b, .int .i64 n]] w fun e w' => e = .returned (.int .i64 c) ∧ Below w.heap.size w w' := hc ▸ chk_any op a b n w he.shp
end Go.Proofs.YtbhfnkbflikliaaDoor

namespace Go.Proofs.YtbhfnkbflikliaaDoor
set_option linter.unusedSimpArgs false
set_option linter.unusedVariables false
open Go.RowKit Go.Sort
def withinB (n lo hi : Int) : Bool := decide (lo ≤ n) && decide (n ≤ hi)
theorem within_any (n lo hi : Int) (w : World) : Calls Tryd.prog 15 #[.int .i64 n, .int .i64 lo, .int .i64 hi] w fun e w' => e = .returned (.bool (withinB n lo hi)) ∧ w' = w := by
  by_cases h : lo ≤ n
  all_goals
  go_enter Tryd.func15, Tryd.ntmps15
  go_wp2
  all_goals go_ret
  all_goals exact ⟨ret_bool (by simp [withinB]; try omega), rfl⟩
theorem regB_eq (a : Int) : withinB a 0 3 = regB a := by
  unfold withinB regB; congr 1; simp; omega
theorem register_any (a : Int) (w : World) : Calls Tryd.prog 61 #[.int .i64 a] w fun e w' => e = .returned (.bool (regB a)) ∧ w' = w := by
  go_enter Tryd.func61, Tryd.ntmps61
  go_wp2_with (go_at_call 15; refine (within_any _ _ _ _).mono ?_; rintro e w' ⟨rfl, rfl⟩)
  go_ret
  exact ⟨ret_bool (regB_eq a), rfl⟩
theorem has_none (op : Int) (ho : op < 1 ∨ 15 < op) (w : World) : Calls Tryd.prog 60 #[.int .i64 op] w fun e w' => e = .returned (.tuple #[.bool false, .bool false, .bool false]) ∧ w' = w := by
  have h1 : (op == 1) = false := by simp; omega
  have h2 : (op == 2) = false := by simp; omega
  have h3 : (op == 3) = false := by simp; omega
  have h4 : (op == 4) = false := by simp; omega
  have h5 : (op == 5) = false := by simp; omega
  have h6 : (op == 6) = false := by simp; omega
  have h7 : (op == 7) = false := by simp; omega
  have h8 : (op == 8) = false := by simp; omega
  have h9 : (op == 9) = false := by simp; omega
  have h10 : (op == 10) = false := by simp; omega
  have h11 : (op == 11) = false := by simp; omega
  have h12 : (op == 12) = false := by simp; omega
  have h13 : (op == 13) = false := by simp; omega
  clear ho
  go_enter Tryd.func60, Tryd.ntmps60
  go_wp2
  all_goals go_ret3
  all_goals exact ⟨rfl, rfl⟩
theorem has_any (op : Int) (w : World) : Calls Tryd.prog 60 #[.int .i64 op] w fun e w' => e = .returned (.tuple #[.bool (rowA op.toNat), .bool (rowB op.toNat), .bool (rowN op.toNat)]) ∧ w' = w := by
  by_cases ho : op < 1 ∨ 15 < op
  · have e1 : rowA op.toNat = false := by
      rcases ho with h | h
      · rw [show op.toNat = 0 by omega]; rfl
      · unfold rowA; rw [List.getD_eq_getElem?_getD, List.getElem?_eq_none (by simp; omega)]; rfl
    have e2 : rowB op.toNat = false := by
      rcases ho with h | h
      · rw [show op.toNat = 0 by omega]; rfl
      · unfold rowB; rw [List.getD_eq_getElem?_getD, List.getElem?_eq_none (by simp; omega)]; rfl
    have e3 : rowN op.toNat = false := by
      rcases ho with h | h
      · rw [show op.toNat = 0 by omega]; rfl
      · unfold rowN; rw [List.getD_eq_getElem?_getD, List.getElem?_eq_none (by simp; omega)]; rfl
    rw [e1, e2, e3]
    exact has_none op ho w
  · have h : op = 1 ∨ op = 2 ∨ op = 3 ∨ op = 4 ∨ op = 5 ∨ op = 6 ∨ op = 7 ∨ op = 8 ∨ op = 9 ∨ op = 10 ∨ op = 11 ∨ op = 12 ∨ op = 13 ∨ op = 14 ∨ op = 15 := by omega
    clear ho
    rcases h with rfl | rfl | rfl | rfl | rfl | rfl | rfl | rfl | rfl | rfl | rfl | rfl | rfl | rfl | rfl
    all_goals
      go_enter Tryd.func60, Tryd.ntmps60
      go_wp2
      go_ret3
      exact ⟨rfl, rfl⟩
theorem chkRef_other (k : Nat) (hk1 : 1 ≤ k) (hk : k < 16) (ba bb bn : Bool) (eA : rowA k = ba) (eB : rowB k = bb) (eN : rowN k = bn) (a b n : Int) (w : World)
    (h8 : ((k : Int) == 8) = false) (h9 : ((k : Int) == 9) = false) (h12 : ((k : Int) == 12) = false) (h13 : ((k : Int) == 13) = false) (lo hi : Int) (hl : lo ≤ n) (hh : n ≤ hi) :
    Calls Tryd.prog 37 #[.agg #[.int .i64 k, .int .i64 a, .int .i64 b, .int .i64 n]] w fun e w' => e = .returned (.int .i64 (chkRow ba bb bn lo hi a b n)) ∧ Below w.heap.size w w' := by
  have hw : withinB k 1 15 = true := by unfold withinB; simp; omega
  go_enter Tryd.func37, Tryd.ntmps37
  go_wp2_with (first | (go_at_call 15; refine (within_any _ _ _ _).mono ?_; rintro e w' ⟨rfl, rfl⟩) | (go_at_call 61; refine (register_any _ _).mono ?_; rintro e w' ⟨rfl, rfl⟩) | (go_at_call 60; refine (has_any _ _).mono ?_; rw [Int.toNat_natCast, eA, eB, eN]; rintro e w' ⟨rfl, rfl⟩))
  all_goals go_ret
  all_goals refine ⟨ret_int ?_, (by repeat (first | exact Below.refl _ _ | assumption | refine Below.drew ?_ | refine Below.alloc ?_ (by first | (simp; done) | (simp; omega)) _ | refine Below.setCell ?_ (by first | (simp; done) | (simp; omega)) _))⟩
  all_goals clear h8 h9 h12 h13 hw eA eB eN
  all_goals (have q1 : decide (n < lo) = false := by simp; omega
             have q2 : decide (hi < n) = false := by simp; omega
             simp_all [chkRow])
theorem chkRef_8 (a b n : Int) (w : World) :
    Calls Tryd.prog 37 #[.agg #[.int .i64 8, .int .i64 a, .int .i64 b, .int .i64 n]] w fun e w' => e = .returned (.int .i64 (chkRow false false true 0 19 a b n)) ∧ Below w.heap.size w w' := by
  have hw : withinB 8 1 15 = true := by decide
  go_enter Tryd.func37, Tryd.ntmps37
  go_wp2_with (first | (go_at_call 15; refine (within_any _ _ _ _).mono ?_; rintro e w' ⟨rfl, rfl⟩) | (go_at_call 61; refine (register_any _ _).mono ?_; rintro e w' ⟨rfl, rfl⟩) | (go_at_call 60; refine (has_any _ _).mono ?_; rw [show rowA (Int.toNat 8) = false from rfl, show rowB (Int.toNat 8) = false from rfl, show rowN (Int.toNat 8) = true from rfl]; rintro e w' ⟨rfl, rfl⟩))
  all_goals go_ret
  all_goals refine ⟨ret_int ?_, (by repeat (first | exact Below.refl _ _ | assumption | refine Below.drew ?_ | refine Below.alloc ?_ (by first | (simp; done) | (simp; omega)) _ | refine Below.setCell ?_ (by first | (simp; done) | (simp; omega)) _))⟩
  all_goals clear hw
  all_goals (simp_all [chkRow, withinB]; try omega)
theorem chkRef_9 (a b n : Int) (w : World) :
    Calls Tryd.prog 37 #[.agg #[.int .i64 9, .int .i64 a, .int .i64 b, .int .i64 n]] w fun e w' => e = .returned (.int .i64 (chkRow true false true 0 19 a b n)) ∧ Below w.heap.size w w' := by
  have hw : withinB 9 1 15 = true := by decide
  go_enter Tryd.func37, Tryd.ntmps37
  go_wp2_with (first | (go_at_call 15; refine (within_any _ _ _ _).mono ?_; rintro e w' ⟨rfl, rfl⟩) | (go_at_call 61; refine (register_any _ _).mono ?_; rintro e w' ⟨rfl, rfl⟩) | (go_at_call 60; refine (has_any _ _).mono ?_; rw [show rowA (Int.toNat 9) = true from rfl, show rowB (Int.toNat 9) = false from rfl, show rowN (Int.toNat 9) = true from rfl]; rintro e w' ⟨rfl, rfl⟩))
  all_goals go_ret
  all_goals refine ⟨ret_int ?_, (by repeat (first | exact Below.refl _ _ | assumption | refine Below.drew ?_ | refine Below.alloc ?_ (by first | (simp; done) | (simp; omega)) _ | refine Below.setCell ?_ (by first | (simp; done) | (simp; omega)) _))⟩
  all_goals clear hw
  all_goals (simp_all [chkRow, withinB]; try omega)
theorem chkRef_12 (a b n : Int) (w : World) :
    Calls Tryd.prog 37 #[.agg #[.int .i64 12, .int .i64 a, .int .i64 b, .int .i64 n]] w fun e w' => e = .returned (.int .i64 (chkRow true false true 0 5 a b n)) ∧ Below w.heap.size w w' := by
  have hw : withinB 12 1 15 = true := by decide
  go_enter Tryd.func37, Tryd.ntmps37
  go_wp2_with (first | (go_at_call 15; refine (within_any _ _ _ _).mono ?_; rintro e w' ⟨rfl, rfl⟩) | (go_at_call 61; refine (register_any _ _).mono ?_; rintro e w' ⟨rfl, rfl⟩) | (go_at_call 60; refine (has_any _ _).mono ?_; rw [show rowA (Int.toNat 12) = true from rfl, show rowB (Int.toNat 12) = false from rfl, show rowN (Int.toNat 12) = true from rfl]; rintro e w' ⟨rfl, rfl⟩))
  all_goals go_ret
  all_goals refine ⟨ret_int ?_, (by repeat (first | exact Below.refl _ _ | assumption | refine Below.drew ?_ | refine Below.alloc ?_ (by first | (simp; done) | (simp; omega)) _ | refine Below.setCell ?_ (by first | (simp; done) | (simp; omega)) _))⟩
  all_goals clear hw
  all_goals (simp_all [chkRow, withinB]; try omega)
theorem chkRef_13 (a b n : Int) (w : World) :
    Calls Tryd.prog 37 #[.agg #[.int .i64 13, .int .i64 a, .int .i64 b, .int .i64 n]] w fun e w' => e = .returned (.int .i64 (chkRow true true true 0 5 a b n)) ∧ Below w.heap.size w w' := by
  have hw : withinB 13 1 15 = true := by decide
  go_enter Tryd.func37, Tryd.ntmps37
  go_wp2_with (first | (go_at_call 15; refine (within_any _ _ _ _).mono ?_; rintro e w' ⟨rfl, rfl⟩) | (go_at_call 61; refine (register_any _ _).mono ?_; rintro e w' ⟨rfl, rfl⟩) | (go_at_call 60; refine (has_any _ _).mono ?_; rw [show rowA (Int.toNat 13) = true from rfl, show rowB (Int.toNat 13) = true from rfl, show rowN (Int.toNat 13) = true from rfl]; rintro e w' ⟨rfl, rfl⟩))
  all_goals go_ret
  all_goals refine ⟨ret_int ?_, (by repeat (first | exact Below.refl _ _ | assumption | refine Below.drew ?_ | refine Below.alloc ?_ (by first | (simp; done) | (simp; omega)) _ | refine Below.setCell ?_ (by first | (simp; done) | (simp; omega)) _))⟩
  all_goals clear hw
  all_goals (simp_all [chkRow, withinB]; try omega)
theorem chkRef_out (op a b n : Int) (w : World) (ho : op < 1 ∨ 15 < op) :
    Calls Tryd.prog 37 #[.agg #[.int .i64 op, .int .i64 a, .int .i64 b, .int .i64 n]] w fun e w' => e = .returned (.int .i64 4) ∧ Below w.heap.size w w' := by
  have hw : withinB op 1 15 = false := by unfold withinB; simp; omega
  clear ho
  go_enter Tryd.func37, Tryd.ntmps37
  go_wp2_with (go_at_call 15; refine (within_any _ _ _ _).mono ?_; rintro e w' ⟨rfl, rfl⟩)
  go_ret
  exact ⟨rfl, (by repeat (first | exact Below.refl _ _ | assumption | refine Below.drew ?_ | refine Below.alloc ?_ (by first | (simp; done) | (simp; omega)) _ | refine Below.setCell ?_ (by first | (simp; done) | (simp; omega)) _))⟩
theorem chkRef_any (op a b n : Int) (hn : in64 n) (w : World) :
    Calls Tryd.prog 37 #[.agg #[.int .i64 op, .int .i64 a, .int .i64 b, .int .i64 n]] w fun e w' => e = .returned (.int .i64 (chkI op a b n)) ∧ Below w.heap.size w w' := by
  by_cases ho : op < 1 ∨ 15 < op
  · unfold chkI; rw [if_pos ho]; exact chkRef_out op a b n w ho
  · unfold chkI; rw [if_neg ho]
    by_cases e8 : op = 8
    · subst e8; exact chkRef_8 a b n w
    by_cases e9 : op = 9
    · subst e9; exact chkRef_9 a b n w
    by_cases e12 : op = 12
    · subst e12; exact chkRef_12 a b n w
    by_cases e13 : op = 13
    · subst e13; exact chkRef_13 a b n w
    obtain ⟨k, rfl⟩ := Int.eq_ofNat_of_zero_le (show 0 ≤ op by omega)
    rw [Int.toNat_natCast]
    by_cases e1 : k = 1
    · subst e1
      exact chkRef_other 1 (by omega) (by omega) _ _ _ rfl rfl rfl a b n w (by decide) (by decide) (by decide) (by decide) _ _ hn.1 hn.2
    · have hN : rowN k = false := by
        have : ∀ k, k < 16 → (k = 1 ∨ k = 8 ∨ k = 9 ∨ k = 12 ∨ k = 13 ∨ rowN k = false) := by decide
        rcases this k (by omega) with h | h | h | h | h | h
        · exact absurd h e1
        · omega
        · omega
        · omega
        · omega
        · exact h
      have e : chkRow (rowA k) (rowB k) (rowN k) (rowLo k) (rowHi k) a b n = chkRow (rowA k) (rowB k) (rowN k) n n a b n := by
        rw [hN]; rfl
      rw [e]
      exact chkRef_other k (by omega) (by omega) _ _ _ rfl rfl rfl a b n w (by simp; omega) (by simp; omega) (by simp; omega) (by simp; omega) _ _ (Int.le_refl _) (Int.le_refl _)
end Go.Proofs.YtbhfnkbflikliaaDoor

namespace Go.Proofs.YtbhfnkbflikliaaDoor
set_option linter.unusedSimpArgs false
set_option linter.unusedVariables false
open Go.RowKit Go.Sort
structure Ins where
  op : Int
  a : Int
  b : Int
  n : Int
def Ins.v (i : Ins) : Value := .agg #[.int .i64 i.op, .int .i64 i.a, .int .i64 i.b, .int .i64 i.n]
def Ins.cells (i : Ins) : List Value := [.int .i64 i.op, .int .i64 i.a, .int .i64 i.b, .int .i64 i.n]
def Ins.ok (i : Ins) : Prop := in64 i.op ∧ in64 i.a ∧ in64 i.b ∧ in64 i.n
def Ins.chk (i : Ins) : Int := chkI i.op i.a i.b i.n
def codeC : List Ins → List Value
  | [] => []
  | i :: r => i.cells ++ codeC r
theorem codeC_at : ∀ (l : List Ins) (k j : Nat) (h : k < l.length), j < 4 → (codeC l)[k * 4 + j]? = l[k].cells[j]?
  | i :: r, 0, j, _, hj => by
    rw [codeC, List.getElem?_append_left (by simp [Ins.cells]; omega)]; simp
  | i :: r, k + 1, j, h, hj => by
    rw [codeC, List.getElem?_append_right (by simp [Ins.cells]; omega)]
    have := codeC_at r k j (by simpa using h) hj
    rw [show (k + 1) * 4 + j - i.cells.length = k * 4 + j by simp [Ins.cells]; omega, this]
    rfl
theorem code_cells {w : World} {b off : Nat} {l : List Ins} (hc : ∀ j u, (codeC l)[j]? = some u → w.cell? ⟨b, off + j, none⟩ = some u) (k : Nat) (h : k < l.length) :
    w.cell? ⟨b, off + k * 4, none⟩ = some (.int .i64 l[k].op) ∧ w.cell? ⟨b, off + k * 4 + 1, none⟩ = some (.int .i64 l[k].a) ∧ w.cell? ⟨b, off + k * 4 + 2, none⟩ = some (.int .i64 l[k].b) ∧ w.cell? ⟨b, off + k * 4 + 3, none⟩ = some (.int .i64 l[k].n) := by
  refine ⟨?_, ?_, ?_, ?_⟩
  · exact hc (k * 4) _ (by have := codeC_at l k 0 h (by decide); simpa [Ins.cells] using this)
  · exact hc (k * 4 + 1) _ (by rw [codeC_at l k 1 h (by decide)]; rfl)
  · exact hc (k * 4 + 2) _ (by rw [codeC_at l k 2 h (by decide)]; rfl)
  · exact hc (k * 4 + 3) _ (by rw [codeC_at l k 3 h (by decide)]; rfl)
def firstE : List Ins → Int
  | [] => 0
  | i :: r => if i.chk = 0 then firstE r else i.chk
def chkC (l : List Ins) : Int := if l.length < 1 ∨ 20 < l.length then 2 else firstE l
theorem firstE_at : ∀ (l : List Ins) (k : Nat) (h : k < l.length), (∀ j (hj : j < l.length), j < k → l[j].chk = 0) → l[k].chk ≠ 0 → firstE l = l[k].chk
  | i :: r, 0, _, _, hne => by rw [firstE, if_neg (show ¬ i.chk = 0 from hne)]; rfl
  | i :: r, k + 1, h, hz, hne => by
    rw [firstE, if_pos (show i.chk = 0 from hz 0 (by simp) (by omega))]
    exact firstE_at r k (by simpa using h) (fun j hj hlt => hz (j + 1) (by simpa using hj) (by omega)) hne
theorem firstE_all : ∀ l : List Ins, (∀ j (hj : j < l.length), l[j].chk = 0) → firstE l = 0
  | [], _ => rfl
  | i :: r, hz => by
    rw [firstE, if_pos (show i.chk = 0 from hz 0 (by simp))]
    exact firstE_all r (fun j hj => hz (j + 1) (by simpa using hj))
theorem firstE_zero : ∀ {l : List Ins}, firstE l = 0 → ∀ j (hj : j < l.length), l[j].chk = 0
  | i :: r, h, j, hj => by
    rw [firstE] at h
    by_cases hc : i.chk = 0
    · rw [if_pos hc] at h
      cases j with
      | zero => exact hc
      | succ j => exact firstE_zero h j (by simpa using hj)
    · rw [if_neg hc] at h; exact absurd h hc
theorem chkC_zero {l : List Ins} (h : chkC l = 0) : 1 ≤ l.length ∧ l.length ≤ 20 ∧ ∀ j (hj : j < l.length), l[j].chk = 0 := by
  unfold chkC at h
  by_cases hl : l.length < 1 ∨ 20 < l.length
  · rw [if_pos hl] at h; omega
  · rw [if_neg hl] at h
    exact ⟨by omega, by omega, firstE_zero h⟩
set_option maxHeartbeats 1000000 in
theorem codeCheck_any (l : List Ins) (v : Value) (w : World) (he : Env w) (hS : Sl w 4 v l.length (codeC l)) : Calls Tryd.prog 26 #[v] w fun e w' => e = .returned (.int .i64 (chkC l)) ∧ Below w.heap.size w w' := by
  by_cases hl : l.length < 1 ∨ 20 < l.length
  · obtain ⟨ao, cap, rfl⟩ := hS.form
    unfold chkC
    rw [if_pos hl]
    by_cases h1 : l.length < 1
    · have h1' : (l.length : Int) < 1 := by omega
      clear hl
      go_enter Tryd.func26, Tryd.ntmps26
      go_wp2
      go_ret
      exact ⟨rfl, Below.refl _ _⟩
    · have h1' : ¬ (l.length : Int) < 1 := by omega
      have h2' : (20 : Int) < l.length := by omega
      clear hl
      go_enter Tryd.func26, Tryd.ntmps26
      go_wp2
      go_ret
      exact ⟨rfl, Below.refl _ _⟩
  · unfold chkC
    rw [if_neg hl]
    have h1' : ¬ (l.length : Int) < 1 := by omega
    have h2' : ¬ (20 : Int) < l.length := by omega
    obtain ⟨b, off, cap, rfl, hcap, hbw, hc⟩ := hS.open (by omega)
    have HC := Lib.hid hc
    obtain ⟨res, hres⟩ : ∃ res, res = firstE l := ⟨_, rfl⟩
    rw [← hres]
    have HR := Lib.hid hres
    have hl20 : l.length ≤ 20 := by omega
    clear hl hc hS hres
    go_enter Tryd.func26, Tryd.ntmps26
    go_wp2
    go_loopw [16] (fun i wr => ∃ k : Nat, i = .int .i64 k ∧ k ≤ l.length ∧ Hid (∀ j (hj : j < l.length), j < k → l[j].chk = 0) ∧ Below w.heap.size w wr) (fun i _ => l.length - (intOf i).toNat)
    case atStart => exact ⟨0, rfl, Nat.zero_le _, fun j hj h => by omega, Below.refl _ _⟩
    case round =>
      obtain ⟨k, rfl, hk, HZ, hbel⟩ := hrel
      by_cases hlt : k < l.length
      · obtain ⟨c0, c1, c2, c3⟩ := code_cells HC.out k hlt
        have c0 := bcl hbel hbw c0
        have c1 := bcl hbel hbw c1
        have c2 := bcl hbel hbw c2
        have c3 := bcl hbel hbw c3
        have her := he.up hbel
        have hbr : b < wr.heap.size := Nat.lt_of_lt_of_le hbw hbel.size
        have hkc : (k : Int) < l.length := by omega
        obtain ⟨ck, hck⟩ : ∃ ck, ck = l[k].chk := ⟨_, rfl⟩
        by_cases h0 : ck = 0
        · have HCK : Hid (chkI l[k].op l[k].a l[k].b l[k].n = 0) := by show l[k].chk = 0; rw [← hck, h0]
          clear hck h0
          go_wp2_with (go_at_call 45; refine (chk_v _ _ _ _ 0 _ ?_ HCK.out).mono ?_; (exact her.up (by repeat (first | exact Below.refl _ _ | assumption | refine Below.drew ?_ | refine Below.alloc ?_ (by first | (simp; done) | (simp; omega)) _ | refine Below.setCell ?_ (by first | (simp; done) | (simp; omega)) _))); rintro e w1 ⟨rfl, hb1⟩)
          go_roundw
          case rel => exact ⟨k + 1, by go_num, by omega, fun j hj hjk => by
            by_cases e : j = k
            · subst e; exact HCK.out
            · exact HZ.out j hj (by omega), (hbel.alloc hbel.size _).trans (hb1.mono (by simp; have := hbel.size; omega))⟩
          case measure => simp [intOf]; omega
        · have HCK : Hid (chkI l[k].op l[k].a l[k].b l[k].n = ck) := by show l[k].chk = ck; rw [hck]
          have HRR : Hid (ck = res) := by
            show ck = res
            rw [HR.out, hck]; exact (firstE_at l k hlt HZ.out (by rw [← hck]; exact h0)).symm
          have h0' : (ck != 0) = true := by simpa using h0
          clear hck h0
          go_wp2_with (go_at_call 45; refine (chk_v _ _ _ _ ck _ ?_ HCK.out).mono ?_; (exact her.up (by repeat (first | exact Below.refl _ _ | assumption | refine Below.drew ?_ | refine Below.alloc ?_ (by first | (simp; done) | (simp; omega)) _ | refine Below.setCell ?_ (by first | (simp; done) | (simp; omega)) _))); rintro e w1 ⟨rfl, hb1⟩)
          go_ret
          exact ⟨ret_int HRR.out, (hbel.alloc hbel.size _).trans (hb1.mono (by simp; have := hbel.size; omega))⟩
      · have hkc : ¬ (k : Int) < l.length := by omega
        have HRR : Hid ((0 : Int) = res) := by
          show (0 : Int) = res
          rw [HR.out]; exact (firstE_all l (fun j hj => HZ.out j hj (by omega))).symm
        go_wp2
        go_ret
        exact ⟨ret_int HRR.out, hbel⟩
end Go.Proofs.YtbhfnkbflikliaaDoor

namespace Go.Proofs.YtbhfnkbflikliaaDoor
set_option linter.unusedSimpArgs false
set_option linter.unusedVariables false
open Go.RowKit Go.Sort
end Go.Proofs.YtbhfnkbflikliaaDoor

namespace Go.Proofs.YtbhfnkbflikliaaDoor
set_option linter.unusedSimpArgs false
set_option linter.unusedVariables false
open Go.RowKit Go.Sort
set_option maxHeartbeats 1000000 in
theorem codeRef_any (l : List Ins) (hok : ∀ j (hj : j < l.length), l[j].ok) (v : Value) (w : World) (hS : Sl w 4 v l.length (codeC l)) : Calls Tryd.prog 16 #[v] w fun e w' => e = .returned (.int .i64 (chkC l)) ∧ Below w.heap.size w w' := by
  by_cases hl : l.length < 1 ∨ 20 < l.length
  · obtain ⟨ao, cap, rfl⟩ := hS.form
    unfold chkC
    rw [if_pos hl]
    have hw : withinB l.length 1 20 = false := by unfold withinB; simp; omega
    clear hl
    go_enter Tryd.func16, Tryd.ntmps16
    go_wp2_with (go_at_call 15; refine (within_any _ _ _ _).mono ?_; rintro e w' ⟨rfl, rfl⟩)
    go_ret
    exact ⟨rfl, Below.refl _ _⟩
  · unfold chkC
    rw [if_neg hl]
    have hw : withinB l.length 1 20 = true := by unfold withinB; simp; omega
    obtain ⟨b, off, cap, rfl, hcap, hbw, hc⟩ := hS.open (by omega)
    have HC := Lib.hid hc
    obtain ⟨res, hres⟩ : ∃ res, res = firstE l := ⟨_, rfl⟩
    rw [← hres]
    have HR := Lib.hid hres
    have hl20 : l.length ≤ 20 := by omega
    have HOK := Lib.hid hok
    clear hl hc hS hres hok
    go_enter Tryd.func16, Tryd.ntmps16
    go_wp2_with (go_at_call 15; refine (within_any _ _ _ _).mono ?_; rintro e w' ⟨rfl, rfl⟩)
    go_loopw [3] (fun i wr => ∃ k : Nat, i = .int .i64 k ∧ k ≤ l.length ∧ Hid (∀ j (hj : j < l.length), j < k → l[j].chk = 0) ∧ Below w'.heap.size w' wr) (fun i _ => l.length - (intOf i).toNat)
    case atStart => exact ⟨0, rfl, Nat.zero_le _, fun j hj h => by omega, Below.refl _ _⟩
    case round =>
      obtain ⟨k, rfl, hk, HZ, hbel⟩ := hrel
      by_cases hlt : k < l.length
      · obtain ⟨c0, c1, c2, c3⟩ := code_cells HC.out k hlt
        have c0 := bcl hbel hbw c0
        have c1 := bcl hbel hbw c1
        have c2 := bcl hbel hbw c2
        have c3 := bcl hbel hbw c3
        have hbr : b < wr.heap.size := Nat.lt_of_lt_of_le hbw hbel.size
        have hkc : (k : Int) < l.length := by omega
        have hin := (HOK.out k hlt).2.2.2
        obtain ⟨ck, hck⟩ : ∃ ck, ck = l[k].chk := ⟨_, rfl⟩
        by_cases h0 : ck = 0
        · have HCK : Hid (chkI l[k].op l[k].a l[k].b l[k].n = 0) := by show l[k].chk = 0; rw [← hck, h0]
          clear hck h0
          go_wp2_with (go_at_call 37; refine (chkRef_any _ _ _ _ hin _).mono ?_; rw [HCK.out]; rintro e w1 ⟨rfl, hb1⟩)
          go_roundw
          case rel => exact ⟨k + 1, by go_num, by omega, fun j hj hjk => by
            by_cases e : j = k
            · subst e; exact HCK.out
            · exact HZ.out j hj (by omega), hbel.trans (hb1.mono hbel.size)⟩
          case measure => simp [intOf]; omega
        · have HCK : Hid (chkI l[k].op l[k].a l[k].b l[k].n = ck) := by show l[k].chk = ck; rw [hck]
          have HRR : Hid (ck = res) := by
            show ck = res
            rw [HR.out, hck]; exact (firstE_at l k hlt HZ.out (by rw [← hck]; exact h0)).symm
          have h0' : (ck != 0) = true := by simpa using h0
          clear hck h0
          go_wp2_with (go_at_call 37; refine (chkRef_any _ _ _ _ hin _).mono ?_; rw [HCK.out]; rintro e w1 ⟨rfl, hb1⟩)
          go_ret
          exact ⟨ret_int HRR.out, hbel.trans (hb1.mono hbel.size)⟩
      · have hkc : ¬ (k : Int) < l.length := by omega
        have HRR : Hid ((0 : Int) = res) := by
          show (0 : Int) = res
          rw [HR.out]; exact (firstE_all l (fun j hj => HZ.out j hj (by omega))).symm
        go_wp2
        go_ret
        exact ⟨ret_int HRR.out, hbel⟩
end Go.Proofs.YtbhfnkbflikliaaDoor

namespace Go.Proofs.YtbhfnkbflikliaaDoor
set_option linter.unusedSimpArgs false
set_option linter.unusedVariables false
open Go.RowKit Go.Sort
def tellerL : List Ins := [⟨13, 0, 1, 0⟩, ⟨9, 1, 0, 0⟩, ⟨11, 0, 0, 0⟩, ⟨12, 0, 0, 1⟩, ⟨8, 0, 0, 0⟩]
end Go.Proofs.YtbhfnkbflikliaaDoor

namespace Go.Proofs.YtbhfnkbflikliaaDoor
set_option linter.unusedSimpArgs false
set_option linter.unusedVariables false
open Go.RowKit Go.Sort
def hasC (l : List Ins) (op : Int) (c : Nat) : Bool := l.any fun i => i.op == op && i.n == (c : Int)
theorem hasC_snoc (l : List Ins) (i : Ins) (op : Int) (c : Nat) : hasC (l ++ [i]) op c = (hasC l op c || (i.op == op && i.n == (c : Int))) := by simp [hasC]
theorem take_snoc' {α : Type} (l : List α) (k : Nat) (h : k < l.length) : l.take (k + 1) = l.take k ++ [l[k]] := List.take_succ_eq_append_getElem h
def chanL (l : List Ins) (op : Int) (m : Nat) : List Int := ((List.range m).filter (hasC l op)).map fun c : Nat => (c : Int)
theorem chanL_succ (l : List Ins) (op : Int) (m : Nat) : chanL l op (m + 1) = chanL l op m ++ (if hasC l op m then [(m : Int)] else []) := by
  unfold chanL
  rw [List.range_succ, List.filter_append, List.map_append]
  congr 1
  cases h : hasC l op m <;> simp [h]
theorem chanL_len (l : List Ins) (op : Int) (m : Nat) : (chanL l op m).length ≤ m := by
  unfold chanL
  rw [List.length_map]
  exact Nat.le_trans (List.length_filter_le _ _) (by simp)
theorem run_index6 (cs : Array Value) (c : Nat) (v : Value) (h : cs[c]? = some v) (hc : c < 6) (w : World) : (Instr.index 116 (.agg cs) (.int .i64 c)).run Tryd.prog w = .ok v w := by
  have hc' : (c : Int) < 6 := by omega
  simp [Instr.index, run_underlying Tryd.underlying116, asIntOf, go_sem, hc', h]
  intro h6; omega
theorem six_at (f : Nat → Bool) (c : Nat) (h : c < 6) : (#[Value.bool (f 0), .bool (f 1), .bool (f 2), .bool (f 3), .bool (f 4), .bool (f 5)])[c]? = some (.bool (f c)) := by
  match c, h with
  | 0, _ => rfl
  | 1, _ => rfl
  | 2, _ => rfl
  | 3, _ => rfl
  | 4, _ => rfl
  | 5, _ => rfl
theorem info3 : (Tryd.prog.info? 3).map (fun i => (i.zero, i.size, i.bytes)) = some (some (.int .i64 0), 1, 8) := by kernel_rfl
theorem int_cell (z : Int) : ∀ u ∈ [Value.int .i64 z], u.oneCell' = true := by
  intro u hu; simp at hu; subst hu; rfl
theorem ints_step {w wr w1 : World} {v v' : Value} {zs : List Int} {z : Int} {o : Obj} (hbel : Below w.heap.size w wr) (hown0 : wr.ownsRow w.heap.size 3 1 v zs.length (ints zs))
    (hown1 : w1.ownsRow w.heap.size 3 1 v' (zs.length + 1) (ints zs ++ [.int .i64 z])) (hgrow : (wr.alloc o).grownBy w1 v.ownBlock) :
    w1.ownsRow w.heap.size 3 1 v' (zs ++ [z]).length (ints (zs ++ [z])) ∧ Below w.heap.size w w1 := by
  refine ⟨by simpa [ints] using hown1, ?_⟩
  exact (hbel.alloc hbel.size o).grown hgrow (by have := hbel.size; simp; omega) (own_block hown0)
theorem chk_chan {i : Ins} (h : i.chk = 0) (ho : i.op = 12 ∨ i.op = 13) : 0 ≤ i.n ∧ i.n < 6 := by
  have hN : rowN i.op.toNat = true := by rcases ho with e | e <;> rw [e] <;> rfl
  have hL : rowLo i.op.toNat = 0 := by rcases ho with e | e <;> rw [e] <;> rfl
  have hH : rowHi i.op.toNat = 5 := by rcases ho with e | e <;> rw [e] <;> rfl
  unfold Ins.chk chkI at h
  rw [if_neg (by omega)] at h
  unfold chkRow at h
  rw [hN, hL, hH] at h
  split at h
  · omega
  · rename_i hc
    simp only [Bool.or_eq_true, Bool.and_eq_true, Bool.true_and, decide_eq_true_eq, not_or] at hc
    omega
structure Marks (w wr : World) (A : Nat) (l : List Ins) (op : Int) : Prop where
  c : ∀ j, j < 6 → wr.cell? ⟨A, j, none⟩ = some (.bool (hasC l op j))
  f : ∀ j, wr.frozen? ⟨A, j, none⟩ = false
  lt : A < wr.heap.size
  ge : w.heap.size ≤ A
  up : Below w.heap.size w wr
theorem Marks.go {w wr w2 : World} {A : Nat} {l : List Ins} {op : Int} (h : Marks w wr A l op) (hb : Below wr.heap.size wr w2) : Marks w w2 A l op :=
  ⟨fun j hj => bcl hb h.lt (h.c j hj), fun j => bfr hb h.lt (h.f j), Nat.lt_of_lt_of_le h.lt hb.size, h.ge, h.up.trans (hb.mono h.up.size)⟩
theorem Marks.hit {w wr : World} {A : Nat} {l : List Ins} {op : Int} {i : Ins} (h : Marks w wr A l op) (hop : (i.op == op) = true) (m : Nat) (hm : i.n = m) (h6 : m < 6) : Marks w (wr.setCell ⟨A, m, none⟩ (.bool true)) A (l ++ [i]) op := by
  refine ⟨fun j hj => ?_, fun j => fr_set (h.f j), by rw [size_set]; exact h.lt, h.ge, h.up.setCell h.ge _⟩
  rw [hasC_snoc, hop, hm]
  by_cases e : j = m
  · subst e
    rw [cl_same (h.c j hj)]; simp
  · rw [cl_set (Or.inr e) (h.c j hj)]
    have : ((m : Int) == (j : Int)) = false := by simp; omega
    rw [this]; simp
theorem Marks.miss {w wr : World} {A : Nat} {l : List Ins} {op : Int} {i : Ins} (h : Marks w wr A l op) (hop : (i.op == op) = false) : Marks w wr A (l ++ [i]) op :=
  ⟨fun j hj => by rw [hasC_snoc, hop]; simpa using h.c j hj, h.f, h.lt, h.ge, h.up⟩
set_option maxRecDepth 100000 in
set_option maxHeartbeats 2000000 in
theorem channels_yes (l : List Ins) (op : Int) (hop : op = 12 ∨ op = 13) (v : Value) (w : World) (he : Env w) (hS : Sl w 4 v l.length (codeC l)) (hc0 : chkC l = 0) :
    Calls Tryd.prog 69 #[v, .int .i64 op] w fun e w' => ∃ v', e = .returned (.tuple #[v', .int .i64 0]) ∧ w'.ownsRow w.heap.size 3 1 v' (chanL l op 6).length (ints (chanL l op 6)) ∧ Below w.heap.size w w' := by
  obtain ⟨hl1, hl20, hz⟩ := chkC_zero hc0
  obtain ⟨i0, hi, hz0, hz1, hz2⟩ := info_parts info3
  obtain ⟨b, off, cap, rfl, hcap, hbw, hc⟩ := hS.open (by omega)
  have HS := Lib.hid hS
  have HC := Lib.hid hc
  have HZ := Lib.hid hz
  have H0 := Lib.hid hc0
  have HO := Lib.hid hop
  clear hS hc hz hc0 hop
  go_enter Tryd.func69, Tryd.ntmps69
  go_wp2_with (go_at_call 26; refine (codeCheck_any l _ _ he HS.out).mono ?_; rw [H0.out]; rintro e w1 ⟨rfl, hb1⟩; refine Hid.out ?_)
  have hbw1 : b < w1.heap.size := Nat.lt_of_lt_of_le hbw hb1.size
  have HC1 : Hid (∀ j u, (codeC l)[j]? = some u → w1.cell? ⟨b, off + j, none⟩ = some u) := fun j u hj => bcl hb1 hbw (HC.out j u hj)
  have HM : Hid (Marks w (w1.alloc (.cells #[.bool false, .bool false, .bool false, .bool false, .bool false, .bool false] 116)) w1.heap.size [] op) := by
    refine ⟨fun j hj => ?_, fun j => by simp, by simp, hb1.size, hb1.alloc hb1.size _⟩
    rw [World.cell?_alloc_new]
    match j, hj with
    | 0, _ => rfl
    | 1, _ => rfl
    | 2, _ => rfl
    | 3, _ => rfl
    | 4, _ => rfl
    | 5, _ => rfl
  clear hb1
  refine Lib.hid ?_
  go_wp2
  go_loopw [20] (fun i wr => ∃ k : Nat, i = .int .i64 k ∧ k ≤ l.length ∧ Hid (Marks w wr w1.heap.size (l.take k) op) ∧ Hid (Below w1.heap.size w1 wr)) (fun i _ => l.length - (intOf i).toNat)
  case atStart => exact ⟨0, rfl, Nat.zero_le _, HM, Below.alloc (Below.refl _ _) (Nat.le_refl _) _⟩
  case round =>
    obtain ⟨k, rfl, hk, HK, HB⟩ := hrel
    by_cases hlt : k < l.length
    · obtain ⟨c0, c1, c2, c3⟩ := code_cells HC1.out k hlt
      have c0 := bcl HB.out hbw1 c0
      have c1 := bcl HB.out hbw1 c1
      have c2 := bcl HB.out hbw1 c2
      have c3 := bcl HB.out hbw1 c3
      have hbr : b < wr.heap.size := Nat.lt_of_lt_of_le hbw1 HB.out.size
      have hAr := HK.out.lt
      have i1 : (k : Int) < l.length := by omega
      have HT := Lib.hid (take_snoc' l k hlt)
      generalize hq : (l[k].op == op) = q
      cases q
      · have HM2 := Lib.hid ((HK.out.miss hq).go (w2 := wr.alloc (.cells #[.int .i64 l[k].op, .int .i64 l[k].a, .int .i64 l[k].b, .int .i64 l[k].n] 59)) ((Below.refl _ _).alloc (Nat.le_refl _) _))
        go_wp2
        go_roundw
        case rel => exact ⟨k + 1, by go_num, by omega, by rw [HT.out]; exact HM2, HB.out.alloc HB.out.size _⟩
        case measure => simp [intOf]; omega
      · obtain ⟨m, hm, hm6⟩ : ∃ m : Nat, l[k].n = m ∧ m < 6 := by
          have e : l[k].op = op := by simpa using hq
          have := chk_chan (HZ.out k hlt) (by rw [e]; exact HO.out)
          exact ⟨l[k].n.toNat, by omega, by omega⟩
        have HM2 := Lib.hid ((HK.out.hit hq m hm hm6).go (w2 := (wr.setCell ⟨w1.heap.size, m, none⟩ (.bool true)).alloc (.cells #[.int .i64 l[k].op, .int .i64 l[k].a, .int .i64 l[k].b, .int .i64 (m : Int)] 59)) ((Below.refl _ _).alloc (Nat.le_refl _) _))
        rw [hm] at c3
        have fA := HK.out.f m
        have cA := HK.out.c m hm6
        have i2 : (m : Int) < 6 := by omega
        have i3 : (0 : Int) ≤ m := by omega
        clear hm
        go_wp2
        go_roundw
        case rel => exact ⟨k + 1, by go_num, by omega, by rw [HT.out]; exact HM2, (HB.out.setCell (Nat.le_refl _) _).alloc (by rw [size_set]; exact HB.out.size) _⟩
        case measure => simp [intOf]; omega
    · obtain rfl : k = l.length := by omega
      have hm := HK.out
      rw [List.take_length] at hm
      have a0 := hm.c 0 (by decide)
      have a1 := hm.c 1 (by decide)
      have a2 := hm.c 2 (by decide)
      have a3 := hm.c 3 (by decide)
      have a4 := hm.c 4 (by decide)
      have a5 := hm.c 5 (by decide)
      have hup := hm.up
      have HU := Lib.hid hup
      clear hm HK HM hup HC1
      have i1 : ¬ ((l.length : Int) < l.length) := by omega
      obtain ⟨wo, rfl⟩ : ∃ wo : World, wo = wr := ⟨_, rfl⟩
      go_wp2
      go_loopw [10, 33] (fun o i wr => ∃ (c : Nat) (zs : List Int), i = .int .i64 c ∧ c ≤ 6 ∧ Hid (zs = chanL l op c) ∧ zs.length ≤ c ∧ wr.ownsRow w.heap.size 3 1 o zs.length (ints zs) ∧ Below w.heap.size w wr) (fun _ i _ => 6 - (intOf i).toNat)
      case atStart => exact ⟨0, [], rfl, by omega, (show [] = chanL l op 0 from rfl), Nat.le_refl _, World.ownsRow_nil _ _ _ _, HU⟩
      case round =>
        obtain ⟨c, zs, rfl, hcc, HZZ, hzl, hown, hbel⟩ := hrel
        obtain ⟨ao, cp, rfl⟩ := own_form hown
        have hbs := hbel.size
        by_cases hlt : c < 6
        · have HC1 := Lib.hid (chanL_succ l op c)
          have hix := run_index6 _ c _ (six_at (hasC l op) c hlt) hlt
          have hlc : (c : Int) < 6 := by omega
          generalize hqb : hasC l op c = qb at hix
          cases qb
          · have HZ2 : Hid (zs = chanL l op (c + 1)) := by
              show zs = _
              rw [HC1.out, hqb, HZZ.out]; simp
            clear hqb HC1 HZZ a0 a1 a2 a3 a4 a5
            go_wp2
            go_roundw
            case rel => exact ⟨c + 1, zs, by go_num, by omega, HZ2, by omega, hown, hbel⟩
            case measure => simp [intOf]; omega
          · have HZ2 : Hid (zs ++ [(c : Int)] = chanL l op (c + 1)) := by
              show _ = _
              rw [HC1.out, hqb, HZZ.out]; simp
            clear hqb HC1 HZZ a0 a1 a2 a3 a4 a5
            go_wp2_with (at_builtin; refine wpList_append_lies _ rfl (.tmp 38) (.tmp 40) 49 rfl w.heap.size 3 i0 (.int .i64 0) 1 8 Tryd.underlying49 hi hz0 hz1 hz2 rfl (by decide) (.slice ao zs.length cp) zs.length (ints zs) rfl (hown.alloc _) ⟨_, 0, none⟩ 1 1 [.int .i64 c] rfl rfl (one_new _ _ 3) (int_cell _) (by decide) (by unfold maxLen; omega) (by omega) (by simp; omega) _ rfl ?_; intro g cap1 w2 hown1 hgrow hat hglt)
            have R := ints_step hbel hown hown1 hgrow
            clear hown1 hgrow hown hat
            go_wp2
            go_roundw
            case rel => exact ⟨c + 1, zs ++ [(c : Int)], by go_num, by omega, HZ2, by simp; omega, R.1, R.2⟩
            case measure => simp [intOf]; omega
        · have hlc : ¬ (c : Int) < 6 := by omega
          obtain rfl : c = 6 := by omega
          go_wp2
          go_ret2
          exact ⟨_, rfl, by rw [← HZZ.out]; exact hown, hbel⟩
theorem puts_yes (l : List Ins) (v : Value) (w : World) (he : Env w) (hS : Sl w 4 v l.length (codeC l)) (hc0 : chkC l = 0) :
    Calls Tryd.prog 50 #[v] w fun e w' => ∃ v', e = .returned (.tuple #[v', .int .i64 0]) ∧ Sl w' 1 v' (chanL l 12 6).length (ints (chanL l 12 6)) ∧ Below w.heap.size w w' := by
  go_enter Tryd.func50, Tryd.ntmps50
  go_wp2_with (go_at_call 69; refine (channels_yes l 12 (Or.inl rfl) v _ he hS hc0).mono ?_; rintro e w1 ⟨v', rfl, hown, hb1⟩)
  go_ret2
  exact ⟨v', rfl, own_sl hown, hb1⟩
theorem gets_yes (l : List Ins) (v : Value) (w : World) (he : Env w) (hS : Sl w 4 v l.length (codeC l)) (hc0 : chkC l = 0) :
    Calls Tryd.prog 53 #[v] w fun e w' => ∃ v', e = .returned (.tuple #[v', .int .i64 0]) ∧ Sl w' 1 v' (chanL l 13 6).length (ints (chanL l 13 6)) ∧ Below w.heap.size w w' := by
  go_enter Tryd.func53, Tryd.ntmps53
  go_wp2_with (go_at_call 69; refine (channels_yes l 13 (Or.inr rfl) v _ he hS hc0).mono ?_; rintro e w1 ⟨v', rfl, hown, hb1⟩)
  go_ret2
  exact ⟨v', rfl, own_sl hown, hb1⟩
end Go.Proofs.YtbhfnkbflikliaaDoor

namespace Go.Proofs.YtbhfnkbflikliaaDoor
set_option linter.unusedSimpArgs false
set_option linter.unusedVariables false
open Go.RowKit Go.Sort
def rowC {α : Type} (f : α → List Value) (l : List α) : List Value := l.flatMap f
theorem rowC_len {α : Type} {f : α → List Value} {s : Nat} (hs : ∀ x, (f x).length = s) : ∀ l : List α, (rowC f l).length = l.length * s
  | [] => by simp [rowC]
  | x :: r => by
    have := rowC_len hs r
    unfold rowC at this ⊢
    rw [List.flatMap_cons, List.length_append, this, hs x, List.length_cons, Nat.succ_mul]; omega
theorem rowC_at {α : Type} {f : α → List Value} {s : Nat} (hs : ∀ x, (f x).length = s) : ∀ (l : List α) (k j : Nat) (h : k < l.length), j < s → (rowC f l)[k * s + j]? = (f l[k])[j]?
  | x :: r, 0, j, _, hj => by
    unfold rowC
    rw [List.flatMap_cons, List.getElem?_append_left (by rw [hs]; omega)]; simp
  | x :: r, k + 1, j, h, hj => by
    have := rowC_at hs r k j (by simpa using h) hj
    unfold rowC at this ⊢
    rw [List.flatMap_cons, List.getElem?_append_right (by rw [hs, Nat.succ_mul]; omega)]
    rw [show (k + 1) * s + j - (f x).length = k * s + j by rw [hs, Nat.succ_mul]; omega, this]
    rfl
end Go.Proofs.YtbhfnkbflikliaaDoor

namespace Go.Proofs.YtbhfnkbflikliaaDoor
set_option linter.unusedSimpArgs false
set_option linter.unusedVariables false
open Go.RowKit Go.Sort
structure Chn where
  kd : Int
  fr : Int
  tt : Int
structure Slt where
  pt : Int
  tk : Int
structure Prt where
  code : List Ins
  inn : List Int
structure SysD where
  parts : List Prt
  chans : List Chn
  slots : List Slt
def chC (c : Chn) : List Value := [.int .i64 c.kd, .int .i64 c.fr, .int .i64 c.tt]
def slC (c : Slt) : List Value := [.int .i64 c.pt, .int .i64 c.tk]
def prC (p : Value × Value) : List Value := [p.1, p.2]
theorem chan_cells {w : World} {b off : Nat} {l : List Chn} (hc : ∀ j u, (rowC chC l)[j]? = some u → w.cell? ⟨b, off + j, none⟩ = some u) (k : Nat) (h : k < l.length) :
    w.cell? ⟨b, off + k * 3, none⟩ = some (.int .i64 l[k].kd) ∧ w.cell? ⟨b, off + k * 3 + 1, none⟩ = some (.int .i64 l[k].fr) ∧ w.cell? ⟨b, off + k * 3 + 2, none⟩ = some (.int .i64 l[k].tt) := by
  refine ⟨?_, ?_, ?_⟩
  · exact hc (k * 3) _ (by have := rowC_at (s := 3) (f := chC) (fun _ => rfl) l k 0 h (by decide); simpa [chC] using this)
  · exact hc (k * 3 + 1) _ (by rw [rowC_at (s := 3) (f := chC) (fun _ => rfl) l k 1 h (by decide)]; rfl)
  · exact hc (k * 3 + 2) _ (by rw [rowC_at (s := 3) (f := chC) (fun _ => rfl) l k 2 h (by decide)]; rfl)
theorem slot_cells {w : World} {b off : Nat} {l : List Slt} (hc : ∀ j u, (rowC slC l)[j]? = some u → w.cell? ⟨b, off + j, none⟩ = some u) (k : Nat) (h : k < l.length) :
    w.cell? ⟨b, off + k * 2, none⟩ = some (.int .i64 l[k].pt) ∧ w.cell? ⟨b, off + k * 2 + 1, none⟩ = some (.int .i64 l[k].tk) := by
  refine ⟨?_, ?_⟩
  · exact hc (k * 2) _ (by have := rowC_at (s := 2) (f := slC) (fun _ => rfl) l k 0 h (by decide); simpa [slC] using this)
  · exact hc (k * 2 + 1) _ (by rw [rowC_at (s := 2) (f := slC) (fun _ => rfl) l k 1 h (by decide)]; rfl)
theorem part_cells {w : World} {b off : Nat} {l : List (Value × Value)} (hc : ∀ j u, (rowC prC l)[j]? = some u → w.cell? ⟨b, off + j, none⟩ = some u) (k : Nat) (h : k < l.length) :
    w.cell? ⟨b, off + k * 2, none⟩ = some l[k].1 ∧ w.cell? ⟨b, off + k * 2 + 1, none⟩ = some l[k].2 := by
  refine ⟨?_, ?_⟩
  · exact hc (k * 2) _ (by have := rowC_at (s := 2) (f := prC) (fun _ => rfl) l k 0 h (by decide); simpa [prC] using this)
  · exact hc (k * 2 + 1) _ (by rw [rowC_at (s := 2) (f := prC) (fun _ => rfl) l k 1 h (by decide)]; rfl)
structure PrtR (w : World) (c i : Value) (p : Prt) : Prop where
  code : Sl w 4 c p.code.length (codeC p.code)
  inn : Sl w 1 i p.inn.length (ints p.inn)
theorem PrtR.up {w w' : World} {c i : Value} {p : Prt} (h : PrtR w c i p) (hb : Below w.heap.size w w') : PrtR w' c i p := ⟨h.code.up hb, h.inn.up hb⟩
def PartsR (w : World) (v : Value) (ps : List Prt) : Prop :=
  ∃ vs : List (Value × Value), vs.length = ps.length ∧ Sl w 2 v ps.length (rowC prC vs) ∧ ∀ k (hk : k < ps.length) (hk' : k < vs.length), PrtR w vs[k].1 vs[k].2 ps[k]
theorem PartsR.up {w w' : World} {v : Value} {ps : List Prt} (h : PartsR w v ps) (hb : Below w.heap.size w w') : PartsR w' v ps := by
  obtain ⟨vs, h1, h2, h3⟩ := h
  exact ⟨vs, h1, h2.up hb, fun k hk hk' => (h3 k hk hk').up hb⟩
theorem PartsR.form {w : World} {v : Value} {ps : List Prt} (h : PartsR w v ps) : ∃ ao cap, v = .slice ao ps.length cap := by
  obtain ⟨vs, h1, h2, h3⟩ := h
  exact h2.form
theorem PartsR.open {w : World} {v : Value} {ps : List Prt} (h : PartsR w v ps) (hn : 0 < ps.length) :
    ∃ b off cap, v = .slice (some ⟨b, off, none⟩) ps.length cap ∧ ps.length ≤ cap ∧ b < w.heap.size ∧ ∀ k (hk : k < ps.length), ∃ c i, w.cell? ⟨b, off + k * 2, none⟩ = some c ∧ w.cell? ⟨b, off + k * 2 + 1, none⟩ = some i ∧ PrtR w c i ps[k] := by
  obtain ⟨vs, h1, h2, h3⟩ := h
  obtain ⟨b, off, cap, e, hcap, hb, hc⟩ := h2.open hn
  refine ⟨b, off, cap, e, hcap, hb, fun k hk => ?_⟩
  have hk' : k < vs.length := by omega
  obtain ⟨c0, c1⟩ := part_cells hc k hk'
  exact ⟨_, _, c0, c1, h3 k hk hk'⟩
structure Sys (w : World) (vp vc vs : Value) (S : SysD) : Prop where
  p : PartsR w vp S.parts
  c : Sl w 3 vc S.chans.length (rowC chC S.chans)
  s : Sl w 2 vs S.slots.length (rowC slC S.slots)
theorem Sys.up {w w' : World} {vp vc vs : Value} {S : SysD} (h : Sys w vp vc vs S) (hb : Below w.heap.size w w') : Sys w' vp vc vs S := ⟨h.p.up hb, h.c.up hb, h.s.up hb⟩
def SysD.ok (S : SysD) : Prop := ∀ p ∈ S.parts, ∀ j (hj : j < p.code.length), p.code[j].ok
def countsB (S : SysD) : Bool := decide (1 ≤ S.parts.length ∧ S.parts.length ≤ 4 ∧ S.chans.length ≤ 6 ∧ 1 ≤ S.slots.length ∧ S.slots.length ≤ 6) && !(S.parts.any fun p => decide (12 < p.inn.length))
def firstP : List Prt → Int
  | [] => 0
  | p :: r => if chkC p.code = 0 then firstP r else chkC p.code
theorem firstP_at : ∀ (l : List Prt) (k : Nat) (h : k < l.length), (∀ j (hj : j < l.length), j < k → chkC l[j].code = 0) → chkC l[k].code ≠ 0 → firstP l = chkC l[k].code
  | i :: r, 0, _, _, hne => by rw [firstP, if_neg (show ¬ chkC i.code = 0 from hne)]; rfl
  | i :: r, k + 1, h, hz, hne => by
    rw [firstP, if_pos (show chkC i.code = 0 from hz 0 (by simp) (by omega))]
    exact firstP_at r k (by simpa using h) (fun j hj hlt => hz (j + 1) (by simpa using hj) (by omega)) hne
theorem firstP_all : ∀ l : List Prt, (∀ j (hj : j < l.length), chkC l[j].code = 0) → firstP l = 0
  | [], _ => rfl
  | i :: r, hz => by
    rw [firstP, if_pos (show chkC i.code = 0 from hz 0 (by simp))]
    exact firstP_all r (fun j hj => hz (j + 1) (by simpa using hj))
theorem firstP_zero : ∀ {l : List Prt}, firstP l = 0 → ∀ j (hj : j < l.length), chkC l[j].code = 0
  | i :: r, h, j, hj => by
    rw [firstP] at h
    by_cases hc : chkC i.code = 0
    · rw [if_pos hc] at h
      cases j with
      | zero => exact hc
      | succ j => exact firstP_zero h j (by simpa using hj)
    · rw [if_neg hc] at h; exact absurd h hc
def kindBad (c : Chn) : Bool := c.kd != 1 && c.kd != 2
def placeBad (n : Nat) (c : Chn) : Bool := !(withinB c.fr 0 (n - 1)) || !(withinB c.tt 0 (n - 1)) || c.fr == c.tt
def slotBad (n : Nat) (t : Slt) : Bool := !(withinB t.pt 0 (n - 1)) || !(withinB t.tk 1 8)
def placesB (S : SysD) : Bool := !(S.chans.any (placeBad S.parts.length)) && !(S.slots.any (slotBad S.parts.length))
def putBad (l : List Chn) (me : Int) (c : Int) : Bool := match l[c.toNat]? with | none => true | some x => x.fr != me
def getBad (l : List Chn) (me : Int) (c : Int) : Bool := match l[c.toNat]? with | none => true | some x => x.tt != me
def nameBad (l : List Chn) (me : Int) (p : Prt) : Bool := (chanL p.code 12 6).any (putBad l me) || (chanL p.code 13 6).any (getBad l me)
def namesFrom (l : List Chn) : Nat → List Prt → Bool
  | _, [] => true
  | k, p :: r => if nameBad l k p then false else namesFrom l (k + 1) r
def namesB (S : SysD) : Bool := namesFrom S.chans 0 S.parts
def chkS (S : SysD) : Int :=
  if countsB S = false then 2 else if firstP S.parts ≠ 0 then firstP S.parts else if S.chans.any kindBad = true then 4 else if placesB S = false then 3 else if namesB S = false then 1 else 0
end Go.Proofs.YtbhfnkbflikliaaDoor
