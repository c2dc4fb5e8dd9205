/- Small laws on what a world's cells hold behind new blocks, stores and calls that keep what was there. -/
import Derived.WalkKit
import Derived.WalkSmall
import Derived.Outline
import Derived.Sort.Grow
import Derived.Lib.Hide
import Derived.Deep.AppendLies
import Derived.Deep.LoopGhost
import Derived.Test.YthpljbbhpbijgaaDoorProg
namespace Go.Proofs.YthpljbbhpbijgaaDoor
set_option linter.unusedSimpArgs false
set_option linter.unusedVariables false
open Go.RowKit

theorem bcl {B : Nat} {w w' : World} {b i : Nat} {v : Value} (h : Below B w w') (hb : b < B) (hc : w.cell? ⟨b, i, none⟩ = some v) : w'.cell? ⟨b, i, none⟩ = some v := (h.cell (p := ⟨b, i, none⟩) hb).trans hc
theorem bfr {B : Nat} {w w' : World} {b i : Nat} (h : Below B w w') (hb : b < B) (hc : w.frozen? ⟨b, i, none⟩ = false) : w'.frozen? ⟨b, i, none⟩ = false := (h.frozen (p := ⟨b, i, none⟩) hb).trans hc
theorem cl_alloc {w : World} {b i : Nat} {v : Value} (o : Obj) (hb : b < w.heap.size) (h : w.cell? ⟨b, i, none⟩ = some v) : (w.alloc o).cell? ⟨b, i, none⟩ = some v := (World.cell?_alloc_lt w o ⟨b, i, none⟩ hb).trans h
theorem fr_alloc {w : World} {b i : Nat} (o : Obj) (hb : b < w.heap.size) (h : w.frozen? ⟨b, i, none⟩ = false) : (w.alloc o).frozen? ⟨b, i, none⟩ = false := (World.frozen?_alloc_old w o ⟨b, i, none⟩ (by simp; omega)).trans h
theorem cl_set {w : World} {b i c j : Nat} {v u : Value} (hne : b ≠ c ∨ i ≠ j) (h : w.cell? ⟨b, i, none⟩ = some v) : (w.setCell ⟨c, j, none⟩ u).cell? ⟨b, i, none⟩ = some v :=
  (World.cell?_setCell_other w _ _ _ (by intro e; simp at e; omega)).trans h
theorem cl_same {w : World} {b i : Nat} {v u : Value} (h : w.cell? ⟨b, i, none⟩ = some v) : (w.setCell ⟨b, i, none⟩ u).cell? ⟨b, i, none⟩ = some u := World.cell?_setCell_same w _ _ h
theorem fr_set {w : World} {b i c j : Nat} {u : Value} (h : w.frozen? ⟨b, i, none⟩ = false) : (w.setCell ⟨c, j, none⟩ u).frozen? ⟨b, i, none⟩ = false := (World.frozen?_setCell w _ _ _).trans h
theorem size_set (w : World) (a : Addr) (u : Value) : (w.setCell a u).heap.size = w.heap.size := by simp [World.setCell]
end Go.Proofs.YthpljbbhpbijgaaDoor

namespace Go.Proofs.YthpljbbhpbijgaaDoor
set_option linter.unusedSimpArgs false
set_option linter.unusedVariables false
open Go.RowKit Go.Sort

theorem ret_bool {a b : Bool} (h : a = b) : Ending.returned (.bool a) = .returned (.bool b) := by rw [h]
theorem ret_int {k : IntKind} {a b : Int} (h : a = b) : Ending.returned (.int k a) = .returned (.int k b) := by rw [h]

/-- A slice value that holds these cells, so many to an element, in blocks that lie by now. -/
def Sl (w : World) (size : Nat) (v : Value) (n : Nat) (xs : List Value) : Prop :=
  xs.length = n * size ∧ ∃ ao cap, v = .slice ao n cap ∧ n ≤ cap ∧ (0 < n → ∃ b off, ao = some ⟨b, off, none⟩ ∧ b < w.heap.size ∧ ∀ j u, xs[j]? = some u → w.cell? ⟨b, off + j, none⟩ = some u)

theorem Sl.up {w w' : World} {size : Nat} {v : Value} {n : Nat} {xs : List Value} (h : Sl w size v n xs) (hb : Below w.heap.size w w') : Sl w' size v n xs := by
  obtain ⟨h1, ao, cap, h2, h3, h4⟩ := h
  refine ⟨h1, ao, cap, h2, h3, fun hn => ?_⟩
  obtain ⟨b, off, e, hlt, hc⟩ := h4 hn
  exact ⟨b, off, e, Nat.lt_of_lt_of_le hlt hb.size, fun j u hj => bcl hb hlt (hc j u hj)⟩
theorem Sl.open {w : World} {size : Nat} {v : Value} {n : Nat} {xs : List Value} (h : Sl w size v n xs) (hn : 0 < n) : ∃ b off cap, v = .slice (some ⟨b, off, none⟩) n cap ∧ n ≤ cap ∧ b < w.heap.size ∧ ∀ j u, xs[j]? = some u → w.cell? ⟨b, off + j, none⟩ = some u := by
  obtain ⟨_, ao, cap, rfl, h3, h4⟩ := h
  obtain ⟨b, off, rfl, hlt, hc⟩ := h4 hn
  exact ⟨b, off, cap, rfl, h3, hlt, hc⟩
theorem Sl.form {w : World} {size : Nat} {v : Value} {n : Nat} {xs : List Value} (h : Sl w size v n xs) : ∃ ao cap, v = .slice ao n cap := by
  obtain ⟨_, ao, cap, rfl, _⟩ := h
  exact ⟨ao, cap, rfl⟩
theorem Sl.nil (w : World) (size : Nat) : Sl w size (.slice none 0 0) 0 [] := ⟨by simp, none, 0, rfl, Nat.le_refl _, fun h => by omega⟩

/-- Numbers as the cells of a slice. -/
def ints (zs : List Int) : List Value := zs.map fun z => .int .i64 z
theorem ints_at (zs : List Int) (k : Nat) (h : k < zs.length) : (ints zs)[k]? = some (.int .i64 zs[k]) := by simp [ints, h]

theorem own_sl {w : World} {base : Nat} {e : TypeId} {v : Value} {n : Nat} {size : Nat} {xs : List Value} (h : w.ownsRow base e size v n xs) : Sl w size v n xs := by
  refine ⟨h.1, ?_⟩
  rcases h.2 with ⟨rfl, rfl⟩ | ⟨g, cap, cur, rfl, hg, hh, hn, _, hs, ht⟩
  · exact ⟨none, 0, rfl, Nat.le_refl _, fun h => by omega⟩
  · refine ⟨_, cap, rfl, hn, fun _ => ⟨g, 0, rfl, ?_, fun j u hj => ?_⟩⟩
    · rcases Nat.lt_or_ge g w.heap.size with hlt | hge
      · exact hlt
      · rw [Array.getElem?_eq_none hge] at hh; cases hh
    · have hadd : (⟨g, 0, none⟩ : Addr).add j = ⟨g, j, none⟩ := by unfold Addr.add; split <;> simp_all
      have := h.cells (g := g) rfl j u hj
      rw [hadd] at this
      rw [Nat.zero_add]; exact this

theorem info_parts {P : Program} {t : TypeId} {z : Value} {s b : Nat} (h : (P.info? t).map (fun i => (i.zero, i.size, i.bytes)) = some (some z, s, b)) : ∃ i, P.info? t = some i ∧ i.zero = some z ∧ i.size = s ∧ i.bytes = b := by
  obtain ⟨i, hi, he⟩ := Option.map_eq_some_iff.1 h
  simp only [Prod.mk.injEq] at he
  exact ⟨i, hi, he.1, he.2.1, he.2.2⟩
theorem ints_cell (zs : List Int) : ∀ u ∈ ints zs, u.oneCell' = true := by
  intro u hu
  obtain ⟨z, _, rfl⟩ := List.mem_map.1 hu
  rfl

theorem own_form {w : World} {base : Nat} {e : TypeId} {size : Nat} {v : Value} {n : Nat} {xs : List Value} (h : w.ownsRow base e size v n xs) : ∃ ao cap, v = .slice ao n cap := by
  rcases h.2 with ⟨rfl, rfl⟩ | ⟨g, cap, cur, rfl, _⟩
  · exact ⟨none, 0, rfl⟩
  · exact ⟨_, _, rfl⟩

theorem ext_eq (l : List UInt8) (fr k : Nat) : (⟨l.toArray⟩ : ByteArray).extract fr k = ⟨((l.drop fr).take (k - fr)).toArray⟩ := by
  apply ByteArray.ext
  simp
theorem ba_at (l : List UInt8) (k : Nat) (h : k < l.length) : (⟨l.toArray⟩ : ByteArray)[k]'h = l[k] := rfl
theorem one_new (w : World) (v : Value) (t : TypeId) : ∀ j u, [v][j]? = some u → (w.alloc (.cells #[v] t)).cell? ((⟨w.heap.size, 0, none⟩ : Addr).add j) = some u := by
  intro j u hj
  match j, hj with
  | 0, hj => simp at hj; subst hj; simp [Addr.add]
  | j + 1, hj => simp at hj
theorem one_cell (s : ByteArray) : ∀ u ∈ [Value.string s], u.oneCell' = true := by
  intro u hu; simp at hu; subst hu; rfl
theorem own_block {w : World} {base : Nat} {e : TypeId} {size : Nat} {v : Value} {n : Nat} {xs : List Value} (h : w.ownsRow base e size v n xs) : ∀ k, v.ownBlock = some k → base ≤ k := by
  intro k hk
  rcases h.2 with ⟨rfl, _⟩ | ⟨g, cap, cur, rfl, hb, _⟩
  · cases hk
  · simp [Value.ownBlock] at hk; omega

theorem one_at (w : World) (v : Value) (t : TypeId) (b : Nat) (hb : b = w.heap.size) : ∀ j u, [v][j]? = some u → (w.alloc (.cells #[v] t)).cell? ((⟨b, 0, none⟩ : Addr).add j) = some u := hb ▸ one_new w v t
theorem own_low {w : World} {base base' : Nat} {e : TypeId} {size : Nat} {v : Value} {n : Nat} {xs : List Value} (h : w.ownsRow base e size v n xs) (hb : base' ≤ base) : w.ownsRow base' e size v n xs :=
  ⟨h.1, h.2.imp id fun ⟨g, cap, cur, h1, h2, h3⟩ => ⟨g, cap, cur, h1, Nat.le_trans hb h2, h3⟩⟩
theorem own_drewN {w : World} {base : Nat} {e : TypeId} {size : Nat} {v : Value} {n : Nat} {xs : List Value} (h : w.ownsRow base e size v n xs) (q : Nat) : (w.drewN q).ownsRow base e size v n xs := h
theorem sl_one (w : World) (z : Int) (t : TypeId) (c : Nat) (hc : 1 ≤ c) : Sl (w.alloc (.cells #[.int .i64 z] t)) 1 (.slice (some ⟨w.heap.size, 0, none⟩) 1 c) 1 (ints [z]) := by
  refine ⟨rfl, _, _, rfl, hc, fun _ => ⟨_, _, rfl, by simp, fun j u hj => ?_⟩⟩
  have := one_new w (.int .i64 z) t j u (by simpa [ints] using hj)
  have hadd : (⟨w.heap.size, 0, none⟩ : Addr).add j = ⟨w.heap.size, 0 + j, none⟩ := by unfold Addr.add; split <;> simp_all
  rw [hadd] at this
  exact this
theorem sl_one_at (w : World) (z : Int) (t : TypeId) (c b : Nat) (hb : b = w.heap.size) (hc : 1 ≤ c) : Sl (w.alloc (.cells #[.int .i64 z] t)) 1 (.slice (some ⟨b, 0, none⟩) 1 c) 1 (ints [z]) := hb ▸ sl_one w z t c hc
theorem Sl.set {w : World} {size : Nat} {v : Value} {n : Nat} {xs : List Value} (h : Sl w size v n xs) {c j : Nat} (u : Value) (hne : v.ownBlock ≠ some c) : Sl (w.setCell ⟨c, j, none⟩ u) size v n xs := by
  obtain ⟨h1, ao, cap, rfl, h3, h4⟩ := h
  refine ⟨h1, ao, cap, rfl, h3, fun hn => ?_⟩
  obtain ⟨b, off, rfl, hlt, hc⟩ := h4 hn
  exact ⟨b, off, rfl, by rw [size_set]; exact hlt, fun k u' hk => cl_set (Or.inl (by simpa [Value.ownBlock] using hne)) (hc k u' hk)⟩
/-- A slice of a call's own: what it holds, and that its block is new. -/
def SlN (w w' : World) (v : Value) (n : Nat) (xs : List Value) : Prop := Sl w' 1 v n xs ∧ ∀ k, v.ownBlock = some k → w.heap.size ≤ k
theorem own_sln {w w' : World} {base : Nat} {e : TypeId} {v : Value} {n : Nat} {xs : List Value} (hb : w.heap.size ≤ base) (h : w'.ownsRow base e 1 v n xs) : SlN w w' v n xs := ⟨own_sl h, fun k hk => Nat.le_trans hb (own_block h k hk)⟩
theorem sl_two (w : World) (a b : Int) (t : TypeId) (g : Nat) (hg : g = w.heap.size) : Sl (w.alloc (.cells #[.int .i64 a, .int .i64 b] t)) 1 (.slice (some ⟨g, 0, none⟩) 2 2) 2 (ints [a, b]) := by
  subst hg
  exact own_sl (World.ownsRow_lit (base := 0) w _ 2 (Nat.zero_le _) (by unfold maxLen; omega) rfl)
theorem sln_nil (w w' : World) : SlN w w' (.slice none 0 0) 0 (ints []) := ⟨Sl.nil _ _, fun k hk => by cases hk⟩
end Go.Proofs.YthpljbbhpbijgaaDoor

namespace Go.Proofs.YthpljbbhpbijgaaDoor
set_option linter.unusedSimpArgs false
set_option linter.unusedVariables false
open Go.RowKit Go.Sort

set_option maxHeartbeats 1000000 in
/-- SameInts: are they the same? -/
theorem sameInts_any (xs ys : List Int) (v u : Value) (w : World) (hx : Sl w 1 v xs.length (ints xs)) (hy : Sl w 1 u ys.length (ints ys)) (hm : xs.length < 4294967281) (r : Bool) (hr : decide (xs = ys) = r) :
    Calls Tryd.prog 18 #[v, u] w fun e w' => e = .returned (.bool r) ∧ Below w.heap.size w w' := by
  obtain ⟨ax, cx, rfl⟩ := hx.form
  obtain ⟨ay, cy, rfl⟩ := hy.form
  by_cases hl : xs.length = ys.length
  · have hl' : ((xs.length : Int) != (ys.length : Int)) = false := by simp; omega
    have HX := Lib.hid hx
    have HY := Lib.hid hy
    have HL := Lib.hid hl
    have HR := Lib.hid hr
    clear hx hy hl hr
    go_enter Tryd.func18, Tryd.ntmps18
    go_wp2
    go_loopw [5] (fun i wr => ∃ k : Nat, i = .int .i64 k ∧ k ≤ xs.length ∧ Hid (xs.take k = ys.take k) ∧ Below w.heap.size w wr) (fun i _ => xs.length - (intOf i).toNat)
    case atStart => exact ⟨0, rfl, Nat.zero_le _, rfl, Below.refl _ _⟩
    case round =>
      obtain ⟨k, rfl, hk, HZ, hbel⟩ := hrel
      by_cases hlt : k < xs.length
      · have hly : k < ys.length := by have := HL.out; omega
        obtain ⟨b, off, cap, e1, hcap, hbw, hc⟩ := HX.out.open (by omega)
        obtain ⟨b', off', cap', e2, hcap', hbw', hc'⟩ := HY.out.open (by omega)
        cases e1
        cases e2
        have c0 := bcl hbel hbw (hc k _ (ints_at xs k hlt))
        have c1 := bcl hbel hbw' (hc' k _ (ints_at ys k hly))
        have i1 : (0 : Int) ≤ k := by omega
        have i2 : (k : Int) < xs.length := by omega
        have i3 : (k : Int) < ys.length := by omega
        have HT : Hid (xs[k] = ys[k] → xs.take (k + 1) = ys.take (k + 1)) := fun e => by
          rw [List.take_succ_eq_append_getElem hlt, List.take_succ_eq_append_getElem hly, e, HZ.out]
        have HN : Hid (xs[k] ≠ ys[k] → r = false) := fun hne => by
          rw [← HR.out]
          simp only [decide_eq_false_iff_not]
          intro e
          subst e
          exact hne rfl
        clear hc hc' HZ
        by_cases hq : xs[k] = ys[k]
        · have hq' : (xs[k] != ys[k]) = false := by simp [hq]
          have HQ := Lib.hid (HT.out hq)
          clear hq HT HN
          go_wp2
          go_region
          all_goals go_wp2
          all_goals
            go_roundw
            case rel => exact ⟨k + 1, by go_num, by omega, HQ, by first | exact hbel | exact hbel.drew⟩
            case measure => simp [intOf]; omega
        · have hq' : (xs[k] != ys[k]) = true := by simp [hq]
          have HQ := Lib.hid (HN.out hq)
          clear hq HT HN
          go_wp2
          go_region
          all_goals go_wp2
          all_goals go_ret
          all_goals exact ⟨ret_bool (by rw [HQ.out]), by first | exact hbel | exact hbel.drew⟩
      · have hkc : ¬ (k : Int) < xs.length := by omega
        have HQ : Hid (true = r) := by
          show true = r
          have h := HZ.out
          rw [List.take_of_length_le (by omega), List.take_of_length_le (by have := HL.out; omega)] at h
          rw [← HR.out, h]; simp
        go_wp2
        go_ret
        exact ⟨ret_bool HQ.out, hbel⟩
  · have hl' : ((xs.length : Int) != (ys.length : Int)) = true := by simp; omega
    have HR : Hid (false = r) := by
      show false = r
      rw [← hr]
      symm
      simp only [decide_eq_false_iff_not]
      intro e; subst e; exact hl rfl
    clear hx hy hl hr
    go_enter Tryd.func18, Tryd.ntmps18
    go_wp2
    go_ret
    exact ⟨ret_bool HR.out, Below.refl _ _⟩
end Go.Proofs.YthpljbbhpbijgaaDoor

namespace Go.Proofs.YthpljbbhpbijgaaDoor
set_option linter.unusedSimpArgs false
set_option linter.unusedVariables false
open Go.RowKit

def regB (a : Int) : Bool := decide (0 ≤ a) && decide (a < 4)

theorem isReg_any (a : Int) (w : World) : Calls Tryd.prog 97 #[.int .i64 a] w fun e w' => e = .returned (.bool (regB a)) ∧ w' = w := by
  by_cases h : 0 ≤ a
  all_goals
  go_enter Tryd.func97, Tryd.ntmps97
  go_wp2
  all_goals go_ret
  all_goals exact ⟨ret_bool (by simp [regB]; try omega), rfl⟩

/-- What isa.Check answers of a known operation, by its row of the table. -/
def chkRow (ba bb bn : Bool) (lo hi a b n : Int) : Int :=
  if (ba && !regB a) || (bb && !regB b) || (bn && (decide (n < lo) || decide (hi < n))) then 3
  else if (!ba && a != 0) || (!bb && b != 0) || (!bn && n != 0) then 1 else 0

set_option maxHeartbeats 2000000 in
theorem chk_row (k : Nat) (hk1 : 1 ≤ k) (hk : k < 16) (ws : ByteArray) (ba bb bn : Bool) (lo hi a b n : Int) (w : World) (hz : 0 < w.heap.size)
   (c0 : w.cell? ⟨0, k * 6, none⟩ = some (.string ws)) (c1 : w.cell? ⟨0, k * 6 + 1, none⟩ = some (.bool ba))
   (c2 : w.cell? ⟨0, k * 6 + 2, none⟩ = some (.bool bb)) (c3 : w.cell? ⟨0, k * 6 + 3, none⟩ = some (.bool bn))
   (c4 : w.cell? ⟨0, k * 6 + 4, none⟩ = some (.int .i64 lo)) (c5 : w.cell? ⟨0, k * 6 + 5, none⟩ = some (.int .i64 hi)) : Calls Tryd.prog 80 #[.agg #[.int .i64 k, .int .i64 a, .int .i64 b, .int .i64 n]] w fun e w' => e = .returned (.int .i64 (chkRow ba bb bn lo hi a b n)) ∧ Below w.heap.size w w' := by
  have hk1' : ¬ ((k : Int) < 1) := by omega
  have hk2' : ¬ ((15 : Int) < k) := by omega
  go_enter Tryd.func80, Tryd.ntmps80
  go_wp2_with (go_at_call 97; refine (isReg_any _ _).mono ?_; rintro e w' ⟨rfl, rfl⟩)
  all_goals go_ret
  all_goals refine ⟨ret_int ?_, (by repeat (first | exact Below.refl _ _ | assumption | refine Below.drew ?_ | refine Below.alloc ?_ (by first | (simp; done) | (simp; omega)) _ | refine Below.setCell ?_ (by first | (simp; done) | (simp; omega)) _))⟩
  all_goals (simp_all [chkRow]; done)
end Go.Proofs.YthpljbbhpbijgaaDoor

namespace Go.Proofs.YthpljbbhpbijgaaDoor
set_option linter.unusedSimpArgs false
set_option linter.unusedVariables false
open Go.RowKit

def rowA (k : Nat) : Bool := [false, true, true, true, true, true, true, true, false, true, true, true, true, true, false, false].getD k false
def rowB (k : Nat) : Bool := [false, false, true, true, true, true, true, true, false, false, false, false, false, true, false, false].getD k false
def rowN (k : Nat) : Bool := [false, true, false, false, false, false, false, false, true, true, false, false, true, true, false, false].getD k false
def rowLo (k : Nat) : Int := if k = 1 then -9223372036854775808 else 0
def rowHi (k : Nat) : Int := if k = 1 then 9223372036854775807 else if k = 8 ∨ k = 9 then 19 else if k = 12 ∨ k = 13 then 5 else 0
def rowW (k : Nat) : List UInt8 := [[], [115, 101, 116], [99, 111, 112, 121], [97, 100, 100], [115, 117, 98], [108, 101, 115, 115], [108, 111, 97, 100], [115, 97, 118, 101], [106, 117, 109, 112], [122, 101, 114, 111], [105, 110], [111, 117, 116], [112, 117, 116], [103, 101, 116], [114, 101, 115, 116], [115, 116, 111, 112]].getD k []

/-- The table isa.shapes lies in its variable as its initialiser lays it. -/
structure Shp (w : World) : Prop where
  size : 0 < w.heap.size
  c0 : ∀ k, k < 16 → w.cell? ⟨0, k * 6, none⟩ = some (.string ⟨(rowW k).toArray⟩)
  c1 : ∀ k, k < 16 → w.cell? ⟨0, k * 6 + 1, none⟩ = some (.bool (rowA k))
  c2 : ∀ k, k < 16 → w.cell? ⟨0, k * 6 + 2, none⟩ = some (.bool (rowB k))
  c3 : ∀ k, k < 16 → w.cell? ⟨0, k * 6 + 3, none⟩ = some (.bool (rowN k))
  c4 : ∀ k, k < 16 → w.cell? ⟨0, k * 6 + 4, none⟩ = some (.int .i64 (rowLo k))
  c5 : ∀ k, k < 16 → w.cell? ⟨0, k * 6 + 5, none⟩ = some (.int .i64 (rowHi k))

theorem Shp.up {w w' : World} (h : Shp w) (hb : Below w.heap.size w w') : Shp w' :=
  ⟨Nat.lt_of_lt_of_le h.size hb.size, fun k hk => (hb.cell h.size).trans (h.c0 k hk), fun k hk => (hb.cell h.size).trans (h.c1 k hk), fun k hk => (hb.cell h.size).trans (h.c2 k hk),
    fun k hk => (hb.cell h.size).trans (h.c3 k hk), fun k hk => (hb.cell h.size).trans (h.c4 k hk), fun k hk => (hb.cell h.size).trans (h.c5 k hk)⟩

/-- What isa.Check answers. -/
def chkI (op a b n : Int) : Int := if op < 1 ∨ 15 < op then 4 else chkRow (rowA op.toNat) (rowB op.toNat) (rowN op.toNat) (rowLo op.toNat) (rowHi op.toNat) a b n

theorem chk_out (op a b n : Int) (w : World) (ho : op < 1 ∨ 15 < op) : Calls Tryd.prog 80 #[.agg #[.int .i64 op, .int .i64 a, .int .i64 b, .int .i64 n]] w fun e w' => e = .returned (.int .i64 4) ∧ Below w.heap.size w w' := by
  by_cases h : op < 1
  · clear ho
    go_enter Tryd.func80, Tryd.ntmps80
    go_wp2
    all_goals go_ret
    all_goals exact ⟨rfl, (by repeat (first | exact Below.refl _ _ | assumption | refine Below.drew ?_ | refine Below.alloc ?_ (by first | (simp; done) | (simp; omega)) _ | refine Below.setCell ?_ (by first | (simp; done) | (simp; omega)) _))⟩
  · have h2 : 15 < op := by omega
    clear ho
    go_enter Tryd.func80, Tryd.ntmps80
    go_wp2
    all_goals go_ret
    all_goals exact ⟨rfl, (by repeat (first | exact Below.refl _ _ | assumption | refine Below.drew ?_ | refine Below.alloc ?_ (by first | (simp; done) | (simp; omega)) _ | refine Below.setCell ?_ (by first | (simp; done) | (simp; omega)) _))⟩

theorem chk_any (op a b n : Int) (w : World) (h : Shp w) : Calls Tryd.prog 80 #[.agg #[.int .i64 op, .int .i64 a, .int .i64 b, .int .i64 n]] w fun e w' => e = .returned (.int .i64 (chkI op a b n)) ∧ Below w.heap.size w w' := by
  by_cases ho : op < 1 ∨ 15 < op
  · unfold chkI; rw [if_pos ho]; exact chk_out op a b n w ho
  · obtain ⟨k, rfl⟩ := Int.eq_ofNat_of_zero_le (show 0 ≤ op by omega)
    unfold chkI; rw [if_neg ho, Int.toNat_natCast]
    exact chk_row k (by omega) (by omega) _ _ _ _ _ _ a b n w h.size (h.c0 k (by omega)) (h.c1 k (by omega)) (h.c2 k (by omega)) (h.c3 k (by omega)) (h.c4 k (by omega)) (h.c5 k (by omega))
end Go.Proofs.YthpljbbhpbijgaaDoor

namespace Go.Proofs.YthpljbbhpbijgaaDoor
set_option linter.unusedSimpArgs false
set_option linter.unusedVariables false
open Go.RowKit Go.Sort

structure Env (w : World) : Prop where
  shp : Shp w
theorem Env.up {w w' : World} (h : Env w) (hb : Below w.heap.size w w') : Env w' := ⟨h.shp.up hb⟩
def in64 (n : Int) : Prop := -9223372036854775808 ≤ n ∧ n ≤ 9223372036854775807
theorem chk_v (op a b n c : Int) (w : World) (he : Env w) (hc : chkI op a b n = c) : Calls Tryd.prog 80 #[.agg #[.int .i64 op, .int .i64 a, .int .i64 b, .int .i64 n]] w fun e w' => e = .returned (.int .i64 c) ∧ Below w.heap.size w w' := hc ▸ chk_any op a b n w he.shp
end Go.Proofs.YthpljbbhpbijgaaDoor
