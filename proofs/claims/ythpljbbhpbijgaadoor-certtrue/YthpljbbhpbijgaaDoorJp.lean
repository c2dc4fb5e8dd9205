/- How edges are held against each other. -/
import Derived.Test.YthpljbbhpbijgaaDoorJd
import Derived.Test.YthpljbbhpbijgaaDoorJe
import Derived.Test.YthpljbbhpbijgaaDoorJa
import Derived.Sort.Grow
import Derived.Deep.CutRange
import Derived.Test.YthpljbbhpbijgaaDoorFlShelf
import Derived.Test.YthpljbbhpbijgaaDoorJg
import Derived.Shelf.SlSortCmp.SmallK
namespace Go.Proofs.YthpljbbhpbijgaaDoor
set_option linter.unusedSimpArgs false
set_option linter.unusedVariables false
open Go.RowKit Go.Sort

def cmpI (x y : Int) : Int := if x < y then -1 else if y < x then 1 else 0
def orI (a b : Int) : Int := if a ≠ 0 then a else b
/-- An edge. -/
structure Edg where
  fr : Int
  tt : Int
  deriving DecidableEq
def Edg.cells (e : Edg) : List Value := [.int .i64 e.fr, .int .i64 e.tt]
def cmpE (a b : Edg) : Int := orI (cmpI a.fr b.fr) (cmpI a.tt b.tt)
theorem isNaN_any (x : Int) (w : World) : Calls Tryd.prog 92 #[.int .i64 x] w fun e w' => e = .returned (.bool false) ∧ w' = w := by
  have h : (x != x) = false := by simp
  go_enter Tryd.func92, Tryd.ntmps92
  go_wp2
  go_ret
  exact ⟨rfl, rfl⟩
set_option maxRecDepth 100000 in
theorem compare_any (x y : Int) (w : World) (r : Int) (hr : cmpI x y = r) : Calls Tryd.prog 65 #[.int .i64 x, .int .i64 y] w fun e w' => e = .returned (.int .i64 r) ∧ w' = w := by
  subst hr
  unfold cmpI
  by_cases h1 : x < y
  · rw [if_pos h1]
    go_enter Tryd.func65, Tryd.ntmps65
    go_wp2_with (go_at_call 92; refine (isNaN_any _ _).mono ?_; rintro e w2 ⟨rfl, rfl⟩)
    go_ret
    exact ⟨rfl, rfl⟩
  · rw [if_neg h1]
    by_cases h2 : y < x
    · rw [if_pos h2]
      go_enter Tryd.func65, Tryd.ntmps65
      go_wp2_with (go_at_call 92; refine (isNaN_any _ _).mono ?_; rintro e w2 ⟨rfl, rfl⟩)
      go_ret
      exact ⟨rfl, rfl⟩
    · rw [if_neg h2]
      go_enter Tryd.func65, Tryd.ntmps65
      go_wp2_with (go_at_call 92; refine (isNaN_any _ _).mono ?_; rintro e w2 ⟨rfl, rfl⟩)
      go_ret
      exact ⟨rfl, rfl⟩
set_option maxRecDepth 100000 in
theorem or_any (a b : Int) (g : Nat) (w : World) (h0 : w.cell? ⟨g, 0, none⟩ = some (.int .i64 a)) (h1 : w.cell? ⟨g, 1, none⟩ = some (.int .i64 b)) (r : Int) (hr : orI a b = r) : Calls Tryd.prog 64 #[.slice (some ⟨g, 0, none⟩) 2 2] w fun e w' => e = .returned (.int .i64 r) ∧ w' = w := by
  have H0 := Lib.hid h0
  have H1 := Lib.hid h1
  clear h0 h1
  go_enter Tryd.func64, Tryd.ntmps64
  go_wp2
  go_loopw [8] (fun i wr => ∃ k : Nat, i = .int .i64 k ∧ k ≤ 2 ∧ Hid (1 ≤ k → a = 0) ∧ Hid (2 ≤ k → b = 0) ∧ wr = w) (fun i _ => 2 - (intOf i).toNat)
  case atStart => exact ⟨0, rfl, by omega, Lib.hid (by omega), Lib.hid (by omega), rfl⟩
  case round =>
    obtain ⟨k, rfl, hk, HA, HB, rfl⟩ := hrel
    have hk3 : k = 0 ∨ k = 1 ∨ k = 2 := by omega
    rcases hk3 with rfl | rfl | rfl
    · have c0 := H0.out
      by_cases ha : a = 0
      · have ha' : (a != 0) = false := by simpa using ha
        have HZ := Lib.hid ha
        clear ha
        go_wp2
        go_roundw
        case rel => exact ⟨1, by go_num, by omega, Lib.hid (fun _ => HZ.out), Lib.hid (by omega), by first | rfl | trivial⟩
        case measure => simp [intOf]
      · have ha' : (a != 0) = true := by simpa using ha
        have HR : Hid (a = r) := by
          show _ = _
          rw [← hr, orI, if_pos ha]
        clear ha hr
        go_wp2
        go_ret
        exact ⟨ret_int HR.out, rfl⟩
    · have c1 := H1.out
      by_cases hb : b = 0
      · have hb' : (b != 0) = false := by simpa using hb
        have HZ := Lib.hid hb
        clear hb
        go_wp2
        go_roundw
        case rel => exact ⟨2, by go_num, by omega, Lib.hid (fun _ => HA.out (by omega)), Lib.hid (fun _ => HZ.out), by first | rfl | trivial⟩
        case measure => simp [intOf]
      · have hb' : (b != 0) = true := by simpa using hb
        have HR : Hid (b = r) := by
          show _ = _
          rw [← hr, orI, if_neg (by simpa using HA.out (by omega))]
        clear hb hr
        go_wp2
        go_ret
        exact ⟨ret_int HR.out, rfl⟩
    · have HR : Hid ((0 : Int) = r) := by
        show _ = _
        rw [← hr, orI, if_neg (by simpa using HA.out (by omega)), HB.out (by omega)]
      go_wp2
      go_ret
      exact ⟨ret_int HR.out, rfl⟩
theorem ent_compare : Enters 65 := enters Tryd.func65 (by kernel_rfl) (by kernel_rfl)
theorem ent_or : Enters 64 := enters Tryd.func64 (by kernel_rfl) (by kernel_rfl)
set_option maxRecDepth 100000 in
set_option maxHeartbeats 2000000 in
theorem edges1_any (x y : Edg) (w : World) : Calls Tryd.prog 63 #[.agg #[.int .i64 x.fr, .int .i64 x.tt], .agg #[.int .i64 y.fr, .int .i64 y.tt]] w fun e w' => e = .returned (.int .i64 (cmpE x y)) ∧ ∃ q os, w' = grow (w.drewN q) os := by
  obtain ⟨a, b⟩ := x
  obtain ⟨c, d⟩ := y
  obtain ⟨r1, h1⟩ : ∃ r, cmpI a c = r := ⟨_, rfl⟩
  obtain ⟨r2, h2⟩ : ∃ r, cmpI b d = r := ⟨_, rfl⟩
  obtain ⟨r3, h3⟩ : ∃ r, orI r1 r2 = r := ⟨_, rfl⟩
  have HR : Hid (cmpE ⟨a, b⟩ ⟨c, d⟩ = r3) := by
    show _ = _
    unfold cmpE
    rw [h1, h2, h3]
  have C1 := Lib.hid fun V => compare_any a c V r1 h1
  have C2 := Lib.hid fun V => compare_any b d V r2 h2
  have C3 := Lib.hid fun g V k0 k1 => or_any r1 r2 g V k0 k1 r3 h3
  rw [HR.out]
  simp only
  clear h1 h2 h3 HR
  go_enter Tryd.func63, Tryd.ntmps63
  go_upto_region 1 with fail
  generalize hW : World.alloc _ _ = W
  have RA : Hid (Rw W w.heap.size 37 #[.int .i64 a, .int .i64 b]) := by
    show Rw _ _ _ _
    rw [← hW]
    exact (by repeat (first | exact Rw.new _ _ _ (by first | rfl | (simp; done) | omega | (simp; omega)) | refine Rw.alloc ?_ _))
  have RB : Hid (Rw W (w.heap.size + 1) 37 #[.int .i64 c, .int .i64 d]) := by
    show Rw _ _ _ _
    rw [← hW]
    exact (by repeat (first | exact Rw.new _ _ _ (by first | rfl | (simp; done) | omega | (simp; omega)) | refine Rw.alloc ?_ _))
  have HW : Hid (W = grow w #[.cells #[.int .i64 a, .int .i64 b] 37, .cells #[.int .i64 c, .int .i64 d] 37]) := by
    show _ = _
    rw [← hW, alloc_eq_grow, alloc_eq_grow, grow_grow]
    rfl
  clear hW
  refine region_still (S := fun w' => Below W.heap.size W w') 12 (by kernel_rfl) (Below.refl _ _).drew (fun hHeld => ?_)
  refine Still.takeBy (i := 0) [] (v := ?v11) (by kernel_rfl) (by kernel_rfl) rfl (by kernel_rfl) (by kernel_rfl) (by kernel_rfl) (fun _ _ _ h => h) (Or.inl ⟨by rfl, ?y11⟩) hHeld ?r11
  case y11 => (intro w' hSw; (try dsimp only at hSw); have q0 := (RA.out.up hSw RA.out.lt).cell (j := 0) (v := .int .i64 a) rfl; have q1 := (RA.out.up hSw RA.out.lt).cell (j := 1) (v := .int .i64 b) rfl; have q2 := (RB.out.up hSw RB.out.lt).cell (j := 0) (v := .int .i64 c) rfl; have q3 := (RB.out.up hSw RB.out.lt).cell (j := 1) (v := .int .i64 d) rfl; clear hSw; go_simp; try with_reducible rfl)
  simp only [Act.put, List.getElem_toArray, List.getElem_cons_zero, List.getElem_cons_succ, List.setIfInBounds_toArray, List.set_cons_zero, List.set_cons_succ]
  refine Still.takeBy (i := 1) [] (v := ?v12) (by kernel_rfl) (by kernel_rfl) rfl (by kernel_rfl) (by kernel_rfl) (by kernel_rfl) (fun _ _ _ h => h) (Or.inl ⟨by rfl, ?y12⟩) hHeld ?r12
  case y12 => (intro w' hSw; (try dsimp only at hSw); have q0 := (RA.out.up hSw RA.out.lt).cell (j := 0) (v := .int .i64 a) rfl; have q1 := (RA.out.up hSw RA.out.lt).cell (j := 1) (v := .int .i64 b) rfl; have q2 := (RB.out.up hSw RB.out.lt).cell (j := 0) (v := .int .i64 c) rfl; have q3 := (RB.out.up hSw RB.out.lt).cell (j := 1) (v := .int .i64 d) rfl; clear hSw; go_simp; try with_reducible rfl)
  simp only [Act.put, List.getElem_toArray, List.getElem_cons_zero, List.getElem_cons_succ, List.setIfInBounds_toArray, List.set_cons_zero, List.set_cons_succ]
  refine Still.takeBy (i := 2) [] (v := ?v13) (by kernel_rfl) (by kernel_rfl) rfl (by kernel_rfl) (by kernel_rfl) (by kernel_rfl) (fun _ _ _ h => h) (Or.inl ⟨by rfl, ?y13⟩) hHeld ?r13
  case y13 => (intro w' hSw; (try dsimp only at hSw); have q0 := (RA.out.up hSw RA.out.lt).cell (j := 0) (v := .int .i64 a) rfl; have q1 := (RA.out.up hSw RA.out.lt).cell (j := 1) (v := .int .i64 b) rfl; have q2 := (RB.out.up hSw RB.out.lt).cell (j := 0) (v := .int .i64 c) rfl; have q3 := (RB.out.up hSw RB.out.lt).cell (j := 1) (v := .int .i64 d) rfl; clear hSw; go_simp; try with_reducible rfl)
  simp only [Act.put, List.getElem_toArray, List.getElem_cons_zero, List.getElem_cons_succ, List.setIfInBounds_toArray, List.set_cons_zero, List.set_cons_succ]
  refine Still.takeBy (i := 3) [] (v := ?v14) (by kernel_rfl) (by kernel_rfl) rfl (by kernel_rfl) (by kernel_rfl) (by kernel_rfl) (fun _ _ _ h => h) (Or.inl ⟨by rfl, ?y14⟩) hHeld ?r14
  case y14 => (intro w' hSw; (try dsimp only at hSw); have q0 := (RA.out.up hSw RA.out.lt).cell (j := 0) (v := .int .i64 a) rfl; have q1 := (RA.out.up hSw RA.out.lt).cell (j := 1) (v := .int .i64 b) rfl; have q2 := (RB.out.up hSw RB.out.lt).cell (j := 0) (v := .int .i64 c) rfl; have q3 := (RB.out.up hSw RB.out.lt).cell (j := 1) (v := .int .i64 d) rfl; clear hSw; go_simp; try with_reducible rfl)
  simp only [Act.put, List.getElem_toArray, List.getElem_cons_zero, List.getElem_cons_succ, List.setIfInBounds_toArray, List.set_cons_zero, List.set_cons_succ]
  refine Still.takeBy (i := 5) [] (v := ?v15) (by kernel_rfl) (by kernel_rfl) rfl (by kernel_rfl) (by kernel_rfl) (by kernel_rfl) (fun _ _ _ h => h) (Or.inl ⟨by rfl, ?y15⟩) hHeld ?r15
  case y15 => (intro w' hSw; (try dsimp only at hSw); have q0 := (RA.out.up hSw RA.out.lt).cell (j := 0) (v := .int .i64 a) rfl; have q1 := (RA.out.up hSw RA.out.lt).cell (j := 1) (v := .int .i64 b) rfl; have q2 := (RB.out.up hSw RB.out.lt).cell (j := 0) (v := .int .i64 c) rfl; have q3 := (RB.out.up hSw RB.out.lt).cell (j := 1) (v := .int .i64 d) rfl; clear hSw; go_simp; try with_reducible rfl)
  simp only [Act.put, List.getElem_toArray, List.getElem_cons_zero, List.getElem_cons_succ, List.setIfInBounds_toArray, List.set_cons_zero, List.set_cons_succ]
  refine Still.takeBy (i := 6) [] (v := ?v16) (by kernel_rfl) (by kernel_rfl) rfl (by kernel_rfl) (by kernel_rfl) (by kernel_rfl) (fun _ _ _ h => h) (Or.inl ⟨by rfl, ?y16⟩) hHeld ?r16
  case y16 => (intro w' hSw; (try dsimp only at hSw); have q0 := (RA.out.up hSw RA.out.lt).cell (j := 0) (v := .int .i64 a) rfl; have q1 := (RA.out.up hSw RA.out.lt).cell (j := 1) (v := .int .i64 b) rfl; have q2 := (RB.out.up hSw RB.out.lt).cell (j := 0) (v := .int .i64 c) rfl; have q3 := (RB.out.up hSw RB.out.lt).cell (j := 1) (v := .int .i64 d) rfl; clear hSw; go_simp; try with_reducible rfl)
  simp only [Act.put, List.getElem_toArray, List.getElem_cons_zero, List.getElem_cons_succ, List.setIfInBounds_toArray, List.set_cons_zero, List.set_cons_succ]
  refine Still.takeBy (i := 7) [] (v := ?v17) (by kernel_rfl) (by kernel_rfl) rfl (by kernel_rfl) (by kernel_rfl) (by kernel_rfl) (fun _ _ _ h => h) (Or.inl ⟨by rfl, ?y17⟩) hHeld ?r17
  case y17 => (intro w' hSw; (try dsimp only at hSw); have q0 := (RA.out.up hSw RA.out.lt).cell (j := 0) (v := .int .i64 a) rfl; have q1 := (RA.out.up hSw RA.out.lt).cell (j := 1) (v := .int .i64 b) rfl; have q2 := (RB.out.up hSw RB.out.lt).cell (j := 0) (v := .int .i64 c) rfl; have q3 := (RB.out.up hSw RB.out.lt).cell (j := 1) (v := .int .i64 d) rfl; clear hSw; go_simp; try with_reducible rfl)
  simp only [Act.put, List.getElem_toArray, List.getElem_cons_zero, List.getElem_cons_succ, List.setIfInBounds_toArray, List.set_cons_zero, List.set_cons_succ]
  refine Still.takeBy (i := 8) [] (v := ?v18) (by kernel_rfl) (by kernel_rfl) rfl (by kernel_rfl) (by kernel_rfl) (by kernel_rfl) (fun _ _ _ h => h) (Or.inl ⟨by rfl, ?y18⟩) hHeld ?r18
  case y18 => (intro w' hSw; (try dsimp only at hSw); have q0 := (RA.out.up hSw RA.out.lt).cell (j := 0) (v := .int .i64 a) rfl; have q1 := (RA.out.up hSw RA.out.lt).cell (j := 1) (v := .int .i64 b) rfl; have q2 := (RB.out.up hSw RB.out.lt).cell (j := 0) (v := .int .i64 c) rfl; have q3 := (RB.out.up hSw RB.out.lt).cell (j := 1) (v := .int .i64 d) rfl; clear hSw; go_simp; try with_reducible rfl)
  simp only [Act.put, List.getElem_toArray, List.getElem_cons_zero, List.getElem_cons_succ, List.setIfInBounds_toArray, List.set_cons_zero, List.set_cons_succ]
  refine Still.all (rs := [4]) (by kernel_rfl) (by simp) (Still.one (i := 4) rfl rfl (fun K hK => ?_) (by simp))
  refine wp_call 65 _ _ rfl ent_compare #[.int .i64 a, .int .i64 c] (by first | rfl | simp [Act.eval, Act.put]) ((C1.out _).mono ?_)
  rintro e V1 ⟨rfl, rfl⟩
  refine ⟨_, rfl, hK _ _ (fun _ => hHeld) (fun hh => ?_)⟩
  clear hK K hh
  try simp only [Act.put, List.getElem_toArray, List.getElem_cons_zero, List.getElem_cons_succ, List.setIfInBounds_toArray, List.set_cons_zero, List.set_cons_succ]
  refine Still.all (rs := [9]) (by kernel_rfl) (by simp) (Still.one (i := 9) rfl rfl (fun K hK => ?_) (by simp))
  refine wp_call 65 _ _ rfl ent_compare #[.int .i64 b, .int .i64 d] (by first | rfl | simp [Act.eval, Act.put]) ((C2.out _).mono ?_)
  rintro e V1 ⟨rfl, rfl⟩
  refine ⟨_, rfl, hK _ _ (fun _ => hHeld) (fun hh => ?_)⟩
  clear hK K hh
  try simp only [Act.put, List.getElem_toArray, List.getElem_cons_zero, List.getElem_cons_succ, List.setIfInBounds_toArray, List.set_cons_zero, List.set_cons_succ]
  refine Still.all (rs := [10]) (by kernel_rfl) (by simp) (Still.one (i := 10) rfl rfl (fun K hK => ?_) (by simp))
  go_simp
  refine hK _ _ (fun _ => Below.alloc hHeld hHeld.size _) (fun hh => ?_)
  have hHeld2 := hh (by decide)
  clear hK K hh hHeld
  try simp only [Act.put, List.getElem_toArray, List.getElem_cons_zero, List.getElem_cons_succ, List.setIfInBounds_toArray, List.set_cons_zero, List.set_cons_succ]
  refine Still.all (rs := [11]) (by kernel_rfl) (by simp) (Still.one (i := 11) rfl rfl (fun K hK => ?_) (by simp))
  refine wp_call 64 _ _ rfl ent_or #[.slice (some ⟨W.heap.size, 0, none⟩) 2 2] (by first | rfl | simp [Act.eval, Act.put]) ((C3.out W.heap.size _ (Rw.cell (j := 0) (Rw.drew (Rw.new W 3 #[.int .i64 r1, .int .i64 r2] rfl)) rfl) (Rw.cell (j := 1) (Rw.drew (Rw.new W 3 #[.int .i64 r1, .int .i64 r2] rfl)) rfl)).mono ?_)
  rintro e V1 ⟨rfl, rfl⟩
  refine ⟨_, rfl, hK _ _ (fun _ => hHeld2) (fun hh => ?_)⟩
  clear hK K hh
  try simp only [Act.put, List.getElem_toArray, List.getElem_cons_zero, List.getElem_cons_succ, List.setIfInBounds_toArray, List.set_cons_zero, List.set_cons_succ]
  refine Still.all (rs := [12]) (by kernel_rfl) (by simp) (Still.one (i := 12) rfl rfl (fun K hK => ?_) (by simp))
  go_simp
  refine hK _ _ (fun h => absurd rfl h) (fun _ => ?_)
  clear hK K
  refine Still.over (by kernel_rfl) ?_ _
  go_wp2
  go_ret
  refine ⟨rfl, 1, #[.cells #[.int .i64 a, .int .i64 b] 37, .cells #[.int .i64 c, .int .i64 d] 37, .cells #[.int .i64 r1, .int .i64 r2] 3], ?_⟩
  rw [alloc_eq_grow, HW.out, grow_grow]
  rfl
end Go.Proofs.YthpljbbhpbijgaaDoor

namespace Go.Proofs.YthpljbbhpbijgaaDoor
set_option linter.unusedSimpArgs false
set_option linter.unusedVariables false
open Go.RowKit Go.Sort Go.Shelf Go.Lib

instance : Inhabited Edg := ⟨⟨0, 0⟩⟩
theorem edg_len (e : Edg) : e.cells.length = 2 := rfl
theorem edg_one (e : Edg) : ∀ v ∈ e.cells, v.oneCell' = true := fun v hv => by
  simp [Edg.cells] at hv
  rcases hv with rfl | rfl <;> rfl
theorem isAggE : ∀ w, (isAgg 37).run Tryd.prog w = .ok true w := Tryd.isAgg37
theorem sizeOfE : ∀ w, (Go.sizeOf 37).run Tryd.prog w = .ok 2 w := Tryd.sizeOf37
theorem cmpLaysE (blk off size : Nat) (w : World) : CmpLays Tryd.prog 63 #[] Edg.cells 2 cmpE blk off size w :=
  fun _ _ _ _ x y => edges1_any x y _
theorem hlenE (n : Nat) (W : World) (h : n ≤ 12) : Calls Tryd.prog 91 #[.int .u64 n] W fun e w' => (∃ l : Int, e = .returned (.int .i64 l)) ∧ w' = W :=
  (Tryd.bits_Len n W (by omega) (by omega)).mono fun _ _ ⟨he, hw⟩ => ⟨⟨_, he⟩, hw⟩
/-- What the sort leaves. -/
def sortE (l : List Edg) : List Edg := (Sort.insertionSort (ltOf cmpE) l.toArray 0 l.length).toList
theorem sortFunc_raw (l : List Edg) (blk off cap : Nat) (w : World) (hH : HoldsK Edg.cells 2 w blk off l.toArray) (hblk : blk < w.heap.size) (h12 : l.length ≤ 12) :
    Calls Tryd.prog 62 #[.slice (some ⟨blk, off, none⟩) l.length cap, .func (.func 63) #[] #[]] w fun e w' => e = .returned (.tuple #[]) ∧ ∃ n os, w' = sortWorldK Edg.cells 2 w blk off n (Sort.insertionSort (ltOf cmpE) l.toArray 0 l.length) os := by
  have eg : ∀ args w, (callFunc 63 args).run Tryd.prog w = .ok (.enter 63 args) w := enters_of Tryd.func63 (by kernel_rfl) rfl
  have h := AnyQ.slices_SortFunc_small Tryd.sortE 2 isAggE sizeOfE Edg.cells edg_len edg_one cmpE 63 #[] blk off cap l.toArray w eg (cmpLaysE blk off l.toArray.size w) hH hblk (by simpa using h12) hlenE
  exact h
end Go.Proofs.YthpljbbhpbijgaaDoor

namespace Go.Proofs.YthpljbbhpbijgaaDoor
set_option linter.unusedSimpArgs false
set_option linter.unusedVariables false
open Go.RowKit Go.Sort Go.Shelf Go.Lib

/-- A row of edges in block g. -/
def EdM (w : World) (g off : Nat) (d : List Edg) : Prop := (∃ cur, Rw w g 37 cur) ∧ ∀ k (hk : k < d.length), w.cell? ⟨g, off + k * 2, none⟩ = some (.int .i64 d[k].fr) ∧ w.cell? ⟨g, off + k * 2 + 1, none⟩ = some (.int .i64 d[k].tt)
theorem EdM.up {B : Nat} {w w' : World} {g off : Nat} {d : List Edg} (h : EdM w g off d) (hb : RowKit.Below B w w') (hg : g < B) : EdM w' g off d :=
  ⟨let ⟨c, hc⟩ := h.1; ⟨c, hc.up hb hg⟩, fun k hk => ⟨bcl hb hg (h.2 k hk).1, bcl hb hg (h.2 k hk).2⟩⟩
theorem EdM.lt {w : World} {g off : Nat} {d : List Edg} (h : EdM w g off d) : g < w.heap.size := let ⟨_, hc⟩ := h.1; hc.lt
theorem EdM.holds {w : World} {g off : Nat} {d : List Edg} (h : EdM w g off d) : HoldsK Edg.cells 2 w g off d.toArray := by
  obtain ⟨⟨cur, hc⟩, hd⟩ := h
  intro j hj
  simp at hj
  have hk : j / 2 < d.length := by omega
  have hj2 : j = j / 2 * 2 + j % 2 := by omega
  refine ⟨?_, hc.fr _⟩
  rw [get_flatK _ _ _ _ (by simpa using hj)]
  simp only [id, List.getElem!_toArray]
  rw [getElem!_pos d (j / 2) hk]
  have h2 : j % 2 = 0 ∨ j % 2 = 1 := by omega
  rcases h2 with h2 | h2
  · have := (hd (j / 2) hk).1
    rw [show off + j = off + j / 2 * 2 by omega, this, h2]
    rfl
  · have := (hd (j / 2) hk).2
    rw [show off + j = off + j / 2 * 2 + 1 by omega, this, h2]
    rfl
theorem ltE_iff (x y : Edg) : ltOf cmpE x y = decide (x.fr < y.fr ∨ (x.fr = y.fr ∧ x.tt < y.tt)) := by
  unfold ltOf cmpE orI cmpI
  by_cases h1 : x.fr < y.fr
  · simp [h1]
  · by_cases h2 : y.fr < x.fr
    · simp [h1, h2]
      omega
    · have : x.fr = y.fr := by omega
      by_cases h3 : x.tt < y.tt
      · simp [this, h3]
      · by_cases h4 : y.tt < x.tt <;> simp [this, h3, h4]
theorem swoE : SWO (ltOf cmpE) where
  irrefl x := by rw [ltE_iff]; simp
  trans x y z h1 h2 := by rw [ltE_iff] at *; simp at *; omega
  ntrans x y z h1 h2 := by rw [ltE_iff] at *; simp at *; omega
/-- Rising, some maybe twice. -/
def RiseE (l : List Edg) : Prop := ∀ i j (hi : i < j) (hj : j < l.length), ltOf cmpE l[j] (l[i]'(by omega)) = false
theorem sortW_rw {w : World} {g off m : Nat} {d : Array Edg} {os : Array Obj} {cur : Array Value} (h : Rw w g 37 cur) : ∃ cur', Rw (sortWorldK Edg.cells 2 w g off m d os) g 37 cur' := by
  have hl := h.lt
  refine ⟨putCells id off (flatK Edg.cells 2 d) cur, ?_⟩
  show ((mapBlock (Sort.ahead w m) g (putCells id off (flatK Edg.cells 2 d))).heap ++ os)[g]? = _
  have hs : g < (mapBlock (Sort.ahead w m) g (putCells id off (flatK Edg.cells 2 d))).heap.size := by
    show g < (w.heap.modify g _).size
    simpa using hl
  rw [Array.getElem?_append_left hs]
  show (w.heap.modify g _)[g]? = _
  rw [Array.getElem?_modify, if_pos rfl, show w.heap[g]? = some _ from h]
  rfl
theorem sortW_below {w : World} {g off m B : Nat} {d : Array Edg} {os : Array Obj} (hB : B ≤ g) (hg : g < w.heap.size) : RowKit.Below B w (sortWorldK Edg.cells 2 w g off m d os) := by
  refine ⟨rfl, rfl, rfl, ?_, fun k hk => ?_⟩
  · show _ ≤ ((w.heap.modify g _) ++ os).size
    simp
  · show ((w.heap.modify g _) ++ os)[k]? = _
    have hs : k < (w.heap.modify g (onCells (putCells id off (flatK Edg.cells 2 d)))).size := by simp; omega
    rw [Array.getElem?_append_left hs, Array.getElem?_modify, if_neg (by omega)]
theorem sortFunc_any (l : List Edg) (g off cap : Nat) (w : World) (hE : EdM w g off l) (h12 : l.length ≤ 12) :
    Calls Tryd.prog 62 #[.slice (some ⟨g, off, none⟩) l.length cap, .func (.func 63) #[] #[]] w fun e w' => e = .returned (.tuple #[]) ∧ ∃ r : List Edg, r.Perm l ∧ RiseE r ∧ EdM w' g off r ∧ ∀ B, B ≤ g → RowKit.Below B w w' := by
  have hg := hE.lt
  refine (sortFunc_raw l g off cap w hE.holds hg h12).mono ?_
  rintro e w' ⟨rfl, n, os, rfl⟩
  obtain ⟨⟨hsz, -, hperm⟩, hsort⟩ := insertionSort_holds (lt := ltOf cmpE) swoE l.toArray 0 l.length (Nat.zero_le _) (by simp)
  generalize Sort.insertionSort (ltOf cmpE) l.toArray 0 l.length = a at hsz hperm hsort
  have hsz' : a.size = l.length := by simpa using hsz
  refine ⟨rfl, a.toList, ?_, ?_, ⟨sortW_rw hE.1.choose_spec, fun k hk => ?_⟩, fun B hB => sortW_below hB hg⟩
  · have e1 : (a.extract 0 l.length).toList = a.toList := by rw [← hsz']; simp
    have e2 : (l.toArray.extract 0 l.length).toList = l := by simp
    rw [e1, e2] at hperm
    exact hperm
  · intro i j hi hj
    have hj' : j < a.size := by simpa using hj
    have := hsort i j (Nat.zero_le _) hi (by omega)
    rw [getElem!_pos _ j hj', getElem!_pos _ i (by omega)] at this
    simpa using this
  · have hk' : k < a.size := by simpa using hk
    have hH : HoldsK Edg.cells 2 (sortWorldK Edg.cells 2 w g off n a os) g off a :=
      holdsK_grow _ _ _ _ _ _ _ (by show g < (w.heap.modify g _).size; simpa using hg) (holdsK_putRowK _ _ _ _ _ _ _ (holdsK_ahead _ _ _ _ _ _ _ hE.holds) (by simpa using hsz))
    have c0 := (hH.cell (i := k) (c := 0) hk' (by decide)).1
    have c1 := (hH.cell (i := k) (c := 1) hk' (by decide)).1
    rw [getElem!_pos _ k hk'] at c0 c1
    exact ⟨c0, c1⟩
end Go.Proofs.YthpljbbhpbijgaaDoor
