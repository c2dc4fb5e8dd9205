/- flow.isPart, Edges, Path; the reference's There. -/
import Derived.Test.YthpljbbhpbijgaaDoorJu
import Derived.Test.YthpljbbhpbijgaaDoorCf4
import Derived.Test.YthpljbbhpbijgaaDoorJd
import Derived.Deep.OwnRows
namespace Go.Proofs.YthpljbbhpbijgaaDoor
set_option linter.unusedSimpArgs false
set_option linter.unusedVariables false
open Go.RowKit Go.Sort Go.Shelf Go.Lib Go.Maps

def edgesQ (S : SysD) : List Edg := if chkS S = 0 then edgesL S else []
/-- What There answers. -/
def thereE (S : SysD) (p : Int) : Int := if chkS S = 0 then (if withinB p 0 ((S.parts.length : Int) - 1) then 0 else 5) else chkS S
def pathE (S : SysD) (a b : Int) : Int := if thereE S a = 0 then thereE S b else thereE S a
def pathQ (S : SysD) (a b : Int) : List Int := if pathE S a b = 0 then pathL S a b else []
def pathY (S : SysD) (a b : Int) : Bool := if pathE S a b = 0 then pathB S a b else false
theorem pathE_bad {S : SysD} {a b : Int} (h : chkS S ≠ 0) : pathE S a b = chkS S := by
  have e : ∀ p, thereE S p = chkS S := fun p => by unfold thereE; rw [if_neg h]
  unfold pathE
  rw [e, e, if_neg h]
theorem pathE_a {S : SysD} {a b : Int} (h : chkS S = 0) (ha : withinB a 0 ((S.parts.length : Int) - 1) = false) : pathE S a b = 5 := by
  have e : thereE S a = 5 := by unfold thereE; rw [if_pos h, ha]; rfl
  unfold pathE
  rw [e]
  rfl
theorem pathE_b {S : SysD} {a b : Int} (h : chkS S = 0) (ha : withinB a 0 ((S.parts.length : Int) - 1) = true) (hb : withinB b 0 ((S.parts.length : Int) - 1) = false) : pathE S a b = 5 := by
  have e : thereE S a = 0 := by unfold thereE; rw [if_pos h, ha]; rfl
  have e2 : thereE S b = 5 := by unfold thereE; rw [if_pos h, hb]; rfl
  unfold pathE
  rw [e, e2]
  rfl
theorem pathE_ok {S : SysD} {a b : Int} (h : chkS S = 0) (ha : withinB a 0 ((S.parts.length : Int) - 1) = true) (hb : withinB b 0 ((S.parts.length : Int) - 1) = true) : pathE S a b = 0 := by
  have e : thereE S a = 0 := by unfold thereE; rw [if_pos h, ha]; rfl
  have e2 : thereE S b = 0 := by unfold thereE; rw [if_pos h, hb]; rfl
  unfold pathE
  rw [e, e2]
  rfl
theorem pathQ_bad {S : SysD} {a b : Int} (h : pathE S a b ≠ 0) : pathQ S a b = [] ∧ pathY S a b = false := by
  unfold pathQ pathY
  rw [if_neg h, if_neg h]
  exact ⟨rfl, rfl⟩
theorem pathQ_ok {S : SysD} {a b : Int} (h : pathE S a b = 0) : pathQ S a b = pathL S a b ∧ pathY S a b = pathB S a b := by
  unfold pathQ pathY
  rw [if_pos h, if_pos h]
  exact ⟨rfl, rfl⟩
theorem flIsPart_any (S : SysD) (n : Int) (vp vc vs : Value) (w : World) (hp : ∃ pa pc, vp = .slice pa S.parts.length pc) :
    Calls Tryd.prog 38 #[.agg #[vp, vc, vs], .int .i64 n] w fun e w' => e = .returned (.bool (withinB n 0 ((S.parts.length : Int) - 1))) ∧ RowKit.Below w.heap.size w w' := by
  obtain ⟨pa, pc, rfl⟩ := hp
  by_cases h0 : 0 ≤ n
  · by_cases h1 : n < S.parts.length
    · have e : withinB n 0 ((S.parts.length : Int) - 1) = true := by unfold withinB; simp; omega
      rw [e]
      clear e
      go_enter Tryd.func38, Tryd.ntmps38
      go_wp2
      go_ret
      exact ⟨rfl, (by repeat (first | exact Below.refl _ _ | assumption | refine Below.drew ?_ | refine Below.alloc ?_ (by first | (simp; done) | (simp; omega)) _ | refine Below.setCell ?_ (by first | (simp; done) | (simp; omega)) _))⟩
    · have e : withinB n 0 ((S.parts.length : Int) - 1) = false := by unfold withinB; simp; omega
      rw [e]
      clear e
      go_enter Tryd.func38, Tryd.ntmps38
      go_wp2
      go_ret
      exact ⟨rfl, (by repeat (first | exact Below.refl _ _ | assumption | refine Below.drew ?_ | refine Below.alloc ?_ (by first | (simp; done) | (simp; omega)) _ | refine Below.setCell ?_ (by first | (simp; done) | (simp; omega)) _))⟩
  · have e : withinB n 0 ((S.parts.length : Int) - 1) = false := by unfold withinB; simp; omega
    rw [e]
    clear e
    go_enter Tryd.func38, Tryd.ntmps38
    go_wp2
    go_ret
    exact ⟨rfl, (by repeat (first | exact Below.refl _ _ | assumption | refine Below.drew ?_ | refine Below.alloc ?_ (by first | (simp; done) | (simp; omega)) _ | refine Below.setCell ?_ (by first | (simp; done) | (simp; omega)) _))⟩
theorem ent_path1 : Enters 39 := enters Tryd.func39 (by kernel_rfl) (by kernel_rfl)
theorem ent_reach1 : Enters 31 := enters Tryd.func31 (by kernel_rfl) (by kernel_rfl)
theorem path1_any (x b : Int) (g : Nat) (w : World) (hg : w.cell? ⟨g, 0, none⟩ = some (.int .i64 b)) : Calls Tryd.prog 39 #[.int .i64 x, .pointer (some ⟨g, 0, none⟩)] w fun e w' => e = .returned (.bool (x == b)) ∧ w' = w := by
  go_enter Tryd.func39, Tryd.ntmps39
  go_wp2
  go_ret
  exact ⟨rfl, rfl⟩
theorem reach1_any (x b : Int) (g : Nat) (w : World) (hg : w.cell? ⟨g, 0, none⟩ = some (.int .i64 b)) : Calls Tryd.prog 31 #[.int .i64 x, .pointer (some ⟨g, 0, none⟩)] w fun e w' => e = .returned (.bool (x == b)) ∧ w' = w := by
  go_enter Tryd.func31, Tryd.ntmps31
  go_wp2
  go_ret
  exact ⟨rfl, rfl⟩
set_option maxHeartbeats 2000000 in
theorem flEdges_any (S : SysD) (vp vc vs : Value) (w : World) (he : Env w) (hS : Sys w vp vc vs S) :
    Calls Tryd.prog 9 #[.agg #[vp, vc, vs]] w fun e w' => ∃ v, e = .returned (.tuple #[v, .int .i64 (chkS S)]) ∧ Sl w' 2 v (edgesQ S).length (rowC Edg.cells (edgesQ S)) ∧ RowKit.Below w.heap.size w w' := by
  obtain ⟨pa, pc, rfl⟩ := hS.p.form
  obtain ⟨ca, cc, rfl⟩ := hS.c.form
  obtain ⟨sa, sc, rfl⟩ := hS.s.form
  generalize hr : chkS S = r
  have HS := Lib.hid hS
  have HR := Lib.hid hr
  clear hS hr
  go_enter Tryd.func9, Tryd.ntmps9
  go_wp2_with fail
  refine (confCheck_any S _ _ _ _ (he.up (by repeat (first | exact Below.refl _ _ | assumption | refine Below.drew ?_ | refine Below.alloc ?_ (by first | (simp; done) | (simp; omega)) _ | refine Below.setCell ?_ (by first | (simp; done) | (simp; omega)) _))) (HS.out.up (by repeat (first | exact Below.refl _ _ | assumption | refine Below.drew ?_ | refine Below.alloc ?_ (by first | (simp; done) | (simp; omega)) _ | refine Below.setCell ?_ (by first | (simp; done) | (simp; omega)) _)))).mono ?_
  rw [HR.out]
  rintro e w1 ⟨rfl, bb⟩
  have k0 := ((box_new w (.slice pa S.parts.length pc) (.slice ca S.chans.length cc) (.slice sa S.slots.length sc) 26 _ rfl).up bb).c
  have D := Lib.hid (RowKit.Below.trans (show RowKit.Below w.heap.size w _ from (by repeat (first | exact Below.refl _ _ | assumption | refine Below.drew ?_ | refine Below.alloc ?_ (by first | (simp; done) | (simp; omega)) _ | refine Below.setCell ?_ (by first | (simp; done) | (simp; omega)) _))) (bb.mono (by simp)))
  clear bb
  by_cases h0 : r = 0
  · subst h0
    obtain ⟨_, _, hl, hE⟩ := chk_flow HR.out
    go_wp2_with fail
    refine (edges_any S.chans _ hl _ (HS.out.c.up D.out)).mono ?_
    rintro e w2 ⟨v, l, rfl, hi, _, hs, b2⟩
    have D2 := Lib.hid (D.out.trans (b2.mono D.out.size))
    have hel := edges_eq hE hi
    subst hel
    have HS2 := Lib.hid hs
    clear D b2 k0 hi hs
    go_wp2
    go_ret2
    exact ⟨_, rfl, by rw [edgesQ, if_pos HR.out]; exact HS2.out, D2.out⟩
  · have h0' : (r != 0) = true := by simpa using h0
    have H0 := Lib.hid h0
    clear h0
    go_wp2
    go_ret2
    exact ⟨_, rfl, by rw [edgesQ, if_neg (by rw [HR.out]; exact H0.out)]; exact Sl.nil _ _, D.out⟩
set_option maxHeartbeats 2000000 in
theorem flThere_any (S : SysD) (hok : S.ok) (vp vc vs : Value) (part : Int) (w : World) (hS : Sys w vp vc vs S) :
    Calls Tryd.prog 40 #[.agg #[vp, vc, vs], .int .i64 part] w fun e w' => e = .returned (.int .i64 (thereE S part)) ∧ RowKit.Below w.heap.size w w' := by
  generalize hc : thereE S part = c
  obtain ⟨pa, pc, rfl⟩ := hS.p.form
  obtain ⟨ca, cc, rfl⟩ := hS.c.form
  obtain ⟨sa, sc, rfl⟩ := hS.s.form
  unfold thereE at hc
  generalize hr : chkS S = r at hc
  have HS := Lib.hid hS
  have HR := Lib.hid hr
  clear hS hr
  go_enter Tryd.func40, Tryd.ntmps40
  go_wp2_with fail
  refine (sysRef_any S hok _ _ _ _ (HS.out.up (by repeat (first | exact Below.refl _ _ | assumption | refine Below.drew ?_ | refine Below.alloc ?_ (by first | (simp; done) | (simp; omega)) _ | refine Below.setCell ?_ (by first | (simp; done) | (simp; omega)) _)))).mono ?_
  rw [HR.out]
  rintro e w1 ⟨rfl, bb⟩
  have k0 := ((box_new w (.slice pa S.parts.length pc) (.slice ca S.chans.length cc) (.slice sa S.slots.length sc) 26 _ rfl).up bb).p
  have D := Lib.hid (RowKit.Below.trans (show RowKit.Below w.heap.size w _ from (by repeat (first | exact Below.refl _ _ | assumption | refine Below.drew ?_ | refine Below.alloc ?_ (by first | (simp; done) | (simp; omega)) _ | refine Below.setCell ?_ (by first | (simp; done) | (simp; omega)) _))) (bb.mono (by simp)))
  clear bb
  by_cases h0 : r = 0
  · subst h0
    rw [if_pos rfl] at hc
    have sm := (chk_flow HR.out).1
    go_wp2_with fail
    refine (within_any part 0 ((S.parts.length : Int) - 1) _).mono ?_
    rintro e w2 ⟨rfl, rfl⟩
    cases hw : withinB part 0 ((S.parts.length : Int) - 1)
    all_goals
      rw [hw] at hc
      simp at hc
      subst hc
      go_wp2
      go_ret
      exact ⟨rfl, D.out⟩
  · have h0' : (r != 0) = true := by simpa using h0
    rw [if_neg h0] at hc
    subst hc
    clear h0
    go_wp2
    go_ret
    exact ⟨rfl, D.out⟩
set_option maxHeartbeats 1000000 in
theorem flThereX_any (S : SysD) (hok : S.ok) (vp vc vs : Value) (part : Int) (w : World) (hS : Sys w vp vc vs S) :
    Calls Tryd.prog 16 #[.agg #[vp, vc, vs], .int .i64 part] w fun e w' => e = .returned (.int .i64 (thereE S part)) ∧ RowKit.Below w.heap.size w w' := by
  generalize hc : thereE S part = c
  obtain ⟨pa, pc, rfl⟩ := hS.p.form
  obtain ⟨ca, cc, rfl⟩ := hS.c.form
  obtain ⟨sa, sc, rfl⟩ := hS.s.form
  have HS := Lib.hid hS
  have HC := Lib.hid hc
  clear hS hc
  go_enter Tryd.func16, Tryd.ntmps16
  go_wp2_with fail
  refine (flThere_any S hok _ _ _ part _ (HS.out.up (by repeat (first | exact Below.refl _ _ | assumption | refine Below.drew ?_ | refine Below.alloc ?_ (by first | (simp; done) | (simp; omega)) _ | refine Below.setCell ?_ (by first | (simp; done) | (simp; omega)) _)))).mono ?_
  rw [HC.out]
  rintro e w1 ⟨rfl, bb⟩
  have D := Lib.hid (RowKit.Below.trans (show RowKit.Below w.heap.size w _ from (by repeat (first | exact Below.refl _ _ | assumption | refine Below.drew ?_ | refine Below.alloc ?_ (by first | (simp; done) | (simp; omega)) _ | refine Below.setCell ?_ (by first | (simp; done) | (simp; omega)) _))) (bb.mono (by simp)))
  clear bb
  go_wp2
  go_ret
  exact ⟨rfl, D.out⟩
end Go.Proofs.YthpljbbhpbijgaaDoor

namespace Go.Proofs.YthpljbbhpbijgaaDoor
set_option linter.unusedSimpArgs false
set_option linter.unusedVariables false
open Go.RowKit Go.Sort Go.Shelf Go.Lib Go.Maps

set_option maxRecDepth 100000 in
set_option maxHeartbeats 4000000 in
theorem flPath_any (S : SysD) (a b : Int) (vp vc vs : Value) (w : World) (he : Env w) (hS : Sys w vp vc vs S) :
    Calls Tryd.prog 15 #[.agg #[vp, vc, vs], .int .i64 a, .int .i64 b] w fun e w' => ∃ v, e = .returned (.tuple #[v, .bool (pathY S a b), .int .i64 (pathE S a b)]) ∧ Sl w' 1 v (pathQ S a b).length (ints (pathQ S a b)) ∧ RowKit.Below w.heap.size w w' ∧ Hid (pathE S a b = 0 → ∃ l, SearchR (edgesL S) a b l (pathY S a b) ∧ l = pathQ S a b) := by
  obtain ⟨pa, pc, rfl⟩ := hS.p.form
  obtain ⟨ca, cc, rfl⟩ := hS.c.form
  obtain ⟨sa, sc, rfl⟩ := hS.s.form
  generalize hr : chkS S = r
  have HS := Lib.hid hS
  have HR := Lib.hid hr
  clear hS hr
  go_enter Tryd.func15, Tryd.ntmps15
  go_wp2_with fail
  refine (confCheck_any S _ _ _ _ (he.up (by repeat (first | exact Below.refl _ _ | assumption | refine Below.drew ?_ | refine Below.alloc ?_ (by first | (simp; done) | (simp; omega)) _ | refine Below.setCell ?_ (by first | (simp; done) | (simp; omega)) _))) (HS.out.up (by repeat (first | exact Below.refl _ _ | assumption | refine Below.drew ?_ | refine Below.alloc ?_ (by first | (simp; done) | (simp; omega)) _ | refine Below.setCell ?_ (by first | (simp; done) | (simp; omega)) _)))).mono ?_
  rw [HR.out]
  rintro e w1 ⟨rfl, bb⟩
  have HB := Lib.hid (((box_new w (.slice pa S.parts.length pc) (.slice ca S.chans.length cc) (.slice sa S.slots.length sc) 26 _ rfl).up ((RowKit.Below.refl _ _).alloc (Nat.le_refl _) (.cells #[.int .i64 b] 3))).up bb)
  have hbb : w1.cell? ⟨w.heap.size + 1, 0, none⟩ = some (.int .i64 b) := bcl bb (by simp) (by simp)
  have D := Lib.hid (RowKit.Below.trans (show RowKit.Below w.heap.size w _ from (by repeat (first | exact Below.refl _ _ | assumption | refine Below.drew ?_ | refine Below.alloc ?_ (by first | (simp; done) | (simp; omega)) _ | refine Below.setCell ?_ (by first | (simp; done) | (simp; omega)) _))) (bb.mono (by simp; omega)))
  have hsz : w.heap.size + 2 ≤ w1.heap.size := by have := bb.size; simpa using this
  clear bb
  by_cases h0 : r = 0
  · subst h0
    obtain ⟨h4, _, hl, hE⟩ := chk_flow HR.out
    have k0 := HB.out.p
    have k1 := HB.out.c
    have k2 := HB.out.s
    go_wp2_with fail
    refine (flIsPart_any S a _ _ _ _ ⟨_, _, rfl⟩).mono ?_
    rintro e w2 ⟨rfl, b2⟩
    have HB2 := Lib.hid (HB.out.up b2)
    have hbb2 := bcl b2 (by omega) hbb
    have D2 := Lib.hid (D.out.trans (b2.mono D.out.size))
    have hsz2 : w.heap.size + 2 ≤ w2.heap.size := by have := b2.size; omega
    clear HB hbb D b2 hsz k0 k1 k2
    have k0 := HB2.out.p
    have k1 := HB2.out.c
    have k2 := HB2.out.s
    cases hwa : withinB a 0 ((S.parts.length : Int) - 1) with
    | false =>
      have HE := Lib.hid (pathE_a (a := a) (b := b) HR.out hwa)
      have HN : Hid (pathE S a b ≠ 0) := Lib.hid (by rw [HE.out]; decide)
      have HQ := Lib.hid (pathQ_bad HN.out)
      go_wp2
      go_ret3
      exact ⟨.slice none 0 0, by rw [HE.out, HQ.out.2]; rfl, by rw [HQ.out.1]; exact Sl.nil _ _, D2.out, Lib.hid (fun h => absurd h HN.out)⟩
    | true =>
      have ha : 0 ≤ a ∧ a < S.parts.length := by unfold withinB at hwa; simp at hwa; omega
      have HA := Lib.hid ha
      clear ha
      go_wp2_with fail
      refine (flIsPart_any S b _ _ _ _ ⟨_, _, rfl⟩).mono ?_
      rintro e w3 ⟨rfl, b3⟩
      have HB3 := Lib.hid (HB2.out.up b3)
      have hbb3 := bcl b3 (by omega) hbb2
      have D3 := Lib.hid (D2.out.trans (b3.mono D2.out.size))
      have hsz3 : w.heap.size + 2 ≤ w3.heap.size := by have := b3.size; omega
      clear HB2 hbb2 D2 b3 hsz2 k0 k1 k2
      have k1 := HB3.out.c
      cases hwb : withinB b 0 ((S.parts.length : Int) - 1) with
      | false =>
        have HE := Lib.hid (pathE_b (a := a) (b := b) HR.out hwa hwb)
        have HN : Hid (pathE S a b ≠ 0) := Lib.hid (by rw [HE.out]; decide)
        have HQ := Lib.hid (pathQ_bad HN.out)
        go_wp2
        go_ret3
        exact ⟨.slice none 0 0, by rw [HE.out, HQ.out.2]; rfl, by rw [HQ.out.1]; exact Sl.nil _ _, D3.out, Lib.hid (fun h => absurd h HN.out)⟩
      | true =>
        have HE := Lib.hid (pathE_ok (a := a) (b := b) HR.out hwa hwb)
        have HQ := Lib.hid (pathQ_ok HE.out)
        go_wp2_with fail
        refine (edges_any S.chans _ hl _ (HS.out.c.up D3.out)).mono ?_
        rintro e w4 ⟨v, l, rfl, hi, hl12, hs, b4⟩
        have hel := edges_eq hE hi
        subst hel
        have HSL := Lib.hid hs
        have D4 := Lib.hid (D3.out.trans (b4.mono D3.out.size))
        have hbb4 := bcl b4 (by omega) hbb3
        have hsz4 : w.heap.size + 2 ≤ w4.heap.size := by have := b4.size; omega
        clear HB3 hbb3 D3 b4 hsz3 k1 hi hs
        have HF : Hid (∀ x w', RowKit.Below w4.heap.size w4 w' → Calls Tryd.prog 39 (#[.int .i64 x] ++ #[.pointer (some ⟨w.heap.size + 1, 0, none⟩)]) w' fun e w'' => e = .returned (.bool (x == b)) ∧ w'' = w') := Lib.hid (fun x w' hb => path1_any x b _ w' (bcl hb (by omega) hbb4))
        clear hbb4
        go_wp2_with fail
        refine (search_any (edgesL S) S.parts.length (by omega) (edgesL_in S) (by omega) a b HA.out 39 ent_path1 #[.pointer (some ⟨w.heap.size + 1, 0, none⟩)] _ _ HSL.out HF.out).mono ?_
        rintro e w5 ⟨v5, l5, r5, rfl, hsr, hs5, b5⟩
        obtain ⟨e1, e2⟩ := search_path (by omega) HA.out hsr
        have HSR := Lib.hid hsr
        subst e1
        subst e2
        have HS5 := Lib.hid hs5
        have D5 := Lib.hid (D4.out.trans (b5.mono D4.out.size))
        clear HF HSL D4 b5 hs5 hsr
        go_wp2
        go_ret3
        exact ⟨v5, by rw [HE.out, HQ.out.2]; rfl, by rw [HQ.out.1]; exact HS5.out, D5.out, Lib.hid (fun _ => ⟨_, by rw [HQ.out.2]; exact HSR.out, HQ.out.1.symm⟩)⟩
  · have h0' : (r != 0) = true := by simpa using h0
    have HE : Hid (pathE S a b = r) := Lib.hid ((pathE_bad (by rw [HR.out]; exact h0)).trans HR.out)
    have HN : Hid (pathE S a b ≠ 0) := Lib.hid (by rw [HE.out]; exact h0)
    have HQ := Lib.hid (pathQ_bad HN.out)
    clear h0
    go_wp2
    go_ret3
    exact ⟨.slice none 0 0, by rw [HE.out, HQ.out.2]; rfl, by rw [HQ.out.1]; exact Sl.nil _ _, D.out, Lib.hid (fun h => absurd h HN.out)⟩
end Go.Proofs.YthpljbbhpbijgaaDoor

namespace Go.Proofs.YthpljbbhpbijgaaDoor
set_option linter.unusedSimpArgs false
set_option linter.unusedVariables false
open Go.RowKit Go.Sort Go.Shelf Go.Lib Go.Maps

def bools (f : Nat → Bool) (n : Nat) : List Value := (List.range n).map fun j => .bool (f j)
def upto (f : Nat → Bool) (k n : Nat) : Array Value := ((List.range n).map fun j => Value.bool (if j < k then f j else false)).toArray
theorem upto_zero (f : Nat → Bool) (n : Nat) : madeCells #[.bool false] n = upto f 0 n := by
  apply Array.ext'
  rw [toList_madeCells_one]
  apply List.ext_getElem
  · simp [upto]
  · intro j h1 h2
    simp [upto]
theorem upto_step (f : Nat → Bool) {k n : Nat} : (upto f k n).setIfInBounds k (.bool (f k)) = upto f (k + 1) n := by
  apply Array.ext'
  apply List.ext_getElem
  · simp [upto]
  · intro j h1 h2
    simp only [upto, List.setIfInBounds_toArray, List.getElem_set, List.getElem_map, List.getElem_range]
    by_cases e : k = j
    · subst e; simp
    · rw [if_neg e]
      have : (j < k + 1) ↔ (j < k) := by omega
      simp [this]
theorem upto_full (f : Nat → Bool) (n : Nat) : (upto f n n).toList = bools f n := by
  apply List.ext_getElem
  · simp [upto, bools]
  · intro j h1 h2
    simp [upto, bools] at h1 h2 ⊢
    intro h
    omega
theorem upto_at (f : Nat → Bool) {k n j : Nat} (hj : j < n) : (upto f k n)[j]? = some (.bool (if j < k then f j else false)) := by
  simp [upto, hj]
theorem bools_at (f : Nat → Bool) {n j : Nat} (hj : j < n) : (bools f n)[j]? = some (.bool (f j)) := by
  simp [bools, hj]
theorem upto_sl {w : World} {g : Nat} {t : TypeId} {f : Nat → Bool} {n : Nat} (h : Rw w g t (upto f n n)) : Sl w 1 (.slice (some ⟨g, 0, none⟩) n n) n (bools f n) := by
  refine ⟨by simp [bools], _, _, rfl, Nat.le_refl _, fun _ => ⟨g, 0, rfl, h.lt, fun j u hj => ?_⟩⟩
  rw [Nat.zero_add]
  refine h.cell ?_
  rw [← Array.getElem?_toList, upto_full]
  exact hj
theorem flSl_grown {w w' : World} {row : Option Nat} {size : Nat} {v : Value} {n : Nat} {xs : List Value} (h : Sl w size v n xs) (hg : w.grownBy w' row) (hne : ∀ k, v.ownBlock = some k → row ≠ some k) : Sl w' size v n xs := by
  obtain ⟨h1, ao, cap, rfl, h3, h4⟩ := h
  refine ⟨h1, ao, cap, rfl, h3, fun hn => ?_⟩
  obtain ⟨b, off, rfl, hlt, hc⟩ := h4 hn
  exact ⟨b, off, rfl, Nat.lt_of_lt_of_le hlt hg.size, fun j u hj => (hg.cell_far ⟨b, off + j, none⟩ hlt (fun e => hne b rfl e.symm)).trans (hc j u hj)⟩
/-- A table that is read: k rows of n truths each. -/
def TabR (w : World) (v : Value) (f : Nat → Nat → Bool) (k n : Nat) : Prop :=
  ∃ vs : List Value, vs.length = k ∧ Sl w 1 v k vs ∧ ∀ a (h : a < vs.length), Sl w 1 vs[a] n (bools (f a) n)
theorem TabR.up {w w' : World} {v : Value} {f : Nat → Nat → Bool} {k n : Nat} (h : TabR w v f k n) (hb : RowKit.Below w.heap.size w w') : TabR w' v f k n := by
  obtain ⟨vs, h1, h2, h3⟩ := h
  exact ⟨vs, h1, h2.up hb, fun a ha => (h3 a ha).up hb⟩
theorem tabR_nil (w : World) (f : Nat → Nat → Bool) (n : Nat) : TabR w (.slice none 0 0) f 0 n := ⟨[], rfl, Sl.nil _ _, fun a h => absurd h (Nat.not_lt_zero _)⟩
theorem TabR.form {w : World} {v : Value} {f : Nat → Nat → Bool} {k n : Nat} (h : TabR w v f k n) : ∃ ao cap, v = .slice ao k cap := let ⟨_, _, h2, _⟩ := h; h2.form
/-- A table in the making. -/
def TabO (w : World) (B : Nat) (v : Value) (f : Nat → Nat → Bool) (k n : Nat) : Prop :=
  ∃ vs : List Value, vs.length = k ∧ w.ownsRow B 38 1 v k vs ∧ ∀ a (h : a < vs.length), Sl w 1 vs[a] n (bools (f a) n) ∧ ∀ b, vs[a].ownBlock = some b → v.ownBlock ≠ some b ∧ b < w.heap.size
theorem TabO.r {w : World} {B : Nat} {v : Value} {f : Nat → Nat → Bool} {k n : Nat} (h : TabO w B v f k n) : TabR w v f k n := by
  obtain ⟨vs, h1, h2, h3⟩ := h
  exact ⟨vs, h1, own_sl h2, fun a ha => (h3 a ha).1⟩
theorem TabO.up {w w' : World} {B : Nat} {v : Value} {f : Nat → Nat → Bool} {k n : Nat} (h : TabO w B v f k n) (hb : RowKit.Below w.heap.size w w') : TabO w' B v f k n := by
  obtain ⟨vs, h1, h2, h3⟩ := h
  exact ⟨vs, h1, own_upF h2 hb, fun a ha => ⟨(h3 a ha).1.up hb, fun b e => ⟨((h3 a ha).2 b e).1, Nat.lt_of_lt_of_le ((h3 a ha).2 b e).2 hb.size⟩⟩⟩
theorem TabO.lt {w : World} {B : Nat} {v : Value} {f : Nat → Nat → Bool} {k n b : Nat} (h : TabO w B v f k n) (e : v.ownBlock = some b) : b < w.heap.size := by
  obtain ⟨vs, h1, h2, h3⟩ := h
  exact (h2.lt b e).2
theorem tabO_nil (w : World) (B : Nat) (f : Nat → Nat → Bool) (n : Nat) : TabO w B (.slice none 0 0) f 0 n := ⟨[], rfl, World.ownsRow_nil _ _ _ _, fun a h => absurd h (Nat.not_lt_zero _)⟩
/-- One row more. -/
theorem TabO.add {w w' : World} {B : Nat} {v : Value} {f : Nat → Nat → Bool} {k n g cap : Nat} {x : Value} {vs : List Value} (h1 : vs.length = k) (h3 : ∀ a (h : a < vs.length), Sl w 1 vs[a] n (bools (f a) n) ∧ ∀ b, vs[a].ownBlock = some b → v.ownBlock ≠ some b ∧ b < w.heap.size)
    (ho : w'.ownsRow B 38 1 (.slice (some ⟨g, 0, none⟩) (k + 1) cap) (k + 1) (vs ++ [x])) (hg : w.grownBy w' v.ownBlock) (hat : v.ownBlock = some g ∨ g = w.heap.size) (hx : Sl w 1 x n (bools (f k) n)) (hxb : ∀ b, x.ownBlock = some b → v.ownBlock ≠ some b ∧ b < w.heap.size) :
    TabO w' B (.slice (some ⟨g, 0, none⟩) (k + 1) cap) f (k + 1) n := by
  have far : ∀ b, v.ownBlock ≠ some b ∧ b < w.heap.size → (Value.slice (some ⟨g, 0, none⟩) (k + 1) cap).ownBlock ≠ some b ∧ b < w'.heap.size := fun b ⟨e1, e2⟩ => ⟨fun e => by
    simp [Value.ownBlock] at e
    subst e
    rcases hat with hat | hat
    · exact e1 hat
    · omega, Nat.lt_of_lt_of_le e2 hg.size⟩
  refine ⟨vs ++ [x], by simp [h1], ho, fun a ha => ?_⟩
  by_cases hak : a < vs.length
  · rw [List.getElem_append_left hak]
    exact ⟨flSl_grown (h3 a hak).1 hg (fun b e => ((h3 a hak).2 b e).1), fun b e => far b ((h3 a hak).2 b e)⟩
  · have : a = k := by simp at ha; omega
    subst this
    rw [List.getElem_append_right (by omega)]
    simp only [h1, Nat.sub_self, List.getElem_cons_zero]
    exact ⟨flSl_grown hx hg (fun b e => (hxb b e).1), fun b e => far b (hxb b e)⟩
theorem infoBools : (Tryd.prog.info? 38).map (fun i => (i.zero, i.size, i.bytes)) = some (some (.slice none 0 0), 1, 24) := by kernel_rfl
theorem infoBool : (Tryd.prog.info? 4).map (fun i => (i.zero, i.size, i.bytes)) = some (some (.bool false), 1, 1) := by kernel_rfl
theorem ent_search : Enters 30 := enters Tryd.func30 (by kernel_rfl) (by kernel_rfl)
end Go.Proofs.YthpljbbhpbijgaaDoor

namespace Go.Proofs.YthpljbbhpbijgaaDoor
set_option linter.unusedSimpArgs false
set_option linter.unusedVariables false
open Go.RowKit Go.Sort Go.Shelf Go.Lib Go.Maps

def reachQ (S : SysD) : Nat := if chkS S = 0 then S.parts.length else 0
def rB (S : SysD) (a b : Nat) : Bool := reachB S a b
set_option maxRecDepth 100000 in
set_option maxHeartbeats 8000000 in
theorem flReach_any (S : SysD) (vp vc vs : Value) (w : World) (he : Env w) (hS : Sys w vp vc vs S) :
    Calls Tryd.prog 10 #[.agg #[vp, vc, vs]] w fun e w' => ∃ v, e = .returned (.tuple #[v, .int .i64 (chkS S)]) ∧ TabR w' v (fun a b => reachB S a b) (reachQ S) (reachQ S) ∧ RowKit.Below w.heap.size w w' ∧ Hid (∀ a b : Nat, a < reachQ S → b < reachQ S → ∃ l, SearchR (edgesL S) a b l (reachB S a b)) := by
  obtain ⟨i1, hi1, hy0, hy1, hy2⟩ := info_parts infoBools
  obtain ⟨i2, hi2, hb0, hb1, hb2⟩ := info_parts infoBool
  obtain ⟨pa, pc, rfl⟩ := hS.p.form
  obtain ⟨ca, cc, rfl⟩ := hS.c.form
  obtain ⟨sa, sc, rfl⟩ := hS.s.form
  generalize hr : chkS S = r
  have HS := Lib.hid hS
  have HR := Lib.hid hr
  clear hS hr
  go_enter Tryd.func10, Tryd.ntmps10
  go_wp2_with fail
  refine (confCheck_any S _ _ _ _ (he.up (by repeat (first | exact Below.refl _ _ | assumption | refine Below.drew ?_ | refine Below.alloc ?_ (by first | (simp; done) | (simp; omega)) _ | refine Below.setCell ?_ (by first | (simp; done) | (simp; omega)) _))) (HS.out.up (by repeat (first | exact Below.refl _ _ | assumption | refine Below.drew ?_ | refine Below.alloc ?_ (by first | (simp; done) | (simp; omega)) _ | refine Below.setCell ?_ (by first | (simp; done) | (simp; omega)) _)))).mono ?_
  rw [HR.out]
  rintro e w1 ⟨rfl, bb⟩
  have HB := Lib.hid ((box_new w (.slice pa S.parts.length pc) (.slice ca S.chans.length cc) (.slice sa S.slots.length sc) 26 _ rfl).up bb)
  have D := Lib.hid (RowKit.Below.trans (show RowKit.Below w.heap.size w _ from (by repeat (first | exact Below.refl _ _ | assumption | refine Below.drew ?_ | refine Below.alloc ?_ (by first | (simp; done) | (simp; omega)) _ | refine Below.setCell ?_ (by first | (simp; done) | (simp; omega)) _))) (bb.mono (by simp)))
  clear bb
  by_cases h0 : r = 0
  · subst h0
    obtain ⟨h4, _, hl, hE⟩ := chk_flow HR.out
    have HQN : Hid (reachQ S = S.parts.length) := Lib.hid (by unfold reachQ; rw [if_pos HR.out])
    have k1 := HB.out.c
    go_wp2_with fail
    refine (edges_any S.chans _ hl _ (HS.out.c.up D.out)).mono ?_
    rintro e w2 ⟨ve, l, rfl, hi, hl12, hs, b2⟩
    have hel := edges_eq hE hi
    subst hel
    have HSL := Lib.hid hs
    have D2 := Lib.hid (D.out.trans (b2.mono D.out.size))
    have HB2 := Lib.hid (HB.out.up b2)
    clear HB D b2 k1 hi hs
    have k0 := HB2.out.p
    go_wp2
    clear k0
    go_loopw [21, 6] (fun i l wo => ∃ k : Nat, i = .int .i64 k ∧ k ≤ S.parts.length ∧ Hid (TabO wo w2.heap.size l (fun a b => reachB S a b) k S.parts.length) ∧ Hid (RowKit.Below w2.heap.size w2 wo) ∧ Hid (∀ a b : Nat, a < k → b < S.parts.length → ∃ l, SearchR (edgesL S) a b l (reachB S a b))) (fun i _ _ => S.parts.length - (intOf i).toNat)
    case atStart => exact ⟨0, rfl, Nat.zero_le _, Lib.hid (tabO_nil _ _ _ _), Lib.hid (RowKit.Below.refl _ _), Lib.hid (fun a b h => by omega)⟩
    case round =>
      obtain ⟨k, rfl, hk, HT, H2, HA⟩ := hrel
      obtain ⟨wo, hwo⟩ : ∃ wo, wo = wr := ⟨_, rfl⟩
      subst hwo
      have HB3 := Lib.hid (HB2.out.up H2.out)
      have k0 := HB3.out.p
      by_cases hlt : k < S.parts.length
      · have hli : (k : Int) < S.parts.length := by omega
        go_wp2_with (refine wpList_make_row _ rfl _ _ 38 rfl 4 i2 (.bool false) Tryd.underlying38 hi2 hb0 hb1 rfl .i64 .i64 S.parts.length rfl rfl (by rw [hb2]; omega) (by omega) ?_)
        clear k0
        go_loopw [30] (fun i wr => ∃ j : Nat, i = .int .i64 j ∧ j ≤ S.parts.length ∧ Hid (Rw wr wo.heap.size 4 (upto (fun b => reachB S k b) j S.parts.length)) ∧ Hid (RowKit.Below wo.heap.size wo wr) ∧ Hid (∀ b : Nat, b < j → ∃ l, SearchR (edgesL S) k b l (reachB S k b))) (fun i _ => S.parts.length - (intOf i).toNat)
        case atStart => exact ⟨0, rfl, Nat.zero_le _, Lib.hid (by rw [← upto_zero]; exact Rw.new _ _ _ rfl), (by repeat (first | exact Below.refl _ _ | assumption | refine Below.drew ?_ | refine Below.alloc ?_ (by first | (simp; done) | (simp; omega)) _ | refine Below.setCell ?_ (by first | (simp; done) | (simp; omega)) _)), Lib.hid (fun b h => by omega)⟩
        case round =>
          obtain ⟨j, rfl, hj, HR, HQ, HA2⟩ := hrel
          by_cases hjl : j < S.parts.length
          · have hji : (j : Int) < S.parts.length := by omega
            go_upto_region 13 with fail
            have hc0 : (wr.alloc (.cells #[.int .i64 j] 3)).cell? ⟨wr.heap.size, 0, none⟩ = some (.int .i64 j) := by simp
            have HX : Hid (RowKit.Below wr.heap.size wr (wr.alloc (.cells #[.int .i64 j] 3))) := Lib.hid (by repeat (first | exact Below.refl _ _ | assumption | refine Below.drew ?_ | refine Below.alloc ?_ (by first | (simp; done) | (simp; omega)) _ | refine Below.setCell ?_ (by first | (simp; done) | (simp; omega)) _))
            have hxs : wr.heap.size < (wr.alloc (.cells #[.int .i64 j] 3)).heap.size := by simp
            generalize wr.alloc (.cells #[.int .i64 j] 3) = X at hc0 HX hxs ⊢
            refine region_still (S := fun w' => w'.cell? ⟨wr.heap.size, 0, none⟩ = some (.int .i64 (j : Int))) 10 (by kernel_rfl) hc0 (fun hHeld => ?_)
            refine Still.takeBy (i := 0) [] (v := ?v1) (by kernel_rfl) (by kernel_rfl) rfl (by kernel_rfl) (by kernel_rfl) (by kernel_rfl) (fun _ _ _ h => h) (Or.inl ⟨by rfl, ?y1⟩) hHeld ?r1
            case y1 => (intro w' hSw; (try dsimp only at hSw); go_simp; try with_reducible rfl)
            simp only [Act.put, List.getElem_toArray, List.getElem_cons_zero, List.getElem_cons_succ, List.setIfInBounds_toArray, List.set_cons_zero, List.set_cons_succ]
            refine Still.takeBy (i := 1) [] (v := ?v2) (by kernel_rfl) (by kernel_rfl) rfl (by kernel_rfl) (by kernel_rfl) (by kernel_rfl) (fun _ _ _ h => h) (Or.inl ⟨by rfl, ?y2⟩) hHeld ?r2
            case y2 => (intro w' hSw; (try dsimp only at hSw); go_simp; try with_reducible rfl)
            simp only [Act.put, List.getElem_toArray, List.getElem_cons_zero, List.getElem_cons_succ, List.setIfInBounds_toArray, List.set_cons_zero, List.set_cons_succ]
            refine Still.takeBy (i := 2) [] (v := ?v3) (by kernel_rfl) (by kernel_rfl) rfl (by kernel_rfl) (by kernel_rfl) (by kernel_rfl) (fun _ _ _ h => h) (Or.inl ⟨by rfl, ?y3⟩) hHeld ?r3
            case y3 => (intro w' hSw; (try dsimp only at hSw); go_simp; try with_reducible rfl)
            simp only [Act.put, List.getElem_toArray, List.getElem_cons_zero, List.getElem_cons_succ, List.setIfInBounds_toArray, List.set_cons_zero, List.set_cons_succ]
            refine Still.takeBy (i := 3) [] (v := ?v4) (by kernel_rfl) (by kernel_rfl) rfl (by kernel_rfl) (by kernel_rfl) (by kernel_rfl) (fun _ _ _ h => h) (Or.inl ⟨by rfl, ?y4⟩) hHeld ?r4
            case y4 => (intro w' hSw; (try dsimp only at hSw); go_simp; try with_reducible rfl)
            simp only [Act.put, List.getElem_toArray, List.getElem_cons_zero, List.getElem_cons_succ, List.setIfInBounds_toArray, List.set_cons_zero, List.set_cons_succ]
            refine Still.takeBy (i := 4) [] (v := ?v5) (by kernel_rfl) (by kernel_rfl) rfl (by kernel_rfl) (by kernel_rfl) (by kernel_rfl) (fun _ _ _ h => h) (Or.inl ⟨by rfl, ?y5⟩) hHeld ?r5
            case y5 => (intro w' hSw; (try dsimp only at hSw); go_simp; try with_reducible rfl)
            simp only [Act.put, List.getElem_toArray, List.getElem_cons_zero, List.getElem_cons_succ, List.setIfInBounds_toArray, List.set_cons_zero, List.set_cons_succ]
            refine Still.all (rs := [5]) (by kernel_rfl) (by simp) (Still.one (i := 5) rfl rfl (fun K hK => ?_) (by simp))
            refine wp_call 30 _ _ rfl ent_search #[ve, .int .i64 k, .func (.func 31) #[] #[.pointer (some ⟨wr.heap.size, 0, none⟩)]] (by first | rfl | simp [Act.eval, Act.put]) ((search_any (edgesL S) S.parts.length (by omega) (edgesL_in S) (by omega) k j ⟨by omega, by omega⟩ 31 ent_reach1 #[.pointer (some ⟨wr.heap.size, 0, none⟩)] ve X.drew (HSL.out.up ((H2.out.trans ((HQ.out.trans (HX.out.mono HQ.out.size)).mono H2.out.size)).trans (RowKit.Below.refl _ _).drew)) (fun x w' hb => reach1_any x j _ w' (bcl hb hxs hc0))).mono ?_)
            rintro e V1 ⟨v5, l5, r5, rfl, hsr, hs5, b5⟩
            have hc1 := bcl b5 hxs hc0
            have e2 := search_reach (by omega) ⟨by omega, by omega⟩ hsr
            subst e2
            have HSR := Lib.hid hsr
            have HV : Hid (RowKit.Below wr.heap.size wr V1) := Lib.hid ((HX.out.trans (RowKit.Below.refl _ _).drew).trans (b5.mono HX.out.size))
            have hu4 := (HR.out.up HV.out HR.out.lt).cell (upto_at (fun b : Nat => reachB S k b) (k := j) hjl)
            have hf4 := (HR.out.up HV.out HR.out.lt).fr j
            refine ⟨_, rfl, hK _ _ (fun _ => hc1) (fun hh => ?_)⟩
            have hHeld := hh (by decide)
            clear hK K hh hsr hs5 b5 HX hxs hc0
            try simp only [Act.put, List.getElem_toArray, List.getElem_cons_zero, List.getElem_cons_succ, List.setIfInBounds_toArray, List.set_cons_zero, List.set_cons_succ]
            refine Still.takeBy (i := 6) [] (v := ?v6) (by kernel_rfl) (by kernel_rfl) rfl (by kernel_rfl) (by kernel_rfl) (by kernel_rfl) (fun _ _ _ h => h) (Or.inl ⟨by rfl, ?y6⟩) hHeld ?r6
            case y6 => (intro w' hSw; (try dsimp only at hSw); go_simp; try with_reducible rfl)
            simp only [Act.put, List.getElem_toArray, List.getElem_cons_zero, List.getElem_cons_succ, List.setIfInBounds_toArray, List.set_cons_zero, List.set_cons_succ]
            refine Still.takeBy (i := 7) [] (v := ?v7) (by kernel_rfl) (by kernel_rfl) rfl (by kernel_rfl) (by kernel_rfl) (by kernel_rfl) (fun _ _ _ h => h) (Or.inl ⟨by rfl, ?y7⟩) hHeld ?r7
            case y7 => (intro w' hSw; (try dsimp only at hSw); go_simp; try with_reducible rfl)
            simp only [Act.put, List.getElem_toArray, List.getElem_cons_zero, List.getElem_cons_succ, List.setIfInBounds_toArray, List.set_cons_zero, List.set_cons_succ]
            refine Still.takeBy (i := 8) [] (v := ?v8) (by kernel_rfl) (by kernel_rfl) rfl (by kernel_rfl) (by kernel_rfl) (by kernel_rfl) (fun _ _ _ h => h) (Or.inl ⟨by rfl, ?y8⟩) hHeld ?r8
            case y8 => (intro w' hSw; (try dsimp only at hSw); go_simp; try with_reducible rfl)
            simp only [Act.put, List.getElem_toArray, List.getElem_cons_zero, List.getElem_cons_succ, List.setIfInBounds_toArray, List.set_cons_zero, List.set_cons_succ]
            refine Still.takeBy (i := 9) [] (v := ?v9) (by kernel_rfl) (by kernel_rfl) rfl (by kernel_rfl) (by kernel_rfl) (by kernel_rfl) (fun _ _ _ h => h) (Or.inl ⟨by rfl, ?y9⟩) hHeld ?r9
            case y9 => (intro w' hSw; (try dsimp only at hSw); go_simp; try with_reducible rfl)
            simp only [Act.put, List.getElem_toArray, List.getElem_cons_zero, List.getElem_cons_succ, List.setIfInBounds_toArray, List.set_cons_zero, List.set_cons_succ]
            refine Still.all (rs := [10]) (by kernel_rfl) (by simp) (Still.one (i := 10) rfl rfl (fun K hK => ?_) (by simp))
            go_simp
            refine hK _ _ (fun h => absurd rfl h) (fun _ => ?_)
            clear hK K
            refine Still.over (by kernel_rfl) ?_ _
            clear hHeld
            go_wp2
            go_roundw
            case rel =>
              refine ⟨j + 1, by go_num, by omega, Lib.hid ?_, Lib.hid ?_, Lib.hid ?_⟩
              · rw [← upto_step]
                exact (HR.out.up HV.out HR.out.lt).set j _
              · exact (HQ.out.trans (HV.out.mono HQ.out.size)).setCell (by simp) _
              · intro b hb
                by_cases e : b = j
                · subst e; exact ⟨_, HSR.out⟩
                · exact HA2.out b (by omega)
            case measure => simp [intOf]; omega
          · have hji : ¬ (j : Int) < S.parts.length := by omega
            have hje : j = S.parts.length := by omega
            subst hje
            obtain ⟨vs, hv1, hv2, hv3⟩ := HT.out.up HQ.out
            have hsq := HQ.out.size
            have hs2 := H2.out.size
            have HO3 := Lib.hid (hv2.alloc (.cells #[.slice (some ⟨wo.heap.size, 0, none⟩) S.parts.length S.parts.length] 38))
            have HTT := HT.out
            have HV3 := Lib.hid hv3
            have HV1 := Lib.hid hv1
            obtain ⟨a3, c3, hform⟩ := own_form HO3.out
            subst hform
            clear hv2 hv3 hv1 HTT
            go_wp2_with (at_builtin; refine wpList_append_lies _ rfl (.tmp 44) (.tmp 46) 31 rfl w2.heap.size 38 i1 _ 1 24 Tryd.underlying31 hi1 hy0 hy1 hy2 rfl (by decide) _ k vs rfl HO3.out ⟨wr.heap.size, 0, none⟩ 1 1 [.slice (some ⟨wo.heap.size, 0, none⟩) S.parts.length S.parts.length] rfl rfl (new_rangeE _ _ _ _ rfl) (by simp [Value.oneCell']) (by decide) (by unfold maxLen; omega) (by omega) (by simp; omega) _ rfl ?_)
            intro g5 cap5 W5 hown hgrow hat hg5
            have HTB := Lib.hid (HR.out.lt)
            have HT5 : Hid (TabO W5 w2.heap.size (.slice (some ⟨g5, 0, none⟩) (k + 1) cap5) (fun a b => reachB S a b) (k + 1) S.parts.length) := Lib.hid (TabO.add (w := wr.alloc (.cells #[.slice (some ⟨wo.heap.size, 0, none⟩) S.parts.length S.parts.length] 38)) HV1.out (fun a h => ⟨(HV3.out a h).1.up ((RowKit.Below.refl _ _).alloc (Nat.le_refl _) _), fun b e => ⟨((HV3.out a h).2 b e).1, by have := ((HV3.out a h).2 b e).2; simp; omega⟩⟩) hown hgrow (by simpa using hat) ((upto_sl HR.out).up ((RowKit.Below.refl _ _).alloc (Nat.le_refl _) _)) (fun b e => by
              simp [Value.ownBlock] at e
              subst e
              refine ⟨fun e2 => ?_, by simp; have := HTB.out; omega⟩
              have := HT.out.lt e2
              omega))
            have H5 := Lib.hid (((H2.out.trans (HQ.out.mono H2.out.size)).alloc (by omega) _).grown hgrow (by simp; omega) (fun q e => by have := own_block HO3.out q e; omega))
            clear hown hgrow hat HO3 HQ HT
            go_wp2
            go_roundw
            case rel =>
              refine ⟨k + 1, by go_num, by omega, HT5, H5, Lib.hid (fun a b h1 h2 => ?_)⟩
              by_cases e : a = k
              · subst e; exact HA2.out b h2
              · exact HA.out a b (by omega) h2
            case measure => simp [intOf]; omega
      · have hli : ¬ (k : Int) < S.parts.length := by omega
        have hke : k = S.parts.length := by omega
        subst hke
        go_wp2
        go_ret2
        exact ⟨_, rfl, by rw [HQN.out]; exact HT.out.r, D2.out.trans (H2.out.mono D2.out.size), by rw [HQN.out]; exact HA⟩
  · have h0' : (r != 0) = true := by simpa using h0
    have HQN : Hid (reachQ S = 0) := Lib.hid (by unfold reachQ; rw [if_neg (by rw [HR.out]; exact h0)])
    clear h0
    go_wp2
    go_ret2
    exact ⟨_, rfl, by rw [HQN.out]; exact tabR_nil _ _ _, D.out, Lib.hid (fun a b h => by rw [HQN.out] at h; omega)⟩
end Go.Proofs.YthpljbbhpbijgaaDoor
