/- conf: what its function literals answer; counts and places. -/
import Derived.Test.YtdijpjmbicfcdaaDoorCf0
namespace Go.Proofs.YtdijpjmbicfcdaaDoor
set_option linter.unusedSimpArgs false
set_option linter.unusedVariables false
open Go.RowKit Go.Sort

theorem app0 (a : Value) : #[a] ++ (#[] : Array Value) = #[a] := by simp
theorem app1 (a b : Value) : #[a] ++ #[b] = #[a, b] := by simp
theorem app2 (a b c : Value) : #[a] ++ #[b, c] = #[a, b, c] := by simp

/-- A system that lies in a variable of its own. -/
structure Box (w : World) (g : Nat) (vp vc vs : Value) : Prop where
  p : w.cell? ⟨g, 0, none⟩ = some vp
  c : w.cell? ⟨g, 1, none⟩ = some vc
  s : w.cell? ⟨g, 2, none⟩ = some vs
  lt : g < w.heap.size
theorem Box.up {w w' : World} {g : Nat} {vp vc vs : Value} (h : Box w g vp vc vs) (hb : Below w.heap.size w w') : Box w' g vp vc vs :=
  ⟨bcl hb h.lt h.p, bcl hb h.lt h.c, bcl hb h.lt h.s, Nat.lt_of_lt_of_le h.lt hb.size⟩
theorem box_new (w : World) (vp vc vs : Value) (t : TypeId) (g : Nat) (hg : g = w.heap.size) : Box (w.alloc (.cells #[vp, vc, vs] t)) g vp vc vs := by
  subst hg
  exact ⟨by simp, by simp, by simp, by simp⟩

set_option maxHeartbeats 1000000 in
theorem kindLit_any (c : Chn) (w : World) : Calls Tryd.prog 32 #[.agg #[.int .i64 c.kd, .int .i64 c.fr, .int .i64 c.tt]] w fun e w' => e = .returned (.bool (kindBad c)) ∧ Below w.heap.size w w' := by
  generalize h1 : (c.kd != 1) = q1
  generalize h2 : (c.kd != 2) = q2
  have HE : Hid (kindBad c = (q1 && q2)) := by show kindBad c = _; unfold kindBad; rw [h1, h2]
  cases q1 <;> cases q2
  all_goals
    go_enter Tryd.func32, Tryd.ntmps32
    go_wp2
    go_ret
    exact ⟨ret_bool (by rw [HE.out]; rfl), (by repeat (first | exact Below.refl _ _ | assumption | refine Below.drew ?_ | refine Below.alloc ?_ (by first | (simp; done) | (simp; omega)) _ | refine Below.setCell ?_ (by first | (simp; done) | (simp; omega)) _))⟩

theorem countLit_any (ca : Option Addr) (cn cc : Nat) (ia : Option Addr) (n ic : Nat) (w : World) : Calls Tryd.prog 46 #[.agg #[.slice ca cn cc, .slice ia n ic]] w fun e w' => e = .returned (.bool (decide (12 < n))) ∧ Below w.heap.size w w' := by
  by_cases h : 12 < n
  all_goals
    go_enter Tryd.func46, Tryd.ntmps46
    go_wp2
    go_ret
    exact ⟨ret_bool (by simp; omega), (by repeat (first | exact Below.refl _ _ | assumption | refine Below.drew ?_ | refine Below.alloc ?_ (by first | (simp; done) | (simp; omega)) _ | refine Below.setCell ?_ (by first | (simp; done) | (simp; omega)) _))⟩

set_option maxHeartbeats 1000000 in
theorem placeLit_any (c : Chn) (g : Nat) (ao : Option Addr) (n cap : Nat) (vc vs : Value) (w : World) (hn : n ≤ 1000) (hB : Box w g (.slice ao n cap) vc vs) (hc : ∃ a b d, vc = .slice a b d) (hs : ∃ a b d, vs = .slice a b d) :
    Calls Tryd.prog 48 #[.agg #[.int .i64 c.kd, .int .i64 c.fr, .int .i64 c.tt], .pointer (some ⟨g, 0, none⟩)] w fun e w' => e = .returned (.bool (placeBad n c)) ∧ Below w.heap.size w w' := by
  obtain ⟨a1, b1, d1, rfl⟩ := hc
  obtain ⟨a2, b2, d2, rfl⟩ := hs
  generalize h1 : withinB c.fr 0 ((n : Int) - 1) = q1
  generalize h2 : withinB c.tt 0 ((n : Int) - 1) = q2
  generalize h3 : (c.fr == c.tt) = q3
  have HE : Hid (placeBad n c = (!q1 || !q2 || q3)) := by show placeBad n c = _; unfold placeBad; rw [h1, h2, h3]
  have H1 := Lib.hid h1
  have H2 := Lib.hid h2
  have HB := Lib.hid hB
  have k0 := (HB.out.up (w' := w.alloc (.cells #[.int .i64 c.kd, .int .i64 c.fr, .int .i64 c.tt] 47)) ((Below.refl _ _).alloc (Nat.le_refl _) _)).p
  have k1 := (HB.out.up (w' := w.alloc (.cells #[.int .i64 c.kd, .int .i64 c.fr, .int .i64 c.tt] 47)) ((Below.refl _ _).alloc (Nat.le_refl _) _)).c
  have k2 := (HB.out.up (w' := w.alloc (.cells #[.int .i64 c.kd, .int .i64 c.fr, .int .i64 c.tt] 47)) ((Below.refl _ _).alloc (Nat.le_refl _) _)).s
  clear h1 h2 hB
  have hlt := HB.out.lt
  cases q1
  · go_enter Tryd.func48, Tryd.ntmps48
    go_wp2_with fail
    refine (isPart_any ao n cap _ _ c.fr _ hn).mono ?_
    rw [H1.out]
    rintro e w1 ⟨rfl, bb⟩
    have D := Lib.hid (Below.trans (show Below w.heap.size w _ from (by repeat (first | exact Below.refl _ _ | assumption | refine Below.drew ?_ | refine Below.alloc ?_ (by first | (simp; done) | (simp; omega)) _ | refine Below.setCell ?_ (by first | (simp; done) | (simp; omega)) _))) (bb.mono (by simp)))
    clear bb
    go_wp2
    go_ret
    exact ⟨ret_bool (by rw [HE.out]; rfl), D.out⟩
  · go_enter Tryd.func48, Tryd.ntmps48
    go_wp2_with fail
    refine (isPart_any ao n cap _ _ c.fr _ hn).mono ?_
    rw [H1.out]
    rintro e w1 ⟨rfl, bb⟩
    have D := Lib.hid (Below.trans (show Below w.heap.size w _ from (by repeat (first | exact Below.refl _ _ | assumption | refine Below.drew ?_ | refine Below.alloc ?_ (by first | (simp; done) | (simp; omega)) _ | refine Below.setCell ?_ (by first | (simp; done) | (simp; omega)) _))) (bb.mono (by simp)))
    have k0 := (HB.out.up D.out).p
    have k1 := (HB.out.up D.out).c
    have k2 := (HB.out.up D.out).s
    have m0 : w1.cell? ⟨w.heap.size, 0, none⟩ = some (.int .i64 c.kd) := bcl bb (by simp) (by simp)
    have m1 : w1.cell? ⟨w.heap.size, 1, none⟩ = some (.int .i64 c.fr) := bcl bb (by simp) (by simp)
    have m2 : w1.cell? ⟨w.heap.size, 2, none⟩ = some (.int .i64 c.tt) := bcl bb (by simp) (by simp)
    have z1 : w.heap.size < w1.heap.size := by have := bb.size; simp at this; omega
    clear bb
    go_wp2_with fail
    refine (isPart_any ao n cap _ _ c.tt _ hn).mono ?_
    rw [H2.out]
    rintro e w2 ⟨rfl, bb⟩
    have m1 : w2.cell? ⟨w.heap.size, 1, none⟩ = some (.int .i64 c.fr) := bcl bb z1 m1
    have m2 : w2.cell? ⟨w.heap.size, 2, none⟩ = some (.int .i64 c.tt) := bcl bb z1 m2
    have D := Lib.hid (D.out.trans (bb.mono (Nat.le_of_lt z1)))
    clear bb k0 k1 k2 m0 z1
    cases q2
    · go_wp2
      go_ret
      exact ⟨ret_bool (by rw [HE.out]; rfl), D.out⟩
    · cases q3
      all_goals
        go_wp2
        go_ret
        exact ⟨ret_bool (by rw [HE.out]; rfl), D.out⟩

set_option maxHeartbeats 1000000 in
theorem slotLit_any (c : Slt) (g : Nat) (ao : Option Addr) (n cap : Nat) (vc vs : Value) (w : World) (hn : n ≤ 1000) (hB : Box w g (.slice ao n cap) vc vs) (hc : ∃ a b d, vc = .slice a b d) (hs : ∃ a b d, vs = .slice a b d) :
    Calls Tryd.prog 50 #[.agg #[.int .i64 c.pt, .int .i64 c.tk], .pointer (some ⟨g, 0, none⟩)] w fun e w' => e = .returned (.bool (slotBad n c)) ∧ Below w.heap.size w w' := by
  obtain ⟨a1, b1, d1, rfl⟩ := hc
  obtain ⟨a2, b2, d2, rfl⟩ := hs
  generalize h1 : withinB c.pt 0 ((n : Int) - 1) = q1
  generalize h2 : withinB c.tk 1 8 = q2
  have HE : Hid (slotBad n c = (!q1 || !q2)) := by show slotBad n c = _; unfold slotBad; rw [h1, h2]
  have H1 := Lib.hid h1
  have H2 := Lib.hid h2
  have HB := Lib.hid hB
  have k0 := (HB.out.up (w' := w.alloc (.cells #[.int .i64 c.pt, .int .i64 c.tk] 44)) ((Below.refl _ _).alloc (Nat.le_refl _) _)).p
  have k1 := (HB.out.up (w' := w.alloc (.cells #[.int .i64 c.pt, .int .i64 c.tk] 44)) ((Below.refl _ _).alloc (Nat.le_refl _) _)).c
  have k2 := (HB.out.up (w' := w.alloc (.cells #[.int .i64 c.pt, .int .i64 c.tk] 44)) ((Below.refl _ _).alloc (Nat.le_refl _) _)).s
  clear h1 h2 hB
  have hlt := HB.out.lt
  go_enter Tryd.func50, Tryd.ntmps50
  go_wp2_with fail
  refine (isPart_any ao n cap _ _ c.pt _ hn).mono ?_
  rw [H1.out]
  rintro e w1 ⟨rfl, bb⟩
  have D := Lib.hid (Below.trans (show Below w.heap.size w _ from (by repeat (first | exact Below.refl _ _ | assumption | refine Below.drew ?_ | refine Below.alloc ?_ (by first | (simp; done) | (simp; omega)) _ | refine Below.setCell ?_ (by first | (simp; done) | (simp; omega)) _))) (bb.mono (by simp)))
  have m1 : w1.cell? ⟨w.heap.size, 1, none⟩ = some (.int .i64 c.tk) := bcl bb (by simp) (by simp)
  clear bb k0 k1 k2
  cases q1
  · go_wp2
    go_ret
    exact ⟨ret_bool (by rw [HE.out]; rfl), D.out⟩
  · go_wp2_with fail
    refine (cwithin_any c.tk 1 8 _).mono ?_
    rw [H2.out]
    rintro e w2 ⟨rfl, rfl⟩
    cases q2
    all_goals
      go_wp2
      go_ret
      exact ⟨ret_bool (by rw [HE.out]; rfl), D.out⟩
end Go.Proofs.YtdijpjmbicfcdaaDoor
