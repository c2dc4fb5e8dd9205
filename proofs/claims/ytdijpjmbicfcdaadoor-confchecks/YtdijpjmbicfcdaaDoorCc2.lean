/- conf.Calm. -/
import Derived.Test.YtdijpjmbicfcdaaDoorCc1
import Derived.Test.YtdijpjmbicfcdaaDoorSc2
import Derived.Deep.CutRange
import Derived.Deep.RegionWith
import Derived.Deep.RegionHeld3
import Derived.Deep.DrawnRows
namespace Go.Proofs.YtdijpjmbicfcdaaDoor
set_option linter.unusedSimpArgs false
set_option linter.unusedVariables false
open Go.RowKit Go.Sort
attribute [local go_sem ↓] Go.wp_at_zero Go.wp_at_succ

/-- A variable of three cells that may be written. -/
structure Var3 (w : World) (g : Nat) (a b c : Value) : Prop where
  x : w.cell? ⟨g, 0, none⟩ = some a
  y : w.cell? ⟨g, 1, none⟩ = some b
  z : w.cell? ⟨g, 2, none⟩ = some c
  fx : w.frozen? ⟨g, 0, none⟩ = false
  fy : w.frozen? ⟨g, 1, none⟩ = false
  fz : w.frozen? ⟨g, 2, none⟩ = false
  lt : g < w.heap.size
theorem Var3.up {w w' : World} {g : Nat} {a b c : Value} (h : Var3 w g a b c) (hb : Below w.heap.size w w') : Var3 w' g a b c :=
  ⟨bcl hb h.lt h.x, bcl hb h.lt h.y, bcl hb h.lt h.z, bfr hb h.lt h.fx, bfr hb h.lt h.fy, bfr hb h.lt h.fz, Nat.lt_of_lt_of_le h.lt hb.size⟩
theorem var3_new (w : World) (a b c : Value) (t : TypeId) (g : Nat) (hg : g = w.heap.size) : Var3 (w.alloc (.cells #[a, b, c] t)) g a b c := by
  subst hg
  exact ⟨by simp, by simp, by simp, by simp, by simp, by simp, by simp⟩

def stopP : Prt := ⟨[⟨15, 0, 0, 0⟩], []⟩
def calmS (S : SysD) (k : Nat) : SysD := ⟨S.parts.set k stopP, S.chans, S.slots⟩
/-- Calm's error. -/
def calmE (S : SysD) (part : Int) : Int := if chkS S = 0 then (if withinB part 0 ((S.parts.length : Int) - 1) then 0 else 5) else chkS S

set_option maxRecDepth 100000 in
set_option maxHeartbeats 4000000 in
theorem calm_no (S : SysD) (vp vc vs : Value) (part : Int) (w : World) (he : Env w) (hS : Sys w vp vc vs S) (c : Int) (hc : calmE S part = c) (h0 : c ≠ 0) :
    Calls Tryd.prog 7 #[.agg #[vp, vc, vs], .int .i64 part] w fun e w' => e = .returned (.tuple #[.agg #[.slice none 0 0, .slice none 0 0, .slice none 0 0], .int .i64 c]) ∧ Below w.heap.size w w' := by
  obtain ⟨pa, pc, rfl⟩ := hS.p.form
  obtain ⟨ca, cc, rfl⟩ := hS.c.form
  obtain ⟨sa, sc, rfl⟩ := hS.s.form
  have HS := Lib.hid hS
  have HC := Lib.hid hc
  generalize hz : chkS S = z
  have HZ := Lib.hid hz
  have H0 := Lib.hid h0
  clear hS hc hz h0
  go_enter Tryd.func7, Tryd.ntmps7
  go_wp2_with fail
  refine (confCheck_any S _ _ _ _ (he.up (by repeat (first | exact Below.refl _ _ | assumption | refine Below.drew ?_ | refine Below.alloc ?_ (by first | (simp; done) | (simp; omega)) _ | refine Below.setCell ?_ (by first | (simp; done) | (simp; omega)) _))) (HS.out.up (by repeat (first | exact Below.refl _ _ | assumption | refine Below.drew ?_ | refine Below.alloc ?_ (by first | (simp; done) | (simp; omega)) _ | refine Below.setCell ?_ (by first | (simp; done) | (simp; omega)) _)))).mono ?_
  rw [HZ.out]
  rintro e w1 ⟨rfl, bb⟩
  have hB := (box_new w (.slice pa S.parts.length pc) (.slice ca S.chans.length cc) (.slice sa S.slots.length sc) 26 _ rfl)
  have HB := Lib.hid ((hB.up (w' := (w.alloc (.cells #[.slice pa S.parts.length pc, .slice ca S.chans.length cc, .slice sa S.slots.length sc] 26)).alloc (.cells #[.slice none 0 0, .slice none 0 0, .slice none 0 0] 26)) ((Below.refl _ _).alloc (Nat.le_refl _) _)).up bb)
  have D := Lib.hid (Below.trans (show Below w.heap.size w _ from (by repeat (first | exact Below.refl _ _ | assumption | refine Below.drew ?_ | refine Below.alloc ?_ (by first | (simp; done) | (simp; omega)) _ | refine Below.setCell ?_ (by first | (simp; done) | (simp; omega)) _))) (bb.mono (by simp; omega)))
  have HV := Lib.hid ((var3_new (w.alloc (.cells #[.slice pa S.parts.length pc, .slice ca S.chans.length cc, .slice sa S.slots.length sc] 26)) (.slice none 0 0) (.slice none 0 0) (.slice none 0 0) 26 (w.heap.size + 1) (by simp)).up bb)
  clear bb hB
  by_cases h0 : z = 0
  · subst h0
    have k0 := HB.out.p
    have k1 := HB.out.c
    have k2 := HB.out.s
    have HW : Hid (withinB part 0 ((S.parts.length : Int) - 1) = false ∧ c = 5) := by
      have h := HC.out
      unfold calmE at h
      rw [HZ.out, if_pos rfl] at h
      cases hw : withinB part 0 ((S.parts.length : Int) - 1)
      · rw [hw] at h; exact ⟨rfl, h.symm⟩
      · rw [hw] at h; exact absurd h.symm H0.out
    have hn := (countsB_is (chkS_zero HZ.out).1).1
    obtain rfl := HW.out.2
    go_wp2_with fail
    refine (isPart_any _ _ _ _ _ part _ (by omega)).mono ?_
    rw [HW.out.1]
    rintro e w2 ⟨rfl, bb⟩
    have D := Lib.hid (D.out.trans (bb.mono D.out.size))
    have HV := Lib.hid (HV.out.up bb)
    clear bb k0 k1 k2
    have r0 := HV.out.x
    have r1 := HV.out.y
    have r2 := HV.out.z
    have f0 := HV.out.fx
    have f1 := HV.out.fy
    have f2 := HV.out.fz
    go_wp2
    refine bodyPost_ret (v := .tuple #[.agg #[.slice none 0 0, .slice none 0 0, .slice none 0 0], .int .i64 5]) (by simp [results, Tryd.f7, go_sem, r0, r1, r2]) rfl ⟨rfl, ?_⟩
    exact ((D.out.setCell (by simp) _).setCell (by simp) _).setCell (by simp) _
  · have hz' : (z != 0) = true := by simpa using h0
    obtain rfl : z = c := by have h := HC.out; unfold calmE at h; rw [HZ.out, if_neg h0] at h; exact h
    clear h0
    have r0 := HV.out.x
    have r1 := HV.out.y
    have r2 := HV.out.z
    have f0 := HV.out.fx
    have f1 := HV.out.fy
    have f2 := HV.out.fz
    go_wp2
    refine bodyPost_ret (v := .tuple #[.agg #[.slice none 0 0, .slice none 0 0, .slice none 0 0], .int .i64 z]) (by simp [results, Tryd.f7, go_sem, r0, r1, r2]) rfl ⟨rfl, ?_⟩
    exact ((D.out.setCell (by simp) _).setCell (by simp) _).setCell (by simp) _
end Go.Proofs.YtdijpjmbicfcdaaDoor
