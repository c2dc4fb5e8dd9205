/- ref.calm, there, There; a row of partitions of which one is replaced. -/
import Derived.Test.YtdijpjmbicfcdaaDoorOs0
import Derived.Test.YtdijpjmbicfcdaaDoorCf6
import Derived.Test.YtdijpjmbicfcdaaDoorCb3
namespace Go.Proofs.YtdijpjmbicfcdaaDoor
set_option linter.unusedSimpArgs false
set_option linter.unusedVariables false
open Go.RowKit Go.Sort
attribute [local go_sem ↓] Go.wp_at_zero Go.wp_at_succ

set_option maxHeartbeats 1000000 in
theorem refCalm_any (w : World) : Calls Tryd.prog 27 #[] w fun e w' => ∃ b, e = .returned (.agg #[.slice (some ⟨b, 0, none⟩) 1 1, .slice none 0 0]) ∧ PrtR w' (.slice (some ⟨b, 0, none⟩) 1 1) (.slice none 0 0) stopP ∧ w.heap.size ≤ b ∧ b < w'.heap.size ∧ Below w.heap.size w w' := by
  go_enter Tryd.func27, Tryd.ntmps27
  go_wp2
  refine bodyPost_ret (v := .agg #[.slice (some ⟨w.heap.size + 1, 0, none⟩) 1 1, .slice none 0 0]) (by simp [results, Tryd.f27, go_sem]) rfl ⟨_, rfl, ⟨?_, Sl.nil _ _⟩, by omega, by simp, (by repeat (first | exact Below.refl _ _ | assumption | refine Below.drew ?_ | refine Below.alloc ?_ (by first | (simp; done) | (simp; omega)) _ | refine Below.setCell ?_ (by first | (simp; done) | (simp; omega)) _))⟩
  first
    | exact lit_sl _ _ _ _ 1 4 (by simp) rfl
    | exact ((lit_sl _ _ _ _ 1 4 (by simp) rfl).set _ (by simp [Value.ownBlock])).set _ (by simp [Value.ownBlock])

set_option maxHeartbeats 2000000 in
theorem there_any (S : SysD) (hok : S.ok) (vp vc vs : Value) (part : Int) (w : World) (hS : Sys w vp vc vs S) (c : Int) (hc : calmE S part = c) :
    Calls Tryd.prog 25 #[.agg #[vp, vc, vs], .int .i64 part] w fun e w' => e = .returned (.int .i64 c) ∧ Below w.heap.size w w' := by
  obtain ⟨pa, pc, rfl⟩ := hS.p.form
  obtain ⟨ca, cc, rfl⟩ := hS.c.form
  obtain ⟨sa, sc, rfl⟩ := hS.s.form
  unfold calmE at hc
  generalize hr : chkS S = r at hc
  have HS := Lib.hid hS
  have HR := Lib.hid hr
  clear hS hr
  go_enter Tryd.func25, Tryd.ntmps25
  go_wp2_with fail
  refine (sysRef_any S hok _ _ _ _ (HS.out.up (by repeat (first | exact Below.refl _ _ | assumption | refine Below.drew ?_ | refine Below.alloc ?_ (by first | (simp; done) | (simp; omega)) _ | refine Below.setCell ?_ (by first | (simp; done) | (simp; omega)) _)))).mono ?_
  rw [HR.out]
  rintro e w1 ⟨rfl, bb⟩
  have k0 := ((box_new w (.slice pa S.parts.length pc) (.slice ca S.chans.length cc) (.slice sa S.slots.length sc) 26 _ rfl).up bb).p
  have D := Lib.hid (Below.trans (show Below w.heap.size w _ from (by repeat (first | exact Below.refl _ _ | assumption | refine Below.drew ?_ | refine Below.alloc ?_ (by first | (simp; done) | (simp; omega)) _ | refine Below.setCell ?_ (by first | (simp; done) | (simp; omega)) _))) (bb.mono (by simp)))
  clear bb
  by_cases h0 : r = 0
  · subst h0
    rw [if_pos rfl] at hc
    have sm := (small HR.out).1
    go_wp2_with fail
    refine (within_any part 0 ((S.parts.length : Int) - 1) _).mono ?_
    rintro e w2 ⟨rfl, rfl⟩
    cases hw : withinB part 0 ((S.parts.length : Int) - 1)
    all_goals
      rw [hw] at hc
      simp at hc
      subst hc
      go_wp2
      go_ret
      exact ⟨rfl, D.out⟩
  · have h0' : (r != 0) = true := by simpa using h0
    rw [if_neg h0] at hc
    subst hc
    clear h0
    go_wp2
    go_ret
    exact ⟨rfl, D.out⟩
set_option maxHeartbeats 1000000 in
theorem There_any (S : SysD) (hok : S.ok) (vp vc vs : Value) (part : Int) (w : World) (hS : Sys w vp vc vs S) (c : Int) (hc : calmE S part = c) :
    Calls Tryd.prog 8 #[.agg #[vp, vc, vs], .int .i64 part] w fun e w' => e = .returned (.int .i64 c) ∧ Below w.heap.size w w' := by
  obtain ⟨pa, pc, rfl⟩ := hS.p.form
  obtain ⟨ca, cc, rfl⟩ := hS.c.form
  obtain ⟨sa, sc, rfl⟩ := hS.s.form
  have HS := Lib.hid hS
  have HC := Lib.hid hc
  clear hS hc
  go_enter Tryd.func8, Tryd.ntmps8
  go_wp2_with fail
  refine (there_any S hok _ _ _ part _ (HS.out.up (by repeat (first | exact Below.refl _ _ | assumption | refine Below.drew ?_ | refine Below.alloc ?_ (by first | (simp; done) | (simp; omega)) _ | refine Below.setCell ?_ (by first | (simp; done) | (simp; omega)) _))) c HC.out).mono ?_
  rintro e w1 ⟨rfl, bb⟩
  have D := Lib.hid (Below.trans (show Below w.heap.size w _ from (by repeat (first | exact Below.refl _ _ | assumption | refine Below.drew ?_ | refine Below.alloc ?_ (by first | (simp; done) | (simp; omega)) _ | refine Below.setCell ?_ (by first | (simp; done) | (simp; omega)) _))) (bb.mono (by simp)))
  clear bb
  go_wp2
  go_ret
  exact ⟨rfl, D.out⟩

/-- One of a row of pairs is replaced. -/
theorem sl_set2 {w : World} {b off n cap k : Nat} {l : List (Value × Value)} (C I : Value) (h : Sl w 2 (.slice (some ⟨b, off, none⟩) n cap) n (rowC prC l)) (hl : l.length = n) (hk : k < n) :
    Sl ((w.setCell ⟨b, off + k * 2, none⟩ C).setCell ⟨b, off + k * 2 + 1, none⟩ I) 2 (.slice (some ⟨b, off, none⟩) n cap) n (rowC prC (l.set k (C, I))) := by
  obtain ⟨h1, ao, cap', he, h3, h4⟩ := h
  injection he with e1 _ e2
  subst e1
  subst e2
  obtain ⟨b', off', he, hlt, hc⟩ := h4 (by omega)
  injection he with he
  injection he with e1 e2
  subst e1
  subst e2
  refine ⟨by rw [rowC_len (s := 2) (fun _ => rfl), List.length_set, hl], _, cap, rfl, h3, fun _ => ⟨b, off, rfl, by rw [size_set, size_set]; exact hlt, fun j u hj => ?_⟩⟩
  have hjl : j < n * 2 := by
    have := (List.getElem?_eq_some_iff.1 hj).1
    rw [rowC_len (s := 2) (fun _ => rfl), List.length_set, hl] at this
    exact this
  have hq : j / 2 < l.length := by omega
  have hqs : j / 2 < (l.set k (C, I)).length := by rw [List.length_set]; exact hq
  have hat := rowC_at (f := prC) (s := 2) (fun _ => rfl) (l.set k (C, I)) (j / 2) (j % 2) hqs (by omega)
  have hat0 := rowC_at (f := prC) (s := 2) (fun _ => rfl) l (j / 2) (j % 2) hq (by omega)
  rw [show j / 2 * 2 + j % 2 = j by omega] at hat hat0
  rw [hat, List.getElem_set] at hj
  by_cases hjk : k = j / 2
  · subst hjk
    rw [if_pos rfl] at hj
    have hx0 : w.cell? ⟨b, off + j / 2 * 2, none⟩ = some l[j / 2].1 := hc (j / 2 * 2) _ (by rw [← Nat.add_zero (j / 2 * 2), rowC_at (f := prC) (s := 2) (fun _ => rfl) l (j / 2) 0 hq (by omega)]; rfl)
    have hx1 : w.cell? ⟨b, off + j / 2 * 2 + 1, none⟩ = some l[j / 2].2 := by
      rw [Nat.add_assoc]
      exact hc (j / 2 * 2 + 1) _ (by rw [rowC_at (f := prC) (s := 2) (fun _ => rfl) l (j / 2) 1 hq (by omega)]; rfl)
    rcases Nat.mod_two_eq_zero_or_one j with hm | hm
    · rw [hm] at hj
      simp [prC] at hj
      subst hj
      rw [show off + j = off + j / 2 * 2 by omega]
      exact cl_set (Or.inr (by omega)) (cl_same hx0)
    · rw [hm] at hj
      simp [prC] at hj
      subst hj
      rw [show off + j = off + j / 2 * 2 + 1 by omega]
      exact cl_same (cl_set (Or.inr (by omega)) hx1)
  · rw [if_neg hjk] at hj
    refine cl_set (Or.inr (by omega)) (cl_set (Or.inr (by omega)) (hc j u (by rw [hat0]; exact hj)))
end Go.Proofs.YtdijpjmbicfcdaaDoor
