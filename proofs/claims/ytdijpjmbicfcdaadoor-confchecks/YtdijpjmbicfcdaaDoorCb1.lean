/- What the laws on systems begin with. -/
import Derived.Test.YtdijpjmbicfcdaaDoorCc3
import Derived.Test.YtdijpjmbicfcdaaDoorSm0
import Derived.Test.YtdijpjmbicfcdaaDoorCb0
namespace Go.Proofs.YtdijpjmbicfcdaaDoor
set_option linter.unusedSimpArgs false
set_option linter.unusedVariables false
open Go.RowKit Go.Sort

theorem cl_top (w : World) (cs : Array Value) (t : TypeId) (g i : Nat) (v : Value) (hg : g = w.heap.size) (h : cs[i]? = some v) : (w.alloc (.cells cs t)).cell? ⟨g, i, none⟩ = some v := by
  subst hg
  rw [World.cell?_alloc_new]; exact h
theorem fr_top (w : World) (cs : Array Value) (t : TypeId) (g i : Nat) (hg : g = w.heap.size) : (w.alloc (.cells cs t)).frozen? ⟨g, i, none⟩ = false := by
  subst hg
  simp
def relayX : SysD := ⟨relayS.parts, [⟨2, 0, 2⟩, ⟨1, 1, 2⟩], relayS.slots⟩
theorem relayX_chk : chkS relayX = 1 := by decide +kernel
theorem zero_chk : chkS ⟨[], [], []⟩ = 2 := by decide +kernel
theorem relay_calm3 : calmE relayS 3 = 0 := by decide +kernel
theorem relay_calm4 : calmE relayS 4 = 5 := by decide +kernel
/-- A cell of a slice is stored anew. -/
theorem Sl.put {w : World} {size : Nat} {g n c : Nat} {xs : List Value} {j : Nat} (h : Sl w size (.slice (some ⟨g, 0, none⟩) n c) n xs) (hn : 0 < n) (u : Value) (hj : j < xs.length) : Sl (w.setCell ⟨g, j, none⟩ u) size (.slice (some ⟨g, 0, none⟩) n c) n (xs.set j u) := by
  obtain ⟨h1, ao, cap, e, h3, h4⟩ := h
  cases e
  refine ⟨by simpa using h1, _, _, rfl, h3, fun _ => ?_⟩
  obtain ⟨b, off, e, hlt, hc⟩ := h4 hn
  cases e
  refine ⟨g, 0, rfl, by rw [size_set]; exact hlt, fun k x hk => ?_⟩
  rw [Nat.zero_add]
  by_cases hkj : k = j
  · subst hkj
    rw [List.getElem?_set_self hj] at hk
    cases hk
    have := hc k _ (List.getElem?_eq_getElem hj)
    rw [Nat.zero_add] at this
    exact cl_same this
  · rw [List.getElem?_set_ne (by omega)] at hk
    have := hc k x hk
    rw [Nat.zero_add] at this
    exact cl_set (Or.inr hkj) this

set_option maxRecDepth 100000 in
set_option maxHeartbeats 2000000 in
/-- The same system, whose channels' memory may be written. -/
theorem relayX_any (w : World) : Calls Tryd.prog 28 #[] w fun e w' => ∃ vp vs, e = .returned (.agg #[vp, .slice (some ⟨w.heap.size + 7, 0, none⟩) 2 2, vs]) ∧ (∃ a n c, vp = .slice a n c) ∧ (∃ a n c, vs = .slice a n c) ∧ w.heap.size + 7 < w'.heap.size ∧
    (∀ W, Below w'.heap.size w' W → W.cell? ⟨w.heap.size + 7, 2, none⟩ = some (.int .i64 1) ∧ W.frozen? ⟨w.heap.size + 7, 2, none⟩ = false ∧ Sys (W.setCell ⟨w.heap.size + 7, 2, none⟩ (.int .i64 2)) vp (.slice (some ⟨w.heap.size + 7, 0, none⟩) 2 2) vs relayX) ∧ Below w.heap.size w w' := by
  go_enter Tryd.func28, Tryd.ntmps28
  go_wp2_with (go_at_call 44; refine (tellerN_any _).mono ?_; rintro e w1 ⟨rfl, rfl⟩)
  refine bodyPost_ret (v := .agg #[.slice (some ⟨w.heap.size + 1 + 1 + 1 + 1 + 1 + 1, 0, none⟩) 4 4, .slice (some ⟨w.heap.size + 1 + 1 + 1 + 1 + 1 + 1 + 1, 0, none⟩) 2 2, .slice (some ⟨w.heap.size + 1 + 1 + 1 + 1 + 1 + 1 + 1 + 1, 0, none⟩) 4 4]) (by simp [results, Tryd.f28, go_sem]) rfl ⟨_, _, rfl, ⟨_, _, _, rfl⟩, ⟨_, _, _, rfl⟩, by simp; try omega, fun W hW => ⟨(hW.cell (p := ⟨w.heap.size + 7, 2, none⟩) ?_).trans ?_, (hW.frozen (p := ⟨w.heap.size + 7, 2, none⟩) ?_).trans ?_, ?_⟩, (by repeat (first | exact Below.refl _ _ | assumption | refine Below.drew ?_ | refine Below.alloc ?_ (by first | (simp; done) | (simp; omega)) _ | refine Below.setCell ?_ (by first | (simp; done) | (simp; omega)) _))⟩
  · simp
  · refine cl_alloc _ (by simp) ?_
    exact cl_top _ _ _ _ _ _ (by simp) rfl
  · simp
  · refine fr_alloc _ (by simp) ?_
    exact fr_top _ _ _ _ _ (by simp)
  have NE : ∀ (g l c : Nat), g ≠ w.heap.size + 7 → Value.ownBlock (.slice (some ⟨g, 0, none⟩) l c) ≠ some (w.heap.size + 7) := fun g l c h e => h (by simpa [Value.ownBlock] using e)
  refine ⟨⟨[(.slice (some ⟨w.heap.size + 1, 0, none⟩) 3 3, .slice (some ⟨w.heap.size + 1 + 1, 0, none⟩) 1 1), (.slice (some ⟨w.heap.size + 1 + 1 + 1, 0, none⟩) 5 5, .slice none 0 0), (.slice (some ⟨w.heap.size + 1 + 1 + 1 + 1, 0, none⟩) 4 4, .slice none 0 0), (.slice (some ⟨w.heap.size + 1 + 1 + 1 + 1 + 1, 0, none⟩) 2 2, .slice none 0 0)], rfl, ?_, ?_⟩, ?_, ?_⟩
  · exact (Sl.up (by repeat (first | exact lit_sl _ _ _ _ _ _ (by simp) rfl | refine Sl.up1 ?_ _)) hW).set _ (NE _ _ _ (by omega))
  · intro k hk hk'
    have hk4 : k = 0 ∨ k = 1 ∨ k = 2 ∨ k = 3 := by have : k < 4 := hk; omega
    rcases hk4 with rfl | rfl | rfl | rfl
    · exact ⟨(Sl.up (by repeat (first | exact lit_sl _ _ _ _ _ _ (by simp) rfl | refine Sl.up1 ?_ _)) hW).set _ (NE _ _ _ (by omega)), (Sl.up (by repeat (first | exact lit_sl _ _ _ _ _ _ (by simp) rfl | refine Sl.up1 ?_ _)) hW).set _ (NE _ _ _ (by omega))⟩
    · exact ⟨(Sl.up (by repeat (first | exact lit_sl _ _ _ _ _ _ (by simp) rfl | refine Sl.up1 ?_ _)) hW).set _ (NE _ _ _ (by omega)), Sl.nil _ _⟩
    · exact ⟨(Sl.up (by repeat (first | exact lit_sl _ _ _ _ _ _ (by simp) rfl | refine Sl.up1 ?_ _)) hW).set _ (NE _ _ _ (by omega)), Sl.nil _ _⟩
    · exact ⟨(Sl.up (by repeat (first | exact lit_sl _ _ _ _ _ _ (by simp) rfl | refine Sl.up1 ?_ _)) hW).set _ (NE _ _ _ (by omega)), Sl.nil _ _⟩
  · exact Sl.put (xs := rowC chC relayS.chans) (Sl.up (by repeat (first | exact lit_sl _ _ _ _ _ _ (by simp) rfl | refine Sl.up1 ?_ _)) hW) (by decide) (.int .i64 2) (by decide)
  · exact (Sl.up (by repeat (first | exact lit_sl _ _ _ _ _ _ (by simp) rfl | refine Sl.up1 ?_ _)) hW).set _ (NE _ _ _ (by omega))
end Go.Proofs.YtdijpjmbicfcdaaDoor
