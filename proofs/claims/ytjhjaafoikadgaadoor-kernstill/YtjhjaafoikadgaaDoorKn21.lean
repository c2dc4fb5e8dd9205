/- What a tick leaves of a cell that has ended: plain mathematics. -/
import Derived.Test.YtjhjaafoikadgaaDoorKn20
namespace Go.Proofs.YtjhjaafoikadgaaDoor
set_option linter.unusedSimpArgs false
set_option linter.unusedVariables false
open Go.RowKit Go.Sort

/-- What holds of a cell and the same one later. -/
structure Stay (a b : CelD) : Prop where
  len : a.out.length ≤ b.out.length
  take : b.out.take a.out.length = a.out
  read : a.c.read ≤ b.c.read
  same : a.c.en ≠ 0 → b = a
theorem Stay.refl (a : CelD) : Stay a a := ⟨Nat.le_refl _, List.take_of_length_le (Nat.le_refl _), Int.le_refl _, fun _ => rfl⟩
theorem Stay.trans {a b c : CelD} (h : Stay a b) (h' : Stay b c) : Stay a c := by
  refine ⟨Nat.le_trans h.len h'.len, ?_, Int.le_trans h.read h'.read, fun e => ?_⟩
  · have h1 : (c.out.take b.out.length).take a.out.length = a.out := by rw [h'.take]; exact h.take
    rwa [List.take_take, Nat.min_eq_left h.len] at h1
  · have := h.same e
    subst this
    exact h'.same e
theorem tick_stay {S : SysD} {D : WldD} (hk : chkS S = 0) (hR : Right S D) (ht : D.tick < 300) (u : Nat) (hu : u < D.cells.length) (hu' : u < (nextC S D).cells.length) : Stay D.cells[u] (nextC S D).cells[u] := by
  obtain ⟨pn, d, T⟩ := tick_any hk hR ht
  have hc := T.c
  have he : (nextC S D).cells[u] = (D.cells.set pn d)[u]'(by rw [← hc]; exact hu') := by congr 1
  rw [he]
  by_cases e : pn = u
  · subst e
    rw [List.getElem_set_self]
    have g := T.o hu
    exact ⟨g.len, g.out, g.rd0, T.s hu⟩
  · rw [List.getElem_set_ne e]
    exact Stay.refl _
theorem runN_cells {S : SysD} (hk : chkS S = 0) (k : Nat) {D : WldD} (hR : Right S D) (ht : D.tick + k ≤ 300) : (runN S k D).cells.length = S.parts.length ∧ (runN S k D).lines.length = S.chans.length :=
  ⟨cellsB_len (runN_right hk k hR ht).1.c, linesB_len (runN_right hk k hR ht).1.l⟩
theorem run_stay {S : SysD} (hk : chkS S = 0) (u : Nat) : ∀ (k : Nat) {D : WldD}, Right S D → D.tick + k ≤ 300 → ∀ (hu : u < D.cells.length) (hu' : u < (runN S k D).cells.length), Stay D.cells[u] (runN S k D).cells[u]
  | 0, D, _, _, _, _ => Stay.refl _
  | k + 1, D, hR, ht, hu, hu' => by
    obtain ⟨h1, h2⟩ := next_right hk hR (by omega)
    have hl := cellsB_len h1.c
    have hl0 := cellsB_len hR.c
    have hn : u < (nextC S D).cells.length := by omega
    exact (tick_stay hk hR (by omega) u hu hn).trans (run_stay hk u k h1 (by omega) hn hu')
theorem sl_take {w : World} {ao : Option Addr} {cap : Nat} {xs : List Int} (h : Sl w 1 (.slice ao xs.length cap) xs.length (ints xs)) (n : Nat) (hn : n ≤ xs.length) : Sl w 1 (.slice ao n cap) n (ints (xs.take n)) := by
  obtain ⟨h1, ao', cap', e, h3, h4⟩ := h
  injection e with e1 _ e3
  subst e1 e3
  refine ⟨by simp [ints]; omega, ao, cap, rfl, by omega, fun h0 => ?_⟩
  obtain ⟨b, off, e, hb, hc⟩ := h4 (by omega)
  refine ⟨b, off, e, hb, fun j u hj => hc j u ?_⟩
  have hj' : j < n := by
    have := (List.getElem?_eq_some_iff.1 hj).1
    simp [ints] at this
    omega
  rw [← hj]
  simp [ints, List.getElem?_take, hj']
end Go.Proofs.YtjhjaafoikadgaaDoor
