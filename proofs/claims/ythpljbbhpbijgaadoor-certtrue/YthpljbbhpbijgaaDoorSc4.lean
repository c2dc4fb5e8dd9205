/- The system that the laws begin with. -/
import Derived.Test.YthpljbbhpbijgaaDoorJg
namespace Go.Proofs.YthpljbbhpbijgaaDoor
set_option linter.unusedSimpArgs false
set_option linter.unusedVariables false
open Go.RowKit Go.Sort

/-- A slice that lies at or beyond block n. -/
def NewB (n : Nat) (v : Value) : Prop := ∀ k, v.ownBlock = some k → n ≤ k
theorem NewB.mono {n m : Nat} {v : Value} (h : NewB n v) (hm : m ≤ n) : NewB m v := fun k e => Nat.le_trans hm (h k e)
theorem newB_nil (n : Nat) (c : Nat) : NewB n (.slice none 0 c) := fun k e => by cases e
theorem newB_at {n g o l c : Nat} (h : n ≤ g) : NewB n (.slice (some ⟨g, o, none⟩) l c) := fun k e => by simp [Value.ownBlock] at e; omega
def PartsN (n : Nat) (w : World) (v : Value) (ps : List Prt) : Prop :=
  ∃ vs : List (Value × Value), vs.length = ps.length ∧ Sl w 2 v ps.length (rowC prC vs) ∧ NewB n v ∧ ∀ k (hk : k < ps.length) (hk' : k < vs.length), PrtR w vs[k].1 vs[k].2 ps[k] ∧ NewB n vs[k].1 ∧ NewB n vs[k].2
/-- A system in new memory. -/
structure SysN (n : Nat) (w : World) (vp vc vs : Value) (S : SysD) : Prop where
  p : PartsN n w vp S.parts
  c : Sl w 3 vc S.chans.length (rowC chC S.chans)
  s : Sl w 2 vs S.slots.length (rowC slC S.slots)
  nc : NewB n vc
  ns : NewB n vs
theorem PartsN.r {n : Nat} {w : World} {v : Value} {ps : List Prt} (h : PartsN n w v ps) : PartsR w v ps := by
  obtain ⟨vs, h1, h2, _, h4⟩ := h
  exact ⟨vs, h1, h2, fun k hk hk' => (h4 k hk hk').1⟩
theorem SysN.sys {n : Nat} {w : World} {vp vc vs : Value} {S : SysD} (h : SysN n w vp vc vs S) : Sys w vp vc vs S := ⟨h.p.r, h.c, h.s⟩
theorem Sl.far {w : World} {size n m c j : Nat} {v : Value} {xs : List Value} (h : Sl w size v m xs) (hn : NewB n v) (hc : c < n) (u : Value) : Sl (w.setCell ⟨c, j, none⟩ u) size v m xs := h.set u (fun e => by have := hn c e; omega)
theorem SysN.set {n : Nat} {w : World} {vp vc vs : Value} {S : SysD} (h : SysN n w vp vc vs S) {c j : Nat} (hc : c < n) (u : Value) : SysN n (w.setCell ⟨c, j, none⟩ u) vp vc vs S := by
  obtain ⟨ps, h1, h2, h3, h4⟩ := h.p
  exact ⟨⟨ps, h1, h2.far h3 hc u, h3, fun k hk hk' => ⟨⟨(h4 k hk hk').1.code.far (h4 k hk hk').2.1 hc u, (h4 k hk hk').1.inn.far (h4 k hk hk').2.2 hc u⟩, (h4 k hk hk').2⟩⟩, h.c.far h.nc hc u, h.s.far h.ns hc u, h.nc, h.ns⟩
theorem SysN.up {n : Nat} {w w' : World} {vp vc vs : Value} {S : SysD} (h : SysN n w vp vc vs S) (hb : Below w.heap.size w w') : SysN n w' vp vc vs S := by
  obtain ⟨ps, h1, h2, h3, h4⟩ := h.p
  exact ⟨⟨ps, h1, h2.up hb, h3, fun k hk hk' => ⟨(h4 k hk hk').1.up hb, (h4 k hk hk').2⟩⟩, h.c.up hb, h.s.up hb, h.nc, h.ns⟩
theorem lit_sl (w : World) (xs : List Value) (t : TypeId) (g n size : Nat) (hg : g = w.heap.size) (hl : xs.length = n * size) : Sl (w.alloc (.cells xs.toArray t)) size (.slice (some ⟨g, 0, none⟩) n n) n xs := by
  subst hg
  refine ⟨hl, _, _, rfl, Nat.le_refl _, fun _ => ⟨_, 0, rfl, by simp, fun j u hj => ?_⟩⟩
  rw [Nat.zero_add, World.cell?_alloc_new, ← Array.getElem?_toList]
  exact hj

theorem Sl.up1 {w : World} {size n : Nat} {v : Value} {xs : List Value} (h : Sl w size v n xs) (o : Obj) : Sl (w.alloc o) size v n xs := h.up ((Below.refl _ _).alloc (Nat.le_refl _) _)

def relayS : SysD := ⟨[⟨[⟨10, 0, 0, 0⟩, ⟨12, 0, 0, 0⟩, ⟨15, 0, 0, 0⟩], [6]⟩, ⟨tellerL, []⟩, ⟨[⟨13, 0, 1, 1⟩, ⟨9, 1, 0, 0⟩, ⟨11, 0, 0, 0⟩, ⟨15, 0, 0, 0⟩], []⟩, ⟨[⟨11, 0, 0, 0⟩, ⟨8, 0, 0, 0⟩], []⟩], [⟨2, 0, 1⟩, ⟨1, 1, 2⟩], [⟨0, 3⟩, ⟨1, 4⟩, ⟨3, 1⟩, ⟨2, 4⟩]⟩
theorem relay_chk : chkS relayS = 0 := by decide +kernel
theorem relay_ok : relayS.ok := by
  intro p hp j hj
  have h : ∀ p ∈ relayS.parts, ∀ i ∈ p.code, i.ok := by
    intro p hp i hi
    simp only [relayS, List.mem_cons, List.not_mem_nil, or_false] at hp
    rcases hp with rfl | rfl | rfl | rfl
    all_goals simp only [tellerL, List.mem_cons, List.not_mem_nil, or_false] at hi
    · rcases hi with rfl | rfl | rfl <;> exact ⟨⟨by decide, by decide⟩, ⟨by decide, by decide⟩, ⟨by decide, by decide⟩, ⟨by decide, by decide⟩⟩
    · rcases hi with rfl | rfl | rfl | rfl | rfl <;> exact ⟨⟨by decide, by decide⟩, ⟨by decide, by decide⟩, ⟨by decide, by decide⟩, ⟨by decide, by decide⟩⟩
    · rcases hi with rfl | rfl | rfl | rfl <;> exact ⟨⟨by decide, by decide⟩, ⟨by decide, by decide⟩, ⟨by decide, by decide⟩, ⟨by decide, by decide⟩⟩
    · rcases hi with rfl | rfl <;> exact ⟨⟨by decide, by decide⟩, ⟨by decide, by decide⟩, ⟨by decide, by decide⟩, ⟨by decide, by decide⟩⟩
  exact h p hp _ (List.getElem_mem hj)

set_option maxRecDepth 100000 in
theorem tellerN_any (w : World) : Calls Tryd.prog 69 #[] w fun e w' => e = .returned (.slice (some ⟨w.heap.size, 0, none⟩) 5 5) ∧ w' = w.alloc (.cells (codeC tellerL).toArray 79) := by
  go_enter Tryd.func69, Tryd.ntmps69
  go_wp2
  go_ret
  exact ⟨rfl, rfl⟩

set_option maxRecDepth 100000 in
set_option maxHeartbeats 2000000 in
theorem relay_any (w : World) : Calls Tryd.prog 37 #[] w fun e w' => ∃ vp vc vs, e = .returned (.agg #[vp, vc, vs]) ∧ SysN (w.heap.size + 1) w' vp vc vs relayS ∧ Below w.heap.size w w' := by
  go_enter Tryd.func37, Tryd.ntmps37
  go_wp2_with (go_at_call 69; refine (tellerN_any _).mono ?_; rintro e w1 ⟨rfl, rfl⟩)
  refine bodyPost_ret (v := .agg #[.slice (some ⟨w.heap.size + 1 + 1 + 1 + 1 + 1 + 1, 0, none⟩) 4 4, .slice (some ⟨w.heap.size + 1 + 1 + 1 + 1 + 1 + 1 + 1, 0, none⟩) 2 2, .slice (some ⟨w.heap.size + 1 + 1 + 1 + 1 + 1 + 1 + 1 + 1, 0, none⟩) 4 4]) (by simp [results, Tryd.f37, go_sem]) rfl ⟨_, _, _, rfl, ?_, (by repeat (first | exact Below.refl _ _ | assumption | refine Below.drew ?_ | refine Below.alloc ?_ (by first | (simp; done) | (simp; omega)) _ | refine Below.setCell ?_ (by first | (simp; done) | (simp; omega)) _))⟩
  refine ⟨⟨[(.slice (some ⟨w.heap.size + 1, 0, none⟩) 3 3, .slice (some ⟨w.heap.size + 1 + 1, 0, none⟩) 1 1), (.slice (some ⟨w.heap.size + 1 + 1 + 1, 0, none⟩) 5 5, .slice none 0 0), (.slice (some ⟨w.heap.size + 1 + 1 + 1 + 1, 0, none⟩) 4 4, .slice none 0 0), (.slice (some ⟨w.heap.size + 1 + 1 + 1 + 1 + 1, 0, none⟩) 2 2, .slice none 0 0)], rfl, ?_, newB_at (by omega), ?_⟩, ?_, ?_, newB_at (by omega), newB_at (by omega)⟩
  · exact (by repeat (first | exact lit_sl _ _ _ _ _ _ (by simp) rfl | refine Sl.up1 ?_ _))
  · intro k hk hk'
    have hk4 : k = 0 ∨ k = 1 ∨ k = 2 ∨ k = 3 := by have : k < 4 := hk; omega
    rcases hk4 with rfl | rfl | rfl | rfl
    · exact ⟨⟨(by repeat (first | exact lit_sl _ _ _ _ _ _ (by simp) rfl | refine Sl.up1 ?_ _)), (by repeat (first | exact lit_sl _ _ _ _ _ _ (by simp) rfl | refine Sl.up1 ?_ _))⟩, newB_at (by omega), newB_at (by omega)⟩
    · exact ⟨⟨(by repeat (first | exact lit_sl _ _ _ _ _ _ (by simp) rfl | refine Sl.up1 ?_ _)), Sl.nil _ _⟩, newB_at (by omega), newB_nil _ _⟩
    · exact ⟨⟨(by repeat (first | exact lit_sl _ _ _ _ _ _ (by simp) rfl | refine Sl.up1 ?_ _)), Sl.nil _ _⟩, newB_at (by omega), newB_nil _ _⟩
    · exact ⟨⟨(by repeat (first | exact lit_sl _ _ _ _ _ _ (by simp) rfl | refine Sl.up1 ?_ _)), Sl.nil _ _⟩, newB_at (by omega), newB_nil _ _⟩
  · exact (by repeat (first | exact lit_sl _ _ _ _ _ _ (by simp) rfl | refine Sl.up1 ?_ _))
  · exact (by repeat (first | exact lit_sl _ _ _ _ _ _ (by simp) rfl | refine Sl.up1 ?_ _))
end Go.Proofs.YthpljbbhpbijgaaDoor
