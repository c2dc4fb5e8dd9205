/- A region that draws its order: operations that a guard wants. -/
import Derived.Test.YtjhjaafoikadgaaDoorJe
import Derived.Test.YtjhjaafoikadgaaDoorJg
import Derived.Test.YtjhjaafoikadgaaDoorJi
import Derived.Test.YtjhjaafoikadgaaDoorJd
import Derived.Deep.MidRow
namespace Go.Proofs.YtjhjaafoikadgaaDoor
set_option linter.unusedSimpArgs false
set_option linter.unusedVariables false
open Go.RowKit Go.Sort

section
variable {P : Program} {ops : Array Oper} {Q : Exit → Act → World → Prop} {md : Region.Mode} {S : World → Prop}
theorem Still.oneG {z i : Nat} {o : Oper} {rs : List Nat} {n : Nat} {done : Array Bool} {a : Act} {w : World} (ho : ops[i]? = some o) (hw : Region.wanted o (yielded ops a.tmps) = true)
    (h : ∀ K : Act → World → Prop, (∀ a' w', (i ≠ z → S w') → ((i ≠ z → S w') → Still P md ops Q S z n (done.setIfInBounds i true) a' w') → K a' w') → Oper.wp P o a w K Q)
    (hs : ∀ j ∈ rs, wpOp P ops Q j (fun a' w' => (j ≠ z → S w') ∧ Still P md ops Q S z n (done.setIfInBounds j true) a' w') a w) :
    ∀ j ∈ i :: rs, wpOp P ops Q j (fun a' w' => (j ≠ z → S w') ∧ Still P md ops Q S z n (done.setIfInBounds j true) a' w') a w := by
  intro j hj
  rcases List.mem_cons.1 hj with rfl | hj
  · unfold wpOp
    simp only [ho, hw, if_true]
    exact .inl (h _ fun a' w' h1 h2 => ⟨h1, h2 h1⟩)
  · exact hs j hj
theorem yields_loadG {oi : Oper} {a : Act} (hw : Region.wanted oi (yielded ops a.tmps) = true) (ty : TypeId) (x : Operand) (ho : oi.op = .load ty x) (p : Addr) (hx : a.eval x = .pointer (some p)) (v : Value) (hS : ∀ w, S w → (Instr.loadAt ty (.pointer (some p))).run P w = .ok v w) : YieldsIf P ops S oi v a :=
  .inl ⟨hw, fun w hw => by
    unfold execOp
    simp only [ho, hx, Sem.run_bind, Sem.run_pure, Result.andThen_ok, hS w hw]⟩
end
end Go.Proofs.YtjhjaafoikadgaaDoor

namespace Go.Proofs.YtjhjaafoikadgaaDoor
set_option linter.unusedSimpArgs false
set_option linter.unusedVariables false
open Go.RowKit Go.Sort

/-- A cell with what it has told; a world. -/
structure CelD where
  c : Cel
  out : List Int
structure WldD where
  tick : Int
  cells : List CelD
  lines : List (List Int)
def celC (p : Cel × Value) : List Value := (p.1.cs p.2).toList
theorem celC_len (p : Cel × Value) : (celC p).length = 16 := rfl
/-- A slice of cells. -/
def CellsR (w : World) (v : Value) (ds : List CelD) : Prop :=
  ∃ ps : List (Cel × Value), ps.length = ds.length ∧ Sl w 16 v ds.length (rowC celC ps) ∧ ∀ k (hk : k < ds.length) (hk' : k < ps.length), ps[k].1 = ds[k].c ∧ Sl w 1 ps[k].2 ds[k].out.length (ints ds[k].out)
theorem CellsR.up {w w' : World} {v : Value} {ds : List CelD} (h : CellsR w v ds) (hb : Below w.heap.size w w') : CellsR w' v ds := by
  obtain ⟨ps, h1, h2, h3⟩ := h
  exact ⟨ps, h1, h2.up hb, fun k hk hk' => ⟨(h3 k hk hk').1, (h3 k hk hk').2.up hb⟩⟩
theorem CellsR.form {w : World} {v : Value} {ds : List CelD} (h : CellsR w v ds) : ∃ ao cap, v = .slice ao ds.length cap := by
  obtain ⟨ps, h1, h2, h3⟩ := h
  exact h2.form
theorem CellsR.open {w : World} {v : Value} {ds : List CelD} (h : CellsR w v ds) (hn : 0 < ds.length) :
    ∃ b off cap, v = .slice (some ⟨b, off, none⟩) ds.length cap ∧ ds.length ≤ cap ∧ b < w.heap.size ∧ ∀ k (hk : k < ds.length), ∃ ao oc, w.rangeAt b (off + k * 16) (ds[k].c.cs (.slice ao ds[k].out.length oc)).toList ∧ Sl w 1 (.slice ao ds[k].out.length oc) ds[k].out.length (ints ds[k].out) := by
  obtain ⟨ps, h1, h2, h3⟩ := h
  obtain ⟨b, off, cap, e, hcap, hb, hc⟩ := h2.open hn
  refine ⟨b, off, cap, e, hcap, hb, fun k hk => ?_⟩
  have hk' : k < ps.length := by omega
  obtain ⟨e1, s1⟩ := h3 k hk hk'
  obtain ⟨ao, oc, e2⟩ := s1.form
  refine ⟨ao, oc, fun j u hj => ?_, e2 ▸ s1⟩
  have hj16 : j < 16 := by have := (List.getElem?_eq_some_iff.1 hj).1; simpa [Cel.cs] using this
  rw [Nat.add_assoc]
  refine hc (k * 16 + j) u ?_
  rw [rowC_at (s := 16) (f := celC) celC_len ps k j hk' hj16, celC, e1, e2]
  exact hj
/-- A slice of lines. -/
def LinesR (w : World) (v : Value) (ls : List (List Int)) : Prop :=
  ∃ vs : List Value, vs.length = ls.length ∧ Sl w 1 v ls.length vs ∧ ∀ k (hk : k < ls.length) (hk' : k < vs.length), Sl w 1 vs[k] ls[k].length (ints ls[k])
theorem LinesR.up {w w' : World} {v : Value} {ls : List (List Int)} (h : LinesR w v ls) (hb : Below w.heap.size w w') : LinesR w' v ls := by
  obtain ⟨vs, h1, h2, h3⟩ := h
  exact ⟨vs, h1, h2.up hb, fun k hk hk' => (h3 k hk hk').up hb⟩
theorem LinesR.form {w : World} {v : Value} {ls : List (List Int)} (h : LinesR w v ls) : ∃ ao cap, v = .slice ao ls.length cap := by
  obtain ⟨vs, h1, h2, h3⟩ := h
  exact h2.form
theorem LinesR.open {w : World} {v : Value} {ls : List (List Int)} (h : LinesR w v ls) (hn : 0 < ls.length) :
    ∃ b off cap, v = .slice (some ⟨b, off, none⟩) ls.length cap ∧ ls.length ≤ cap ∧ b < w.heap.size ∧ ∀ k (hk : k < ls.length), ∃ ao oc, w.cell? ⟨b, off + k, none⟩ = some (.slice ao ls[k].length oc) ∧ Sl w 1 (.slice ao ls[k].length oc) ls[k].length (ints ls[k]) := by
  obtain ⟨vs, h1, h2, h3⟩ := h
  obtain ⟨b, off, cap, e, hcap, hb, hc⟩ := h2.open hn
  refine ⟨b, off, cap, e, hcap, hb, fun k hk => ?_⟩
  have hk' : k < vs.length := by omega
  have s1 := h3 k hk hk'
  obtain ⟨ao, oc, e2⟩ := s1.form
  exact ⟨ao, oc, hc k _ (by rw [List.getElem?_eq_getElem hk', e2]), e2 ▸ s1⟩
/-- A world's two slices. -/
structure Wld (w : World) (vc vl : Value) (D : WldD) : Prop where
  c : CellsR w vc D.cells
  l : LinesR w vl D.lines
theorem Wld.up {w w' : World} {vc vl : Value} {D : WldD} (h : Wld w vc vl D) (hb : Below w.heap.size w w') : Wld w' vc vl D := ⟨h.c.up hb, h.l.up hb⟩

/-! What is right. -/
def celB (p : Prt) (d : CelD) : Bool := d.c.fine d.out.length && decide (d.c.read ≤ p.inn.length)
def cellsB : List Prt → List CelD → Bool
  | [], [] => true
  | p :: ps, d :: ds => celB p d && cellsB ps ds
  | _, _ => false
theorem cellsB_len : ∀ {ps : List Prt} {ds : List CelD}, cellsB ps ds = true → ds.length = ps.length
  | [], [], _ => rfl
  | p :: ps, d :: ds, h => by simp [cellsB] at h; simp [cellsB_len h.2]
  | [], _ :: _, h => by simp [cellsB] at h
  | _ :: _, [], h => by simp [cellsB] at h
theorem cellsB_yes : ∀ {ps : List Prt} {ds : List CelD}, ds.length = ps.length → (∀ k (h : k < ps.length) (h' : k < ds.length), celB ps[k] ds[k] = true) → cellsB ps ds = true
  | [], [], _, _ => rfl
  | p :: ps, d :: ds, h, ha => by
    rw [cellsB, show celB p d = true from ha 0 (by simp) (by simp), cellsB_yes (by simpa using h) (fun k h1 h2 => ha (k + 1) (by simpa using h1) (by simpa using h2))]
    rfl
  | [], _ :: _, h, _ => by simp at h
  | _ :: _, [], h, _ => by simp at h
theorem cellsB_at : ∀ {ps : List Prt} {ds : List CelD}, cellsB ps ds = true → ∀ k (h : k < ps.length) (h' : k < ds.length), celB ps[k] ds[k] = true
  | p :: ps, d :: ds, h, 0, _, _ => by simp [cellsB] at h; exact h.1
  | p :: ps, d :: ds, h, k + 1, h1, h2 => by simp [cellsB] at h; exact cellsB_at h.2 k (by simpa using h1) (by simpa using h2)
theorem cellsB_no {ps : List Prt} {ds : List CelD} (k : Nat) (h : k < ps.length) (h' : k < ds.length) (hb : celB ps[k] ds[k] = false) : cellsB ps ds = false := by
  cases e : cellsB ps ds with
  | false => rfl
  | true => rw [cellsB_at e k h h'] at hb; cases hb
def linesB : List Chn → List (List Int) → Bool
  | [], [] => true
  | c :: cs, l :: ls => decide (chkL c.kd l.length = 0) && linesB cs ls
  | _, _ => false
theorem linesB_len : ∀ {cs : List Chn} {ls : List (List Int)}, linesB cs ls = true → ls.length = cs.length
  | [], [], _ => rfl
  | p :: ps, d :: ds, h => by simp [linesB] at h; simp [linesB_len h.2]
  | [], _ :: _, h => by simp [linesB] at h
  | _ :: _, [], h => by simp [linesB] at h
theorem linesB_yes : ∀ {cs : List Chn} {ls : List (List Int)}, ls.length = cs.length → (∀ k (h : k < cs.length) (h' : k < ls.length), chkL cs[k].kd ls[k].length = 0) → linesB cs ls = true
  | [], [], _, _ => rfl
  | p :: ps, d :: ds, h, ha => by
    rw [linesB, show chkL p.kd d.length = 0 from ha 0 (by simp) (by simp), linesB_yes (by simpa using h) (fun k h1 h2 => ha (k + 1) (by simpa using h1) (by simpa using h2))]
    rfl
  | [], _ :: _, h, _ => by simp at h
  | _ :: _, [], h, _ => by simp at h
theorem linesB_at : ∀ {cs : List Chn} {ls : List (List Int)}, linesB cs ls = true → ∀ k (h : k < cs.length) (h' : k < ls.length), chkL cs[k].kd ls[k].length = 0
  | p :: ps, d :: ds, h, 0, _, _ => by simp [linesB] at h; exact h.1
  | p :: ps, d :: ds, h, k + 1, h1, h2 => by simp [linesB] at h; exact linesB_at h.2 k (by simpa using h1) (by simpa using h2)
theorem linesB_no {cs : List Chn} {ls : List (List Int)} (k : Nat) (h : k < cs.length) (h' : k < ls.length) (hb : chkL cs[k].kd ls[k].length ≠ 0) : linesB cs ls = false := by
  cases e : linesB cs ls with
  | false => rfl
  | true => exact absurd (linesB_at e k h h') hb
/-- What kern.Check tells of a system and a world. -/
def chkW (S : SysD) (D : WldD) : Int := if chkS S ≠ 0 then chkS S else if withinB D.tick 0 300 && cellsB S.parts D.cells && linesB S.chans D.lines then 0 else 1
end Go.Proofs.YtjhjaafoikadgaaDoor
