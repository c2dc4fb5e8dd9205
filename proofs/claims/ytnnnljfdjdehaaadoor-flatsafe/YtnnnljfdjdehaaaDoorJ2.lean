/- Worlds: what their slices hold; what is right about them, in plain words. -/
import Derived.Test.YtnnnljfdjdehaaaDoorJ1
import Derived.Deep.MidRow
import Derived.Test.YtnnnljfdjdehaaaDoorProg
import Derived.Test.YtnnnljfdjdehaaaDoorJ0
import Derived.Deep.RegionLaw
import Derived.Deep.RegionHeld3
import Derived.Deep.CutRange
namespace Go.Proofs.YtnnnljfdjdehaaaDoor
set_option linter.unusedSimpArgs false
set_option linter.unusedVariables false
open Go.RowKit Go.Sort

/-- A cell with what it has told; a world. -/
structure CelD where
  c : Cel
  out : List Int
structure WldD where
  tick : Int
  cells : List CelD
  lines : List (List Int)
def celC (p : Cel × Value) : List Value := (p.1.cs p.2).toList
theorem celC_len (p : Cel × Value) : (celC p).length = 16 := rfl
/-- A slice of cells. -/
def CellsR (w : World) (v : Value) (ds : List CelD) : Prop :=
  ∃ ps : List (Cel × Value), ps.length = ds.length ∧ Sl w 16 v ds.length (rowC celC ps) ∧ ∀ k (hk : k < ds.length) (hk' : k < ps.length), ps[k].1 = ds[k].c ∧ Sl w 1 ps[k].2 ds[k].out.length (ints ds[k].out)
theorem CellsR.up {w w' : World} {v : Value} {ds : List CelD} (h : CellsR w v ds) (hb : Below w.heap.size w w') : CellsR w' v ds := by
  obtain ⟨ps, h1, h2, h3⟩ := h
  exact ⟨ps, h1, h2.up hb, fun k hk hk' => ⟨(h3 k hk hk').1, (h3 k hk hk').2.up hb⟩⟩
theorem CellsR.form {w : World} {v : Value} {ds : List CelD} (h : CellsR w v ds) : ∃ ao cap, v = .slice ao ds.length cap := by
  obtain ⟨ps, h1, h2, h3⟩ := h
  exact h2.form
theorem CellsR.open {w : World} {v : Value} {ds : List CelD} (h : CellsR w v ds) (hn : 0 < ds.length) :
    ∃ b off cap, v = .slice (some ⟨b, off, none⟩) ds.length cap ∧ ds.length ≤ cap ∧ b < w.heap.size ∧ ∀ k (hk : k < ds.length), ∃ ao oc, w.rangeAt b (off + k * 16) (ds[k].c.cs (.slice ao ds[k].out.length oc)).toList ∧ Sl w 1 (.slice ao ds[k].out.length oc) ds[k].out.length (ints ds[k].out) := by
  obtain ⟨ps, h1, h2, h3⟩ := h
  obtain ⟨b, off, cap, e, hcap, hb, hc⟩ := h2.open hn
  refine ⟨b, off, cap, e, hcap, hb, fun k hk => ?_⟩
  have hk' : k < ps.length := by omega
  obtain ⟨e1, s1⟩ := h3 k hk hk'
  obtain ⟨ao, oc, e2⟩ := s1.form
  refine ⟨ao, oc, fun j u hj => ?_, e2 ▸ s1⟩
  have hj16 : j < 16 := by have := (List.getElem?_eq_some_iff.1 hj).1; simpa [Cel.cs] using this
  rw [Nat.add_assoc]
  refine hc (k * 16 + j) u ?_
  rw [rowC_at (s := 16) (f := celC) celC_len ps k j hk' hj16, celC, e1, e2]
  exact hj
/-- A slice of lines. -/
def LinesR (w : World) (v : Value) (ls : List (List Int)) : Prop :=
  ∃ vs : List Value, vs.length = ls.length ∧ Sl w 1 v ls.length vs ∧ ∀ k (hk : k < ls.length) (hk' : k < vs.length), Sl w 1 vs[k] ls[k].length (ints ls[k])
theorem LinesR.up {w w' : World} {v : Value} {ls : List (List Int)} (h : LinesR w v ls) (hb : Below w.heap.size w w') : LinesR w' v ls := by
  obtain ⟨vs, h1, h2, h3⟩ := h
  exact ⟨vs, h1, h2.up hb, fun k hk hk' => (h3 k hk hk').up hb⟩
theorem LinesR.form {w : World} {v : Value} {ls : List (List Int)} (h : LinesR w v ls) : ∃ ao cap, v = .slice ao ls.length cap := by
  obtain ⟨vs, h1, h2, h3⟩ := h
  exact h2.form
theorem LinesR.open {w : World} {v : Value} {ls : List (List Int)} (h : LinesR w v ls) (hn : 0 < ls.length) :
    ∃ b off cap, v = .slice (some ⟨b, off, none⟩) ls.length cap ∧ ls.length ≤ cap ∧ b < w.heap.size ∧ ∀ k (hk : k < ls.length), ∃ ao oc, w.cell? ⟨b, off + k, none⟩ = some (.slice ao ls[k].length oc) ∧ Sl w 1 (.slice ao ls[k].length oc) ls[k].length (ints ls[k]) := by
  obtain ⟨vs, h1, h2, h3⟩ := h
  obtain ⟨b, off, cap, e, hcap, hb, hc⟩ := h2.open hn
  refine ⟨b, off, cap, e, hcap, hb, fun k hk => ?_⟩
  have hk' : k < vs.length := by omega
  have s1 := h3 k hk hk'
  obtain ⟨ao, oc, e2⟩ := s1.form
  exact ⟨ao, oc, hc k _ (by rw [List.getElem?_eq_getElem hk', e2]), e2 ▸ s1⟩
/-- A world's two slices. -/
structure Wld (w : World) (vc vl : Value) (D : WldD) : Prop where
  c : CellsR w vc D.cells
  l : LinesR w vl D.lines
theorem Wld.up {w w' : World} {vc vl : Value} {D : WldD} (h : Wld w vc vl D) (hb : Below w.heap.size w w') : Wld w' vc vl D := ⟨h.c.up hb, h.l.up hb⟩

/-! What is right. -/
def celB (p : Prt) (d : CelD) : Bool := d.c.fine d.out.length && decide (d.c.read ≤ p.inn.length)
def cellsB : List Prt → List CelD → Bool
  | [], [] => true
  | p :: ps, d :: ds => celB p d && cellsB ps ds
  | _, _ => false
theorem cellsB_len : ∀ {ps : List Prt} {ds : List CelD}, cellsB ps ds = true → ds.length = ps.length
  | [], [], _ => rfl
  | p :: ps, d :: ds, h => by simp [cellsB] at h; simp [cellsB_len h.2]
  | [], _ :: _, h => by simp [cellsB] at h
  | _ :: _, [], h => by simp [cellsB] at h
theorem cellsB_yes : ∀ {ps : List Prt} {ds : List CelD}, ds.length = ps.length → (∀ k (h : k < ps.length) (h' : k < ds.length), celB ps[k] ds[k] = true) → cellsB ps ds = true
  | [], [], _, _ => rfl
  | p :: ps, d :: ds, h, ha => by
    rw [cellsB, show celB p d = true from ha 0 (by simp) (by simp), cellsB_yes (by simpa using h) (fun k h1 h2 => ha (k + 1) (by simpa using h1) (by simpa using h2))]
    rfl
  | [], _ :: _, h, _ => by simp at h
  | _ :: _, [], h, _ => by simp at h
theorem cellsB_at : ∀ {ps : List Prt} {ds : List CelD}, cellsB ps ds = true → ∀ k (h : k < ps.length) (h' : k < ds.length), celB ps[k] ds[k] = true
  | p :: ps, d :: ds, h, 0, _, _ => by simp [cellsB] at h; exact h.1
  | p :: ps, d :: ds, h, k + 1, h1, h2 => by simp [cellsB] at h; exact cellsB_at h.2 k (by simpa using h1) (by simpa using h2)
theorem cellsB_no {ps : List Prt} {ds : List CelD} (k : Nat) (h : k < ps.length) (h' : k < ds.length) (hb : celB ps[k] ds[k] = false) : cellsB ps ds = false := by
  cases e : cellsB ps ds with
  | false => rfl
  | true => rw [cellsB_at e k h h'] at hb; cases hb
def linesB : List Chn → List (List Int) → Bool
  | [], [] => true
  | c :: cs, l :: ls => decide (chkL c.kd l.length = 0) && linesB cs ls
  | _, _ => false
theorem linesB_len : ∀ {cs : List Chn} {ls : List (List Int)}, linesB cs ls = true → ls.length = cs.length
  | [], [], _ => rfl
  | p :: ps, d :: ds, h => by simp [linesB] at h; simp [linesB_len h.2]
  | [], _ :: _, h => by simp [linesB] at h
  | _ :: _, [], h => by simp [linesB] at h
theorem linesB_yes : ∀ {cs : List Chn} {ls : List (List Int)}, ls.length = cs.length → (∀ k (h : k < cs.length) (h' : k < ls.length), chkL cs[k].kd ls[k].length = 0) → linesB cs ls = true
  | [], [], _, _ => rfl
  | p :: ps, d :: ds, h, ha => by
    rw [linesB, show chkL p.kd d.length = 0 from ha 0 (by simp) (by simp), linesB_yes (by simpa using h) (fun k h1 h2 => ha (k + 1) (by simpa using h1) (by simpa using h2))]
    rfl
  | [], _ :: _, h, _ => by simp at h
  | _ :: _, [], h, _ => by simp at h
theorem linesB_at : ∀ {cs : List Chn} {ls : List (List Int)}, linesB cs ls = true → ∀ k (h : k < cs.length) (h' : k < ls.length), chkL cs[k].kd ls[k].length = 0
  | p :: ps, d :: ds, h, 0, _, _ => by simp [linesB] at h; exact h.1
  | p :: ps, d :: ds, h, k + 1, h1, h2 => by simp [linesB] at h; exact linesB_at h.2 k (by simpa using h1) (by simpa using h2)
theorem linesB_no {cs : List Chn} {ls : List (List Int)} (k : Nat) (h : k < cs.length) (h' : k < ls.length) (hb : chkL cs[k].kd ls[k].length ≠ 0) : linesB cs ls = false := by
  cases e : linesB cs ls with
  | false => rfl
  | true => exact absurd (linesB_at e k h h') hb
/-- What kern.Check tells of a system and a world. -/
def chkW (S : SysD) (D : WldD) : Int := if chkS S ≠ 0 then chkS S else if withinB D.tick 0 300 && cellsB S.parts D.cells && linesB S.chans D.lines then 0 else 1
end Go.Proofs.YtnnnljfdjdehaaaDoor

namespace Go.Proofs.YtnnnljfdjdehaaaDoor
set_option linter.unusedSimpArgs false
set_option linter.unusedVariables false
open Go.RowKit Go.Sort

theorem own_oneF (w : World) (x : Int) : (w.alloc (.cells #[.int .i64 x] 3)).ownsRow w.heap.size 3 1 (.slice (some ⟨w.heap.size, 0, none⟩) 1 1) 1 (ints [x]) :=
  ⟨rfl, .inr ⟨w.heap.size, 1, #[.int .i64 x], rfl, Nat.le_refl _, (Rw.new w _ _ rfl : Rw _ _ _ _), Nat.le_refl _, by unfold maxLen; omega, rfl, rfl⟩⟩
theorem new_rangeF (w : World) (t : TypeId) (cs : Array Value) (g : Nat) (hg : g = w.heap.size) : ∀ j u, cs.toList[j]? = some u → (w.alloc (.cells cs t)).cell? ((⟨g, 0, none⟩ : Addr).add j) = some u := fun j u hj => by
  rw [Addr.add_mid, Nat.zero_add, hg, World.cell?_alloc_new]
  simpa using hj
theorem own_upG {w w' : World} {base : Nat} {e : TypeId} {size : Nat} {v : Value} {n : Nat} {xs : List Value} (h : w.ownsRow base e size v n xs) (hb : Below w.heap.size w w') : w'.ownsRow base e size v n xs := by
  have hlt := h.lt
  refine ⟨h.1, ?_⟩
  rcases h.2 with hn | ⟨g, cap, cur, rfl, hg, hh, r⟩
  · exact .inl hn
  · exact .inr ⟨g, cap, cur, rfl, hg, by rw [hb.block g (hlt g rfl).2]; exact hh, r⟩
def padK (l : List Int) (j : Nat) : List Int := (l.length : Int) :: (l ++ List.replicate j 0)
theorem padK_len (l : List Int) (j : Nat) : (padK l j).length = l.length + j + 1 := by simp [padK]
theorem padK_step (l : List Int) (j : Nat) : padK l (j + 1) = padK l j ++ [0] := by simp [padK, List.replicate_succ']
def slLenF : Value → Nat
  | .slice _ n _ => n
  | _ => 0
set_option maxRecDepth 100000 in
set_option maxHeartbeats 4000000 in
theorem padded_any (l : List Int) (room : Nat) (hr : room ≤ 100) (hlr : l.length ≤ room) (u : Value) (w : World) (hS : Sl w 1 u l.length (ints l)) :
    Calls Tryd.prog 28 #[u, .int .i64 (room : Int)] w fun e w' => ∃ v, e = .returned v ∧ w'.ownsRow w.heap.size 3 1 v (padL l room).length (ints (padL l room)) ∧ Below w.heap.size w w' := by
  obtain ⟨i1, hi1, hy0, hy1, hy2⟩ := info_parts info3
  obtain ⟨ua, uc, rfl⟩ := hS.form
  have HS := Lib.hid (hS.up ((Below.refl _ _).alloc (Nat.le_refl _) (.cells #[.int .i64 (l.length : Int)] 3)))
  have HO := Lib.hid (own_oneF w (l.length : Int))
  clear hS
  go_enter Tryd.func28, Tryd.ntmps28
  go_wp2_with (at_builtin; refine wpList_append_sl rfl (.tmp 8) (.tmp 9) 31 rfl w.heap.size 3 i1 (.int .i64 0) 1 8 Tryd.underlying31 hi1 hy0 hy1 hy2 rfl (by decide) _ 1 (ints [(l.length : Int)]) rfl HO.out _ l.length (ints l) rfl HS.out (ints_cell _) (by unfold maxLen; omega) (by omega) (by simp) ?_)
  intro v1 W hown hgrow _
  have hO1 : W.ownsRow w.heap.size 3 1 v1 (padK l 0).length (ints (padK l 0)) := by
    have e : padK l 0 = [(l.length : Int)] ++ l := by simp [padK]
    rw [e, ← ints_app, List.length_append]
    exact hown
  have HO1 := Lib.hid hO1
  have HB1 : Hid (Below w.heap.size w W) := Lib.hid (((Below.refl _ _).alloc (Nat.le_refl _) _).grown hgrow (by simp) (fun k e => own_block HO.out k e))
  clear hown hgrow hO1 HO HS
  go_wp2
  go_loopw [5] (fun s wr => ∃ j : Nat, l.length + j ≤ room ∧ Hid (wr.ownsRow w.heap.size 3 1 s (padK l j).length (ints (padK l j))) ∧ Hid (Below w.heap.size w wr)) (fun s _ => 1000 - slLenF s)
  case atStart => exact ⟨0, by omega, HO1, HB1⟩
  case round =>
    obtain ⟨j, hj, HO, HB⟩ := hrel
    obtain ⟨a3, c3, hform⟩ := own_form HO.out
    subst hform
    have hw := HB.out.size
    have hpl := padK_len l j
    by_cases hlt : l.length + j < room
    · have hli : ((padK l j).length : Int) ≤ (room : Int) := by omega
      have HO3 := Lib.hid (HO.out.alloc (.cells #[.int .i64 0] 3))
      have HLL : Hid ((padK l j).length ≤ 101) := Lib.hid (by omega)
      have HST := Lib.hid (padK_step l j)
      have HLN := Lib.hid hpl
      clear hpl
      generalize hzs : padK l j = zs at HO HO3 HLL HST hli HLN
      clear hzs
      go_wp2_with (at_builtin; refine wpList_append_lies _ rfl (.tmp 15) (.tmp 16) 31 rfl w.heap.size 3 i1 (.int .i64 0) 1 8 Tryd.underlying31 hi1 hy0 hy1 hy2 rfl (by decide) _ zs.length (ints zs) rfl HO3.out ⟨wr.heap.size, 0, none⟩ 1 1 [.int .i64 0] rfl rfl (new_rangeF _ _ _ _ rfl) (int_cell _) (by decide) (by have := HLL.out; unfold maxLen; omega) (by have := HLL.out; omega) (by simp; omega) _ rfl ?_)
      intro g5 cap5 W5 hown hgrow hat hg5
      have HO5 : Hid (W5.ownsRow w.heap.size 3 1 (.slice (some ⟨g5, 0, none⟩) (zs.length + 1) cap5) (zs ++ [(0 : Int)]).length (ints (zs ++ [(0 : Int)]))) := Lib.hid (by simpa [ints] using hown)
      have HB5 := Lib.hid ((HB.out.alloc hw _).grown hgrow (by simp; omega) (fun q e => by have := own_block HO3.out q e; omega))
      clear hown hgrow hat HO HO3 HB
      go_wp2
      go_roundw
      case rel => exact ⟨j + 1, by omega, by rw [HST.out]; exact HO5, HB5⟩
      case measure => simp only [slLenF]; have := HLL.out; simp; omega
    · have hli : ¬ ((padK l j).length : Int) ≤ (room : Int) := by omega
      have HE : Hid (padK l j = padL l room) := Lib.hid (by unfold padK padL; rw [show room - l.length = j by omega])
      clear hpl
      go_wp2
      go_ret
      exact ⟨_, rfl, by rw [← HE.out]; exact HO.out, HB.out⟩
def regsL (c : Cel) : List Int := [c.r0, c.r1, c.r2, c.r3]
def memL (c : Cel) : List Int := [c.m0, c.m1, c.m2, c.m3, c.m4, c.m5, c.m6, c.m7]
theorem cs_regL (c : Cel) (o : Value) {k : Nat} (h : k < 4) : (c.cs o)[1 + k]? = some (.int .i64 ((regsL c)[k]'h)) := by
  match k, h with
  | 0, _ => rfl
  | 1, _ => rfl
  | 2, _ => rfl
  | 3, _ => rfl
theorem cs_memL (c : Cel) (o : Value) {k : Nat} (h : k < 8) : (c.cs o)[5 + k]? = some (.int .i64 ((memL c)[k]'h)) := by
  match k, h with
  | 0, _ => rfl
  | 1, _ => rfl
  | 2, _ => rfl
  | 3, _ => rfl
  | 4, _ => rfl
  | 5, _ => rfl
  | 6, _ => rfl
  | 7, _ => rfl
/-- A cell as numbers. -/
def cellR (d : CelD) : List Int := d.c.at_ :: (regsL d.c ++ memL d.c ++ [d.c.read, d.c.en] ++ padL d.out 16)
theorem cellR_len {d : CelD} (h : d.out.length ≤ 16) : (cellR d).length = 32 := by
  unfold cellR
  have := padL_len h
  simp only [List.length_cons, List.length_append, this, regsL, memL, List.length_nil]
end Go.Proofs.YtnnnljfdjdehaaaDoor

namespace Go.Proofs.YtnnnljfdjdehaaaDoor
set_option linter.unusedSimpArgs false
set_option linter.unusedVariables false
open Go.RowKit Go.Sort

/-- A function value's call enters its function. -/
def Enters (f : Nat) : Prop := ∀ args w, Sem.run Tryd.prog (callFunc f args) w = .ok (.enter f args) w
theorem enters {f : Nat} {fn : Func} (hf : Tryd.prog.funcs[f]? = some fn) (hn : (fn.name == "runtime.NumGoroutine") = false) (hb : fn.body.isNone = false) : Enters f := by
  intro args w
  have hn' : ¬ fn.name = "runtime.NumGoroutine" := by simpa using hn
  have hb' : ¬ fn.body = none := fun e => by rw [e] at hb; cases hb
  simp [callFunc, go_sem, hf, hn', hb']

end Go.Proofs.YtnnnljfdjdehaaaDoor

namespace Go.Proofs.YtnnnljfdjdehaaaDoor
set_option linter.unusedSimpArgs false
set_option linter.unusedVariables false
open Go.RowKit Go.Sort

theorem step_call {ops : Array Oper} {o : Oper} {a : Act} {w : World} {K : Act → World → Prop} {Q : Exit → Act → World → Prop} {E : Prop} (hgd : o.guard = none) (f : Nat) (args : Array Operand) (tys : Array TypeId)
    (ho : o.op = .call { callee := .value (.func f), args := args, argTypes := tys }) (hen : Enters f) (vs : Array Value) (hvs : args.map a.eval = vs) (h : Calls Tryd.prog f vs w fun e w' => ∃ v, e = .returned v ∧ K (a.put o.dst v) w') :
    if Region.wanted o (yielded ops a.tmps) = true then Oper.wp Tryd.prog o a w K Q else E := by
  have hw : Region.wanted o (yielded ops a.tmps) = true := by simp [Region.wanted, hgd]
  rw [if_pos hw]
  unfold Oper.wp
  subst hvs
  unfold Enters at hen
  simp [execOp, ho, resolve, invoke, hen, Result.andThen, go_sem]
  refine h.mono ?_
  rintro e w' ⟨v, rfl, hk⟩
  exact hk
theorem wp_call {o : Oper} {a : Act} {w : World} {K : Act → World → Prop} {Q : Exit → Act → World → Prop} (f : Nat) (args : Array Operand) (tys : Array TypeId)
    (ho : o.op = .call { callee := .value (.func f), args := args, argTypes := tys }) (hen : Enters f) (vs : Array Value) (hvs : args.map a.eval = vs) (h : Calls Tryd.prog f vs w fun e w' => ∃ v, e = .returned v ∧ K (a.put o.dst v) w') : Oper.wp Tryd.prog o a w K Q := by
  unfold Oper.wp
  subst hvs
  unfold Enters at hen
  simp [execOp, ho, resolve, invoke, hen, Result.andThen, go_sem]
  refine h.mono ?_
  rintro e w' ⟨v, rfl, hk⟩
  exact hk
theorem wp_call_panic {o : Oper} {a : Act} {w : World} {K : Act → World → Prop} {Q : Exit → Act → World → Prop} (f : Nat) (args : Array Operand) (tys : Array TypeId)
    (ho : o.op = .call { callee := .value (.func f), args := args, argTypes := tys }) (hen : Enters f) (vs : Array Value) (hvs : args.map a.eval = vs) (chain : List PanicEntry) (h : Calls Tryd.prog f vs w fun e w' => e = .panicked chain ∧ Q (.panic chain) a w') : Oper.wp Tryd.prog o a w K Q := by
  unfold Oper.wp
  subst hvs
  unfold Enters at hen
  simp [execOp, ho, resolve, invoke, hen, Result.andThen, go_sem]
  refine h.mono ?_
  rintro e w' ⟨rfl, hk⟩
  exact hk
/-- A call that comes back or panics. -/
theorem wp_call_or {o : Oper} {a : Act} {w : World} {K : Act → World → Prop} {Q : Exit → Act → World → Prop} (f : Nat) (args : Array Operand) (tys : Array TypeId)
    (ho : o.op = .call { callee := .value (.func f), args := args, argTypes := tys }) (hen : Enters f) (vs : Array Value) (hvs : args.map a.eval = vs) (chain : List PanicEntry) (h : Calls Tryd.prog f vs w fun e w' => (∃ v, e = .returned v ∧ K (a.put o.dst v) w') ∨ (e = .panicked chain ∧ Q (.panic chain) a w')) : Oper.wp Tryd.prog o a w K Q := by
  unfold Oper.wp
  subst hvs
  unfold Enters at hen
  simp [execOp, ho, resolve, invoke, hen, Result.andThen, go_sem]
  refine h.mono ?_
  rintro e w' (⟨v, rfl, hk⟩ | ⟨rfl, hk⟩)
  · exact hk
  · exact hk
end Go.Proofs.YtnnnljfdjdehaaaDoor

namespace Go.Proofs.YtnnnljfdjdehaaaDoor
set_option linter.unusedSimpArgs false
set_option linter.unusedVariables false
open Go.RowKit Go.Sort

section
variable {P : Program} {ops : Array Oper} {Q : Exit → Act → World → Prop} {md : Region.Mode} {S : World → Prop}

/-- Whatever order comes: S holds behind each operation but number z. -/
def Still (P : Program) (md : Region.Mode) (ops : Array Oper) (Q : Exit → Act → World → Prop) (S : World → Prop) (z : Nat) : Nat → Array Bool → Act → World → Prop
  | 0, done, a, w => Region.ready md ops done = [] ∧ Q .normal a w
  | n + 1, done, a, w => (Region.ready md ops done = [] → Q .normal a w) ∧
    ∀ i ∈ Region.ready md ops done, wpOp P ops Q i (fun a' w' => (i ≠ z → S w') ∧ Still P md ops Q S z n (done.setIfInBounds i true) a' w') a w

theorem Still.any {z : Nat} : ∀ (n : Nat) (done : Array Bool) (a : Act) (w : World), Still P md ops Q S z n done a w → wpAny P md ops Q n done a w
  | 0, _, _, _, h => h
  | n + 1, _, _, _, h => ⟨h.1, fun i hi => wpOp_mono (fun a' w' h' => Still.any n _ a' w' h'.2) (h.2 i hi)⟩

/-- Number z waits for all others. -/
def waitsAll (md : Region.Mode) (ops : Array Oper) (z : Nat) : Bool :=
  match ops[z]? with
  | none => false
  | some o => (List.range ops.size).all fun i => i == z || o.after.any fun e => Region.binds md e && e.on == i
theorem waitsAll_spec {z i : Nat} {o : Oper} (h : waitsAll md ops z = true) (ho : ops[z]? = some o) (hi : i < ops.size) (hne : i ≠ z) : ∃ e ∈ o.after, Region.binds md e = true ∧ e.on = i := by
  simp only [waitsAll, ho, List.all_eq_true, List.mem_range] at h
  have h1 := h i hi
  simp only [Bool.or_eq_true, beq_iff_eq, hne, false_or] at h1
  obtain ⟨e, he, hb⟩ := Array.any_eq_true'.1 h1
  simp only [Bool.and_eq_true, beq_iff_eq] at hb
  exact ⟨e, he, hb.1, hb.2⟩

theorem unready {i : Nat} {done : Array Bool} {oj : Oper} (hr : i ∈ Region.ready md ops done) (hall : ∀ e ∈ oj.after, Region.binds md e = true → done.getD e.on false = true) :
    ∀ e ∈ oj.after, Region.binds md e = true → e.on ≠ i := by
  intro e he hb hei
  have h1 := hall e he hb
  have h0 := (mem_ready.1 hr).1
  rw [hei] at h1
  by_cases hl : i < done.size
  · simp [hl] at h0 h1
    simp [h0] at h1
  · simp [Array.getElem?_eq_none (Nat.le_of_not_lt hl)] at h1

theorem Still.first {z i : Nat} {oi : Oper} {v : Value} (hz : waitsAll md ops z = true) (hi : ops[i]? = some oi) (hs : Region.noSelect ops = true) (hQ : ∀ c a w, Q (.panic c) (a.put oi.dst v) w → Q (.panic c) a w) (n : Nat) :
    ∀ (done : Array Bool) (a : Act) (w : World),
      (∀ j oj, ops[j]? = some oj → j ≠ i → done.getD j true = false → (∀ e ∈ oj.after, Region.binds md e = true → e.on ≠ i) → oi.apart ops oj = true) →
      i ∈ Region.ready md ops done → YieldsIf P ops S oi v a → S w → Still P md ops Q S z n (done.setIfInBounds i true) (a.put oi.dst v) w → Still P md ops Q S z (n + 1) done a w := by
  have sel := Region.noSelect_spec hs
  have hlt : i < ops.size := (Array.getElem?_eq_some_iff.1 hi).1
  induction n with
  | zero =>
    intro done a w _ hr hy hS H
    refine ⟨fun e => by simp [e] at hr, fun j hj => ?_⟩
    rcases Decidable.em (j = i) with rfl | hne
    · exact hy.wpOp hi hS ⟨fun _ => hS, H⟩
    · have hm := ready_mono hj hne
      simp [H.1] at hm
  | succ n ih =>
    intro done a w hap hr hy hS H
    refine ⟨fun e => by simp [e] at hr, fun j hj => ?_⟩
    rcases Decidable.em (j = i) with rfl | hne
    · exact hy.wpOp hi hS ⟨fun _ => hS, H⟩
    · obtain ⟨hju, oj, hoj, hall⟩ := mem_ready.1 hj
      have hno := unready hr hall
      have hjz : j ≠ z := by
        rintro rfl
        obtain ⟨e, he, hb, hei⟩ := waitsAll_spec hz hoj hlt (Ne.symm hne)
        exact hno e he hb hei
      refine wpOp_mono (fun a' w' hK => ?_) (wpOp_putIf hoj (hap j oj hoj hne hju hno) (fun cs b => sel i oi cs b hi) (fun cs b => sel j oj cs b hoj) hQ hy (H.2 j (ready_mono hj hne)))
      obtain ⟨hy', hst, hrest⟩ := hK
      have hS' := hst hjz
      refine ⟨fun _ => hS', ih _ a' w' (fun k ok hk hki hun hno' => hap k ok hk hki ?_ hno') (ready_mono hr (Ne.symm hne)) hy' hS' (by rw [Array.setIfInBounds_comm _ _ hne]; exact hrest)⟩
      rcases Decidable.em (j = k) with rfl | hjk
      · exact hju
      · rwa [getD_set_ne true hjk] at hun

/-- Number i goes first. -/
theorem Still.take {z i : Nat} {oi : Oper} {v : Value} {n : Nat} {done : Array Bool} {a : Act} {w : World} (hz : waitsAll md ops z = true) (hi : ops[i]? = some oi) (hs : Region.noSelect ops = true)
    (hf : Region.free md ops done i = true) (hr : (Region.ready md ops done).contains i = true) (hQ : ∀ c a w, Q (.panic c) (a.put oi.dst v) w → Q (.panic c) a w) (hy : YieldsIf P ops S oi v a) (hS : S w)
    (h : Still P md ops Q S z n (done.setIfInBounds i true) (a.put oi.dst v) w) : Still P md ops Q S z (n + 1) done a w :=
  Still.first hz hi hs hQ n done a w (Region.free_spec hi hf) (by simpa using hr) hy hS h
/-- z waits for i, straight or by others. -/
def waitsOn (md : Region.Mode) (ops : Array Oper) (z i : Nat) : Bool :=
  match ops[z]? with
  | none => false
  | some o => o.after.any fun e => Region.binds md e && e.on == i
def waitsBy (md : Region.Mode) (ops : Array Oper) : Nat → List Nat → Nat → Bool
  | z, [], i => waitsOn md ops z i
  | z, p :: ps, i => waitsOn md ops z p && waitsBy md ops p ps i
theorem waitsOn_ready {z i : Nat} {done : Array Bool} (h : waitsOn md ops z i = true) (hr : z ∈ Region.ready md ops done) : done.getD i false = true := by
  obtain ⟨_, o, ho, hall⟩ := mem_ready.1 hr
  simp only [waitsOn, ho] at h
  obtain ⟨e, he, hb⟩ := Array.any_eq_true'.1 h
  simp only [Bool.and_eq_true, beq_iff_eq] at hb
  have := hall e he hb.1
  rwa [hb.2] at this
theorem getD_both {done : Array Bool} {p : Nat} (h : done.getD p true = false) : done.getD p false = false := by
  by_cases hp : p < done.size
  · simp [hp] at h ⊢; exact h
  · simp [Array.getElem?_eq_none (Nat.le_of_not_lt hp)]
theorem waitsBy_ready {i j : Nat} {done : Array Bool} (hi : done.getD i true = false) (hj : j ∈ Region.ready md ops done) : ∀ (ps : List Nat) (z : Nat), waitsBy md ops z ps i = true → (∀ p ∈ ps, done.getD p true = false) → j ∉ z :: ps
  | [], z, h, _ => by
    intro hm
    simp at hm
    subst hm
    have := waitsOn_ready h hj
    rw [getD_both hi] at this
    cases this
  | p :: ps, z, h, hu => by
    simp only [waitsBy, Bool.and_eq_true] at h
    intro hm
    rcases List.mem_cons.1 hm with rfl | hm
    · have := waitsOn_ready h.1 hj
      rw [getD_both (hu p (by simp))] at this
      cases this
    · exact waitsBy_ready hi hj ps p h.2 (fun q hq => hu q (by simp [hq])) hm
theorem Still.firstBy {z i : Nat} {ps : List Nat} {oi : Oper} {v : Value} (hz : waitsBy md ops z ps i = true) (hi : ops[i]? = some oi) (hs : Region.noSelect ops = true) (hQ : ∀ c a w, Q (.panic c) (a.put oi.dst v) w → Q (.panic c) a w) (n : Nat) :
    ∀ (done : Array Bool) (a : Act) (w : World), (∀ p ∈ ps, done.getD p true = false) →
      (∀ j oj, ops[j]? = some oj → j ≠ i → done.getD j true = false → (∀ e ∈ oj.after, Region.binds md e = true → e.on ≠ i) → oi.apart ops oj = true) →
      i ∈ Region.ready md ops done → YieldsIf P ops S oi v a → S w → Still P md ops Q S z n (done.setIfInBounds i true) (a.put oi.dst v) w → Still P md ops Q S z (n + 1) done a w := by
  have sel := Region.noSelect_spec hs
  have hlt : i < ops.size := (Array.getElem?_eq_some_iff.1 hi).1
  induction n with
  | zero =>
    intro done a w _ _ hr hy hS H
    refine ⟨fun e => by simp [e] at hr, fun j hj => ?_⟩
    rcases Decidable.em (j = i) with rfl | hne
    · exact hy.wpOp hi hS ⟨fun _ => hS, H⟩
    · have hm := ready_mono hj hne
      simp [H.1] at hm
  | succ n ih =>
    intro done a w hu hap hr hy hS H
    refine ⟨fun e => by simp [e] at hr, fun j hj => ?_⟩
    rcases Decidable.em (j = i) with rfl | hne
    · exact hy.wpOp hi hS ⟨fun _ => hS, H⟩
    · obtain ⟨hju, oj, hoj, hall⟩ := mem_ready.1 hj
      have hno := unready hr hall
      have hnm := waitsBy_ready (mem_ready.1 hr).1 hj ps z hz hu
      have hjz : j ≠ z := fun e => hnm (by simp [e])
      refine wpOp_mono (fun a' w' hK => ?_) (wpOp_putIf hoj (hap j oj hoj hne hju hno) (fun cs b => sel i oi cs b hi) (fun cs b => sel j oj cs b hoj) hQ hy (H.2 j (ready_mono hj hne)))
      obtain ⟨hy', hst, hrest⟩ := hK
      have hS' := hst hjz
      refine ⟨fun _ => hS', ih _ a' w' (fun p hp => ?_) (fun k ok hk hki hun hno' => hap k ok hk hki ?_ hno') (ready_mono hr (Ne.symm hne)) hy' hS' (by rw [Array.setIfInBounds_comm _ _ hne]; exact hrest)⟩
      · rw [getD_set_ne true (fun e => hnm (by simp [e, hp]))]
        exact hu p hp
      · rcases Decidable.em (j = k) with rfl | hjk
        · exact hju
        · rwa [getD_set_ne true hjk] at hun
/-- Number i goes first; z, the last one, waits for it by the path ps. -/
theorem Still.takeBy {z i : Nat} (ps : List Nat) {oi : Oper} {v : Value} {n : Nat} {done : Array Bool} {a : Act} {w : World} (hz : waitsBy md ops z ps i = true) (hu : ps.all (fun p => done.getD p true == false) = true) (hi : ops[i]? = some oi) (hs : Region.noSelect ops = true)
    (hf : Region.free md ops done i = true) (hr : (Region.ready md ops done).contains i = true) (hQ : ∀ c a w, Q (.panic c) (a.put oi.dst v) w → Q (.panic c) a w) (hy : YieldsIf P ops S oi v a) (hS : S w)
    (h : Still P md ops Q S z n (done.setIfInBounds i true) (a.put oi.dst v) w) : Still P md ops Q S z (n + 1) done a w :=
  Still.firstBy hz hi hs hQ n done a w (fun p hp => by simpa using (List.all_eq_true.1 hu) p hp) (Region.free_spec hi hf) (by simpa using hr) hy hS h
theorem Still.all {z : Nat} {rs : List Nat} {n : Nat} {done : Array Bool} {a : Act} {w : World} (hr : Region.ready md ops done = rs) (hne : rs ≠ [])
    (h : ∀ i ∈ rs, wpOp P ops Q i (fun a' w' => (i ≠ z → S w') ∧ Still P md ops Q S z n (done.setIfInBounds i true) a' w') a w) : Still P md ops Q S z (n + 1) done a w :=
  ⟨fun e => absurd (hr ▸ e) hne, hr ▸ h⟩
theorem Still.over {z : Nat} {done : Array Bool} {a : Act} {w : World} (hr : Region.ready md ops done = []) (h : Q .normal a w) (n : Nat) : Still P md ops Q S z n done a w := by
  cases n with
  | zero => exact ⟨hr, h⟩
  | succ n => exact ⟨fun _ => h, by rw [hr]; simp⟩
theorem region_still {id : Nat} {a : Act} {w : World} (z : Nat) (hm : P.follows .mixedOrders = true) (hS : S w.drew) (h : S w.drew → Still P .any ops Q S z ops.size (Array.replicate ops.size false) a w.drew) : (Code.region id ops true).wp P Q a w :=
  wp_region_any hm (Still.any _ _ _ _ (h hS))
/-- One of those that may come up, carried out. -/
theorem Still.one {z i : Nat} {o : Oper} {rs : List Nat} {n : Nat} {done : Array Bool} {a : Act} {w : World} (ho : ops[i]? = some o) (hg : o.guard = none)
    (h : ∀ K : Act → World → Prop, (∀ a' w', (i ≠ z → S w') → ((i ≠ z → S w') → Still P md ops Q S z n (done.setIfInBounds i true) a' w') → K a' w') → Oper.wp P o a w K Q)
    (hs : ∀ j ∈ rs, wpOp P ops Q j (fun a' w' => (j ≠ z → S w') ∧ Still P md ops Q S z n (done.setIfInBounds j true) a' w') a w) :
    ∀ j ∈ i :: rs, wpOp P ops Q j (fun a' w' => (j ≠ z → S w') ∧ Still P md ops Q S z n (done.setIfInBounds j true) a' w') a w := by
  intro j hj
  rcases List.mem_cons.1 hj with rfl | hj
  · unfold wpOp
    simp only [ho, Region.wanted, hg, if_true]
    exact .inl (h _ fun a' w' h1 h2 => ⟨h1, h2 h1⟩)
  · exact hs j hj
theorem yields_load {oi : Oper} {a : Act} (hg : oi.guard = none) (ty : TypeId) (x : Operand) (ho : oi.op = .load ty x) (p : Addr) (hx : a.eval x = .pointer (some p)) (v : Value) (hS : ∀ w, S w → (Instr.loadAt ty (.pointer (some p))).run P w = .ok v w) : YieldsIf P ops S oi v a :=
  .inl ⟨by simp [Region.wanted, hg], fun w hw => by
    unfold execOp
    simp only [ho, hx, Sem.run_bind, Sem.run_pure, Result.andThen_ok, hS w hw]⟩
theorem yields_build {oi : Oper} {a : Act} (hg : oi.guard = none) (t : TypeId) (parts : Array (Nat × Operand)) (ho : oi.op = .build t parts) (vs : Array (Nat × Value)) (hx : (parts.map fun (i, x) => (i, a.eval x)) = vs) (v : Value) (hb : ∀ w, (Instr.build t vs).run P w = .ok v w) : YieldsIf P ops S oi v a :=
  .inl ⟨by simp [Region.wanted, hg], fun w hw => by
    unfold execOp
    simp only [ho, hx, Sem.run_bind, Sem.run_pure, Result.andThen_ok, hb w]⟩
end
end Go.Proofs.YtnnnljfdjdehaaaDoor

namespace Go.Proofs.YtnnnljfdjdehaaaDoor
set_option linter.unusedSimpArgs false
set_option linter.unusedVariables false
open Go.RowKit Go.Sort

section
variable {P : Program} {ops : Array Oper} {Q : Exit → Act → World → Prop} {md : Region.Mode} {S : World → Prop}
theorem Still.oneG {z i : Nat} {o : Oper} {rs : List Nat} {n : Nat} {done : Array Bool} {a : Act} {w : World} (ho : ops[i]? = some o) (hw : Region.wanted o (yielded ops a.tmps) = true)
    (h : ∀ K : Act → World → Prop, (∀ a' w', (i ≠ z → S w') → ((i ≠ z → S w') → Still P md ops Q S z n (done.setIfInBounds i true) a' w') → K a' w') → Oper.wp P o a w K Q)
    (hs : ∀ j ∈ rs, wpOp P ops Q j (fun a' w' => (j ≠ z → S w') ∧ Still P md ops Q S z n (done.setIfInBounds j true) a' w') a w) :
    ∀ j ∈ i :: rs, wpOp P ops Q j (fun a' w' => (j ≠ z → S w') ∧ Still P md ops Q S z n (done.setIfInBounds j true) a' w') a w := by
  intro j hj
  rcases List.mem_cons.1 hj with rfl | hj
  · unfold wpOp
    simp only [ho, hw, if_true]
    exact .inl (h _ fun a' w' h1 h2 => ⟨h1, h2 h1⟩)
  · exact hs j hj
theorem yields_loadG {oi : Oper} {a : Act} (hw : Region.wanted oi (yielded ops a.tmps) = true) (ty : TypeId) (x : Operand) (ho : oi.op = .load ty x) (p : Addr) (hx : a.eval x = .pointer (some p)) (v : Value) (hS : ∀ w, S w → (Instr.loadAt ty (.pointer (some p))).run P w = .ok v w) : YieldsIf P ops S oi v a :=
  .inl ⟨hw, fun w hw => by
    unfold execOp
    simp only [ho, hx, Sem.run_bind, Sem.run_pure, Result.andThen_ok, hS w hw]⟩
end
end Go.Proofs.YtnnnljfdjdehaaaDoor

namespace Go.Proofs.YtnnnljfdjdehaaaDoor
set_option linter.unusedSimpArgs false
set_option linter.unusedVariables false
open Go.RowKit Go.Sort

set_option maxRecDepth 100000 in
set_option maxHeartbeats 8000000 in
theorem cellRow_any (c : Cel) (out : List Int) (hout : out.length ≤ 16) (o : Value) (w : World) (hS : Sl w 1 o out.length (ints out)) :
    Calls Tryd.prog 27 #[.agg (c.cs o)] w fun e w' => ∃ v, e = .returned v ∧ w'.ownsRow w.heap.size 3 1 v (cellR ⟨c, out⟩).length (ints (cellR ⟨c, out⟩)) ∧ Below w.heap.size w w' := by
  obtain ⟨i1, hi1, hy0, hy1, hy2⟩ := info_parts info3
  obtain ⟨oa, oc, rfl⟩ := hS.form
  go_enter Tryd.func27, Tryd.ntmps27
  go_upto_region 1 with fail
  have HRX : Hid (Rw (w.alloc (.cells (c.cs (.slice oa out.length oc)) 62)) w.heap.size 62 (c.cs (.slice oa out.length oc))) := Lib.hid (Rw.new _ _ _ rfl)
  have D0 : Hid (Below w.heap.size w (w.alloc (.cells (c.cs (.slice oa out.length oc)) 62))) := Lib.hid ((Below.refl _ _).alloc (Nat.le_refl _) _)
  have hX : (w.alloc (.cells (c.cs (.slice oa out.length oc)) 62)).heap.size = w.heap.size + 1 := by simp
  try simp only [show Cel.cs c (.slice oa out.length oc) = c.cs (.slice oa out.length oc) from rfl]
  generalize w.alloc (.cells (c.cs (.slice oa out.length oc)) 62) = X at HRX D0 hX ⊢
  have HS := Lib.hid (hS.up D0.out)
  have c0 : X.cell? ⟨w.heap.size, 0, none⟩ = some (.int .i64 c.at_) := HRX.out.cell (j := 0) rfl
  have HXS := Lib.hid hX
  clear hS hX
  have HO := Lib.hid (own_oneF X c.at_)
  have HB : Hid (Below X.heap.size X (X.alloc (.cells #[.int .i64 c.at_] 3))) := Lib.hid ((Below.refl _ _).alloc (Nat.le_refl _) _)
  go_wp2
  clear c0
  go_loopw [4, 3] (fun i l wr => ∃ k : Nat, i = .int .i64 k ∧ k ≤ 4 ∧ Hid (wr.ownsRow X.heap.size 3 1 l ([c.at_] ++ (regsL c).take k).length (ints ([c.at_] ++ (regsL c).take k))) ∧ Hid (Below X.heap.size X wr)) (fun i _ _ => 4 - (intOf i).toNat)
  case atStart => exact ⟨0, rfl, Nat.zero_le _, by rw [List.take_zero, List.append_nil]; exact HO, HB⟩
  case round =>
    clear HO HB
    obtain ⟨k, rfl, hk, HO, HB⟩ := hrel
    obtain ⟨a3, c3, hform⟩ := own_form HO.out
    subst hform
    have hw := HB.out.size
    by_cases hlt : k < 4
    · have hli : (k : Int) < 4 := by omega
      have ck : wr.cell? ⟨w.heap.size, 1 + k, none⟩ = some (.int .i64 ((regsL c)[k]'hlt)) := (HRX.out.up HB.out HRX.out.lt).cell (cs_regL c _ hlt)
      have HTK : Hid ([c.at_] ++ (regsL c).take (k + 1) = [c.at_] ++ (regsL c).take k ++ [(regsL c)[k]'hlt]) := Lib.hid (by rw [List.take_succ_eq_append_getElem (by simpa [regsL] using hlt)]; exact (List.append_assoc _ _ _).symm)
      have HLL : Hid (([c.at_] ++ (regsL c).take k).length ≤ 40) := Lib.hid (by simp [regsL, regsL]; omega)
      generalize (regsL c)[k]'hlt = z at ck HTK
      generalize [c.at_] ++ (regsL c).take k = zs at HO HTK HLL
      have HO3 := Lib.hid (HO.out.alloc (.cells #[.int .i64 z] 3))
      go_wp2_with (at_builtin; refine wpList_append_lies _ rfl (.tmp 13) (.tmp 18) 31 rfl X.heap.size 3 i1 (.int .i64 0) 1 8 Tryd.underlying31 hi1 hy0 hy1 hy2 rfl (by decide) _ zs.length (ints zs) rfl HO3.out ⟨wr.heap.size, 0, none⟩ 1 1 [.int .i64 z] rfl rfl (new_rangeF _ _ _ _ rfl) (int_cell _) (by decide) (by have := HLL.out; unfold maxLen; omega) (by have := HLL.out; omega) (by simp; omega) _ rfl ?_)
      intro g5 cap5 W5 hown hgrow hat hg5
      have HO5 : Hid (W5.ownsRow X.heap.size 3 1 (.slice (some ⟨g5, 0, none⟩) (zs.length + 1) cap5) (zs ++ [z]).length (ints (zs ++ [z]))) := Lib.hid (by simpa [ints] using hown)
      have HB5 := Lib.hid ((HB.out.alloc hw _).grown hgrow (by simp; omega) (fun q e => by have := own_block HO3.out q e; omega))
      clear hown hgrow hat HO HO3 HB ck
      go_wp2
      go_roundw
      case rel => exact ⟨k + 1, by go_num, by omega, by rw [HTK.out]; exact HO5, HB5⟩
      case measure => simp [intOf]; omega
    · have hli : ¬ (k : Int) < 4 := by omega
      have HO : Hid (wr.ownsRow X.heap.size 3 1 (.slice a3 ([c.at_] ++ regsL c).length c3) ([c.at_] ++ regsL c).length (ints ([c.at_] ++ regsL c))) := Lib.hid (by
        have e : (regsL c).take k = regsL c := List.take_of_length_le (by simp [regsL]; omega)
        have := HO.out
        rw [e] at this
        exact this)
      have ELN : Hid (([c.at_] ++ (regsL c).take k).length = ([c.at_] ++ regsL c).length) := Lib.hid (by rw [List.take_of_length_le (by simp [regsL]; omega)])
      rw [ELN.out]
      go_wp2
      go_loopw [5, 3] (fun i l wr => ∃ k : Nat, i = .int .i64 k ∧ k ≤ 8 ∧ Hid (wr.ownsRow X.heap.size 3 1 l ([c.at_] ++ regsL c ++ (memL c).take k).length (ints ([c.at_] ++ regsL c ++ (memL c).take k))) ∧ Hid (Below X.heap.size X wr)) (fun i _ _ => 8 - (intOf i).toNat)
      case atStart => exact ⟨0, rfl, Nat.zero_le _, by rw [List.take_zero, List.append_nil]; exact HO, HB⟩
      case round =>
        clear HO HB
        obtain ⟨k, rfl, hk, HO, HB⟩ := hrel
        obtain ⟨a3, c3, hform⟩ := own_form HO.out
        subst hform
        have hw := HB.out.size
        by_cases hlt : k < 8
        · have hli : (k : Int) < 8 := by omega
          have ck : wr.cell? ⟨w.heap.size, 5 + k, none⟩ = some (.int .i64 ((memL c)[k]'hlt)) := (HRX.out.up HB.out HRX.out.lt).cell (cs_memL c _ hlt)
          have HTK : Hid ([c.at_] ++ regsL c ++ (memL c).take (k + 1) = [c.at_] ++ regsL c ++ (memL c).take k ++ [(memL c)[k]'hlt]) := Lib.hid (by rw [List.take_succ_eq_append_getElem (by simpa [memL] using hlt)]; exact (List.append_assoc _ _ _).symm)
          have HLL : Hid (([c.at_] ++ regsL c ++ (memL c).take k).length ≤ 40) := Lib.hid (by simp [memL, regsL]; omega)
          generalize (memL c)[k]'hlt = z at ck HTK
          generalize [c.at_] ++ regsL c ++ (memL c).take k = zs at HO HTK HLL
          have HO3 := Lib.hid (HO.out.alloc (.cells #[.int .i64 z] 3))
          go_wp2_with (at_builtin; refine wpList_append_lies _ rfl (.tmp 24) (.tmp 29) 31 rfl X.heap.size 3 i1 (.int .i64 0) 1 8 Tryd.underlying31 hi1 hy0 hy1 hy2 rfl (by decide) _ zs.length (ints zs) rfl HO3.out ⟨wr.heap.size, 0, none⟩ 1 1 [.int .i64 z] rfl rfl (new_rangeF _ _ _ _ rfl) (int_cell _) (by decide) (by have := HLL.out; unfold maxLen; omega) (by have := HLL.out; omega) (by simp; omega) _ rfl ?_)
          intro g5 cap5 W5 hown hgrow hat hg5
          have HO5 : Hid (W5.ownsRow X.heap.size 3 1 (.slice (some ⟨g5, 0, none⟩) (zs.length + 1) cap5) (zs ++ [z]).length (ints (zs ++ [z]))) := Lib.hid (by simpa [ints] using hown)
          have HB5 := Lib.hid ((HB.out.alloc hw _).grown hgrow (by simp; omega) (fun q e => by have := own_block HO3.out q e; omega))
          clear hown hgrow hat HO HO3 HB ck
          go_wp2
          go_roundw
          case rel => exact ⟨k + 1, by go_num, by omega, by rw [HTK.out]; exact HO5, HB5⟩
          case measure => simp [intOf]; omega
        · have hli : ¬ (k : Int) < 8 := by omega
          have HO : Hid (wr.ownsRow X.heap.size 3 1 (.slice a3 ([c.at_] ++ regsL c ++ memL c).length c3) ([c.at_] ++ regsL c ++ memL c).length (ints ([c.at_] ++ regsL c ++ memL c))) := Lib.hid (by
            have e : (memL c).take k = memL c := List.take_of_length_le (by simp [memL]; omega)
            have := HO.out
            rw [e] at this
            exact this)
          have ELN : Hid (([c.at_] ++ regsL c ++ (memL c).take k).length = ([c.at_] ++ regsL c ++ memL c).length) := Lib.hid (by rw [List.take_of_length_le (by simp [memL]; omega)])
          rw [ELN.out]
          have hws := HB.out.size
          have HRY := Lib.hid (HRX.out.up HB.out HRX.out.lt)
          have c13 : wr.cell? ⟨w.heap.size, 13, none⟩ = some (.int .i64 c.read) := HRY.out.cell (j := 13) rfl
          have c15 : wr.cell? ⟨w.heap.size, 15, none⟩ = some (.int .i64 c.en) := HRY.out.cell (j := 15) rfl
          have HLL : Hid (([c.at_] ++ regsL c ++ memL c).length ≤ 40) := Lib.hid (by simp [regsL, memL])
          have HEQ : Hid (cellR ⟨c, out⟩ = [c.at_] ++ regsL c ++ memL c ++ [c.read, c.en] ++ padL out 16) := Lib.hid (by simp [cellR])
          clear ELN
          generalize [c.at_] ++ regsL c ++ memL c = zs at HO HLL HEQ ⊢
          have HO3 := Lib.hid (HO.out.alloc (.cells #[.int .i64 c.read, .int .i64 c.en] 3))
          go_wp2_with (at_builtin; refine wpList_append_lies _ rfl (.tmp 31) (.tmp 36) 31 rfl X.heap.size 3 i1 (.int .i64 0) 1 8 Tryd.underlying31 hi1 hy0 hy1 hy2 rfl (by decide) _ zs.length (ints zs) rfl HO3.out ⟨wr.heap.size, 0, none⟩ 2 2 [.int .i64 c.read, .int .i64 c.en] rfl rfl (new_rangeF _ _ _ _ rfl) (by simp [Value.oneCell']) (by decide) (by have := HLL.out; unfold maxLen; omega) (by have := HLL.out; omega) (by simp; omega) _ rfl ?_)
          intro g5 cap5 W5 hown hgrow hat hg5
          have HO5 : Hid (W5.ownsRow X.heap.size 3 1 (.slice (some ⟨g5, 0, none⟩) (zs.length + 2) cap5) (zs ++ [c.read, c.en]).length (ints (zs ++ [c.read, c.en]))) := Lib.hid (by simpa [ints] using hown)
          have HB5 := Lib.hid ((HB.out.alloc hws _).grown hgrow (by simp; omega) (fun q e => by have := own_block HO3.out q e; omega))
          have c14 : W5.cell? ⟨w.heap.size, 14, none⟩ = some (.slice oa out.length oc) := (HRX.out.up HB5.out HRX.out.lt).cell (j := 14) rfl
          clear hown hgrow hat HO HO3 HB c13 c15 HRY
          go_wp2_with fail
          refine (padded_any out 16 (by omega) hout _ _ (HS.out.up HB5.out)).mono ?_
          rintro e w6 ⟨v6, rfl, ho6, b6⟩
          obtain ⟨pa6, pc6, rfl⟩ := own_form ho6
          have HO6 := Lib.hid (own_upG HO5.out b6)
          have HP6 := Lib.hid (own_sl ho6)
          have HB6 := Lib.hid (HB5.out.trans (b6.mono HB5.out.size))
          have hpl := padL_len hout
          have hw6 := HB6.out.size
          have HPL := Lib.hid hpl
          clear ho6 b6 HO5 HB5 c14 hpl
          go_wp2_with (at_builtin; refine wpList_append_sl rfl (.tmp 38) (.tmp 41) 31 rfl X.heap.size 3 i1 (.int .i64 0) 1 8 Tryd.underlying31 hi1 hy0 hy1 hy2 rfl (by decide) _ (zs ++ [c.read, c.en]).length (ints (zs ++ [c.read, c.en])) (by first | rfl | simp [Act.eval]) HO6.out _ (padL out 16).length (ints (padL out 16)) rfl HP6.out (ints_cell _) (by have := HLL.out; have := HPL.out; unfold maxLen; simp; omega) (by have := HLL.out; have := HPL.out; simp; omega) (by omega) ?_)
          intro v7 W7 hown hgrow _
          have HB7 := Lib.hid (HB6.out.grown hgrow (by omega) (fun k e => by have := own_block HO6.out k (by first | exact e | simpa using e); omega))
          have HO7 : Hid (W7.ownsRow X.heap.size 3 1 v7 (cellR ⟨c, out⟩).length (ints (cellR ⟨c, out⟩))) := Lib.hid (by rw [HEQ.out, ← ints_app, List.length_append, show (zs ++ [c.read, c.en]).length = zs.length + 2 by simp]; exact hown)
          clear hown hgrow
          go_wp2
          go_ret
          exact ⟨_, rfl, own_low HO7.out (by have := HXS.out; omega), D0.out.trans (HB7.out.mono (by have := HXS.out; omega))⟩
end Go.Proofs.YtnnnljfdjdehaaaDoor

namespace Go.Proofs.YtnnnljfdjdehaaaDoor
set_option linter.unusedSimpArgs false
set_option linter.unusedVariables false
open Go.RowKit Go.Sort

theorem cwithin_any (n lo hi : Int) (w : World) : Calls Tryd.prog 68 #[.int .i64 n, .int .i64 lo, .int .i64 hi] w fun e w' => e = .returned (.bool (withinB n lo hi)) ∧ w' = w := by
  by_cases h : lo ≤ n
  all_goals
    go_enter Tryd.func68, Tryd.ntmps68
    go_wp2
    go_ret
    exact ⟨ret_bool (by simp [withinB]; try omega), rfl⟩

theorem isPart_any (ao : Option Addr) (n cap : Nat) (vc vs : Value) (x : Int) (w : World) (hn : n ≤ 1000) :
    Calls Tryd.prog 73 #[.agg #[.slice ao n cap, vc, vs], .int .i64 x] w fun e w' => e = .returned (.bool (withinB x 0 ((n : Int) - 1))) ∧ Below w.heap.size w w' := by
  go_enter Tryd.func73, Tryd.ntmps73
  go_wp2_with (go_at_call 68; refine (cwithin_any _ _ _ _).mono ?_; rintro e w' ⟨rfl, rfl⟩)
  go_ret
  exact ⟨rfl, (by repeat (first | exact Below.refl _ _ | assumption | refine Below.drew ?_ | refine Below.alloc ?_ (by first | (simp; done) | (simp; omega)) _ | refine Below.setCell ?_ (by first | (simp; done) | (simp; omega)) _))⟩

theorem any_mem {α : Type} {l : List α} {p : α → Bool} {k : Nat} (h : k < l.length) (hp : p l[k] = true) : l.any p = true := by
  rw [List.any_eq_true]
  exact ⟨l[k], List.getElem_mem h, hp⟩
theorem any_take {α : Type} {l : List α} {p : α → Bool} {k : Nat} (h : k < l.length) (h0 : (l.take k).any p = false) (hp : p l[k] = false) : (l.take (k + 1)).any p = false := by
  rw [List.take_succ_eq_append_getElem h, List.any_append, h0]; simp [hp]
theorem any_all {α : Type} {l : List α} {p : α → Bool} {k : Nat} (h : ¬ k < l.length) (h0 : (l.take k).any p = false) : l.any p = false := by
  rwa [List.take_of_length_le (by omega)] at h0

set_option maxHeartbeats 1000000 in
/-- one, of channels. -/
theorem oneChan_any (l : List Chn) (v : Value) (f : Nat) (hen : Enters f) (caps : Array Value) (p : Chn → Bool) (w : World) (hS : Sl w 3 v l.length (rowC chC l)) (hl : l.length ≤ 1000)
    (hf : ∀ k (hk : k < l.length) w1, Below w.heap.size w w1 → Calls Tryd.prog f (#[.agg #[.int .i64 l[k].kd, .int .i64 l[k].fr, .int .i64 l[k].tt]] ++ caps) w1 fun e w2 => e = .returned (.bool (p l[k])) ∧ Below w1.heap.size w1 w2) (r : Bool) (hr : l.any p = r) :
    Calls Tryd.prog 50 #[v, .func (.func f) #[] caps] w fun e w' => e = .returned (.bool r) ∧ Below w.heap.size w w' := by
  obtain ⟨ao, cap, rfl⟩ := hS.form
  have HS := Lib.hid hS
  have HF := Lib.hid hf
  have HR := Lib.hid hr
  clear hS hf hr
  unfold Enters at hen
  go_enter Tryd.func50, Tryd.ntmps50
  go_wp2
  go_loopw [9] (fun i wr => ∃ k : Nat, i = .int .i64 k ∧ k ≤ l.length ∧ Hid ((l.take k).any p = false) ∧ Below w.heap.size w wr) (fun i _ => l.length - (intOf i).toNat)
  case atStart => exact ⟨0, rfl, Nat.zero_le _, (show ((l.take 0).any p = false) by simp), Below.refl _ _⟩
  case round =>
    obtain ⟨k, rfl, hk, HZ, hbel⟩ := hrel
    by_cases hlt : k < l.length
    · have hli : (k : Int) < l.length := by omega
      obtain ⟨b, off, cap', e1, hcap, hbw, hc⟩ := HS.out.open (by omega)
      cases e1
      obtain ⟨c0, c1, c2⟩ := chan_cells hc k hlt
      have c0 := bcl hbel hbw c0
      have c1 := bcl hbel hbw c1
      have c2 := bcl hbel hbw c2
      have HC := Lib.hid (HF.out k hlt)
      generalize hq : p l[k] = q at HC
      have HQ := Lib.hid hq
      clear hc hq
      go_wp2_with fail
      refine (HC.out _ (hbel.alloc hbel.size _)).mono ?_
      rintro e w2 ⟨rfl, bb⟩
      have D := Lib.hid ((hbel.alloc hbel.size _).trans (bb.mono (by have := hbel.size; simp; omega)))
      clear bb HC c0 c1 c2
      cases q
      · have HZ1 := Lib.hid (any_take hlt HZ.out HQ.out)
        go_wp2
        go_roundw
        case rel => exact ⟨k + 1, by go_num, by omega, HZ1, D.out⟩
        case measure => simp [intOf]; omega
      · have HZ1 := Lib.hid (any_mem hlt HQ.out)
        go_wp2
        go_ret
        exact ⟨ret_bool (by rw [← HR.out, HZ1.out]), D.out⟩
    · have hli : ¬ (k : Int) < l.length := by omega
      have HZ1 := Lib.hid (any_all hlt HZ.out)
      go_wp2
      go_ret
      exact ⟨ret_bool (by rw [← HR.out, HZ1.out]), hbel⟩
set_option maxHeartbeats 1000000 in
/-- one, of slots. -/
theorem oneSlot_any (l : List Slt) (v : Value) (f : Nat) (hen : Enters f) (caps : Array Value) (p : Slt → Bool) (w : World) (hS : Sl w 2 v l.length (rowC slC l)) (hl : l.length ≤ 1000)
    (hf : ∀ k (hk : k < l.length) w1, Below w.heap.size w w1 → Calls Tryd.prog f (#[.agg #[.int .i64 l[k].pt, .int .i64 l[k].tk]] ++ caps) w1 fun e w2 => e = .returned (.bool (p l[k])) ∧ Below w1.heap.size w1 w2) (r : Bool) (hr : l.any p = r) :
    Calls Tryd.prog 74 #[v, .func (.func f) #[] caps] w fun e w' => e = .returned (.bool r) ∧ Below w.heap.size w w' := by
  obtain ⟨ao, cap, rfl⟩ := hS.form
  have HS := Lib.hid hS
  have HF := Lib.hid hf
  have HR := Lib.hid hr
  clear hS hf hr
  unfold Enters at hen
  go_enter Tryd.func74, Tryd.ntmps74
  go_wp2
  go_loopw [9] (fun i wr => ∃ k : Nat, i = .int .i64 k ∧ k ≤ l.length ∧ Hid ((l.take k).any p = false) ∧ Below w.heap.size w wr) (fun i _ => l.length - (intOf i).toNat)
  case atStart => exact ⟨0, rfl, Nat.zero_le _, (show ((l.take 0).any p = false) by simp), Below.refl _ _⟩
  case round =>
    obtain ⟨k, rfl, hk, HZ, hbel⟩ := hrel
    by_cases hlt : k < l.length
    · have hli : (k : Int) < l.length := by omega
      obtain ⟨b, off, cap', e1, hcap, hbw, hc⟩ := HS.out.open (by omega)
      cases e1
      obtain ⟨c0, c1⟩ := slot_cells hc k hlt
      have c0 := bcl hbel hbw c0
      have c1 := bcl hbel hbw c1
      have HC := Lib.hid (HF.out k hlt)
      generalize hq : p l[k] = q at HC
      have HQ := Lib.hid hq
      clear hc hq
      go_wp2_with fail
      refine (HC.out _ (hbel.alloc hbel.size _)).mono ?_
      rintro e w2 ⟨rfl, bb⟩
      have D := Lib.hid ((hbel.alloc hbel.size _).trans (bb.mono (by have := hbel.size; simp; omega)))
      clear bb HC c0 c1
      cases q
      · have HZ1 := Lib.hid (any_take hlt HZ.out HQ.out)
        go_wp2
        go_roundw
        case rel => exact ⟨k + 1, by go_num, by omega, HZ1, D.out⟩
        case measure => simp [intOf]; omega
      · have HZ1 := Lib.hid (any_mem hlt HQ.out)
        go_wp2
        go_ret
        exact ⟨ret_bool (by rw [← HR.out, HZ1.out]), D.out⟩
    · have hli : ¬ (k : Int) < l.length := by omega
      have HZ1 := Lib.hid (any_all hlt HZ.out)
      go_wp2
      go_ret
      exact ⟨ret_bool (by rw [← HR.out, HZ1.out]), hbel⟩

set_option maxHeartbeats 1000000 in
/-- one, of numbers. -/
theorem oneInt_any (l : List Int) (v : Value) (f : Nat) (hen : Enters f) (caps : Array Value) (p : Int → Bool) (w : World) (hS : Sl w 1 v l.length (ints l)) (hl : l.length ≤ 1000)
    (hf : ∀ k (hk : k < l.length) w1, Below w.heap.size w w1 → Calls Tryd.prog f (#[.int .i64 l[k]] ++ caps) w1 fun e w2 => e = .returned (.bool (p l[k])) ∧ Below w1.heap.size w1 w2) (r : Bool) (hr : l.any p = r) :
    Calls Tryd.prog 77 #[v, .func (.func f) #[] caps] w fun e w' => e = .returned (.bool r) ∧ Below w.heap.size w w' := by
  obtain ⟨ao, cap, rfl⟩ := hS.form
  have HS := Lib.hid hS
  have HF := Lib.hid hf
  have HR := Lib.hid hr
  clear hS hf hr
  unfold Enters at hen
  go_enter Tryd.func77, Tryd.ntmps77
  go_wp2
  go_loopw [9] (fun i wr => ∃ k : Nat, i = .int .i64 k ∧ k ≤ l.length ∧ Hid ((l.take k).any p = false) ∧ Below w.heap.size w wr) (fun i _ => l.length - (intOf i).toNat)
  case atStart => exact ⟨0, rfl, Nat.zero_le _, (show ((l.take 0).any p = false) by simp), Below.refl _ _⟩
  case round =>
    obtain ⟨k, rfl, hk, HZ, hbel⟩ := hrel
    by_cases hlt : k < l.length
    · have hli : (k : Int) < l.length := by omega
      obtain ⟨b, off, cap', e1, hcap, hbw, hc⟩ := HS.out.open (by omega)
      cases e1
      have c0 := bcl hbel hbw (hc k _ (ints_at l k hlt))
      have HC := Lib.hid (HF.out k hlt)
      generalize hq : p l[k] = q at HC
      have HQ := Lib.hid hq
      clear hc hq
      go_wp2_with fail
      refine (HC.out _ hbel).mono ?_
      rintro e w2 ⟨rfl, bb⟩
      have D := Lib.hid (hbel.trans (bb.mono hbel.size))
      clear bb HC c0
      cases q
      · have HZ1 := Lib.hid (any_take hlt HZ.out HQ.out)
        go_wp2
        go_roundw
        case rel => exact ⟨k + 1, by go_num, by omega, HZ1, D.out⟩
        case measure => simp [intOf]; omega
      · have HZ1 := Lib.hid (any_mem hlt HQ.out)
        go_wp2
        go_ret
        exact ⟨ret_bool (by rw [← HR.out, HZ1.out]), D.out⟩
    · have hli : ¬ (k : Int) < l.length := by omega
      have HZ1 := Lib.hid (any_all hlt HZ.out)
      go_wp2
      go_ret
      exact ⟨ret_bool (by rw [← HR.out, HZ1.out]), hbel⟩

set_option maxHeartbeats 1000000 in
/-- one, of partitions. -/
theorem onePart_any (l : List Prt) (v : Value) (f : Nat) (hen : Enters f) (caps : Array Value) (p : Prt → Bool) (w : World) (hS : PartsR w v l) (hl : l.length ≤ 1000)
    (hf : ∀ k (hk : k < l.length) c i w1, PrtR w c i l[k] → Below w.heap.size w w1 → Calls Tryd.prog f (#[.agg #[c, i]] ++ caps) w1 fun e w2 => e = .returned (.bool (p l[k])) ∧ Below w1.heap.size w1 w2) (r : Bool) (hr : l.any p = r) :
    Calls Tryd.prog 69 #[v, .func (.func f) #[] caps] w fun e w' => e = .returned (.bool r) ∧ Below w.heap.size w w' := by
  obtain ⟨ao, cap, rfl⟩ := hS.form
  have HS := Lib.hid hS
  have HF := Lib.hid hf
  have HR := Lib.hid hr
  clear hS hf hr
  unfold Enters at hen
  go_enter Tryd.func69, Tryd.ntmps69
  go_wp2
  go_loopw [9] (fun i wr => ∃ k : Nat, i = .int .i64 k ∧ k ≤ l.length ∧ Hid ((l.take k).any p = false) ∧ Below w.heap.size w wr) (fun i _ => l.length - (intOf i).toNat)
  case atStart => exact ⟨0, rfl, Nat.zero_le _, (show ((l.take 0).any p = false) by simp), Below.refl _ _⟩
  case round =>
    obtain ⟨k, rfl, hk, HZ, hbel⟩ := hrel
    by_cases hlt : k < l.length
    · have hli : (k : Int) < l.length := by omega
      obtain ⟨b, off, cap', e1, hcap, hbw, hc⟩ := HS.out.open (by omega)
      cases e1
      obtain ⟨c, i, c0, c1, hpr⟩ := hc k hlt
      obtain ⟨ca, cc, rfl⟩ := hpr.code.form
      obtain ⟨ia, ic, rfl⟩ := hpr.inn.form
      have c0 := bcl hbel hbw c0
      have c1 := bcl hbel hbw c1
      have HC := Lib.hid (fun w1 => HF.out k hlt _ _ w1 hpr)
      generalize hq : p l[k] = q at HC
      have HQ := Lib.hid hq
      clear hc hq hpr
      go_wp2_with fail
      refine (HC.out _ (hbel.alloc hbel.size _)).mono ?_
      rintro e w2 ⟨rfl, bb⟩
      have D := Lib.hid ((hbel.alloc hbel.size _).trans (bb.mono (by have := hbel.size; simp; omega)))
      clear bb HC c0 c1
      cases q
      · have HZ1 := Lib.hid (any_take hlt HZ.out HQ.out)
        go_wp2
        go_roundw
        case rel => exact ⟨k + 1, by go_num, by omega, HZ1, D.out⟩
        case measure => simp [intOf]; omega
      · have HZ1 := Lib.hid (any_mem hlt HQ.out)
        go_wp2
        go_ret
        exact ⟨ret_bool (by rw [← HR.out, HZ1.out]), D.out⟩
    · have hli : ¬ (k : Int) < l.length := by omega
      have HZ1 := Lib.hid (any_all hlt HZ.out)
      go_wp2
      go_ret
      exact ⟨ret_bool (by rw [← HR.out, HZ1.out]), hbel⟩
end Go.Proofs.YtnnnljfdjdehaaaDoor
