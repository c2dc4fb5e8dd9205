/- A call of a function enters it. -/
import Derived.Test.YthpljbbhpbijgaaDoorProg
import Derived.Test.YthpljbbhpbijgaaDoorJa
import Derived.Deep.RegionLaw
import Derived.Deep.RegionHeld3
namespace Go.Proofs.YthpljbbhpbijgaaDoor
set_option linter.unusedSimpArgs false
set_option linter.unusedVariables false
open Go.RowKit Go.Sort

/-- A function value's call enters its function. -/
def Enters (f : Nat) : Prop := ∀ args w, Sem.run Tryd.prog (callFunc f args) w = .ok (.enter f args) w
theorem enters {f : Nat} {fn : Func} (hf : Tryd.prog.funcs[f]? = some fn) (hn : (fn.name == "runtime.NumGoroutine") = false) (hb : fn.body.isNone = false) : Enters f := by
  intro args w
  have hn' : ¬ fn.name = "runtime.NumGoroutine" := by simpa using hn
  have hb' : ¬ fn.body = none := fun e => by rw [e] at hb; cases hb
  simp [callFunc, go_sem, hf, hn', hb']

end Go.Proofs.YthpljbbhpbijgaaDoor

namespace Go.Proofs.YthpljbbhpbijgaaDoor
set_option linter.unusedSimpArgs false
set_option linter.unusedVariables false
open Go.RowKit Go.Sort

theorem step_call {ops : Array Oper} {o : Oper} {a : Act} {w : World} {K : Act → World → Prop} {Q : Exit → Act → World → Prop} {E : Prop} (hgd : o.guard = none) (f : Nat) (args : Array Operand) (tys : Array TypeId)
    (ho : o.op = .call { callee := .value (.func f), args := args, argTypes := tys }) (hen : Enters f) (vs : Array Value) (hvs : args.map a.eval = vs) (h : Calls Tryd.prog f vs w fun e w' => ∃ v, e = .returned v ∧ K (a.put o.dst v) w') :
    if Region.wanted o (yielded ops a.tmps) = true then Oper.wp Tryd.prog o a w K Q else E := by
  have hw : Region.wanted o (yielded ops a.tmps) = true := by simp [Region.wanted, hgd]
  rw [if_pos hw]
  unfold Oper.wp
  subst hvs
  unfold Enters at hen
  simp [execOp, ho, resolve, invoke, hen, Result.andThen, go_sem]
  refine h.mono ?_
  rintro e w' ⟨v, rfl, hk⟩
  exact hk
theorem wp_call {o : Oper} {a : Act} {w : World} {K : Act → World → Prop} {Q : Exit → Act → World → Prop} (f : Nat) (args : Array Operand) (tys : Array TypeId)
    (ho : o.op = .call { callee := .value (.func f), args := args, argTypes := tys }) (hen : Enters f) (vs : Array Value) (hvs : args.map a.eval = vs) (h : Calls Tryd.prog f vs w fun e w' => ∃ v, e = .returned v ∧ K (a.put o.dst v) w') : Oper.wp Tryd.prog o a w K Q := by
  unfold Oper.wp
  subst hvs
  unfold Enters at hen
  simp [execOp, ho, resolve, invoke, hen, Result.andThen, go_sem]
  refine h.mono ?_
  rintro e w' ⟨v, rfl, hk⟩
  exact hk
theorem wp_call_panic {o : Oper} {a : Act} {w : World} {K : Act → World → Prop} {Q : Exit → Act → World → Prop} (f : Nat) (args : Array Operand) (tys : Array TypeId)
    (ho : o.op = .call { callee := .value (.func f), args := args, argTypes := tys }) (hen : Enters f) (vs : Array Value) (hvs : args.map a.eval = vs) (chain : List PanicEntry) (h : Calls Tryd.prog f vs w fun e w' => e = .panicked chain ∧ Q (.panic chain) a w') : Oper.wp Tryd.prog o a w K Q := by
  unfold Oper.wp
  subst hvs
  unfold Enters at hen
  simp [execOp, ho, resolve, invoke, hen, Result.andThen, go_sem]
  refine h.mono ?_
  rintro e w' ⟨rfl, hk⟩
  exact hk
/-- A call that comes back or panics. -/
theorem wp_call_or {o : Oper} {a : Act} {w : World} {K : Act → World → Prop} {Q : Exit → Act → World → Prop} (f : Nat) (args : Array Operand) (tys : Array TypeId)
    (ho : o.op = .call { callee := .value (.func f), args := args, argTypes := tys }) (hen : Enters f) (vs : Array Value) (hvs : args.map a.eval = vs) (chain : List PanicEntry) (h : Calls Tryd.prog f vs w fun e w' => (∃ v, e = .returned v ∧ K (a.put o.dst v) w') ∨ (e = .panicked chain ∧ Q (.panic chain) a w')) : Oper.wp Tryd.prog o a w K Q := by
  unfold Oper.wp
  subst hvs
  unfold Enters at hen
  simp [execOp, ho, resolve, invoke, hen, Result.andThen, go_sem]
  refine h.mono ?_
  rintro e w' (⟨v, rfl, hk⟩ | ⟨rfl, hk⟩)
  · exact hk
  · exact hk
end Go.Proofs.YthpljbbhpbijgaaDoor

namespace Go.Proofs.YthpljbbhpbijgaaDoor
set_option linter.unusedSimpArgs false
set_option linter.unusedVariables false
open Go.RowKit Go.Sort

section
variable {P : Program} {ops : Array Oper} {Q : Exit → Act → World → Prop} {md : Region.Mode} {S : World → Prop}

/-- Whatever order comes: S holds behind each operation but number z. -/
def Still (P : Program) (md : Region.Mode) (ops : Array Oper) (Q : Exit → Act → World → Prop) (S : World → Prop) (z : Nat) : Nat → Array Bool → Act → World → Prop
  | 0, done, a, w => Region.ready md ops done = [] ∧ Q .normal a w
  | n + 1, done, a, w => (Region.ready md ops done = [] → Q .normal a w) ∧
    ∀ i ∈ Region.ready md ops done, wpOp P ops Q i (fun a' w' => (i ≠ z → S w') ∧ Still P md ops Q S z n (done.setIfInBounds i true) a' w') a w

theorem Still.any {z : Nat} : ∀ (n : Nat) (done : Array Bool) (a : Act) (w : World), Still P md ops Q S z n done a w → wpAny P md ops Q n done a w
  | 0, _, _, _, h => h
  | n + 1, _, _, _, h => ⟨h.1, fun i hi => wpOp_mono (fun a' w' h' => Still.any n _ a' w' h'.2) (h.2 i hi)⟩

/-- Number z waits for all others. -/
def waitsAll (md : Region.Mode) (ops : Array Oper) (z : Nat) : Bool :=
  match ops[z]? with
  | none => false
  | some o => (List.range ops.size).all fun i => i == z || o.after.any fun e => Region.binds md e && e.on == i
theorem waitsAll_spec {z i : Nat} {o : Oper} (h : waitsAll md ops z = true) (ho : ops[z]? = some o) (hi : i < ops.size) (hne : i ≠ z) : ∃ e ∈ o.after, Region.binds md e = true ∧ e.on = i := by
  simp only [waitsAll, ho, List.all_eq_true, List.mem_range] at h
  have h1 := h i hi
  simp only [Bool.or_eq_true, beq_iff_eq, hne, false_or] at h1
  obtain ⟨e, he, hb⟩ := Array.any_eq_true'.1 h1
  simp only [Bool.and_eq_true, beq_iff_eq] at hb
  exact ⟨e, he, hb.1, hb.2⟩

theorem unready {i : Nat} {done : Array Bool} {oj : Oper} (hr : i ∈ Region.ready md ops done) (hall : ∀ e ∈ oj.after, Region.binds md e = true → done.getD e.on false = true) :
    ∀ e ∈ oj.after, Region.binds md e = true → e.on ≠ i := by
  intro e he hb hei
  have h1 := hall e he hb
  have h0 := (mem_ready.1 hr).1
  rw [hei] at h1
  by_cases hl : i < done.size
  · simp [hl] at h0 h1
    simp [h0] at h1
  · simp [Array.getElem?_eq_none (Nat.le_of_not_lt hl)] at h1

theorem Still.first {z i : Nat} {oi : Oper} {v : Value} (hz : waitsAll md ops z = true) (hi : ops[i]? = some oi) (hs : Region.noSelect ops = true) (hQ : ∀ c a w, Q (.panic c) (a.put oi.dst v) w → Q (.panic c) a w) (n : Nat) :
    ∀ (done : Array Bool) (a : Act) (w : World),
      (∀ j oj, ops[j]? = some oj → j ≠ i → done.getD j true = false → (∀ e ∈ oj.after, Region.binds md e = true → e.on ≠ i) → oi.apart ops oj = true) →
      i ∈ Region.ready md ops done → YieldsIf P ops S oi v a → S w → Still P md ops Q S z n (done.setIfInBounds i true) (a.put oi.dst v) w → Still P md ops Q S z (n + 1) done a w := by
  have sel := Region.noSelect_spec hs
  have hlt : i < ops.size := (Array.getElem?_eq_some_iff.1 hi).1
  induction n with
  | zero =>
    intro done a w _ hr hy hS H
    refine ⟨fun e => by simp [e] at hr, fun j hj => ?_⟩
    rcases Decidable.em (j = i) with rfl | hne
    · exact hy.wpOp hi hS ⟨fun _ => hS, H⟩
    · have hm := ready_mono hj hne
      simp [H.1] at hm
  | succ n ih =>
    intro done a w hap hr hy hS H
    refine ⟨fun e => by simp [e] at hr, fun j hj => ?_⟩
    rcases Decidable.em (j = i) with rfl | hne
    · exact hy.wpOp hi hS ⟨fun _ => hS, H⟩
    · obtain ⟨hju, oj, hoj, hall⟩ := mem_ready.1 hj
      have hno := unready hr hall
      have hjz : j ≠ z := by
        rintro rfl
        obtain ⟨e, he, hb, hei⟩ := waitsAll_spec hz hoj hlt (Ne.symm hne)
        exact hno e he hb hei
      refine wpOp_mono (fun a' w' hK => ?_) (wpOp_putIf hoj (hap j oj hoj hne hju hno) (fun cs b => sel i oi cs b hi) (fun cs b => sel j oj cs b hoj) hQ hy (H.2 j (ready_mono hj hne)))
      obtain ⟨hy', hst, hrest⟩ := hK
      have hS' := hst hjz
      refine ⟨fun _ => hS', ih _ a' w' (fun k ok hk hki hun hno' => hap k ok hk hki ?_ hno') (ready_mono hr (Ne.symm hne)) hy' hS' (by rw [Array.setIfInBounds_comm _ _ hne]; exact hrest)⟩
      rcases Decidable.em (j = k) with rfl | hjk
      · exact hju
      · rwa [getD_set_ne true hjk] at hun

/-- Number i goes first. -/
theorem Still.take {z i : Nat} {oi : Oper} {v : Value} {n : Nat} {done : Array Bool} {a : Act} {w : World} (hz : waitsAll md ops z = true) (hi : ops[i]? = some oi) (hs : Region.noSelect ops = true)
    (hf : Region.free md ops done i = true) (hr : (Region.ready md ops done).contains i = true) (hQ : ∀ c a w, Q (.panic c) (a.put oi.dst v) w → Q (.panic c) a w) (hy : YieldsIf P ops S oi v a) (hS : S w)
    (h : Still P md ops Q S z n (done.setIfInBounds i true) (a.put oi.dst v) w) : Still P md ops Q S z (n + 1) done a w :=
  Still.first hz hi hs hQ n done a w (Region.free_spec hi hf) (by simpa using hr) hy hS h
/-- z waits for i, straight or by others. -/
def waitsOn (md : Region.Mode) (ops : Array Oper) (z i : Nat) : Bool :=
  match ops[z]? with
  | none => false
  | some o => o.after.any fun e => Region.binds md e && e.on == i
def waitsBy (md : Region.Mode) (ops : Array Oper) : Nat → List Nat → Nat → Bool
  | z, [], i => waitsOn md ops z i
  | z, p :: ps, i => waitsOn md ops z p && waitsBy md ops p ps i
theorem waitsOn_ready {z i : Nat} {done : Array Bool} (h : waitsOn md ops z i = true) (hr : z ∈ Region.ready md ops done) : done.getD i false = true := by
  obtain ⟨_, o, ho, hall⟩ := mem_ready.1 hr
  simp only [waitsOn, ho] at h
  obtain ⟨e, he, hb⟩ := Array.any_eq_true'.1 h
  simp only [Bool.and_eq_true, beq_iff_eq] at hb
  have := hall e he hb.1
  rwa [hb.2] at this
theorem getD_both {done : Array Bool} {p : Nat} (h : done.getD p true = false) : done.getD p false = false := by
  by_cases hp : p < done.size
  · simp [hp] at h ⊢; exact h
  · simp [Array.getElem?_eq_none (Nat.le_of_not_lt hp)]
theorem waitsBy_ready {i j : Nat} {done : Array Bool} (hi : done.getD i true = false) (hj : j ∈ Region.ready md ops done) : ∀ (ps : List Nat) (z : Nat), waitsBy md ops z ps i = true → (∀ p ∈ ps, done.getD p true = false) → j ∉ z :: ps
  | [], z, h, _ => by
    intro hm
    simp at hm
    subst hm
    have := waitsOn_ready h hj
    rw [getD_both hi] at this
    cases this
  | p :: ps, z, h, hu => by
    simp only [waitsBy, Bool.and_eq_true] at h
    intro hm
    rcases List.mem_cons.1 hm with rfl | hm
    · have := waitsOn_ready h.1 hj
      rw [getD_both (hu p (by simp))] at this
      cases this
    · exact waitsBy_ready hi hj ps p h.2 (fun q hq => hu q (by simp [hq])) hm
theorem Still.firstBy {z i : Nat} {ps : List Nat} {oi : Oper} {v : Value} (hz : waitsBy md ops z ps i = true) (hi : ops[i]? = some oi) (hs : Region.noSelect ops = true) (hQ : ∀ c a w, Q (.panic c) (a.put oi.dst v) w → Q (.panic c) a w) (n : Nat) :
    ∀ (done : Array Bool) (a : Act) (w : World), (∀ p ∈ ps, done.getD p true = false) →
      (∀ j oj, ops[j]? = some oj → j ≠ i → done.getD j true = false → (∀ e ∈ oj.after, Region.binds md e = true → e.on ≠ i) → oi.apart ops oj = true) →
      i ∈ Region.ready md ops done → YieldsIf P ops S oi v a → S w → Still P md ops Q S z n (done.setIfInBounds i true) (a.put oi.dst v) w → Still P md ops Q S z (n + 1) done a w := by
  have sel := Region.noSelect_spec hs
  have hlt : i < ops.size := (Array.getElem?_eq_some_iff.1 hi).1
  induction n with
  | zero =>
    intro done a w _ _ hr hy hS H
    refine ⟨fun e => by simp [e] at hr, fun j hj => ?_⟩
    rcases Decidable.em (j = i) with rfl | hne
    · exact hy.wpOp hi hS ⟨fun _ => hS, H⟩
    · have hm := ready_mono hj hne
      simp [H.1] at hm
  | succ n ih =>
    intro done a w hu hap hr hy hS H
    refine ⟨fun e => by simp [e] at hr, fun j hj => ?_⟩
    rcases Decidable.em (j = i) with rfl | hne
    · exact hy.wpOp hi hS ⟨fun _ => hS, H⟩
    · obtain ⟨hju, oj, hoj, hall⟩ := mem_ready.1 hj
      have hno := unready hr hall
      have hnm := waitsBy_ready (mem_ready.1 hr).1 hj ps z hz hu
      have hjz : j ≠ z := fun e => hnm (by simp [e])
      refine wpOp_mono (fun a' w' hK => ?_) (wpOp_putIf hoj (hap j oj hoj hne hju hno) (fun cs b => sel i oi cs b hi) (fun cs b => sel j oj cs b hoj) hQ hy (H.2 j (ready_mono hj hne)))
      obtain ⟨hy', hst, hrest⟩ := hK
      have hS' := hst hjz
      refine ⟨fun _ => hS', ih _ a' w' (fun p hp => ?_) (fun k ok hk hki hun hno' => hap k ok hk hki ?_ hno') (ready_mono hr (Ne.symm hne)) hy' hS' (by rw [Array.setIfInBounds_comm _ _ hne]; exact hrest)⟩
      · rw [getD_set_ne true (fun e => hnm (by simp [e, hp]))]
        exact hu p hp
      · rcases Decidable.em (j = k) with rfl | hjk
        · exact hju
        · rwa [getD_set_ne true hjk] at hun
/-- Number i goes first; z, the last one, waits for it by the path ps. -/
theorem Still.takeBy {z i : Nat} (ps : List Nat) {oi : Oper} {v : Value} {n : Nat} {done : Array Bool} {a : Act} {w : World} (hz : waitsBy md ops z ps i = true) (hu : ps.all (fun p => done.getD p true == false) = true) (hi : ops[i]? = some oi) (hs : Region.noSelect ops = true)
    (hf : Region.free md ops done i = true) (hr : (Region.ready md ops done).contains i = true) (hQ : ∀ c a w, Q (.panic c) (a.put oi.dst v) w → Q (.panic c) a w) (hy : YieldsIf P ops S oi v a) (hS : S w)
    (h : Still P md ops Q S z n (done.setIfInBounds i true) (a.put oi.dst v) w) : Still P md ops Q S z (n + 1) done a w :=
  Still.firstBy hz hi hs hQ n done a w (fun p hp => by simpa using (List.all_eq_true.1 hu) p hp) (Region.free_spec hi hf) (by simpa using hr) hy hS h
theorem Still.all {z : Nat} {rs : List Nat} {n : Nat} {done : Array Bool} {a : Act} {w : World} (hr : Region.ready md ops done = rs) (hne : rs ≠ [])
    (h : ∀ i ∈ rs, wpOp P ops Q i (fun a' w' => (i ≠ z → S w') ∧ Still P md ops Q S z n (done.setIfInBounds i true) a' w') a w) : Still P md ops Q S z (n + 1) done a w :=
  ⟨fun e => absurd (hr ▸ e) hne, hr ▸ h⟩
theorem Still.over {z : Nat} {done : Array Bool} {a : Act} {w : World} (hr : Region.ready md ops done = []) (h : Q .normal a w) (n : Nat) : Still P md ops Q S z n done a w := by
  cases n with
  | zero => exact ⟨hr, h⟩
  | succ n => exact ⟨fun _ => h, by rw [hr]; simp⟩
theorem region_still {id : Nat} {a : Act} {w : World} (z : Nat) (hm : P.follows .mixedOrders = true) (hS : S w.drew) (h : S w.drew → Still P .any ops Q S z ops.size (Array.replicate ops.size false) a w.drew) : (Code.region id ops true).wp P Q a w :=
  wp_region_any hm (Still.any _ _ _ _ (h hS))
/-- One of those that may come up, carried out. -/
theorem Still.one {z i : Nat} {o : Oper} {rs : List Nat} {n : Nat} {done : Array Bool} {a : Act} {w : World} (ho : ops[i]? = some o) (hg : o.guard = none)
    (h : ∀ K : Act → World → Prop, (∀ a' w', (i ≠ z → S w') → ((i ≠ z → S w') → Still P md ops Q S z n (done.setIfInBounds i true) a' w') → K a' w') → Oper.wp P o a w K Q)
    (hs : ∀ j ∈ rs, wpOp P ops Q j (fun a' w' => (j ≠ z → S w') ∧ Still P md ops Q S z n (done.setIfInBounds j true) a' w') a w) :
    ∀ j ∈ i :: rs, wpOp P ops Q j (fun a' w' => (j ≠ z → S w') ∧ Still P md ops Q S z n (done.setIfInBounds j true) a' w') a w := by
  intro j hj
  rcases List.mem_cons.1 hj with rfl | hj
  · unfold wpOp
    simp only [ho, Region.wanted, hg, if_true]
    exact .inl (h _ fun a' w' h1 h2 => ⟨h1, h2 h1⟩)
  · exact hs j hj
theorem yields_load {oi : Oper} {a : Act} (hg : oi.guard = none) (ty : TypeId) (x : Operand) (ho : oi.op = .load ty x) (p : Addr) (hx : a.eval x = .pointer (some p)) (v : Value) (hS : ∀ w, S w → (Instr.loadAt ty (.pointer (some p))).run P w = .ok v w) : YieldsIf P ops S oi v a :=
  .inl ⟨by simp [Region.wanted, hg], fun w hw => by
    unfold execOp
    simp only [ho, hx, Sem.run_bind, Sem.run_pure, Result.andThen_ok, hS w hw]⟩
theorem yields_build {oi : Oper} {a : Act} (hg : oi.guard = none) (t : TypeId) (parts : Array (Nat × Operand)) (ho : oi.op = .build t parts) (vs : Array (Nat × Value)) (hx : (parts.map fun (i, x) => (i, a.eval x)) = vs) (v : Value) (hb : ∀ w, (Instr.build t vs).run P w = .ok v w) : YieldsIf P ops S oi v a :=
  .inl ⟨by simp [Region.wanted, hg], fun w hw => by
    unfold execOp
    simp only [ho, hx, Sem.run_bind, Sem.run_pure, Result.andThen_ok, hb w]⟩
end
end Go.Proofs.YthpljbbhpbijgaaDoor
