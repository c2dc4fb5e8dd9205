/- Small laws on what a world's cells hold behind new blocks, stores and calls that keep what was there. -/
import Derived.WalkKit
import Derived.WalkSmall
import Derived.Outline
import Derived.Sort.Grow
import Derived.Lib.Hide
import Derived.Deep.AppendLies
import Derived.Deep.LoopGhost
import Derived.Test.YtehhhiodfcdnmaaGreatDoorProg
import Derived.Deep.RegionLaw
import Derived.Deep.RegionHeld3
import Derived.Laws.Rows
namespace Go.Proofs.YtehhhiodfcdnmaaGreatDoor
set_option linter.unusedSimpArgs false
set_option linter.unusedVariables false
open Go.RowKit
theorem bcl {B : Nat} {w w' : World} {b i : Nat} {v : Value} (h : Below B w w') (hb : b < B) (hc : w.cell? ⟨b, i, none⟩ = some v) : w'.cell? ⟨b, i, none⟩ = some v := (h.cell (p := ⟨b, i, none⟩) hb).trans hc
theorem bfr {B : Nat} {w w' : World} {b i : Nat} (h : Below B w w') (hb : b < B) (hc : w.frozen? ⟨b, i, none⟩ = false) : w'.frozen? ⟨b, i, none⟩ = false := (h.frozen (p := ⟨b, i, none⟩) hb).trans hc
theorem cl_alloc {w : World} {b i : Nat} {v : Value} (o : Obj) (hb : b < w.heap.size) (h : w.cell? ⟨b, i, none⟩ = some v) : (w.alloc o).cell? ⟨b, i, none⟩ = some v := (World.cell?_alloc_lt w o ⟨b, i, none⟩ hb).trans h
theorem fr_alloc {w : World} {b i : Nat} (o : Obj) (hb : b < w.heap.size) (h : w.frozen? ⟨b, i, none⟩ = false) : (w.alloc o).frozen? ⟨b, i, none⟩ = false := (World.frozen?_alloc_old w o ⟨b, i, none⟩ (by simp; omega)).trans h
theorem cl_set {w : World} {b i c j : Nat} {v u : Value} (hne : b ≠ c ∨ i ≠ j) (h : w.cell? ⟨b, i, none⟩ = some v) : (w.setCell ⟨c, j, none⟩ u).cell? ⟨b, i, none⟩ = some v :=
 (World.cell?_setCell_other w _ _ _ (by intro e; simp at e; omega)).trans h
theorem cl_same {w : World} {b i : Nat} {v u : Value} (h : w.cell? ⟨b, i, none⟩ = some v) : (w.setCell ⟨b, i, none⟩ u).cell? ⟨b, i, none⟩ = some u := World.cell?_setCell_same w _ _ h
theorem fr_set {w : World} {b i c j : Nat} {u : Value} (h : w.frozen? ⟨b, i, none⟩ = false) : (w.setCell ⟨c, j, none⟩ u).frozen? ⟨b, i, none⟩ = false := (World.frozen?_setCell w _ _ _).trans h
theorem size_set (w : World) (a : Addr) (u : Value) : (w.setCell a u).heap.size = w.heap.size := by simp [World.setCell]
open Go.RowKit Go.Sort
theorem ret_bool {a b : Bool} (h : a = b) : Ending.returned (.bool a) = .returned (.bool b) := by rw [h]
theorem ret_int {k : IntKind} {a b : Int} (h : a = b) : Ending.returned (.int k a) = .returned (.int k b) := by rw [h]
def Fz (w : World) (b off n : Nat) : Prop := ∀ j, j < n → w.frozen? ⟨b, off + j, none⟩ = false
theorem Fz.of {w w' : World} {b off n : Nat} (h : Fz w b off n) (e : w'.heap[b]? = w.heap[b]?) : Fz w' b off n := fun j hj => by
 have := h j hj
 unfold World.frozen? at this ⊢
 simp only [e]
 exact this
theorem Fz.set {w : World} {b off n : Nat} (h : Fz w b off n) (a : Addr) (v : Value) : Fz (w.setCell a v) b off n := fun j hj => by rw [World.frozen?_setCell]; exact h j hj
def Sl (w : World) (size : Nat) (v : Value) (n : Nat) (xs : List Value) : Prop :=
 xs.length = n * size ∧ ∃ ao cap, v = .slice ao n cap ∧ n ≤ cap ∧ (0 < n → ∃ b off, ao = some ⟨b, off, none⟩ ∧ b < w.heap.size ∧ (∀ j u, xs[j]? = some u → w.cell? ⟨b, off + j, none⟩ = some u) ∧ Fz w b off xs.length)
theorem Sl.up {w w' : World} {size : Nat} {v : Value} {n : Nat} {xs : List Value} (h : Sl w size v n xs) (hb : Below w.heap.size w w') : Sl w' size v n xs := by
 obtain ⟨h1, ao, cap, h2, h3, h4⟩ := h
 refine ⟨h1, ao, cap, h2, h3, fun hn => ?_⟩
 obtain ⟨b, off, e, hlt, hc, hz⟩ := h4 hn
 exact ⟨b, off, e, Nat.lt_of_lt_of_le hlt hb.size, fun j u hj => bcl hb hlt (hc j u hj), hz.of (hb.block b hlt)⟩
theorem Sl.open {w : World} {size : Nat} {v : Value} {n : Nat} {xs : List Value} (h : Sl w size v n xs) (hn : 0 < n) : ∃ b off cap, v = .slice (some ⟨b, off, none⟩) n cap ∧ n ≤ cap ∧ b < w.heap.size ∧ ∀ j u, xs[j]? = some u → w.cell? ⟨b, off + j, none⟩ = some u := by
 obtain ⟨_, ao, cap, rfl, h3, h4⟩ := h
 obtain ⟨b, off, rfl, hlt, hc, _⟩ := h4 hn
 exact ⟨b, off, cap, rfl, h3, hlt, hc⟩
theorem Sl.openZ {w : World} {size : Nat} {v : Value} {n : Nat} {xs : List Value} (h : Sl w size v n xs) (hn : 0 < n) : ∃ b off cap, v = .slice (some ⟨b, off, none⟩) n cap ∧ n ≤ cap ∧ b < w.heap.size ∧ (∀ j u, xs[j]? = some u → w.cell? ⟨b, off + j, none⟩ = some u) ∧ Fz w b off xs.length := by
 obtain ⟨_, ao, cap, rfl, h3, h4⟩ := h
 obtain ⟨b, off, rfl, hlt, hc, hz⟩ := h4 hn
 exact ⟨b, off, cap, rfl, h3, hlt, hc, hz⟩
theorem Sl.form {w : World} {size : Nat} {v : Value} {n : Nat} {xs : List Value} (h : Sl w size v n xs) : ∃ ao cap, v = .slice ao n cap := by
 obtain ⟨_, ao, cap, rfl, _⟩ := h
 exact ⟨ao, cap, rfl⟩
theorem Sl.nil (w : World) (size : Nat) : Sl w size (.slice none 0 0) 0 [] := ⟨by simp, none, 0, rfl, Nat.le_refl _, fun h => by omega⟩
def ints (zs : List Int) : List Value := zs.map fun z => .int .i64 z
theorem ints_at (zs : List Int) (k : Nat) (h : k < zs.length) : (ints zs)[k]? = some (.int .i64 zs[k]) := by simp [ints, h]
theorem own_sl {w : World} {base : Nat} {e : TypeId} {v : Value} {n : Nat} {size : Nat} {xs : List Value} (h : w.ownsRow base e size v n xs) : Sl w size v n xs := by
 refine ⟨h.1, ?_⟩
 rcases h.2 with ⟨rfl, rfl⟩ | ⟨g, cap, cur, rfl, hg, hh, hn, _, hs, ht⟩
 ·exact ⟨none, 0, rfl, Nat.le_refl _, fun h => by omega⟩
 ·refine ⟨_, cap, rfl, hn, fun _ => ⟨g, 0, rfl, ?_, fun j u hj => ?_, fun j _ => frozen_of_row w g _ cur _ hh⟩⟩
  ·rcases Nat.lt_or_ge g w.heap.size with hlt | hge
   ·exact hlt
   ·rw [Array.getElem?_eq_none hge] at hh; cases hh
  ·have hadd : (⟨g, 0, none⟩ : Addr).add j = ⟨g, j, none⟩ := by unfold Addr.add; split <;> simp_all
   have := h.cells (g := g) rfl j u hj
   rw [hadd] at this
   rw [Nat.zero_add]; exact this
theorem info_parts {P : Program} {t : TypeId} {z : Value} {s b : Nat} (h : (P.info? t).map (fun i => (i.zero, i.size, i.bytes)) = some (some z, s, b)) : ∃ i, P.info? t = some i ∧ i.zero = some z ∧ i.size = s ∧ i.bytes = b := by
 obtain ⟨i, hi, he⟩ := Option.map_eq_some_iff.1 h
 simp only [Prod.mk.injEq] at he
 exact ⟨i, hi, he.1, he.2.1, he.2.2⟩
theorem ints_cell (zs : List Int) : ∀ u ∈ ints zs, u.oneCell' = true := by
 intro u hu
 obtain ⟨z, _, rfl⟩ := List.mem_map.1 hu
 rfl
theorem own_form {w : World} {base : Nat} {e : TypeId} {size : Nat} {v : Value} {n : Nat} {xs : List Value} (h : w.ownsRow base e size v n xs) : ∃ ao cap, v = .slice ao n cap := by
 rcases h.2 with ⟨rfl, rfl⟩ | ⟨g, cap, cur, rfl, _⟩
 ·exact ⟨none, 0, rfl⟩
 ·exact ⟨_, _, rfl⟩
theorem one_new (w : World) (v : Value) (t : TypeId) : ∀ j u, [v][j]? = some u → (w.alloc (.cells #[v] t)).cell? ((⟨w.heap.size, 0, none⟩ : Addr).add j) = some u := by
 intro j u hj
 match j, hj with
 | 0, hj => simp at hj; subst hj; simp [Addr.add]
 | j + 1, hj => simp at hj
theorem own_block {w : World} {base : Nat} {e : TypeId} {size : Nat} {v : Value} {n : Nat} {xs : List Value} (h : w.ownsRow base e size v n xs) : ∀ k, v.ownBlock = some k → base ≤ k := by
 intro k hk
 rcases h.2 with ⟨rfl, _⟩ | ⟨g, cap, cur, rfl, hb, _⟩
 ·cases hk
 ·simp [Value.ownBlock] at hk; omega
theorem one_at (w : World) (v : Value) (t : TypeId) (b : Nat) (hb : b = w.heap.size) : ∀ j u, [v][j]? = some u → (w.alloc (.cells #[v] t)).cell? ((⟨b, 0, none⟩ : Addr).add j) = some u := hb ▸ one_new w v t
theorem own_low {w : World} {base base' : Nat} {e : TypeId} {size : Nat} {v : Value} {n : Nat} {xs : List Value} (h : w.ownsRow base e size v n xs) (hb : base' ≤ base) : w.ownsRow base' e size v n xs :=
 ⟨h.1, h.2.imp id fun ⟨g, cap, cur, h1, h2, h3⟩ => ⟨g, cap, cur, h1, Nat.le_trans hb h2, h3⟩⟩
theorem own_drewN {w : World} {base : Nat} {e : TypeId} {size : Nat} {v : Value} {n : Nat} {xs : List Value} (h : w.ownsRow base e size v n xs) (q : Nat) : (w.drewN q).ownsRow base e size v n xs := h
theorem sl_one (w : World) (z : Int) (t : TypeId) (c : Nat) (hc : 1 ≤ c) : Sl (w.alloc (.cells #[.int .i64 z] t)) 1 (.slice (some ⟨w.heap.size, 0, none⟩) 1 c) 1 (ints [z]) := by
 refine ⟨rfl, _, _, rfl, hc, fun _ => ⟨_, _, rfl, by simp, fun j u hj => ?_, fun j _ => World.frozen?_alloc_new ..⟩⟩
 have := one_new w (.int .i64 z) t j u (by simpa [ints] using hj)
 have hadd : (⟨w.heap.size, 0, none⟩ : Addr).add j = ⟨w.heap.size, 0 + j, none⟩ := by unfold Addr.add; split <;> simp_all
 rw [hadd] at this
 exact this
theorem sl_one_at (w : World) (z : Int) (t : TypeId) (c b : Nat) (hb : b = w.heap.size) (hc : 1 ≤ c) : Sl (w.alloc (.cells #[.int .i64 z] t)) 1 (.slice (some ⟨b, 0, none⟩) 1 c) 1 (ints [z]) := hb ▸ sl_one w z t c hc
theorem Sl.set {w : World} {size : Nat} {v : Value} {n : Nat} {xs : List Value} (h : Sl w size v n xs) {c j : Nat} (u : Value) (hne : v.ownBlock ≠ some c) : Sl (w.setCell ⟨c, j, none⟩ u) size v n xs := by
 obtain ⟨h1, ao, cap, rfl, h3, h4⟩ := h
 refine ⟨h1, ao, cap, rfl, h3, fun hn => ?_⟩
 obtain ⟨b, off, rfl, hlt, hc, hz⟩ := h4 hn
 exact ⟨b, off, rfl, by rw [size_set]; exact hlt, fun k u' hk => cl_set (Or.inl (by simpa [Value.ownBlock] using hne)) (hc k u' hk), hz.set _ _⟩
def SlN (w w' : World) (v : Value) (n : Nat) (xs : List Value) : Prop := Sl w' 1 v n xs ∧ ∀ k, v.ownBlock = some k → w.heap.size ≤ k
theorem own_sln {w w' : World} {base : Nat} {e : TypeId} {v : Value} {n : Nat} {xs : List Value} (hb : w.heap.size ≤ base) (h : w'.ownsRow base e 1 v n xs) : SlN w w' v n xs := ⟨own_sl h, fun k hk => Nat.le_trans hb (own_block h k hk)⟩
theorem sln_nil (w w' : World) : SlN w w' (.slice none 0 0) 0 (ints []) := ⟨Sl.nil _ _, fun k hk => by cases hk⟩
def Enters (f : Nat) : Prop := ∀ args w, Sem.run Tryz.prog (callFunc f args) w = .ok (.enter f args) w
theorem enters {f : Nat} {fn : Func} (hf : Tryz.prog.funcs[f]? = some fn) (hn : (fn.name == "runtime.NumGoroutine") = false) (hb : fn.body.isNone = false) : Enters f := by
 intro args w
 have hn' : ¬ fn.name = "runtime.NumGoroutine" := by simpa using hn
 have hb' : ¬ fn.body = none := fun e => by rw [e] at hb; cases hb
 simp [callFunc, go_sem, hf, hn', hb']
theorem step_call {ops : Array Oper} {o : Oper} {a : Act} {w : World} {K : Act → World → Prop} {Q : Exit → Act → World → Prop} {E : Prop} (hgd : o.guard = none) (f : Nat) (args : Array Operand) (tys : Array TypeId)
  (ho : o.op = .call { callee := .value (.func f), args := args, argTypes := tys }) (hen : Enters f) (vs : Array Value) (hvs : args.map a.eval = vs) (h : Calls Tryz.prog f vs w fun e w' => ∃ v, e = .returned v ∧ K (a.put o.dst v) w') :
  if Region.wanted o (yielded ops a.tmps) = true then Oper.wp Tryz.prog o a w K Q else E := by
 have hw : Region.wanted o (yielded ops a.tmps) = true := by simp [Region.wanted, hgd]
 rw [if_pos hw]
 unfold Oper.wp
 subst hvs
 unfold Enters at hen
 simp [execOp, ho, resolve, invoke, hen, Result.andThen, go_sem]
 refine h.mono ?_
 rintro e w' ⟨v, rfl, hk⟩
 exact hk
theorem wp_call {o : Oper} {a : Act} {w : World} {K : Act → World → Prop} {Q : Exit → Act → World → Prop} (f : Nat) (args : Array Operand) (tys : Array TypeId)
  (ho : o.op = .call { callee := .value (.func f), args := args, argTypes := tys }) (hen : Enters f) (vs : Array Value) (hvs : args.map a.eval = vs) (h : Calls Tryz.prog f vs w fun e w' => ∃ v, e = .returned v ∧ K (a.put o.dst v) w') : Oper.wp Tryz.prog o a w K Q := by
 unfold Oper.wp
 subst hvs
 unfold Enters at hen
 simp [execOp, ho, resolve, invoke, hen, Result.andThen, go_sem]
 refine h.mono ?_
 rintro e w' ⟨v, rfl, hk⟩
 exact hk
theorem wp_call_panic {o : Oper} {a : Act} {w : World} {K : Act → World → Prop} {Q : Exit → Act → World → Prop} (f : Nat) (args : Array Operand) (tys : Array TypeId)
  (ho : o.op = .call { callee := .value (.func f), args := args, argTypes := tys }) (hen : Enters f) (vs : Array Value) (hvs : args.map a.eval = vs) (chain : List PanicEntry) (h : Calls Tryz.prog f vs w fun e w' => e = .panicked chain ∧ Q (.panic chain) a w') : Oper.wp Tryz.prog o a w K Q := by
 unfold Oper.wp
 subst hvs
 unfold Enters at hen
 simp [execOp, ho, resolve, invoke, hen, Result.andThen, go_sem]
 refine h.mono ?_
 rintro e w' ⟨rfl, hk⟩
 exact hk
theorem wp_call_or {o : Oper} {a : Act} {w : World} {K : Act → World → Prop} {Q : Exit → Act → World → Prop} (f : Nat) (args : Array Operand) (tys : Array TypeId)
  (ho : o.op = .call { callee := .value (.func f), args := args, argTypes := tys }) (hen : Enters f) (vs : Array Value) (hvs : args.map a.eval = vs) (chain : List PanicEntry) (h : Calls Tryz.prog f vs w fun e w' => (∃ v, e = .returned v ∧ K (a.put o.dst v) w') ∨ (e = .panicked chain ∧ Q (.panic chain) a w')) : Oper.wp Tryz.prog o a w K Q := by
 unfold Oper.wp
 subst hvs
 unfold Enters at hen
 simp [execOp, ho, resolve, invoke, hen, Result.andThen, go_sem]
 refine h.mono ?_
 rintro e w' (⟨v, rfl, hk⟩ | ⟨rfl, hk⟩)
 ·exact hk
 ·exact hk
section
variable {P : Program} {ops : Array Oper} {Q : Exit → Act → World → Prop} {md : Region.Mode} {S : World → Prop}
def Still (P : Program) (md : Region.Mode) (ops : Array Oper) (Q : Exit → Act → World → Prop) (S : World → Prop) (z : Nat) : Nat → Array Bool → Act → World → Prop
 | 0, done, a, w => Region.ready md ops done = [] ∧ Q .normal a w
 | n + 1, done, a, w => (Region.ready md ops done = [] → Q .normal a w) ∧
  ∀ i ∈ Region.ready md ops done, wpOp P ops Q i (fun a' w' => (i ≠ z → S w') ∧ Still P md ops Q S z n (done.setIfInBounds i true) a' w') a w
theorem Still.any {z : Nat} : ∀ (n : Nat) (done : Array Bool) (a : Act) (w : World), Still P md ops Q S z n done a w → wpAny P md ops Q n done a w
 | 0, _, _, _, h => h
 | n + 1, _, _, _, h => ⟨h.1, fun i hi => wpOp_mono (fun a' w' h' => Still.any n _ a' w' h'.2) (h.2 i hi)⟩
def waitsAll (md : Region.Mode) (ops : Array Oper) (z : Nat) : Bool :=
 match ops[z]? with
 | none => false
 | some o => (List.range ops.size).all fun i => i == z || o.after.any fun e => Region.binds md e && e.on == i
theorem waitsAll_spec {z i : Nat} {o : Oper} (h : waitsAll md ops z = true) (ho : ops[z]? = some o) (hi : i < ops.size) (hne : i ≠ z) : ∃ e ∈ o.after, Region.binds md e = true ∧ e.on = i := by
 simp only [waitsAll, ho, List.all_eq_true, List.mem_range] at h
 have h1 := h i hi
 simp only [Bool.or_eq_true, beq_iff_eq, hne, false_or] at h1
 obtain ⟨e, he, hb⟩ := Array.any_eq_true'.1 h1
 simp only [Bool.and_eq_true, beq_iff_eq] at hb
 exact ⟨e, he, hb.1, hb.2⟩
theorem unready {i : Nat} {done : Array Bool} {oj : Oper} (hr : i ∈ Region.ready md ops done) (hall : ∀ e ∈ oj.after, Region.binds md e = true → done.getD e.on false = true) :
  ∀ e ∈ oj.after, Region.binds md e = true → e.on ≠ i := by
 intro e he hb hei
 have h1 := hall e he hb
 have h0 := (mem_ready.1 hr).1
 rw [hei] at h1
 by_cases hl : i < done.size
 ·simp [hl] at h0 h1
  simp [h0] at h1
 ·simp [Array.getElem?_eq_none (Nat.le_of_not_lt hl)] at h1
theorem Still.first {z i : Nat} {oi : Oper} {v : Value} (hz : waitsAll md ops z = true) (hi : ops[i]? = some oi) (hs : Region.noSelect ops = true) (hQ : ∀ c a w, Q (.panic c) (a.put oi.dst v) w → Q (.panic c) a w) (n : Nat) :
  ∀ (done : Array Bool) (a : Act) (w : World),
   (∀ j oj, ops[j]? = some oj → j ≠ i → done.getD j true = false → (∀ e ∈ oj.after, Region.binds md e = true → e.on ≠ i) → oi.apart ops oj = true) →
   i ∈ Region.ready md ops done → YieldsIf P ops S oi v a → S w → Still P md ops Q S z n (done.setIfInBounds i true) (a.put oi.dst v) w → Still P md ops Q S z (n + 1) done a w := by
 have sel := Region.noSelect_spec hs
 have hlt : i < ops.size := (Array.getElem?_eq_some_iff.1 hi).1
 induction n with
 | zero =>
  intro done a w _ hr hy hS H
  refine ⟨fun e => by simp [e] at hr, fun j hj => ?_⟩
  rcases Decidable.em (j = i) with rfl | hne
  ·exact hy.wpOp hi hS ⟨fun _ => hS, H⟩
  ·have hm := ready_mono hj hne
   simp [H.1] at hm
 | succ n ih =>
  intro done a w hap hr hy hS H
  refine ⟨fun e => by simp [e] at hr, fun j hj => ?_⟩
  rcases Decidable.em (j = i) with rfl | hne
  ·exact hy.wpOp hi hS ⟨fun _ => hS, H⟩
  ·obtain ⟨hju, oj, hoj, hall⟩ := mem_ready.1 hj
   have hno := unready hr hall
   have hjz : j ≠ z := by
    rintro rfl
    obtain ⟨e, he, hb, hei⟩ := waitsAll_spec hz hoj hlt (Ne.symm hne)
    exact hno e he hb hei
   refine wpOp_mono (fun a' w' hK => ?_) (wpOp_putIf hoj (hap j oj hoj hne hju hno) (fun cs b => sel i oi cs b hi) (fun cs b => sel j oj cs b hoj) hQ hy (H.2 j (ready_mono hj hne)))
   obtain ⟨hy', hst, hrest⟩ := hK
   have hS' := hst hjz
   refine ⟨fun _ => hS', ih _ a' w' (fun k ok hk hki hun hno' => hap k ok hk hki ?_ hno') (ready_mono hr (Ne.symm hne)) hy' hS' (by rw [Array.setIfInBounds_comm _ _ hne]; exact hrest)⟩
   rcases Decidable.em (j = k) with rfl | hjk
   ·exact hju
   ·rwa [getD_set_ne true hjk] at hun
theorem Still.take {z i : Nat} {oi : Oper} {v : Value} {n : Nat} {done : Array Bool} {a : Act} {w : World} (hz : waitsAll md ops z = true) (hi : ops[i]? = some oi) (hs : Region.noSelect ops = true)
  (hf : Region.free md ops done i = true) (hr : (Region.ready md ops done).contains i = true) (hQ : ∀ c a w, Q (.panic c) (a.put oi.dst v) w → Q (.panic c) a w) (hy : YieldsIf P ops S oi v a) (hS : S w)
  (h : Still P md ops Q S z n (done.setIfInBounds i true) (a.put oi.dst v) w) : Still P md ops Q S z (n + 1) done a w :=
 Still.first hz hi hs hQ n done a w (Region.free_spec hi hf) (by simpa using hr) hy hS h
def waitsOn (md : Region.Mode) (ops : Array Oper) (z i : Nat) : Bool :=
 match ops[z]? with
 | none => false
 | some o => o.after.any fun e => Region.binds md e && e.on == i
def waitsBy (md : Region.Mode) (ops : Array Oper) : Nat → List Nat → Nat → Bool
 | z, [], i => waitsOn md ops z i
 | z, p :: ps, i => waitsOn md ops z p && waitsBy md ops p ps i
theorem waitsOn_ready {z i : Nat} {done : Array Bool} (h : waitsOn md ops z i = true) (hr : z ∈ Region.ready md ops done) : done.getD i false = true := by
 obtain ⟨_, o, ho, hall⟩ := mem_ready.1 hr
 simp only [waitsOn, ho] at h
 obtain ⟨e, he, hb⟩ := Array.any_eq_true'.1 h
 simp only [Bool.and_eq_true, beq_iff_eq] at hb
 have := hall e he hb.1
 rwa [hb.2] at this
theorem getD_both {done : Array Bool} {p : Nat} (h : done.getD p true = false) : done.getD p false = false := by
 by_cases hp : p < done.size
 ·simp [hp] at h ⊢; exact h
 ·simp [Array.getElem?_eq_none (Nat.le_of_not_lt hp)]
theorem waitsBy_ready {i j : Nat} {done : Array Bool} (hi : done.getD i true = false) (hj : j ∈ Region.ready md ops done) : ∀ (ps : List Nat) (z : Nat), waitsBy md ops z ps i = true → (∀ p ∈ ps, done.getD p true = false) → j ∉ z :: ps
 | [], z, h, _ => by
  intro hm
  simp at hm
  subst hm
  have := waitsOn_ready h hj
  rw [getD_both hi] at this
  cases this
 | p :: ps, z, h, hu => by
  simp only [waitsBy, Bool.and_eq_true] at h
  intro hm
  rcases List.mem_cons.1 hm with rfl | hm
  ·have := waitsOn_ready h.1 hj
   rw [getD_both (hu p (by simp))] at this
   cases this
  ·exact waitsBy_ready hi hj ps p h.2 (fun q hq => hu q (by simp [hq])) hm
theorem Still.firstBy {z i : Nat} {ps : List Nat} {oi : Oper} {v : Value} (hz : waitsBy md ops z ps i = true) (hi : ops[i]? = some oi) (hs : Region.noSelect ops = true) (hQ : ∀ c a w, Q (.panic c) (a.put oi.dst v) w → Q (.panic c) a w) (n : Nat) :
  ∀ (done : Array Bool) (a : Act) (w : World), (∀ p ∈ ps, done.getD p true = false) →
   (∀ j oj, ops[j]? = some oj → j ≠ i → done.getD j true = false → (∀ e ∈ oj.after, Region.binds md e = true → e.on ≠ i) → oi.apart ops oj = true) →
   i ∈ Region.ready md ops done → YieldsIf P ops S oi v a → S w → Still P md ops Q S z n (done.setIfInBounds i true) (a.put oi.dst v) w → Still P md ops Q S z (n + 1) done a w := by
 have sel := Region.noSelect_spec hs
 have hlt : i < ops.size := (Array.getElem?_eq_some_iff.1 hi).1
 induction n with
 | zero =>
  intro done a w _ _ hr hy hS H
  refine ⟨fun e => by simp [e] at hr, fun j hj => ?_⟩
  rcases Decidable.em (j = i) with rfl | hne
  ·exact hy.wpOp hi hS ⟨fun _ => hS, H⟩
  ·have hm := ready_mono hj hne
   simp [H.1] at hm
 | succ n ih =>
  intro done a w hu hap hr hy hS H
  refine ⟨fun e => by simp [e] at hr, fun j hj => ?_⟩
  rcases Decidable.em (j = i) with rfl | hne
  ·exact hy.wpOp hi hS ⟨fun _ => hS, H⟩
  ·obtain ⟨hju, oj, hoj, hall⟩ := mem_ready.1 hj
   have hno := unready hr hall
   have hnm := waitsBy_ready (mem_ready.1 hr).1 hj ps z hz hu
   have hjz : j ≠ z := fun e => hnm (by simp [e])
   refine wpOp_mono (fun a' w' hK => ?_) (wpOp_putIf hoj (hap j oj hoj hne hju hno) (fun cs b => sel i oi cs b hi) (fun cs b => sel j oj cs b hoj) hQ hy (H.2 j (ready_mono hj hne)))
   obtain ⟨hy', hst, hrest⟩ := hK
   have hS' := hst hjz
   refine ⟨fun _ => hS', ih _ a' w' (fun p hp => ?_) (fun k ok hk hki hun hno' => hap k ok hk hki ?_ hno') (ready_mono hr (Ne.symm hne)) hy' hS' (by rw [Array.setIfInBounds_comm _ _ hne]; exact hrest)⟩
   ·rw [getD_set_ne true (fun e => hnm (by simp [e, hp]))]
    exact hu p hp
   ·rcases Decidable.em (j = k) with rfl | hjk
    ·exact hju
    ·rwa [getD_set_ne true hjk] at hun
theorem Still.takeBy {z i : Nat} (ps : List Nat) {oi : Oper} {v : Value} {n : Nat} {done : Array Bool} {a : Act} {w : World} (hz : waitsBy md ops z ps i = true) (hu : ps.all (fun p => done.getD p true == false) = true) (hi : ops[i]? = some oi) (hs : Region.noSelect ops = true)
  (hf : Region.free md ops done i = true) (hr : (Region.ready md ops done).contains i = true) (hQ : ∀ c a w, Q (.panic c) (a.put oi.dst v) w → Q (.panic c) a w) (hy : YieldsIf P ops S oi v a) (hS : S w)
  (h : Still P md ops Q S z n (done.setIfInBounds i true) (a.put oi.dst v) w) : Still P md ops Q S z (n + 1) done a w :=
 Still.firstBy hz hi hs hQ n done a w (fun p hp => by simpa using (List.all_eq_true.1 hu) p hp) (Region.free_spec hi hf) (by simpa using hr) hy hS h
theorem Still.all {z : Nat} {rs : List Nat} {n : Nat} {done : Array Bool} {a : Act} {w : World} (hr : Region.ready md ops done = rs) (hne : rs ≠ [])
  (h : ∀ i ∈ rs, wpOp P ops Q i (fun a' w' => (i ≠ z → S w') ∧ Still P md ops Q S z n (done.setIfInBounds i true) a' w') a w) : Still P md ops Q S z (n + 1) done a w :=
 ⟨fun e => absurd (hr ▸ e) hne, hr ▸ h⟩
theorem Still.over {z : Nat} {done : Array Bool} {a : Act} {w : World} (hr : Region.ready md ops done = []) (h : Q .normal a w) (n : Nat) : Still P md ops Q S z n done a w := by
 cases n with
 | zero => exact ⟨hr, h⟩
 | succ n => exact ⟨fun _ => h, by rw [hr]; simp⟩
theorem region_still {id : Nat} {a : Act} {w : World} (z : Nat) (hm : P.follows .mixedOrders = true) (hS : S w.drew) (h : S w.drew → Still P .any ops Q S z ops.size (Array.replicate ops.size false) a w.drew) : (Code.region id ops true).wp P Q a w :=
 wp_region_any hm (Still.any _ _ _ _ (h hS))
theorem Still.one {z i : Nat} {o : Oper} {rs : List Nat} {n : Nat} {done : Array Bool} {a : Act} {w : World} (ho : ops[i]? = some o) (hg : o.guard = none)
  (h : ∀ K : Act → World → Prop, (∀ a' w', (i ≠ z → S w') → ((i ≠ z → S w') → Still P md ops Q S z n (done.setIfInBounds i true) a' w') → K a' w') → Oper.wp P o a w K Q)
  (hs : ∀ j ∈ rs, wpOp P ops Q j (fun a' w' => (j ≠ z → S w') ∧ Still P md ops Q S z n (done.setIfInBounds j true) a' w') a w) :
  ∀ j ∈ i :: rs, wpOp P ops Q j (fun a' w' => (j ≠ z → S w') ∧ Still P md ops Q S z n (done.setIfInBounds j true) a' w') a w := by
 intro j hj
 rcases List.mem_cons.1 hj with rfl | hj
 ·unfold wpOp
  simp only [ho, Region.wanted, hg, if_true]
  exact .inl (h _ fun a' w' h1 h2 => ⟨h1, h2 h1⟩)
 ·exact hs j hj
theorem yields_load {oi : Oper} {a : Act} (hg : oi.guard = none) (ty : TypeId) (x : Operand) (ho : oi.op = .load ty x) (p : Addr) (hx : a.eval x = .pointer (some p)) (v : Value) (hS : ∀ w, S w → (Instr.loadAt ty (.pointer (some p))).run P w = .ok v w) : YieldsIf P ops S oi v a :=
 .inl ⟨by simp [Region.wanted, hg], fun w hw => by
  unfold execOp
  simp only [ho, hx, Sem.run_bind, Sem.run_pure, Result.andThen_ok, hS w hw]⟩
theorem yields_build {oi : Oper} {a : Act} (hg : oi.guard = none) (t : TypeId) (parts : Array (Nat × Operand)) (ho : oi.op = .build t parts) (vs : Array (Nat × Value)) (hx : (parts.map fun (i, x) => (i, a.eval x)) = vs) (v : Value) (hb : ∀ w, (Instr.build t vs).run P w = .ok v w) : YieldsIf P ops S oi v a :=
 .inl ⟨by simp [Region.wanted, hg], fun w hw => by
  unfold execOp
  simp only [ho, hx, Sem.run_bind, Sem.run_pure, Result.andThen_ok, hb w]⟩
end
theorem sl_src {w : World} {b off : Nat} {xs : List Value} (h : ∀ j u, xs[j]? = some u → w.cell? ⟨b, off + j, none⟩ = some u) : ∀ j u, xs[j]? = some u → w.cell? ((⟨b, off, none⟩ : Addr).add j) = some u := by
 intro j u hj
 have hadd : (⟨b, off, none⟩ : Addr).add j = ⟨b, off + j, none⟩ := by
  unfold Addr.add
  by_cases h0 : j = 0 <;> simp [h0]
 rw [hadd]
 exact h j u hj
def Rw (w : World) (g : Nat) (t : TypeId) (cs : Array Value) : Prop := w.heap[g]? = some (.cells cs t (0, 0))
theorem Rw.lt {w : World} {g : Nat} {t : TypeId} {cs : Array Value} (h : Rw w g t cs) : g < w.heap.size := (Array.getElem?_eq_some_iff.1 h).1
theorem Rw.up {B : Nat} {w w' : World} {g : Nat} {t : TypeId} {cs : Array Value} (h : Rw w g t cs) (hb : Below B w w') (hg : g < B) : Rw w' g t cs := (hb.block g hg).trans h
theorem Rw.cell {w : World} {g : Nat} {t : TypeId} {cs : Array Value} (h : Rw w g t cs) {j : Nat} {v : Value} (hj : cs[j]? = some v) : w.cell? ⟨g, j, none⟩ = some v := (cell_of_row w g j cs t _ h).trans hj
theorem Rw.fr {w : World} {g : Nat} {t : TypeId} {cs : Array Value} (h : Rw w g t cs) (j : Nat) : w.frozen? ⟨g, j, none⟩ = false := frozen_of_row w g j cs t h
theorem Rw.set {w : World} {g : Nat} {t : TypeId} {cs : Array Value} (h : Rw w g t cs) (j : Nat) (v : Value) : Rw (w.setCell ⟨g, j, none⟩ v) g t (cs.setIfInBounds j v) := heap_setCell_same w g j cs t v h
theorem Rw.set_other {w : World} {g : Nat} {t : TypeId} {cs : Array Value} (h : Rw w g t cs) {a : Addr} (v : Value) (hg : g ≠ a.block) : Rw (w.setCell a v) g t cs := (heap_setCell_other w a g v hg).trans h
theorem Rw.row {w : World} {g : Nat} {t : TypeId} {cs : Array Value} (h : Rw w g t cs) (cs' : Array Value) : Rw (w.setRow g cs') g t cs' := setRow_heap w g cs cs' t _ h
theorem Rw.row_other {w : World} {g : Nat} {t : TypeId} {cs : Array Value} (h : Rw w g t cs) {g' : Nat} (cs' : Array Value) (hg : g ≠ g') : Rw (w.setRow g' cs') g t cs := (setRow_other w g' g cs' hg).trans h
theorem Rw.new (w : World) (t : TypeId) (cs : Array Value) {g : Nat} (hg : g = w.heap.size) : Rw (w.alloc (.cells cs t)) g t cs := hg ▸ _root_.Go.heap_alloc_new w _
theorem Rw.alloc {w : World} {g : Nat} {t : TypeId} {cs : Array Value} (h : Rw w g t cs) (o : Obj) : Rw (w.alloc o) g t cs := (Below.heap_alloc w o g h.lt).trans h
theorem Rw.drew {w : World} {g : Nat} {t : TypeId} {cs : Array Value} (h : Rw w g t cs) : Rw w.drew g t cs := h
theorem below_row {B : Nat} {a w : World} (h : Below B a w) {g : Nat} (hp : B ≤ g) (cs : Array Value) : Below B a (w.setRow g cs) :=
 ⟨h.os, h.tape, h.output, by rw [setRow_size]; exact h.size, fun k hk => (setRow_other w g k cs (by omega)).trans (h.block k hk)⟩
theorem Sl.row {w : World} {size : Nat} {v : Value} {n : Nat} {xs : List Value} (h : Sl w size v n xs) {g : Nat} (cs : Array Value) (hne : v.ownBlock ≠ some g) : Sl (w.setRow g cs) size v n xs := by
 obtain ⟨h1, ao, cap, rfl, h3, h4⟩ := h
 refine ⟨h1, ao, cap, rfl, h3, fun hn => ?_⟩
 obtain ⟨b, off, rfl, hlt, hc, hz⟩ := h4 hn
 exact ⟨b, off, rfl, by rw [setRow_size]; exact hlt, fun k u' hk => (cell_setRow_other w g cs _ (by simpa [Value.ownBlock] using hne)).trans (hc k u' hk), hz.of (setRow_other w g b cs (by simpa [Value.ownBlock] using hne))⟩
theorem own_set {w : World} {base : Nat} {e : TypeId} {size : Nat} {v : Value} {n : Nat} {xs : List Value} (h : w.ownsRow base e size v n xs) {a : Addr} (u : Value) (hne : v.ownBlock ≠ some a.block) : (w.setCell a u).ownsRow base e size v n xs := by
 refine ⟨h.1, h.2.imp id ?_⟩
 rintro ⟨g, cap, cur, rfl, h2, h3, h4⟩
 exact ⟨g, cap, cur, rfl, h2, (heap_setCell_other w a g u (by simpa [Value.ownBlock] using hne)).trans h3, h4⟩
theorem own_row {w : World} {base : Nat} {e : TypeId} {size : Nat} {v : Value} {n : Nat} {xs : List Value} (h : w.ownsRow base e size v n xs) {g : Nat} (cs : Array Value) (hne : v.ownBlock ≠ some g) : (w.setRow g cs).ownsRow base e size v n xs := by
 refine ⟨h.1, h.2.imp id ?_⟩
 rintro ⟨g', cap, cur, rfl, h2, h3, h4⟩
 exact ⟨g', cap, cur, rfl, h2, (setRow_other w g g' cs (by simpa [Value.ownBlock] using hne)).trans h3, h4⟩
theorem own_up {w w' : World} {B base : Nat} {e : TypeId} {size : Nat} {v : Value} {n : Nat} {xs : List Value} (h : w.ownsRow base e size v n xs) (hb : Below B w w') (hB : ∀ k, v.ownBlock = some k → k < B) : w'.ownsRow base e size v n xs := by
 refine ⟨h.1, h.2.imp id ?_⟩
 rintro ⟨g', cap, cur, rfl, h2, h3, h4⟩
 exact ⟨g', cap, cur, rfl, h2, (hb.block g' (hB g' rfl)).trans h3, h4⟩
theorem own_lt {w : World} {base : Nat} {e : TypeId} {size : Nat} {v : Value} {n : Nat} {xs : List Value} (h : w.ownsRow base e size v n xs) : ∀ k, v.ownBlock = some k → k < w.heap.size := by
 intro k hk
 rcases h.2 with ⟨rfl, _⟩ | ⟨g, cap, cur, rfl, _, h3, _⟩
 ·cases hk
 ·simp [Value.ownBlock] at hk
  subst hk
  exact (Array.getElem?_eq_some_iff.1 h3).1
section
variable {P : Program}
theorem wpList_store_rowW {ops : Array Oper} {rest : List Oper} {o : Oper} {a : Act} {w : World} {Q : Exit → Act → World → Prop} (hgd : o.guard = none) (ty : TypeId) (x y : Operand) (ho : o.op = .store ty x y)
  (g : Nat) (cells : Array Value) (hx : a.eval x = .pointer (some ⟨g, 0, none⟩)) (hy : a.eval y = .agg cells)
  (t : TypeId) (old : Array Value) (hg : Rw w g t old) (hi : (P.info? ty).map (·.size) = some cells.size)
  (hold : old.size = cells.size) (h1 : cells.all (·.oneCell') = true)
  (h : ∀ W, Hid (W = w.setRow g cells) → wpList P ops Q rest (a.put o.dst undef) W) : wpList P ops Q (o :: rest) a w :=
 wpList_store_row hgd ty x y ho g cells hx hy t old hg hi hold h1 (h _ (Lib.hid rfl))
theorem run_storeVar_cell (w : World) (g i : Nat) (t ty : TypeId) (cs : Array Value) (v : Value) (hg : Rw w g t cs) (hlt : i < cs.size) (hi : (P.info? ty).map (·.size) = some 1) (h1 : v.oneCell' = true) :
  (storeVar ty ⟨g, i, none⟩ v).run P w = .ok () (w.setCell ⟨g, i, none⟩ v) := by
 have hc : v.cells = #[v] := by cases v <;> first | rfl | cases h1
 have hk := hg.cell (j := i) (v := cs[i]) (by simp [hlt])
 have hf := hg.fr i
 cases hq : P.info? ty with
 | none => simp [hq] at hi
 | some j =>
  have hs : j.size = 1 := by simpa [hq] using hi
  simp [storeVar, sizeOf, typeInfo, hq, hc, hs, storeCells, Addr.add, run_store P w _ v _ h1, hk, hf]
theorem wpList_store_cellW {ops : Array Oper} {rest : List Oper} {o : Oper} {a : Act} {w : World} {Q : Exit → Act → World → Prop} (hgd : o.guard = none) (ty : TypeId) (x y : Operand) (ho : o.op = .store ty x y)
  (g i : Nat) (v : Value) (hx : a.eval x = .pointer (some ⟨g, i, none⟩)) (hy : a.eval y = v) (h1 : v.oneCell' = true)
  (t : TypeId) (cs : Array Value) (hg : Rw w g t cs) (hlt : i < cs.size) (hi : (P.info? ty).map (·.size) = some 1)
  (h : ∀ W, Hid (W = w.setCell ⟨g, i, none⟩ v) → wpList P ops Q rest (a.put o.dst undef) W) : wpList P ops Q (o :: rest) a w :=
 wpList_plain hgd fun _ hK => by
  unfold Oper.wp execOp
  simp only [ho, hx, hy, Instr.storeAt, Instr.sureAddr, Sem.run_bind, Sem.run_pure, Result.andThen_ok, run_storeVar_cell w g i t ty cs v hg hlt hi h1]
  exact hK _ _ (h _ (Lib.hid rfl))
theorem Rw.loadAt {w : World} {g : Nat} {t : TypeId} {cs : Array Value} (h : Rw w g t cs) {ty : TypeId} {d : TypeDesc} (hu : P.underlying ty = some d) (hd : (match d with | .struct _ | .array _ _ => true | _ => false) = true) (hi : (P.info? ty).map (·.size) = some cs.size) :
  (Instr.loadAt ty (.pointer (some ⟨g, 0, none⟩))).run P w = .ok (.agg cs) w := by
 simp only [Instr.loadAt, Instr.sureAddr, Sem.run_bind, Sem.run_pure, Result.andThen_ok, run_loadVar_row w g t ty cs (0, 0) d h hu hd hi]
theorem Rw.storeAt {w : World} {g : Nat} {t : TypeId} {old : Array Value} (h : Rw w g t old) {ty : TypeId} (cs : Array Value) (hi : (P.info? ty).map (·.size) = some cs.size) (ho : old.size = cs.size) (h1 : cs.all (·.oneCell') = true) :
  (Instr.storeAt ty (.pointer (some ⟨g, 0, none⟩)) (.agg cs)).run P w = .ok () (w.setRow g cs) := by
 simp only [Instr.storeAt, Instr.sureAddr, Sem.run_bind, Sem.run_pure, Result.andThen_ok, run_storeVar_row w g t ty old cs h hi ho h1]
end
theorem results_row_tmp {P : Program} {fn : Func} {p q : Tmp} {ty : TypeId} (h : fn.results = #[.cell p ty, .tmp q]) (tmps : Array Value) (w : World) (g : Nat) (v u : Value)
  (hp : tmps.getD p undef = .pointer (some ⟨g, 0, none⟩)) (hq : tmps.getD q undef = u) (hl : (loadVar ty ⟨g, 0, none⟩).run P w = .ok v w) : (results fn tmps).run P w = .ok (.tuple #[v, u]) w := by
 have hp' : tmps[p]?.getD undef = .pointer (some ⟨g, 0, none⟩) := by simpa using hp
 have hq' : tmps[q]?.getD undef = u := by simpa using hq
 simp [results, h, hp', hq', asAddr, hl]
theorem results_row2 {P : Program} {fn : Func} {p q : Tmp} {ty tz : TypeId} (h : fn.results = #[.cell p ty, .cell q tz]) (tmps : Array Value) (w : World) (g g' : Nat) (v u : Value)
  (hp : tmps.getD p undef = .pointer (some ⟨g, 0, none⟩)) (hq : tmps.getD q undef = .pointer (some ⟨g', 0, none⟩)) (hl : (loadVar ty ⟨g, 0, none⟩).run P w = .ok v w) (hk : (loadVar tz ⟨g', 0, none⟩).run P w = .ok u w) : (results fn tmps).run P w = .ok (.tuple #[v, u]) w := by
 have hp' : tmps[p]?.getD undef = .pointer (some ⟨g, 0, none⟩) := by simpa using hp
 have hq' : tmps[q]?.getD undef = .pointer (some ⟨g', 0, none⟩) := by simpa using hq
 simp [results, h, hp', hq', asAddr, hl, hk]
theorem results_row2_tmp {P : Program} {fn : Func} {p q r : Tmp} {ty tz : TypeId} (h : fn.results = #[.cell p ty, .cell q tz, .tmp r]) (tmps : Array Value) (w : World) (g g' : Nat) (v u x : Value)
  (hp : tmps.getD p undef = .pointer (some ⟨g, 0, none⟩)) (hq : tmps.getD q undef = .pointer (some ⟨g', 0, none⟩)) (hr : tmps.getD r undef = x) (hl : (loadVar ty ⟨g, 0, none⟩).run P w = .ok v w) (hk : (loadVar tz ⟨g', 0, none⟩).run P w = .ok u w) : (results fn tmps).run P w = .ok (.tuple #[v, u, x]) w := by
 have hp' : tmps[p]?.getD undef = .pointer (some ⟨g, 0, none⟩) := by simpa using hp
 have hq' : tmps[q]?.getD undef = .pointer (some ⟨g', 0, none⟩) := by simpa using hq
 have hr' : tmps[r]?.getD undef = x := by simpa using hr
 simp [results, h, hp', hq', hr', asAddr, hl, hk]
theorem hd {p : Prop} (h : p) : Hid p := Lib.hid h
theorem ev {α : Type} {a b : α} (h : a = b := by first | rfl | simp [Act.eval, Act.put]) : a = b := h
section
variable {α : Type} {a b : α} {xs l : List α} {i n : Nat}
theorem l1 (h : i < xs.toArray.size) : xs.toArray[i] = xs[i]'(by simpa using h) := List.getElem_toArray h
theorem l2 {h : 0 < (a :: xs).length} : (a :: xs)[0] = a := rfl
theorem l3 {h : i + 1 < (a :: xs).length} : (a :: xs)[i + 1] = xs[i]'(by simpa using h) := rfl
theorem l4 : l.toArray.setIfInBounds i a = (l.set i a).toArray := List.setIfInBounds_toArray ..
theorem l5 : (a :: xs).set 0 b = b :: xs := rfl
theorem l6 : (a :: xs).set (n + 1) b = a :: xs.set n b := rfl
end
theorem om {p : Prop} (h : p := by omega) : p := h
theorem so {p : Prop} (h : p := by simp; omega) : p := h
theorem o3 {p : Prop} (h : p := by first | omega | (simp; done) | (simp; omega)) : p := h
theorem kr {p : Prop} (h : p := by kernel_rfl) : p := h
theorem rn0 {w : World} {g : Nat} {t : TypeId} {cs : Array Value} (h : Rw w g t cs := by repeat (first | exact Rw.new _ _ _ (by first | rfl | (simp; done) | omega | (simp; omega)) | refine Rw.alloc ?_ _)) : Rw w g t cs := h
theorem ab {α : Type} {p : Prop} {a : α} (h : a ≠ a) : p := absurd rfl h
theorem up0 {B : Nat} {a w : World} (h : Below B a w := by repeat (first | exact Below.refl _ _ | assumption | refine Below.drew ?_ | refine Below.alloc ?_ (by first | (simp; done) | (simp; omega)) _ | refine Below.setCell ?_ (by first | (simp; done) | (simp; omega)) _)) : Below B a w := h
section
variable {P : Program} {ops : Array Oper} {Q : Exit → Act → World → Prop} {md : Region.Mode} {S : World → Prop} {z : Nat} {oi : Oper} {v : Value} {n : Nat} {done : Array Bool} {a a' : Act} {w : World}
theorem Still.t (i : Nat) (ps : List Nat) (hS : S w) (h : Still P md ops Q S z n (done.setIfInBounds i true) a' w) (hi : ops[i]? = some oi := by exact rfl)
  (hz : waitsBy md ops z ps i = true := by kernel_rfl) (hu : ps.all (fun p => done.getD p true == false) = true := by kernel_rfl) (hs : Region.noSelect ops = true := by kernel_rfl) (hf : Region.free md ops done i = true := by kernel_rfl) (hr : (Region.ready md ops done).contains i = true := by kernel_rfl)
  (hQ : ∀ c a w, Q (.panic c) (a.put oi.dst v) w → Q (.panic c) a w := by exact fun _ _ _ h => h) (hw : Region.wanted oi (yielded ops a.tmps) = true := by first | rfl | kernel_rfl)
  (hy : ∀ w, S w → (execOp a.eval oi).run P w = .ok (.value v) w := by (intro w' hSw; (try dsimp only at hSw); (repeat (obtain ⟨_, hSw⟩ := hSw)); go_simp; (try rw [if_neg (by first | omega | (simp; omega))]); try with_reducible rfl))
  (ha : a.put oi.dst v = a' := by (simp only [Act.put, List.getElem_toArray, List.getElem_cons_zero, List.getElem_cons_succ, List.setIfInBounds_toArray, List.set_cons_zero, List.set_cons_succ]; all_goals exact rfl)) : Still P md ops Q S z (n + 1) done a w :=
 Still.takeBy ps hz hu hi hs hf hr hQ (Or.inl ⟨hw, hy⟩) hS (by rw [ha]; exact h)
theorem Still.u {R : World → Prop} (i : Nat) (ps : List Nat) (hS : S w) (hq : ∀ w, S w → R w) (h : Still P md ops Q S z n (done.setIfInBounds i true) a' w) (hi : ops[i]? = some oi := by exact rfl)
  (hz : waitsBy md ops z ps i = true := by kernel_rfl) (hu : ps.all (fun p => done.getD p true == false) = true := by kernel_rfl) (hs : Region.noSelect ops = true := by kernel_rfl) (hf : Region.free md ops done i = true := by kernel_rfl) (hr : (Region.ready md ops done).contains i = true := by kernel_rfl)
  (hQ : ∀ c a w, Q (.panic c) (a.put oi.dst v) w → Q (.panic c) a w := by exact fun _ _ _ h => h) (hw : Region.wanted oi (yielded ops a.tmps) = true := by first | rfl | kernel_rfl)
  (hy : ∀ w, R w → (execOp a.eval oi).run P w = .ok (.value v) w := by (intro w' hSw; (try dsimp only at hSw); (repeat (obtain ⟨_, hSw⟩ := hSw)); go_simp; (try rw [if_neg (by first | omega | (simp; omega))]); try with_reducible rfl))
  (ha : a.put oi.dst v = a' := by (simp only [Act.put, List.getElem_toArray, List.getElem_cons_zero, List.getElem_cons_succ, List.setIfInBounds_toArray, List.set_cons_zero, List.set_cons_succ]; all_goals exact rfl)) : Still P md ops Q S z (n + 1) done a w :=
 Still.takeBy ps hz hu hi hs hf hr hQ (Or.inl ⟨hw, fun w h => hy w (hq w h)⟩) hS (by rw [ha]; exact h)
theorem Still.y (i : Nat) (ps : List Nat) (hi : ops[i]? = some oi) (hy : YieldsIf P ops S oi v a) (hS : S w) (h : Still P md ops Q S z n (done.setIfInBounds i true) a' w)
  (hz : waitsBy md ops z ps i = true := by kernel_rfl) (hu : ps.all (fun p => done.getD p true == false) = true := by kernel_rfl) (hs : Region.noSelect ops = true := by kernel_rfl) (hf : Region.free md ops done i = true := by kernel_rfl) (hr : (Region.ready md ops done).contains i = true := by kernel_rfl)
  (hQ : ∀ c a w, Q (.panic c) (a.put oi.dst v) w → Q (.panic c) a w := by exact fun _ _ _ h => h)
  (ha : a.put oi.dst v = a' := by (simp only [Act.put, List.getElem_toArray, List.getElem_cons_zero, List.getElem_cons_succ, List.setIfInBounds_toArray, List.set_cons_zero, List.set_cons_succ]; all_goals exact rfl)) : Still P md ops Q S z (n + 1) done a w :=
 Still.takeBy ps hz hu hi hs hf hr hQ hy hS (by rw [ha]; exact h)
theorem Still.o {o : Oper} (i : Nat) (ho : ops[i]? = some o) (hg : o.guard = none)
  (h : ∀ K : Act → World → Prop, (∀ a' w', (i ≠ z → S w') → ((i ≠ z → S w') → Still P md ops Q S z n (done.setIfInBounds i true) a' w') → K a' w') → Oper.wp P o a w K Q)
  (hr : Region.ready md ops done = [i] := by kernel_rfl) : Still P md ops Q S z (n + 1) done a w :=
 Still.all hr (by simp) (Still.one ho hg h (by simp))
theorem Still.vv (h : Q .normal a w) (hr : Region.ready md ops done = [] := by kernel_rfl) : Still P md ops Q S z n done a w := Still.over hr h _
theorem Still.p {o : Oper} (i : Nat) (h : ∀ K : Act → World → Prop, (∀ a' w', (i ≠ z → S w') → ((i ≠ z → S w') → Still P md ops Q S z n (done.setIfInBounds i true) a' w') → K a' w') → Oper.wp P o a w K Q) (ho : ops[i]? = some o := by exact rfl) (hg : o.guard = none := by exact rfl)
  (hr : Region.ready md ops done = [i] := by kernel_rfl) : Still P md ops Q S z (n + 1) done a w := Still.o i ho hg h hr
theorem Still.e {o : Oper} (i : Nat) (ho : ops[i]? = some o) (hg : o.guard = none) (h : ∀ K : Act → World → Prop, (∀ a' w', Q .normal a' w' → K a' w') → Oper.wp P o a w K Q)
  (hr : Region.ready md ops done = [i] := by kernel_rfl) (hr2 : Region.ready md ops (done.setIfInBounds i true) = [] := by kernel_rfl) : Still P md ops Q S i (n + 1) done a w :=
 Still.o i ho hg (fun K hK => h K (fun a' w' hn => hK a' w' (fun h => absurd rfl h) (fun _ => Still.over hr2 hn _))) hr
end
end Go.Proofs.YtehhhiodfcdnmaaGreatDoor
