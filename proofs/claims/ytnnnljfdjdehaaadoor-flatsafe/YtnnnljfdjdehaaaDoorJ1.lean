/- A block of memory, whole: what it holds, and that it stays. -/
import Derived.Test.YtnnnljfdjdehaaaDoorJ0
import Derived.Laws.Rows
import Derived.Deep.AppendLies
import Derived.Deep.OwnRows
namespace Go.Proofs.YtnnnljfdjdehaaaDoor
set_option linter.unusedSimpArgs false
set_option linter.unusedVariables false
open Go.RowKit Go.Sort

theorem sl_src {w : World} {b off : Nat} {xs : List Value} (h : ∀ j u, xs[j]? = some u → w.cell? ⟨b, off + j, none⟩ = some u) : ∀ j u, xs[j]? = some u → w.cell? ((⟨b, off, none⟩ : Addr).add j) = some u := by
  intro j u hj
  have hadd : (⟨b, off, none⟩ : Addr).add j = ⟨b, off + j, none⟩ := by
    unfold Addr.add
    by_cases h0 : j = 0 <;> simp [h0]
  rw [hadd]
  exact h j u hj
/-- Block g holds these cells. -/
def Rw (w : World) (g : Nat) (t : TypeId) (cs : Array Value) : Prop := w.heap[g]? = some (.cells cs t (0, 0))
theorem Rw.lt {w : World} {g : Nat} {t : TypeId} {cs : Array Value} (h : Rw w g t cs) : g < w.heap.size := (Array.getElem?_eq_some_iff.1 h).1
theorem Rw.up {B : Nat} {w w' : World} {g : Nat} {t : TypeId} {cs : Array Value} (h : Rw w g t cs) (hb : Below B w w') (hg : g < B) : Rw w' g t cs := (hb.block g hg).trans h
theorem Rw.cell {w : World} {g : Nat} {t : TypeId} {cs : Array Value} (h : Rw w g t cs) {j : Nat} {v : Value} (hj : cs[j]? = some v) : w.cell? ⟨g, j, none⟩ = some v := (cell_of_row w g j cs t _ h).trans hj
theorem Rw.fr {w : World} {g : Nat} {t : TypeId} {cs : Array Value} (h : Rw w g t cs) (j : Nat) : w.frozen? ⟨g, j, none⟩ = false := frozen_of_row w g j cs t h
theorem Rw.set {w : World} {g : Nat} {t : TypeId} {cs : Array Value} (h : Rw w g t cs) (j : Nat) (v : Value) : Rw (w.setCell ⟨g, j, none⟩ v) g t (cs.setIfInBounds j v) := heap_setCell_same w g j cs t v h
theorem Rw.set_other {w : World} {g : Nat} {t : TypeId} {cs : Array Value} (h : Rw w g t cs) {a : Addr} (v : Value) (hg : g ≠ a.block) : Rw (w.setCell a v) g t cs := (heap_setCell_other w a g v hg).trans h
theorem Rw.row {w : World} {g : Nat} {t : TypeId} {cs : Array Value} (h : Rw w g t cs) (cs' : Array Value) : Rw (w.setRow g cs') g t cs' := setRow_heap w g cs cs' t _ h
theorem Rw.row_other {w : World} {g : Nat} {t : TypeId} {cs : Array Value} (h : Rw w g t cs) {g' : Nat} (cs' : Array Value) (hg : g ≠ g') : Rw (w.setRow g' cs') g t cs := (setRow_other w g' g cs' hg).trans h
theorem Rw.new (w : World) (t : TypeId) (cs : Array Value) {g : Nat} (hg : g = w.heap.size) : Rw (w.alloc (.cells cs t)) g t cs := hg ▸ _root_.Go.heap_alloc_new w _
theorem Rw.alloc {w : World} {g : Nat} {t : TypeId} {cs : Array Value} (h : Rw w g t cs) (o : Obj) : Rw (w.alloc o) g t cs := (Below.heap_alloc w o g h.lt).trans h
theorem Rw.drew {w : World} {g : Nat} {t : TypeId} {cs : Array Value} (h : Rw w g t cs) : Rw w.drew g t cs := h
theorem below_row {B : Nat} {a w : World} (h : Below B a w) {g : Nat} (hp : B ≤ g) (cs : Array Value) : Below B a (w.setRow g cs) :=
  ⟨h.os, h.tape, h.output, by rw [setRow_size]; exact h.size, fun k hk => (setRow_other w g k cs (by omega)).trans (h.block k hk)⟩
theorem Sl.row {w : World} {size : Nat} {v : Value} {n : Nat} {xs : List Value} (h : Sl w size v n xs) {g : Nat} (cs : Array Value) (hne : v.ownBlock ≠ some g) : Sl (w.setRow g cs) size v n xs := by
  obtain ⟨h1, ao, cap, rfl, h3, h4⟩ := h
  refine ⟨h1, ao, cap, rfl, h3, fun hn => ?_⟩
  obtain ⟨b, off, rfl, hlt, hc⟩ := h4 hn
  exact ⟨b, off, rfl, by rw [setRow_size]; exact hlt, fun k u' hk => (cell_setRow_other w g cs _ (by simpa [Value.ownBlock] using hne)).trans (hc k u' hk)⟩
theorem own_set {w : World} {base : Nat} {e : TypeId} {size : Nat} {v : Value} {n : Nat} {xs : List Value} (h : w.ownsRow base e size v n xs) {a : Addr} (u : Value) (hne : v.ownBlock ≠ some a.block) : (w.setCell a u).ownsRow base e size v n xs := by
  refine ⟨h.1, h.2.imp id ?_⟩
  rintro ⟨g, cap, cur, rfl, h2, h3, h4⟩
  exact ⟨g, cap, cur, rfl, h2, (heap_setCell_other w a g u (by simpa [Value.ownBlock] using hne)).trans h3, h4⟩
theorem own_row {w : World} {base : Nat} {e : TypeId} {size : Nat} {v : Value} {n : Nat} {xs : List Value} (h : w.ownsRow base e size v n xs) {g : Nat} (cs : Array Value) (hne : v.ownBlock ≠ some g) : (w.setRow g cs).ownsRow base e size v n xs := by
  refine ⟨h.1, h.2.imp id ?_⟩
  rintro ⟨g', cap, cur, rfl, h2, h3, h4⟩
  exact ⟨g', cap, cur, rfl, h2, (setRow_other w g g' cs (by simpa [Value.ownBlock] using hne)).trans h3, h4⟩
theorem own_up {w w' : World} {B base : Nat} {e : TypeId} {size : Nat} {v : Value} {n : Nat} {xs : List Value} (h : w.ownsRow base e size v n xs) (hb : Below B w w') (hB : ∀ k, v.ownBlock = some k → k < B) : w'.ownsRow base e size v n xs := by
  refine ⟨h.1, h.2.imp id ?_⟩
  rintro ⟨g', cap, cur, rfl, h2, h3, h4⟩
  exact ⟨g', cap, cur, rfl, h2, (hb.block g' (hB g' rfl)).trans h3, h4⟩
theorem own_lt {w : World} {base : Nat} {e : TypeId} {size : Nat} {v : Value} {n : Nat} {xs : List Value} (h : w.ownsRow base e size v n xs) : ∀ k, v.ownBlock = some k → k < w.heap.size := by
  intro k hk
  rcases h.2 with ⟨rfl, _⟩ | ⟨g, cap, cur, rfl, _, h3, _⟩
  · cases hk
  · simp [Value.ownBlock] at hk
    subst hk
    exact (Array.getElem?_eq_some_iff.1 h3).1
section
variable {P : Program}
/-- A whole row is stored; the world behind it is a letter. -/
theorem wpList_store_rowW {ops : Array Oper} {rest : List Oper} {o : Oper} {a : Act} {w : World} {Q : Exit → Act → World → Prop} (hgd : o.guard = none) (ty : TypeId) (x y : Operand) (ho : o.op = .store ty x y)
    (g : Nat) (cells : Array Value) (hx : a.eval x = .pointer (some ⟨g, 0, none⟩)) (hy : a.eval y = .agg cells)
    (t : TypeId) (old : Array Value) (hg : Rw w g t old) (hi : (P.info? ty).map (·.size) = some cells.size)
    (hold : old.size = cells.size) (h1 : cells.all (·.oneCell') = true)
    (h : ∀ W, Hid (W = w.setRow g cells) → wpList P ops Q rest (a.put o.dst undef) W) : wpList P ops Q (o :: rest) a w :=
  wpList_store_row hgd ty x y ho g cells hx hy t old hg hi hold h1 (h _ (Lib.hid rfl))
theorem run_storeVar_cell (w : World) (g i : Nat) (t ty : TypeId) (cs : Array Value) (v : Value) (hg : Rw w g t cs) (hlt : i < cs.size) (hi : (P.info? ty).map (·.size) = some 1) (h1 : v.oneCell' = true) :
    (storeVar ty ⟨g, i, none⟩ v).run P w = .ok () (w.setCell ⟨g, i, none⟩ v) := by
  have hc : v.cells = #[v] := by cases v <;> first | rfl | cases h1
  have hk := hg.cell (j := i) (v := cs[i]) (by simp [hlt])
  have hf := hg.fr i
  cases hq : P.info? ty with
  | none => simp [hq] at hi
  | some j =>
    have hs : j.size = 1 := by simpa [hq] using hi
    simp [storeVar, sizeOf, typeInfo, hq, hc, hs, storeCells, Addr.add, run_store P w _ v _ h1, hk, hf]
/-- One place of a row is stored to. -/
theorem wpList_store_cellW {ops : Array Oper} {rest : List Oper} {o : Oper} {a : Act} {w : World} {Q : Exit → Act → World → Prop} (hgd : o.guard = none) (ty : TypeId) (x y : Operand) (ho : o.op = .store ty x y)
    (g i : Nat) (v : Value) (hx : a.eval x = .pointer (some ⟨g, i, none⟩)) (hy : a.eval y = v) (h1 : v.oneCell' = true)
    (t : TypeId) (cs : Array Value) (hg : Rw w g t cs) (hlt : i < cs.size) (hi : (P.info? ty).map (·.size) = some 1)
    (h : ∀ W, Hid (W = w.setCell ⟨g, i, none⟩ v) → wpList P ops Q rest (a.put o.dst undef) W) : wpList P ops Q (o :: rest) a w :=
  wpList_plain hgd fun _ hK => by
    unfold Oper.wp execOp
    simp only [ho, hx, hy, Instr.storeAt, Instr.sureAddr, Sem.run_bind, Sem.run_pure, Result.andThen_ok, run_storeVar_cell w g i t ty cs v hg hlt hi h1]
    exact hK _ _ (h _ (Lib.hid rfl))
/-- What the walk meets at a load of a whole row. -/
theorem Rw.loadAt {w : World} {g : Nat} {t : TypeId} {cs : Array Value} (h : Rw w g t cs) {ty : TypeId} {d : TypeDesc} (hu : P.underlying ty = some d) (hd : (match d with | .struct _ | .array _ _ => true | _ => false) = true) (hi : (P.info? ty).map (·.size) = some cs.size) :
    (Instr.loadAt ty (.pointer (some ⟨g, 0, none⟩))).run P w = .ok (.agg cs) w := by
  simp only [Instr.loadAt, Instr.sureAddr, Sem.run_bind, Sem.run_pure, Result.andThen_ok, run_loadVar_row w g t ty cs (0, 0) d h hu hd hi]
theorem Rw.storeAt {w : World} {g : Nat} {t : TypeId} {old : Array Value} (h : Rw w g t old) {ty : TypeId} (cs : Array Value) (hi : (P.info? ty).map (·.size) = some cs.size) (ho : old.size = cs.size) (h1 : cs.all (·.oneCell') = true) :
    (Instr.storeAt ty (.pointer (some ⟨g, 0, none⟩)) (.agg cs)).run P w = .ok () (w.setRow g cs) := by
  simp only [Instr.storeAt, Instr.sureAddr, Sem.run_bind, Sem.run_pure, Result.andThen_ok, run_storeVar_row w g t ty old cs h hi ho h1]
end
theorem results_row_tmp {P : Program} {fn : Func} {p q : Tmp} {ty : TypeId} (h : fn.results = #[.cell p ty, .tmp q]) (tmps : Array Value) (w : World) (g : Nat) (v u : Value)
    (hp : tmps.getD p undef = .pointer (some ⟨g, 0, none⟩)) (hq : tmps.getD q undef = u) (hl : (loadVar ty ⟨g, 0, none⟩).run P w = .ok v w) : (results fn tmps).run P w = .ok (.tuple #[v, u]) w := by
  have hp' : tmps[p]?.getD undef = .pointer (some ⟨g, 0, none⟩) := by simpa using hp
  have hq' : tmps[q]?.getD undef = u := by simpa using hq
  simp [results, h, hp', hq', asAddr, hl]
theorem results_row2 {P : Program} {fn : Func} {p q : Tmp} {ty tz : TypeId} (h : fn.results = #[.cell p ty, .cell q tz]) (tmps : Array Value) (w : World) (g g' : Nat) (v u : Value)
    (hp : tmps.getD p undef = .pointer (some ⟨g, 0, none⟩)) (hq : tmps.getD q undef = .pointer (some ⟨g', 0, none⟩)) (hl : (loadVar ty ⟨g, 0, none⟩).run P w = .ok v w) (hk : (loadVar tz ⟨g', 0, none⟩).run P w = .ok u w) : (results fn tmps).run P w = .ok (.tuple #[v, u]) w := by
  have hp' : tmps[p]?.getD undef = .pointer (some ⟨g, 0, none⟩) := by simpa using hp
  have hq' : tmps[q]?.getD undef = .pointer (some ⟨g', 0, none⟩) := by simpa using hq
  simp [results, h, hp', hq', asAddr, hl, hk]
theorem results_row2_tmp {P : Program} {fn : Func} {p q r : Tmp} {ty tz : TypeId} (h : fn.results = #[.cell p ty, .cell q tz, .tmp r]) (tmps : Array Value) (w : World) (g g' : Nat) (v u x : Value)
    (hp : tmps.getD p undef = .pointer (some ⟨g, 0, none⟩)) (hq : tmps.getD q undef = .pointer (some ⟨g', 0, none⟩)) (hr : tmps.getD r undef = x) (hl : (loadVar ty ⟨g, 0, none⟩).run P w = .ok v w) (hk : (loadVar tz ⟨g', 0, none⟩).run P w = .ok u w) : (results fn tmps).run P w = .ok (.tuple #[v, u, x]) w := by
  have hp' : tmps[p]?.getD undef = .pointer (some ⟨g, 0, none⟩) := by simpa using hp
  have hq' : tmps[q]?.getD undef = .pointer (some ⟨g', 0, none⟩) := by simpa using hq
  have hr' : tmps[r]?.getD undef = x := by simpa using hr
  simp [results, h, hp', hq', hr', asAddr, hl, hk]
end Go.Proofs.YtnnnljfdjdehaaaDoor

namespace Go.Proofs.YtnnnljfdjdehaaaDoor
set_option linter.unusedSimpArgs false
set_option linter.unusedVariables false
open Go.RowKit Go.Sort

section
variable {P : Program}
theorem run_append_sl (w : World) (t ty : TypeId) (base : Nat) (e : TypeId) (i : TypeInfo) (z : Value) (size bytes : Nat) (ht : P.underlying t = some (.slice e)) (hi : P.info? e = some i) (hz : i.zero = some z)
    (hsize : i.size = size) (hby : i.bytes = bytes) (hzs : z.cells.size = size) (hsz : 0 < size) (v : Value) (n : Nat) (xs : List Value) (hown : w.ownsRow base e size v n xs)
    (u : Value) (m : Nat) (news : List Value) (hS : Sl w size u m news) (h1 : ∀ u ∈ news, u.oneCell' = true) (h63 : n + m ≤ maxLen) (hbytes : (n + m) * bytes ≤ 140737488355328) (hbase : base ≤ w.heap.size) :
    ∃ v' w', (Builtin.append_ #[t, t] ty #[v, u]).run P w = .ok v' w' ∧ w'.ownsRow base e size v' (n + m) (xs ++ news) ∧ w.grownBy w' v.ownBlock ∧ (v'.ownBlock = v.ownBlock ∨ v'.ownBlock = some w.heap.size) := by
  by_cases hm : m = 0
  · subst hm
    have hnn : news = [] := List.eq_nil_of_length_eq_zero (by simpa using hS.1)
    subst hnn
    obtain ⟨ao, cap, rfl⟩ := hS.form
    cases ao with
    | some ad =>
      obtain ⟨v', w', hr, h2, h3, _, h5⟩ := run_append_own_at (P := P) w base t ty e i z size bytes ht hi hz hsize hby hzs hsz v n xs hown ad 0 cap [] (by simp) (by simp) (by simp) h63 hbytes hbase
      exact ⟨v', w', hr, h2, h3, h5⟩
    | none =>
      refine ⟨v, w, ?_, by simpa using hown, ⟨rfl, rfl, rfl, Nat.le_refl _, fun _ _ _ => rfl⟩, .inl rfl⟩
      rcases hown.2 with ⟨rfl, rfl⟩ | ⟨g, cap', cur, rfl, hbg, hg, hnc, hcm, hcs, htake⟩
      · simp [Builtin.append_, run_underlying ht, sizeOf, typeInfo, hi, Builtin.lenOf, Builtin.firstCells, loadCells, loadCellsFrom]
      · simp [Builtin.append_, run_underlying ht, sizeOf, typeInfo, hi, Builtin.lenOf, Builtin.firstCells, loadCells, loadCellsFrom, hnc, storeCells]
  · obtain ⟨b, off, cap, rfl, _, _, hc⟩ := hS.open (by omega)
    obtain ⟨v', w', hr, h2, h3, _, h5⟩ := run_append_own_at (P := P) w base t ty e i z size bytes ht hi hz hsize hby hzs hsz v n xs hown ⟨b, off, none⟩ m cap news hS.1 (sl_src hc) h1 h63 hbytes hbase
    exact ⟨v', w', hr, h2, h3, h5⟩

theorem wp_append_sl {o : Oper} {a : Act} {w : World} {K : Act → World → Prop} {Q : Exit → Act → World → Prop} (s x : Operand) (t : TypeId)
    (ho : o.op = .call { callee := .builtin .append, args := #[s, x], argTypes := #[t, t] })
    (base : Nat) (e : TypeId) (i : TypeInfo) (z : Value) (size bytes : Nat) (ht : P.underlying t = some (.slice e)) (hi : P.info? e = some i) (hz : i.zero = some z)
    (hsize : i.size = size) (hby : i.bytes = bytes) (hzs : z.cells.size = size) (hsz : 0 < size) (v : Value) (n : Nat) (xs : List Value) (hs : a.eval s = v) (hown : w.ownsRow base e size v n xs)
    (u : Value) (m : Nat) (news : List Value) (hx : a.eval x = u) (hS : Sl w size u m news) (h1 : ∀ u ∈ news, u.oneCell' = true) (h63 : n + m ≤ maxLen) (hbytes : (n + m) * bytes ≤ 140737488355328) (hbase : base ≤ w.heap.size)
    (h : ∀ v' w', w'.ownsRow base e size v' (n + m) (xs ++ news) → w.grownBy w' v.ownBlock → (v'.ownBlock = v.ownBlock ∨ v'.ownBlock = some w.heap.size) → K (a.put o.dst v') w') : o.wp P a w K Q := by
  obtain ⟨v', w', hr, h2, h3, h5⟩ := run_append_sl (P := P) w t o.type base e i z size bytes ht hi hz hsize hby hzs hsz v n xs hown u m news hS h1 h63 hbytes hbase
  unfold Oper.wp execOp
  simp only [ho, resolve, invoke, builtin, Sem.run_bind, Sem.run_pure, Result.andThen_ok, List.map_toArray, List.map_cons, List.map_nil, hs, hx, hr]
  exact h v' w' h2 h3 h5
/-- append onto an empty literal: nothing that stood is changed. -/
theorem run_append_lit (w : World) (t ty : TypeId) (base : Nat) (e : TypeId) (i : TypeInfo) (z : Value) (size bytes : Nat) (ht : P.underlying t = some (.slice e)) (hi : P.info? e = some i) (hz : i.zero = some z)
    (hsize : i.size = size) (hby : i.bytes = bytes) (hzs : z.cells.size = size) (hsz : 0 < size) (B : Nat) (hown : w.ownsRow base e size (.slice (some ⟨B, 0, none⟩) 0 0) 0 [])
    (u : Value) (m : Nat) (news : List Value) (hS : Sl w size u m news) (h1 : ∀ u ∈ news, u.oneCell' = true) (h63 : m ≤ maxLen) (hbytes : m * bytes ≤ 140737488355328) (hbase : base ≤ w.heap.size) :
    ∃ v' w', (Builtin.append_ #[t, t] ty #[.slice (some ⟨B, 0, none⟩) 0 0, u]).run P w = .ok v' w' ∧ w'.ownsRow base e size v' m news ∧ Below w.heap.size w w' ∧ (∀ k, v'.ownBlock = some k → k = B ∨ k = w.heap.size) := by
  by_cases hm : m = 0
  · subst hm
    have hnn : news = [] := List.eq_nil_of_length_eq_zero (by simpa using hS.1)
    subst hnn
    obtain ⟨ao, cap, rfl⟩ := hS.form
    refine ⟨_, w, ?_, hown, Below.refl _ _, fun k hk => .inl (by simpa [Value.ownBlock, eq_comm] using hk)⟩
    cases ao with
    | some ad => simp [Builtin.append_, run_underlying ht, sizeOf, typeInfo, hi, Builtin.lenOf, Builtin.firstCells, loadCells, loadCellsFrom, storeCells]
    | none => simp [Builtin.append_, run_underlying ht, sizeOf, typeInfo, hi, Builtin.lenOf, Builtin.firstCells, loadCells, loadCellsFrom, storeCells]
  · obtain ⟨b, off, cap, rfl, _, _, hc⟩ := hS.open (by omega)
    obtain ⟨v', w', hr, h2, _, _, _⟩ := run_append_own_at (P := P) w base t ty e i z size bytes ht hi hz hsize hby hzs hsz _ 0 [] hown ⟨b, off, none⟩ m cap news hS.1 (sl_src hc) h1 (by simpa using h63) (by simpa using hbytes) hbase
    have hr2 := run_append_grow (P := P) w t ty e i z ht hi hz ⟨B, 0, none⟩ 0 0 [] (by simp) (by simp) ⟨b, off, none⟩ m cap news (by rw [hsize]; exact hS.1) (sl_src hc) (by omega) (by unfold maxLen at h63; omega) (growslice_fits (by omega) (by rw [hby]; simpa using hbytes))
    have hw := hr.symm.trans hr2
    injection hw with hv hw
    refine ⟨v', w', hr, by simpa using h2, ?_, fun k hk => .inr ?_⟩
    · rw [hw]
      exact (Below.refl _ _).drew.alloc (Nat.le_refl _) _
    · rw [hv] at hk
      simpa [Value.ownBlock, eq_comm] using hk

theorem wp_append_lit {o : Oper} {a : Act} {w : World} {K : Act → World → Prop} {Q : Exit → Act → World → Prop} (s x : Operand) (t : TypeId)
    (ho : o.op = .call { callee := .builtin .append, args := #[s, x], argTypes := #[t, t] })
    (base : Nat) (e : TypeId) (i : TypeInfo) (z : Value) (size bytes : Nat) (ht : P.underlying t = some (.slice e)) (hi : P.info? e = some i) (hz : i.zero = some z)
    (hsize : i.size = size) (hby : i.bytes = bytes) (hzs : z.cells.size = size) (hsz : 0 < size) (B : Nat) (hs : a.eval s = .slice (some ⟨B, 0, none⟩) 0 0) (hown : w.heap[B]? = some (.cells #[] e (0, 0))) (hB : base ≤ B)
    (u : Value) (m : Nat) (news : List Value) (hx : a.eval x = u) (hS : Sl w size u m news) (h1 : ∀ u ∈ news, u.oneCell' = true) (h63 : m ≤ maxLen) (hbytes : m * bytes ≤ 140737488355328)
    (h : ∀ v' w', w'.ownsRow base e size v' m news → Below w.heap.size w w' → (∀ k, v'.ownBlock = some k → k = B ∨ k = w.heap.size) → K (a.put o.dst v') w') : o.wp P a w K Q := by
  have hBl : B < w.heap.size := by
    rcases Nat.lt_or_ge B w.heap.size with h | h
    · exact h
    · rw [Array.getElem?_eq_none h] at hown; cases hown
  obtain ⟨v', w', hr, h2, h3, h5⟩ := run_append_lit (P := P) w t o.type base e i z size bytes ht hi hz hsize hby hzs hsz B ⟨by simp, .inr ⟨B, 0, #[], rfl, hB, hown, Nat.le_refl _, Nat.zero_le _, by simp, by simp⟩⟩ u m news hS h1 h63 hbytes (by omega)
  unfold Oper.wp execOp
  simp only [ho, resolve, invoke, builtin, Sem.run_bind, Sem.run_pure, Result.andThen_ok, List.map_toArray, List.map_cons, List.map_nil, hs, hx, hr]
  exact h v' w' h2 h3 h5
theorem step_append_lit {ops : Array Oper} {o : Oper} {a : Act} {w : World} {K : Act → World → Prop} {Q : Exit → Act → World → Prop} {E : Prop} (hgd : o.guard = none) (s x : Operand) (t : TypeId)
    (ho : o.op = .call { callee := .builtin .append, args := #[s, x], argTypes := #[t, t] })
    (base : Nat) (e : TypeId) (i : TypeInfo) (z : Value) (size bytes : Nat) (ht : P.underlying t = some (.slice e)) (hi : P.info? e = some i) (hz : i.zero = some z)
    (hsize : i.size = size) (hby : i.bytes = bytes) (hzs : z.cells.size = size) (hsz : 0 < size) (B : Nat) (hs : a.eval s = .slice (some ⟨B, 0, none⟩) 0 0) (hown : w.heap[B]? = some (.cells #[] e (0, 0))) (hB : base ≤ B)
    (u : Value) (m : Nat) (news : List Value) (hx : a.eval x = u) (hS : Sl w size u m news) (h1 : ∀ u ∈ news, u.oneCell' = true) (h63 : m ≤ maxLen) (hbytes : m * bytes ≤ 140737488355328)
    (h : ∀ v' w', w'.ownsRow base e size v' m news → Below w.heap.size w w' → (∀ k, v'.ownBlock = some k → k = B ∨ k = w.heap.size) → K (a.put o.dst v') w') :
    if Region.wanted o (yielded ops a.tmps) = true then Oper.wp P o a w K Q else E := by
  have hw : Region.wanted o (yielded ops a.tmps) = true := by simp [Region.wanted, hgd]
  rw [if_pos hw]
  exact wp_append_lit s x t ho base e i z size bytes ht hi hz hsize hby hzs hsz B hs hown hB u m news hx hS h1 h63 hbytes h
theorem wpList_append_sl {ops : Array Oper} {rest : List Oper} {o : Oper} {a : Act} {w : World} {Q : Exit → Act → World → Prop} (hgd : o.guard = none) (s x : Operand) (t : TypeId)
    (ho : o.op = .call { callee := .builtin .append, args := #[s, x], argTypes := #[t, t] })
    (base : Nat) (e : TypeId) (i : TypeInfo) (z : Value) (size bytes : Nat) (ht : P.underlying t = some (.slice e)) (hi : P.info? e = some i) (hz : i.zero = some z)
    (hsize : i.size = size) (hby : i.bytes = bytes) (hzs : z.cells.size = size) (hsz : 0 < size) (v : Value) (n : Nat) (xs : List Value) (hs : a.eval s = v) (hown : w.ownsRow base e size v n xs)
    (u : Value) (m : Nat) (news : List Value) (hx : a.eval x = u) (hS : Sl w size u m news) (h1 : ∀ u ∈ news, u.oneCell' = true) (h63 : n + m ≤ maxLen) (hbytes : (n + m) * bytes ≤ 140737488355328) (hbase : base ≤ w.heap.size)
    (h : ∀ v' w', w'.ownsRow base e size v' (n + m) (xs ++ news) → w.grownBy w' v.ownBlock → (v'.ownBlock = v.ownBlock ∨ v'.ownBlock = some w.heap.size) → wpList P ops Q rest (a.put o.dst v') w') : wpList P ops Q (o :: rest) a w :=
  wpList_plain hgd fun _ hK => wp_append_sl s x t ho base e i z size bytes ht hi hz hsize hby hzs hsz v n xs hs hown u m news hx hS h1 h63 hbytes hbase fun v' w' h1 h2 h3 => hK _ _ (h v' w' h1 h2 h3)
/-- append onto nil. -/
theorem wpList_append_nil {ops : Array Oper} {rest : List Oper} {o : Oper} {a : Act} {w : World} {Q : Exit → Act → World → Prop} (hgd : o.guard = none) (s x : Operand) (t : TypeId)
    (ho : o.op = .call { callee := .builtin .append, args := #[s, x], argTypes := #[t, t] })
    (e : TypeId) (i : TypeInfo) (z : Value) (size bytes : Nat) (ht : P.underlying t = some (.slice e)) (hi : P.info? e = some i) (hz : i.zero = some z)
    (hsize : i.size = size) (hby : i.bytes = bytes) (hzs : z.cells.size = size) (hsz : 0 < size) (hs : a.eval s = .slice none 0 0)
    (u : Value) (m : Nat) (news : List Value) (hx : a.eval x = u) (hS : Sl w size u m news) (h1 : ∀ u ∈ news, u.oneCell' = true) (h63 : m ≤ maxLen) (hbytes : m * bytes ≤ 140737488355328)
    (h : ∀ v' w', w'.ownsRow w.heap.size e size v' m news → Below w.heap.size w w' → wpList P ops Q rest (a.put o.dst v') w') : wpList P ops Q (o :: rest) a w :=
  wpList_append_sl hgd s x t ho w.heap.size e i z size bytes ht hi hz hsize hby hzs hsz _ 0 [] hs (World.ownsRow_nil _ _ _ _) u m news hx hS h1 (by simpa using h63) (by simpa using hbytes) (Nat.le_refl _)
    fun v' w' g1 g2 _ => h v' w' (by simpa using g1) ((Below.refl _ _).grown g2 (Nat.le_refl _) (fun k hk => by cases hk))
theorem wpList_append_lit {ops : Array Oper} {rest : List Oper} {o : Oper} {a : Act} {w : World} {Q : Exit → Act → World → Prop} (hgd : o.guard = none) (s x : Operand) (t : TypeId)
    (ho : o.op = .call { callee := .builtin .append, args := #[s, x], argTypes := #[t, t] })
    (base : Nat) (e : TypeId) (i : TypeInfo) (z : Value) (size bytes : Nat) (ht : P.underlying t = some (.slice e)) (hi : P.info? e = some i) (hz : i.zero = some z)
    (hsize : i.size = size) (hby : i.bytes = bytes) (hzs : z.cells.size = size) (hsz : 0 < size) (B : Nat) (hs : a.eval s = .slice (some ⟨B, 0, none⟩) 0 0) (hown : w.heap[B]? = some (.cells #[] e (0, 0))) (hB : base ≤ B)
    (u : Value) (m : Nat) (news : List Value) (hx : a.eval x = u) (hS : Sl w size u m news) (h1 : ∀ u ∈ news, u.oneCell' = true) (h63 : m ≤ maxLen) (hbytes : m * bytes ≤ 140737488355328)
    (h : ∀ v' w', w'.ownsRow base e size v' m news → Below w.heap.size w w' → (∀ k, v'.ownBlock = some k → k = B ∨ k = w.heap.size) → wpList P ops Q rest (a.put o.dst v') w') : wpList P ops Q (o :: rest) a w :=
  wpList_plain hgd fun _ hK => wp_append_lit s x t ho base e i z size bytes ht hi hz hsize hby hzs hsz B hs hown hB u m news hx hS h1 h63 hbytes fun v' w' h1 h2 h3 => hK _ _ (h v' w' h1 h2 h3)
end
end Go.Proofs.YtnnnljfdjdehaaaDoor

namespace Go.Proofs.YtnnnljfdjdehaaaDoor
set_option linter.unusedSimpArgs false
set_option linter.unusedVariables false
open Go.RowKit Go.Sort

/-- What stands elsewhere than at g and in the row v stays. -/
structure Far (w w' : World) (g : Nat) (v : Value) : Prop where
  size : w.heap.size ≤ w'.heap.size
  kept : ∀ b, b < w.heap.size → b ≠ g → v.ownBlock ≠ some b → w'.heap[b]? = w.heap[b]?
theorem Far.rw {w w' : World} {g : Nat} {v : Value} (h : Far w w' g v) {c : Nat} {t : TypeId} {cs : Array Value} (hr : Rw w c t cs) (h1 : c ≠ g) (h2 : v.ownBlock ≠ some c) : Rw w' c t cs := (h.kept c hr.lt h1 h2).trans hr
/-- The row at g: what it holds. -/
structure RowS (w : World) (g : Nat) (v : Value) (xs : List Int) : Prop where
  r : Rw w g 57 #[v]
  o : w.ownsRow (g + 1) 3 1 v xs.length (ints xs)
/-- What a put may have changed. -/
structure Puts (w w' : World) (g : Nat) (v v' : Value) : Prop where
  mv : ∀ b, v'.ownBlock = some b → v.ownBlock = some b ∨ w.heap.size ≤ b
  b : Below g w w'
  f : Far w w' g v
theorem Puts.trans {w w1 w2 : World} {g : Nat} {v v1 v2 : Value} (h : Puts w w1 g v v1) (h' : Puts w1 w2 g v1 v2) : Puts w w2 g v v2 :=
  ⟨fun b e => by
    rcases h'.mv b e with e1 | e1
    · exact h.mv b e1
    · exact .inr (Nat.le_trans h.f.size e1), h.b.trans h'.b, ⟨Nat.le_trans h.f.size h'.f.size, fun b hb h1 h2 => (h'.f.kept b (Nat.lt_of_lt_of_le hb h.f.size) h1 (fun e => by
    rcases h.mv b e with e1 | e1
    · exact h2 e1
    · omega)).trans (h.f.kept b hb h1 h2)⟩⟩
theorem puts_alloc (w : World) (g : Nat) (v : Value) (o : Obj) (hg : g < w.heap.size) : Puts w (w.alloc o) g v v :=
  ⟨fun b e => .inl e, (Below.refl _ _).alloc (by omega) o, ⟨by simp, fun b hb _ _ => Below.heap_alloc w o b hb⟩⟩
theorem puts_refl (w : World) (g : Nat) (v : Value) : Puts w w g v v := ⟨fun b e => .inl e, Below.refl _ _, ⟨Nat.le_refl _, fun _ _ _ _ => rfl⟩⟩
theorem RowS.alloc {w : World} {g : Nat} {v : Value} {xs : List Int} (h : RowS w g v xs) (o : Obj) : RowS (w.alloc o) g v xs := ⟨h.r.alloc o, h.o.alloc o⟩
theorem RowS.form {w : World} {g : Nat} {v : Value} {xs : List Int} (h : RowS w g v xs) : ∃ ao cap, v = .slice ao xs.length cap := own_form h.o
theorem sl_low {w w' : World} {size n g : Nat} {u : Value} {xs : List Value} (h : Sl w size u n xs) (hu : ∀ b, u.ownBlock = some b → b < g) (hb : Below g w w') : Sl w' size u n xs := by
  obtain ⟨h1, ao, cap, rfl, h3, h4⟩ := h
  refine ⟨h1, ao, cap, rfl, h3, fun hn => ?_⟩
  obtain ⟨b, off, rfl, hlt, hc⟩ := h4 hn
  exact ⟨b, off, rfl, Nat.lt_of_lt_of_le hlt hb.size, fun j u hj => bcl hb (hu b rfl) (hc j u hj)⟩
theorem lit_slF (w : World) (xs : List Value) (t : TypeId) (g n size : Nat) (hg : g = w.heap.size) (hl : xs.length = n * size) : Sl (w.alloc (.cells xs.toArray t)) size (.slice (some ⟨g, 0, none⟩) n n) n xs := by
  subst hg
  refine ⟨hl, _, _, rfl, Nat.le_refl _, fun _ => ⟨_, 0, rfl, by simp, fun j u hj => ?_⟩⟩
  rw [Nat.zero_add, World.cell?_alloc_new, ← Array.getElem?_toList]
  exact hj
theorem ints_app (xs ys : List Int) : ints xs ++ ints ys = ints (xs ++ ys) := by simp [ints]
set_option maxRecDepth 100000 in
set_option maxHeartbeats 2000000 in
theorem put_any (g : Nat) (v : Value) (xs ys : List Int) (hl : xs.length + ys.length ≤ 1000) (u : Value) (w : World) (hRS : RowS w g v xs) (hS : Sl w 1 u ys.length (ints ys)) :
    Calls Tryd.prog 22 #[.pointer (some ⟨g, 0, none⟩), u] w fun e w' => e = .returned (.tuple #[]) ∧ ∃ v', RowS w' g v' (xs ++ ys) ∧ Puts w w' g v v' := by
  obtain ⟨hR, hO⟩ := hRS
  obtain ⟨i1, hi1, hy0, hy1, hy2⟩ := info_parts info3
  obtain ⟨va, vc, rfl⟩ := own_form hO
  obtain ⟨ua, uc, rfl⟩ := hS.form
  have c0 : w.cell? ⟨g, 0, none⟩ = some (.slice va xs.length vc) := hR.cell (j := 0) rfl
  have hlt := hR.lt
  have HR := Lib.hid hR
  have HO := Lib.hid hO
  have HS := Lib.hid hS
  clear hR hO hS
  go_enter Tryd.func22, Tryd.ntmps22
  go_wp2_with (at_builtin; refine wpList_append_sl rfl (.tmp 8) (.tmp 9) 31 rfl (g + 1) 3 i1 (.int .i64 0) 1 8 Tryd.underlying31 hi1 hy0 hy1 hy2 rfl (by decide) _ xs.length (ints xs) rfl HO.out _ ys.length (ints ys) rfl HS.out (ints_cell _) (by unfold maxLen; omega) (by omega) (by omega) ?_)
  intro v' W hown hgrow hat
  have hng : some g ≠ (Value.slice va xs.length vc).ownBlock := fun e => by have := own_block HO.out g e.symm; omega
  have R5 : Rw W g 57 #[.slice va xs.length vc] := (hgrow.block g hlt hng).trans HR.out
  obtain ⟨zs, hz⟩ : ∃ zs, zs = xs ++ ys := ⟨_, rfl⟩
  have HZ := Lib.hid hz
  have hown' : W.ownsRow (g + 1) 3 1 v' zs.length (ints zs) := by rw [hz, ← ints_app, List.length_append]; exact hown
  clear hz
  obtain ⟨wa, wc, rfl⟩ := own_form hown'
  have c5 : W.cell? ⟨g, 0, none⟩ = some (.slice va xs.length vc) := R5.cell (j := 0) rfl
  have f5 := R5.fr 0
  have HB : Hid (Below g w W) := Lib.hid ((Below.refl _ _).grown hgrow (by omega) (fun k e => by have := own_block HO.out k e; omega))
  have HF : Hid (Far w W g (.slice va xs.length vc)) := Lib.hid ⟨hgrow.size, fun b hb h1 h2 => hgrow.block b hb (fun e => h2 e.symm)⟩
  have HR5 := Lib.hid R5
  have HO5 := Lib.hid hown'
  have HAT := Lib.hid hat
  clear hown hgrow hat R5 hown' c0
  go_wp2
  go_end0
  rw [← HZ.out]
  refine ⟨rfl, .slice wa zs.length wc, ⟨HR5.out.set 0 _, own_set HO5.out _ (fun e => by have h := own_block HO5.out _ e; have h2 : g + 1 ≤ g := h; omega)⟩, fun b e => by
    rcases HAT.out with h | h
    · exact .inl (h ▸ e)
    · rw [h] at e
      injection e with e
      exact .inr (by omega), HB.out.setCell (by show g ≤ g; omega) _, ⟨by rw [size_set]; exact HF.out.size, fun b hb h1 h2 => ?_⟩⟩
  rw [heap_setCell_other _ _ _ _ (by simpa using h1)]
  exact HF.out.kept b hb h1 h2
/-- A list, how long it is ahead of it, 0 behind. -/
def padL (l : List Int) (room : Nat) : List Int := (l.length : Int) :: (l ++ List.replicate (room - l.length) 0)
set_option maxRecDepth 100000 in
set_option maxHeartbeats 2000000 in
theorem putList_any (g : Nat) (v : Value) (xs l : List Int) (room : Nat) (hr : room ≤ 100) (hlr : l.length ≤ room) (hx : xs.length ≤ 800) (u : Value) (w : World) (hRS : RowS w g v xs) (hS : Sl w 1 u l.length (ints l)) (hu : ∀ w', Below g w w' → Sl w' 1 u l.length (ints l)) :
    Calls Tryd.prog 23 #[.pointer (some ⟨g, 0, none⟩), u, .int .i64 (room : Int)] w fun e w' => e = .returned (.tuple #[]) ∧ ∃ v', RowS w' g v' (xs ++ padL l room) ∧ Puts w w' g v v' := by
  obtain ⟨i1, hi1, hy0, hy1, hy2⟩ := info_parts info3
  obtain ⟨ua, uc, rfl⟩ := hS.form
  have hg := hRS.r.lt
  have HRS := Lib.hid hRS
  have HS := Lib.hid hS
  have HU := Lib.hid hu
  clear hRS hS hu
  go_enter Tryd.func23, Tryd.ntmps23
  go_wp2_with fail
  refine (put_any g v xs [(l.length : Int)] (by simp; omega) _ _ (HRS.out.alloc _) (sl_one_at w _ 3 1 _ rfl (by omega))).mono ?_
  rintro e w1 ⟨rfl, v1, hr1, hp1⟩
  have P1 := Lib.hid ((puts_alloc w g v (.cells #[.int .i64 (l.length : Int)] 3) hg).trans hp1)
  have R1 := Lib.hid hr1
  clear hr1 hp1
  go_wp2_with fail
  refine (put_any g v1 (xs ++ [(l.length : Int)]) l (by simp; omega) _ _ R1.out (HU.out _ P1.out.b)).mono ?_
  rintro e w2 ⟨rfl, v2, hr2, hp2⟩
  have P2 := Lib.hid (P1.out.trans hp2)
  have R2 := Lib.hid hr2
  have hg2 := hr2.r.lt
  clear hr2 hp2 P1 R1
  obtain ⟨m, hm⟩ : ∃ m : Nat, m = room - l.length := ⟨_, rfl⟩
  have hsub : IntKind.i64.wrap ((room : Int) - (l.length : Int)) = (m : Int) := by simp [IntKind.wrap, IntKind.bits, IntKind.signed]; omega
  have HM := Lib.hid hm
  have hm100 : m ≤ 100 := by omega
  clear hm
  go_wp2_with (refine wpList_make_row _ rfl _ _ 31 rfl 3 i1 (.int .i64 0) Tryd.underlying31 hi1 hy0 hy1 rfl .i64 .i64 m rfl rfl (by rw [hy2]; omega) (by omega) ?_)
  have hz : Sl (w2.alloc (.cells (madeCells #[.int .i64 0] m) 3)) 1 (.slice (some ⟨w2.heap.size, 0, none⟩) m m) (List.replicate m (0 : Int)).length (ints (List.replicate m (0 : Int))) := by
    have h1 : (madeCells #[Value.int .i64 0] m).toList = ints (List.replicate m (0 : Int)) := by
      rw [toList_madeCells_one]
      simp [ints]
    have := lit_slF w2 (ints (List.replicate m (0 : Int))) 3 w2.heap.size m 1 rfl (by simp [ints])
    rw [← h1] at this ⊢
    simpa using this
  refine (put_any g v2 (xs ++ [(l.length : Int)] ++ l) (List.replicate m 0) (by have := HM.out; simp; omega) _ _ (R2.out.alloc _) hz).mono ?_
  rintro e w3 ⟨rfl, v3, hr3, hp3⟩
  have P3 := Lib.hid ((P2.out.trans (puts_alloc w2 g v2 _ hg2)).trans hp3)
  have R3 : Hid (RowS w3 g v3 (xs ++ padL l room)) := Lib.hid (by
    have : xs ++ padL l room = xs ++ [(l.length : Int)] ++ l ++ List.replicate m 0 := by rw [HM.out]; simp [padL]
    rw [this]
    exact hr3)
  clear hr3 hp3 hz
  go_wp2
  go_end0
  refine ⟨rfl, v3, R3.out, P3.out⟩
theorem padL_len {l : List Int} {room : Nat} (h : l.length ≤ room) : (padL l room).length = room + 1 := by simp [padL]; omega
end Go.Proofs.YtnnnljfdjdehaaaDoor

namespace Go.Proofs.YtnnnljfdjdehaaaDoor
set_option linter.unusedSimpArgs false
set_option linter.unusedVariables false
open Go.RowKit Go.Sort

def rowC {α : Type} (f : α → List Value) (l : List α) : List Value := l.flatMap f
theorem rowC_len {α : Type} {f : α → List Value} {s : Nat} (hs : ∀ x, (f x).length = s) : ∀ l : List α, (rowC f l).length = l.length * s
  | [] => by simp [rowC]
  | x :: r => by
    have := rowC_len hs r
    unfold rowC at this ⊢
    rw [List.flatMap_cons, List.length_append, this, hs x, List.length_cons, Nat.succ_mul]; omega
theorem rowC_at {α : Type} {f : α → List Value} {s : Nat} (hs : ∀ x, (f x).length = s) : ∀ (l : List α) (k j : Nat) (h : k < l.length), j < s → (rowC f l)[k * s + j]? = (f l[k])[j]?
  | x :: r, 0, j, _, hj => by
    unfold rowC
    rw [List.flatMap_cons, List.getElem?_append_left (by rw [hs]; omega)]; simp
  | x :: r, k + 1, j, h, hj => by
    have := rowC_at hs r k j (by simpa using h) hj
    unfold rowC at this ⊢
    rw [List.flatMap_cons, List.getElem?_append_right (by rw [hs, Nat.succ_mul]; omega)]
    rw [show (k + 1) * s + j - (f x).length = k * s + j by rw [hs, Nat.succ_mul]; omega, this]
    rfl

end Go.Proofs.YtnnnljfdjdehaaaDoor

namespace Go.Proofs.YtnnnljfdjdehaaaDoor
set_option linter.unusedSimpArgs false
set_option linter.unusedVariables false
open Go.RowKit Go.Sort

/-- A channel, a slot, a partition, a system. -/
structure Chn where
  kd : Int
  fr : Int
  tt : Int
structure Slt where
  pt : Int
  tk : Int
structure Prt where
  code : List Ins
  inn : List Int
structure SysD where
  parts : List Prt
  chans : List Chn
  slots : List Slt
def chC (c : Chn) : List Value := [.int .i64 c.kd, .int .i64 c.fr, .int .i64 c.tt]
def slC (c : Slt) : List Value := [.int .i64 c.pt, .int .i64 c.tk]
def prC (p : Value × Value) : List Value := [p.1, p.2]

theorem chan_cells {w : World} {b off : Nat} {l : List Chn} (hc : ∀ j u, (rowC chC l)[j]? = some u → w.cell? ⟨b, off + j, none⟩ = some u) (k : Nat) (h : k < l.length) :
    w.cell? ⟨b, off + k * 3, none⟩ = some (.int .i64 l[k].kd) ∧ w.cell? ⟨b, off + k * 3 + 1, none⟩ = some (.int .i64 l[k].fr) ∧ w.cell? ⟨b, off + k * 3 + 2, none⟩ = some (.int .i64 l[k].tt) := by
  refine ⟨?_, ?_, ?_⟩
  · exact hc (k * 3) _ (by have := rowC_at (s := 3) (f := chC) (fun _ => rfl) l k 0 h (by decide); simpa [chC] using this)
  · exact hc (k * 3 + 1) _ (by rw [rowC_at (s := 3) (f := chC) (fun _ => rfl) l k 1 h (by decide)]; rfl)
  · exact hc (k * 3 + 2) _ (by rw [rowC_at (s := 3) (f := chC) (fun _ => rfl) l k 2 h (by decide)]; rfl)
theorem slot_cells {w : World} {b off : Nat} {l : List Slt} (hc : ∀ j u, (rowC slC l)[j]? = some u → w.cell? ⟨b, off + j, none⟩ = some u) (k : Nat) (h : k < l.length) :
    w.cell? ⟨b, off + k * 2, none⟩ = some (.int .i64 l[k].pt) ∧ w.cell? ⟨b, off + k * 2 + 1, none⟩ = some (.int .i64 l[k].tk) := by
  refine ⟨?_, ?_⟩
  · exact hc (k * 2) _ (by have := rowC_at (s := 2) (f := slC) (fun _ => rfl) l k 0 h (by decide); simpa [slC] using this)
  · exact hc (k * 2 + 1) _ (by rw [rowC_at (s := 2) (f := slC) (fun _ => rfl) l k 1 h (by decide)]; rfl)
theorem part_cells {w : World} {b off : Nat} {l : List (Value × Value)} (hc : ∀ j u, (rowC prC l)[j]? = some u → w.cell? ⟨b, off + j, none⟩ = some u) (k : Nat) (h : k < l.length) :
    w.cell? ⟨b, off + k * 2, none⟩ = some l[k].1 ∧ w.cell? ⟨b, off + k * 2 + 1, none⟩ = some l[k].2 := by
  refine ⟨?_, ?_⟩
  · exact hc (k * 2) _ (by have := rowC_at (s := 2) (f := prC) (fun _ => rfl) l k 0 h (by decide); simpa [prC] using this)
  · exact hc (k * 2 + 1) _ (by rw [rowC_at (s := 2) (f := prC) (fun _ => rfl) l k 1 h (by decide)]; rfl)

/-- A part's two slices hold its code and what comes in. -/
structure PrtR (w : World) (c i : Value) (p : Prt) : Prop where
  code : Sl w 4 c p.code.length (codeC p.code)
  inn : Sl w 1 i p.inn.length (ints p.inn)
theorem PrtR.up {w w' : World} {c i : Value} {p : Prt} (h : PrtR w c i p) (hb : Below w.heap.size w w') : PrtR w' c i p := ⟨h.code.up hb, h.inn.up hb⟩
def PartsR (w : World) (v : Value) (ps : List Prt) : Prop :=
  ∃ vs : List (Value × Value), vs.length = ps.length ∧ Sl w 2 v ps.length (rowC prC vs) ∧ ∀ k (hk : k < ps.length) (hk' : k < vs.length), PrtR w vs[k].1 vs[k].2 ps[k]
theorem PartsR.up {w w' : World} {v : Value} {ps : List Prt} (h : PartsR w v ps) (hb : Below w.heap.size w w') : PartsR w' v ps := by
  obtain ⟨vs, h1, h2, h3⟩ := h
  exact ⟨vs, h1, h2.up hb, fun k hk hk' => (h3 k hk hk').up hb⟩
theorem PartsR.form {w : World} {v : Value} {ps : List Prt} (h : PartsR w v ps) : ∃ ao cap, v = .slice ao ps.length cap := by
  obtain ⟨vs, h1, h2, h3⟩ := h
  exact h2.form
theorem PartsR.open {w : World} {v : Value} {ps : List Prt} (h : PartsR w v ps) (hn : 0 < ps.length) :
    ∃ b off cap, v = .slice (some ⟨b, off, none⟩) ps.length cap ∧ ps.length ≤ cap ∧ b < w.heap.size ∧ ∀ k (hk : k < ps.length), ∃ c i, w.cell? ⟨b, off + k * 2, none⟩ = some c ∧ w.cell? ⟨b, off + k * 2 + 1, none⟩ = some i ∧ PrtR w c i ps[k] := by
  obtain ⟨vs, h1, h2, h3⟩ := h
  obtain ⟨b, off, cap, e, hcap, hb, hc⟩ := h2.open hn
  refine ⟨b, off, cap, e, hcap, hb, fun k hk => ?_⟩
  have hk' : k < vs.length := by omega
  obtain ⟨c0, c1⟩ := part_cells hc k hk'
  exact ⟨_, _, c0, c1, h3 k hk hk'⟩

/-- A system's three slices. -/
structure Sys (w : World) (vp vc vs : Value) (S : SysD) : Prop where
  p : PartsR w vp S.parts
  c : Sl w 3 vc S.chans.length (rowC chC S.chans)
  s : Sl w 2 vs S.slots.length (rowC slC S.slots)
theorem Sys.up {w w' : World} {vp vc vs : Value} {S : SysD} (h : Sys w vp vc vs S) (hb : Below w.heap.size w w') : Sys w' vp vc vs S := ⟨h.p.up hb, h.c.up hb, h.s.up hb⟩
/-- Its instructions' numbers are numbers of 64 bits. -/
def SysD.ok (S : SysD) : Prop := ∀ p ∈ S.parts, ∀ j (hj : j < p.code.length), p.code[j].ok

/-! What conf.Check asks. -/
def countsB (S : SysD) : Bool := decide (1 ≤ S.parts.length ∧ S.parts.length ≤ 4 ∧ S.chans.length ≤ 6 ∧ 1 ≤ S.slots.length ∧ S.slots.length ≤ 6) && !(S.parts.any fun p => decide (12 < p.inn.length))
def firstP : List Prt → Int
  | [] => 0
  | p :: r => if chkC p.code = 0 then firstP r else chkC p.code
theorem firstP_at : ∀ (l : List Prt) (k : Nat) (h : k < l.length), (∀ j (hj : j < l.length), j < k → chkC l[j].code = 0) → chkC l[k].code ≠ 0 → firstP l = chkC l[k].code
  | i :: r, 0, _, _, hne => by rw [firstP, if_neg (show ¬ chkC i.code = 0 from hne)]; rfl
  | i :: r, k + 1, h, hz, hne => by
    rw [firstP, if_pos (show chkC i.code = 0 from hz 0 (by simp) (by omega))]
    exact firstP_at r k (by simpa using h) (fun j hj hlt => hz (j + 1) (by simpa using hj) (by omega)) hne
theorem firstP_all : ∀ l : List Prt, (∀ j (hj : j < l.length), chkC l[j].code = 0) → firstP l = 0
  | [], _ => rfl
  | i :: r, hz => by
    rw [firstP, if_pos (show chkC i.code = 0 from hz 0 (by simp))]
    exact firstP_all r (fun j hj => hz (j + 1) (by simpa using hj))
theorem firstP_zero : ∀ {l : List Prt}, firstP l = 0 → ∀ j (hj : j < l.length), chkC l[j].code = 0
  | i :: r, h, j, hj => by
    rw [firstP] at h
    by_cases hc : chkC i.code = 0
    · rw [if_pos hc] at h
      cases j with
      | zero => exact hc
      | succ j => exact firstP_zero h j (by simpa using hj)
    · rw [if_neg hc] at h; exact absurd h hc
def kindBad (c : Chn) : Bool := c.kd != 1 && c.kd != 2
def placeBad (n : Nat) (c : Chn) : Bool := !(withinB c.fr 0 (n - 1)) || !(withinB c.tt 0 (n - 1)) || c.fr == c.tt
def slotBad (n : Nat) (t : Slt) : Bool := !(withinB t.pt 0 (n - 1)) || !(withinB t.tk 1 8)
def placesB (S : SysD) : Bool := !(S.chans.any (placeBad S.parts.length)) && !(S.slots.any (slotBad S.parts.length))
/-- A channel that one may not put to (get of). -/
def putBad (l : List Chn) (me : Int) (c : Int) : Bool := match l[c.toNat]? with | none => true | some x => x.fr != me
def getBad (l : List Chn) (me : Int) (c : Int) : Bool := match l[c.toNat]? with | none => true | some x => x.tt != me
def nameBad (l : List Chn) (me : Int) (p : Prt) : Bool := (chanL p.code 12 6).any (putBad l me) || (chanL p.code 13 6).any (getBad l me)
def namesFrom (l : List Chn) : Nat → List Prt → Bool
  | _, [] => true
  | k, p :: r => if nameBad l k p then false else namesFrom l (k + 1) r
def namesB (S : SysD) : Bool := namesFrom S.chans 0 S.parts
def chkS (S : SysD) : Int :=
  if countsB S = false then 2 else if firstP S.parts ≠ 0 then firstP S.parts else if S.chans.any kindBad = true then 4 else if placesB S = false then 3 else if namesB S = false then 1 else 0
end Go.Proofs.YtnnnljfdjdehaaaDoor

namespace Go.Proofs.YtnnnljfdjdehaaaDoor
set_option linter.unusedSimpArgs false
set_option linter.unusedVariables false
open Go.RowKit Go.Sort

/-- What Check tells of a line of so many numbers. -/
def chkL (kind : Int) (n : Nat) : Int := if kind = 1 then (if 1 < n then 2 else 0) else if kind = 2 then (if 3 < n then 2 else 0) else 4
theorem chkL_zero {kind : Int} {n : Nat} (h : chkL kind n = 0) : (kind = 1 ∧ n ≤ 1) ∨ (kind = 2 ∧ n ≤ 3) := by
  unfold chkL at h
  split at h
  · rename_i h1
    split at h
    · omega
    · omega
  · split at h
    · split at h
      · omega
      · omega
    · omega
def roomI (kind : Int) : Int := if kind = 1 then 1 else if kind = 2 then 3 else 0

theorem room_any (kind : Int) (w : World) : Calls Tryd.prog 96 #[.int .i64 kind] w fun e w' => e = .returned (.int .i64 (roomI kind)) ∧ w' = w := by
  unfold roomI
  by_cases h1 : kind = 1
  · subst h1
    go_enter Tryd.func96, Tryd.ntmps96
    go_wp2
    all_goals go_ret
    all_goals exact ⟨rfl, rfl⟩
  · by_cases h2 : kind = 2
    · subst h2
      go_enter Tryd.func96, Tryd.ntmps96
      go_wp2
      all_goals go_ret
      all_goals exact ⟨rfl, rfl⟩
    · rw [if_neg h1, if_neg h2]
      have h1' : (kind == 1) = false := by simpa using h1
      have h2' : (kind == 2) = false := by simpa using h2
      go_enter Tryd.func96, Tryd.ntmps96
      go_wp2
      all_goals go_ret
      all_goals exact ⟨rfl, rfl⟩

set_option maxHeartbeats 1000000 in
theorem chkLine_any (kind : Int) (ao : Option Addr) (n cap : Nat) (w : World) (c : Int) (hc : chkL kind n = c) : Calls Tryd.prog 67 #[.int .i64 kind, .agg #[.slice ao n cap]] w fun e w' => e = .returned (.int .i64 c) ∧ Below w.heap.size w w' := by
  subst hc
  unfold chkL
  by_cases h1 : kind = 1
  · subst h1
    go_enter Tryd.func67, Tryd.ntmps67
    go_wp2_with (go_at_call 96; refine (room_any _ _).mono ?_; rintro e w' ⟨rfl, rfl⟩; simp only [roomI])
    all_goals go_ret
    all_goals exact ⟨ret_int (by simp; try omega), (by repeat (first | exact Below.refl _ _ | assumption | refine Below.drew ?_ | refine Below.alloc ?_ (by first | (simp; done) | (simp; omega)) _ | refine Below.setCell ?_ (by first | (simp; done) | (simp; omega)) _))⟩
  · by_cases h2 : kind = 2
    · subst h2
      go_enter Tryd.func67, Tryd.ntmps67
      go_wp2_with (go_at_call 96; refine (room_any _ _).mono ?_; rintro e w' ⟨rfl, rfl⟩; simp only [roomI])
      all_goals go_ret
      all_goals exact ⟨ret_int (by simp; try omega), (by repeat (first | exact Below.refl _ _ | assumption | refine Below.drew ?_ | refine Below.alloc ?_ (by first | (simp; done) | (simp; omega)) _ | refine Below.setCell ?_ (by first | (simp; done) | (simp; omega)) _))⟩
    · have hr : roomI kind = 0 := by unfold roomI; rw [if_neg h1, if_neg h2]
      rw [if_neg h1, if_neg h2]
      go_enter Tryd.func67, Tryd.ntmps67
      go_wp2_with (go_at_call 96; refine (room_any _ _).mono ?_; rw [hr]; rintro e w' ⟨rfl, rfl⟩)
      all_goals go_ret
      all_goals exact ⟨rfl, (by repeat (first | exact Below.refl _ _ | assumption | refine Below.drew ?_ | refine Below.alloc ?_ (by first | (simp; done) | (simp; omega)) _ | refine Below.setCell ?_ (by first | (simp; done) | (simp; omega)) _))⟩

def kindL (kind : Int) : Bool := kind == 1 || kind == 2
theorem kind_any (kind : Int) (w : World) : Calls Tryd.prog 32 #[.int .i64 kind] w fun e w' => e = .returned (.bool (kindL kind)) ∧ w' = w := by
  unfold kindL
  generalize h1 : (kind == 1) = p
  generalize h2 : (kind == 2) = q
  cases p <;> cases q
  all_goals
    go_enter Tryd.func32, Tryd.ntmps32
    go_wp2
    all_goals go_ret
    all_goals exact ⟨rfl, rfl⟩

set_option maxHeartbeats 1000000 in
theorem chkLineRef_any (kind : Int) (ao : Option Addr) (n cap : Nat) (w : World) (c : Int) (hc : chkL kind n = c) : Calls Tryd.prog 26 #[.int .i64 kind, .agg #[.slice ao n cap]] w fun e w' => e = .returned (.int .i64 c) ∧ Below w.heap.size w w' := by
  subst hc
  unfold chkL
  by_cases h1 : kind = 1
  · subst h1
    go_enter Tryd.func26, Tryd.ntmps26
    go_wp2_with (go_at_call 32; refine (kind_any _ _).mono ?_; rintro e w' ⟨rfl, rfl⟩; rw [show kindL 1 = true from rfl])
    all_goals go_ret
    all_goals exact ⟨ret_int (by simp; try omega), (by repeat (first | exact Below.refl _ _ | assumption | refine Below.drew ?_ | refine Below.alloc ?_ (by first | (simp; done) | (simp; omega)) _ | refine Below.setCell ?_ (by first | (simp; done) | (simp; omega)) _))⟩
  · by_cases h2 : kind = 2
    · subst h2
      go_enter Tryd.func26, Tryd.ntmps26
      go_wp2_with (go_at_call 32; refine (kind_any _ _).mono ?_; rintro e w' ⟨rfl, rfl⟩; rw [show kindL 2 = true from rfl])
      all_goals go_ret
      all_goals exact ⟨ret_int (by simp; try omega), (by repeat (first | exact Below.refl _ _ | assumption | refine Below.drew ?_ | refine Below.alloc ?_ (by first | (simp; done) | (simp; omega)) _ | refine Below.setCell ?_ (by first | (simp; done) | (simp; omega)) _))⟩
    · have hr : kindL kind = false := by unfold kindL; simp [h1, h2]
      rw [if_neg h1, if_neg h2]
      go_enter Tryd.func26, Tryd.ntmps26
      go_wp2_with (go_at_call 32; refine (kind_any _ _).mono ?_; rw [hr]; rintro e w' ⟨rfl, rfl⟩)
      all_goals go_ret
      all_goals exact ⟨rfl, (by repeat (first | exact Below.refl _ _ | assumption | refine Below.drew ?_ | refine Below.alloc ?_ (by first | (simp; done) | (simp; omega)) _ | refine Below.setCell ?_ (by first | (simp; done) | (simp; omega)) _))⟩
end Go.Proofs.YtnnnljfdjdehaaaDoor

namespace Go.Proofs.YtnnnljfdjdehaaaDoor
set_option linter.unusedSimpArgs false
set_option linter.unusedVariables false
open Go.RowKit Go.Sort

/-- A cell but its Out. -/
structure Cel where
  at_ : Int
  r0 : Int
  r1 : Int
  r2 : Int
  r3 : Int
  m0 : Int
  m1 : Int
  m2 : Int
  m3 : Int
  m4 : Int
  m5 : Int
  m6 : Int
  m7 : Int
  read : Int
  en : Int
/-- A cell's value; o: its Out's slice. -/
def Cel.v (c : Cel) (o : Value) : Value := .agg #[.int .i64 c.at_, .int .i64 c.r0, .int .i64 c.r1, .int .i64 c.r2, .int .i64 c.r3, .int .i64 c.m0, .int .i64 c.m1, .int .i64 c.m2, .int .i64 c.m3, .int .i64 c.m4, .int .i64 c.m5, .int .i64 c.m6, .int .i64 c.m7, .int .i64 c.read, o, .int .i64 c.en]
/-- Is it right? n: Out's length. -/
def Cel.fine (c : Cel) (n : Nat) : Bool := decide (0 ≤ c.at_) && decide (c.at_ ≤ 20) && (decide (0 ≤ c.read) && decide (c.read ≤ 12)) && (decide (0 ≤ c.en) && decide (c.en ≤ 2)) && decide (n ≤ 16)
def Cel.err (c : Cel) (n : Nat) : Int := if c.fine n then 0 else 1
theorem fine_iff (c : Cel) (n : Nat) : c.fine n = true ↔ (0 ≤ c.at_ ∧ c.at_ ≤ 20 ∧ 0 ≤ c.read ∧ c.read ≤ 12 ∧ 0 ≤ c.en ∧ c.en ≤ 2 ∧ n ≤ 16) := by
  unfold Cel.fine; simp only [Bool.and_eq_true, decide_eq_true_eq]; omega
theorem err_yes {c : Cel} {n : Nat} (h : 0 ≤ c.at_ ∧ c.at_ ≤ 20 ∧ 0 ≤ c.read ∧ c.read ≤ 12 ∧ 0 ≤ c.en ∧ c.en ≤ 2 ∧ n ≤ 16) : (0 : Int) = c.err n := by
  unfold Cel.err; rw [(fine_iff c n).2 h]; rfl
theorem err_no {c : Cel} {n : Nat} (h : ¬ (0 ≤ c.at_ ∧ c.at_ ≤ 20 ∧ 0 ≤ c.read ∧ c.read ≤ 12 ∧ 0 ≤ c.en ∧ c.en ≤ 2 ∧ n ≤ 16)) : (1 : Int) = c.err n := by
  unfold Cel.err; rw [if_neg (fun e => h ((fine_iff c n).1 e))]

set_option maxRecDepth 100000 in
set_option maxHeartbeats 2000000 in
theorem cellCheck_any (c : Cel) (ao : Option Addr) (n cap : Nat) (w : World) : Calls Tryd.prog 66 #[c.v (.slice ao n cap)] w fun e w' => e = .returned (.int .i64 (c.err n)) ∧ Below w.heap.size w w' := by
  unfold Cel.v
  go_enter Tryd.func66, Tryd.ntmps66
  go_wp2
  all_goals go_ret
  all_goals refine ⟨ret_int ?_, (by repeat (first | exact Below.refl _ _ | assumption | refine Below.drew ?_ | refine Below.alloc ?_ (by first | (simp; done) | (simp; omega)) _ | refine Below.setCell ?_ (by first | (simp; done) | (simp; omega)) _))⟩
  all_goals first
    | (refine err_no ?_; simp_all; omega)
    | (refine err_no ?_; omega)
    | (refine err_yes ?_; omega)
    | (refine err_no ?_; simp_all; done)
    | (refine err_yes ?_; rename_i h1 h2; simp only [bne_eq_false_iff_eq] at h1; omega)
    | (exfalso; simp_all; done)

set_option maxRecDepth 100000 in
set_option maxHeartbeats 2000000 in
/-- The reference's CellFine. -/
theorem cellFine_any (c : Cel) (ao : Option Addr) (n cap : Nat) (w : World) : Calls Tryd.prog 25 #[c.v (.slice ao n cap)] w fun e w' => e = .returned (.bool (c.fine n)) ∧ Below w.heap.size w w' := by
  unfold Cel.v
  have hf : c.fine n = (withinB c.at_ 0 20 && withinB c.read 0 12 && withinB c.en 0 2 && decide ((n : Int) ≤ 16)) := by
    unfold Cel.fine withinB
    congr 1
    simp
    omega
  go_enter Tryd.func25, Tryd.ntmps25
  go_wp2_with (go_at_call 24; refine (within_any _ _ _ _).mono ?_; rintro e w' ⟨rfl, rfl⟩)
  all_goals go_ret
  all_goals refine ⟨ret_bool ?_, (by repeat (first | exact Below.refl _ _ | assumption | refine Below.drew ?_ | refine Below.alloc ?_ (by first | (simp; done) | (simp; omega)) _ | refine Below.setCell ?_ (by first | (simp; done) | (simp; omega)) _))⟩
  all_goals (rw [hf]; simp_all)

/-- '==' of two arrays that are the same. -/
theorem eq26 (a b c d : Int) (w : World) : (Op.equalIn 10000 59 (.agg #[.int .i64 a, .int .i64 b, .int .i64 c, .int .i64 d]) (.agg #[.int .i64 a, .int .i64 b, .int .i64 c, .int .i64 d])).run Tryd.prog w = .ok true w := by
  have u3 := Tryd.underlying3
  have a3 := Tryd.isAgg3
  have z3 := Tryd.sizeOf3
  rw [show (10000 : Nat) = 9999 + 1 from rfl, Op.equalIn]
  simp only [Sem.run_bind, run_underlying Tryd.underlying59, Result.andThen_ok]
  simp only [Std.Legacy.Range.forIn_eq_forIn_range', Std.Legacy.Range.size, Nat.sub_zero, Nat.add_sub_cancel, Nat.div_one, List.range'_succ, List.range'_zero, List.forIn_cons, List.forIn_nil]
  go_simp
theorem eq27 (a b c d e f g h : Int) (w : World) : (Op.equalIn 10000 60 (.agg #[.int .i64 a, .int .i64 b, .int .i64 c, .int .i64 d, .int .i64 e, .int .i64 f, .int .i64 g, .int .i64 h]) (.agg #[.int .i64 a, .int .i64 b, .int .i64 c, .int .i64 d, .int .i64 e, .int .i64 f, .int .i64 g, .int .i64 h])).run Tryd.prog w = .ok true w := by
  have u3 := Tryd.underlying3
  have a3 := Tryd.isAgg3
  have z3 := Tryd.sizeOf3
  rw [show (10000 : Nat) = 9999 + 1 from rfl, Op.equalIn]
  simp only [Sem.run_bind, run_underlying Tryd.underlying60, Result.andThen_ok]
  simp only [Std.Legacy.Range.forIn_eq_forIn_range', Std.Legacy.Range.size, Nat.sub_zero, Nat.add_sub_cancel, Nat.div_one, List.range'_succ, List.range'_zero, List.forIn_cons, List.forIn_nil]
  go_simp

set_option maxRecDepth 100000 in
set_option maxHeartbeats 2000000 in
/-- SameCells of cells that are the same, Outs too. -/
theorem sameCells_yes (c : Cel) (xs : List Int) (v u : Value) (w : World) (hx : Sl w 1 v xs.length (ints xs)) (hy : Sl w 1 u xs.length (ints xs)) (hm : xs.length < 4294967281) :
    Calls Tryd.prog 39 #[c.v v, c.v u] w fun e w' => e = .returned (.bool true) ∧ Below w.heap.size w w' := by
  unfold Cel.v
  have HX := Lib.hid hx
  have HY := Lib.hid hy
  clear hx hy
  have q26 := eq26 c.r0 c.r1 c.r2 c.r3
  have q27 := eq27 c.m0 c.m1 c.m2 c.m3 c.m4 c.m5 c.m6 c.m7
  go_enter Tryd.func39, Tryd.ntmps39
  go_wp2_with (go_at_call 14; refine (sameInts_any xs xs _ _ _ (HX.out.up (by repeat (first | exact Below.refl _ _ | assumption | refine Below.drew ?_ | refine Below.alloc ?_ (by first | (simp; done) | (simp; omega)) _ | refine Below.setCell ?_ (by first | (simp; done) | (simp; omega)) _))) (HY.out.up (by repeat (first | exact Below.refl _ _ | assumption | refine Below.drew ?_ | refine Below.alloc ?_ (by first | (simp; done) | (simp; omega)) _ | refine Below.setCell ?_ (by first | (simp; done) | (simp; omega)) _))) hm true (by simp)).mono ?_; rintro e w1 ⟨rfl, b1⟩)
  go_ret
  refine ⟨rfl, Below.trans ?_ (b1.mono (by simp; omega))⟩
  exact (by repeat (first | exact Below.refl _ _ | assumption | refine Below.drew ?_ | refine Below.alloc ?_ (by first | (simp; done) | (simp; omega)) _ | refine Below.setCell ?_ (by first | (simp; done) | (simp; omega)) _))
end Go.Proofs.YtnnnljfdjdehaaaDoor

namespace Go.Proofs.YtnnnljfdjdehaaaDoor
set_option linter.unusedSimpArgs false
set_option linter.unusedVariables false
open Go.RowKit Go.Sort

theorem bit_any (b : Bool) (w : World) : Calls Tryd.prog 94 #[.bool b] w fun e w' => e = .returned (.int .i64 (if b then 1 else 0)) ∧ w' = w := by
  cases b
  all_goals
    go_enter Tryd.func94, Tryd.ntmps94
    go_wp2
    go_ret
    exact ⟨rfl, rfl⟩
def kindB (k : Int) : Bool := k == 1 || k == 2
theorem kindFine_any (k : Int) (w : World) : Calls Tryd.prog 32 #[.int .i64 k] w fun e w' => e = .returned (.bool (kindB k)) ∧ w' = w := by
  by_cases h : k = 1
  · subst h
    go_enter Tryd.func32, Tryd.ntmps32
    go_wp2
    all_goals go_ret
    all_goals exact ⟨rfl, rfl⟩
  · have h' : (k == 1) = false := by simpa using h
    go_enter Tryd.func32, Tryd.ntmps32
    go_wp2
    all_goals go_ret
    all_goals exact ⟨ret_bool (by simp [kindB, h']), rfl⟩
theorem cellReg_any (a : Int) (w : World) : Calls Tryd.prog 104 #[.int .i64 a] w fun e w' => e = .returned (.bool (regB a)) ∧ w' = w := by
  by_cases h : 0 ≤ a
  all_goals
  go_enter Tryd.func104, Tryd.ntmps104
  go_wp2
  all_goals go_ret
  all_goals exact ⟨ret_bool (by simp [regB]; try omega), rfl⟩

/-- What Reply answers as its error. -/
def replyE (f : Bool) (k reg flag kind : Int) : Int := if !f then 1 else if (k != 12 && k != 13) || !kindB kind then 4 else if !regB reg || !regB flag then 3 else 0
def wantV (k ch reg flag val : Int) : Value := .agg #[.int .i64 k, .int .i64 ch, .int .i64 reg, .int .i64 flag, .int .i64 val]

set_option maxRecDepth 100000 in
set_option maxHeartbeats 4000000 in
theorem checkReply_any (c : Cel) (ao : Option Addr) (n cap : Nat) (k ch reg flag val kind : Int) (f : Bool) (hf : c.fine n = f) (w : World) :
    Calls Tryd.prog 93 #[c.v (.slice ao n cap), wantV k ch reg flag val, .int .i64 kind] w fun e w' => e = .returned (.int .i64 (replyE f k reg flag kind)) ∧ Below w.heap.size w w' := by
  have he : c.err n = if f then 0 else 1 := by rw [← hf]; rfl
  have hcc : ∀ w, Calls Tryd.prog 66 #[c.v (.slice ao n cap)] w fun e w' => e = .returned (.int .i64 (if f then 0 else 1)) ∧ Below w.heap.size w w' := fun w => he ▸ cellCheck_any c ao n cap w
  have HC := Lib.hid hcc
  clear he hf hcc
  unfold Cel.v at HC
  unfold Cel.v wantV
  cases f
  · go_enter Tryd.func93, Tryd.ntmps93
    go_wp2_with fail
    refine (HC.out _).mono ?_
    rintro e w1 ⟨rfl, b1⟩
    go_wp2
    go_ret
    refine ⟨rfl, Below.trans ?_ (b1.mono (by simp; omega))⟩
    exact (by repeat (first | exact Below.refl _ _ | assumption | refine Below.drew ?_ | refine Below.alloc ?_ (by first | (simp; done) | (simp; omega)) _ | refine Below.setCell ?_ (by first | (simp; done) | (simp; omega)) _))
  · go_enter Tryd.func93, Tryd.ntmps93
    go_wp2_with fail
    refine (HC.out _).mono ?_
    rintro e w1 ⟨rfl, b1⟩
    have a0 : w1.cell? ⟨w.heap.size + 1, 0, none⟩ = some (.int .i64 k) := bcl b1 (by simp) (by simp)
    have a2 : w1.cell? ⟨w.heap.size + 1, 2, none⟩ = some (.int .i64 reg) := bcl b1 (by simp) (by simp)
    have a3 : w1.cell? ⟨w.heap.size + 1, 3, none⟩ = some (.int .i64 flag) := bcl b1 (by simp) (by simp)
    have u1 : Below w.heap.size w w1 := by
      refine Below.trans ?_ (b1.mono (by simp; omega))
      exact (by repeat (first | exact Below.refl _ _ | assumption | refine Below.drew ?_ | refine Below.alloc ?_ (by first | (simp; done) | (simp; omega)) _ | refine Below.setCell ?_ (by first | (simp; done) | (simp; omega)) _))
    clear b1 HC
    go_wp2_with (go_at_call 104; refine (cellReg_any _ _).mono ?_; rintro e w' ⟨rfl, rfl⟩)
    all_goals go_ret
    all_goals refine ⟨ret_int ?_, u1⟩
    all_goals (simp_all [replyE, kindB]; done)

end Go.Proofs.YtnnnljfdjdehaaaDoor

namespace Go.Proofs.YtnnnljfdjdehaaaDoor
set_option linter.unusedSimpArgs false
set_option linter.unusedVariables false
open Go.RowKit Go.Sort

/-- d: the program's error; i: how many come in; f: is the cell right; r: how many it has read. -/
def stepE (d : Int) (i : Nat) (f : Bool) (r : Int) : Int := if d != 0 then d else if 12 < i then 2 else if !f then 1 else if (i : Int) < r then 1 else 0
def partV (v u : Value) : Value := .agg #[v, u]

set_option maxRecDepth 100000 in
set_option maxHeartbeats 4000000 in
theorem checkStep_any (l : List Ins) (v : Value) (iao : Option Addr) (i icap : Nat) (c : Cel) (ao : Option Addr) (n cap : Nat) (d : Int) (hd : chkC l = d) (f : Bool) (hf : c.fine n = f) (w : World) (he : Env w) (hS : Sl w 4 v l.length (codeC l)) :
    Calls Tryd.prog 88 #[partV v (.slice iao i icap), c.v (.slice ao n cap)] w fun e w' => e = .returned (.int .i64 (stepE d i f c.read)) ∧ Below w.heap.size w w' := by
  have hE : c.err n = if f then 0 else 1 := by rw [← hf]; rfl
  have hcc : ∀ w, Calls Tryd.prog 66 #[c.v (.slice ao n cap)] w fun e w' => e = .returned (.int .i64 (if f then 0 else 1)) ∧ Below w.heap.size w w' := fun w => hE ▸ cellCheck_any c ao n cap w
  have hkk : ∀ w, Env w → Sl w 4 v l.length (codeC l) → Calls Tryd.prog 49 #[v] w fun e w' => e = .returned (.int .i64 d) ∧ Below w.heap.size w w' := fun w he hS => hd ▸ codeCheck_any l v w he hS
  have HC := Lib.hid hcc
  have HK := Lib.hid hkk
  have HS := Lib.hid hS
  clear hE hf hcc hkk hS hd
  unfold Cel.v at HC
  unfold Cel.v partV
  go_enter Tryd.func88, Tryd.ntmps88
  go_wp2_with fail
  refine (HK.out _ (he.up (by repeat (first | exact Below.refl _ _ | assumption | refine Below.drew ?_ | refine Below.alloc ?_ (by first | (simp; done) | (simp; omega)) _ | refine Below.setCell ?_ (by first | (simp; done) | (simp; omega)) _))) (HS.out.up (by repeat (first | exact Below.refl _ _ | assumption | refine Below.drew ?_ | refine Below.alloc ?_ (by first | (simp; done) | (simp; omega)) _ | refine Below.setCell ?_ (by first | (simp; done) | (simp; omega)) _)))).mono ?_
  rintro e w1 ⟨rfl, b1⟩
  have k0 : w1.cell? ⟨w.heap.size + 1, 0, none⟩ = some (.int .i64 c.at_) := bcl b1 (by simp) (by simp)
  have k1 : w1.cell? ⟨w.heap.size + 1, 1, none⟩ = some (.int .i64 c.r0) := bcl b1 (by simp) (by simp)
  have k2 : w1.cell? ⟨w.heap.size + 1, 2, none⟩ = some (.int .i64 c.r1) := bcl b1 (by simp) (by simp)
  have k3 : w1.cell? ⟨w.heap.size + 1, 3, none⟩ = some (.int .i64 c.r2) := bcl b1 (by simp) (by simp)
  have k4 : w1.cell? ⟨w.heap.size + 1, 4, none⟩ = some (.int .i64 c.r3) := bcl b1 (by simp) (by simp)
  have k5 : w1.cell? ⟨w.heap.size + 1, 5, none⟩ = some (.int .i64 c.m0) := bcl b1 (by simp) (by simp)
  have k6 : w1.cell? ⟨w.heap.size + 1, 6, none⟩ = some (.int .i64 c.m1) := bcl b1 (by simp) (by simp)
  have k7 : w1.cell? ⟨w.heap.size + 1, 7, none⟩ = some (.int .i64 c.m2) := bcl b1 (by simp) (by simp)
  have k8 : w1.cell? ⟨w.heap.size + 1, 8, none⟩ = some (.int .i64 c.m3) := bcl b1 (by simp) (by simp)
  have k9 : w1.cell? ⟨w.heap.size + 1, 9, none⟩ = some (.int .i64 c.m4) := bcl b1 (by simp) (by simp)
  have k10 : w1.cell? ⟨w.heap.size + 1, 10, none⟩ = some (.int .i64 c.m5) := bcl b1 (by simp) (by simp)
  have k11 : w1.cell? ⟨w.heap.size + 1, 11, none⟩ = some (.int .i64 c.m6) := bcl b1 (by simp) (by simp)
  have k12 : w1.cell? ⟨w.heap.size + 1, 12, none⟩ = some (.int .i64 c.m7) := bcl b1 (by simp) (by simp)
  have k13 : w1.cell? ⟨w.heap.size + 1, 13, none⟩ = some (.int .i64 c.read) := bcl b1 (by simp) (by simp)
  have k14 : w1.cell? ⟨w.heap.size + 1, 14, none⟩ = some (.slice ao n cap) := bcl b1 (by simp) (by simp)
  have k15 : w1.cell? ⟨w.heap.size + 1, 15, none⟩ = some (.int .i64 c.en) := bcl b1 (by simp) (by simp)
  have p1 : w1.cell? ⟨w.heap.size, 1, none⟩ = some (.slice iao i icap) := bcl b1 (by simp; omega) (cl_alloc _ (by simp) (by simp))
  have hz1 : w.heap.size + 1 < w1.heap.size := by have := b1.size; simp at this; omega
  have u1 : Below w.heap.size w w1 := by
    refine Below.trans ?_ (b1.mono (by simp; omega))
    exact (by repeat (first | exact Below.refl _ _ | assumption | refine Below.drew ?_ | refine Below.alloc ?_ (by first | (simp; done) | (simp; omega)) _ | refine Below.setCell ?_ (by first | (simp; done) | (simp; omega)) _))
  clear b1 HK
  by_cases h0 : d = 0
  · subst h0
    by_cases h1 : 12 < i
    · have h1' : (12 : Int) < i := by omega
      go_wp2
      go_ret
      exact ⟨ret_int (by simp [stepE, h1]), u1⟩
    · have h1' : ¬ (12 : Int) < i := by omega
      go_wp2_with fail
      refine (HC.out _).mono ?_
      rintro e w2 ⟨rfl, b2⟩
      have k13 := bcl b2 hz1 k13
      have p1 := bcl b2 (Nat.lt_of_succ_lt hz1) p1
      have u2 := u1.trans (b2.mono u1.size)
      clear b2 HC k0 k1 k2 k3 k4 k5 k6 k7 k8 k9 k10 k11 k12 k14 k15
      cases f
      all_goals go_wp2
      all_goals go_ret
      all_goals refine ⟨ret_int ?_, u2⟩
      all_goals first
        | (simp_all [stepE]; done)
        | (unfold stepE; rw [if_neg (by simp), if_neg h1, if_neg (by simp), if_neg (by omega)])
  · have h0' : (d != 0) = true := by simpa using h0
    go_wp2
    go_ret
    exact ⟨ret_int (by simp [stepE, h0]), u1⟩

end Go.Proofs.YtnnnljfdjdehaaaDoor

namespace Go.Proofs.YtnnnljfdjdehaaaDoor
set_option linter.unusedSimpArgs false
set_option linter.unusedVariables false
open Go.RowKit Go.Sort

/-- A cell's sixteen places. -/
def Cel.cs (c : Cel) (o : Value) : Array Value := #[.int .i64 c.at_, .int .i64 c.r0, .int .i64 c.r1, .int .i64 c.r2, .int .i64 c.r3, .int .i64 c.m0, .int .i64 c.m1, .int .i64 c.m2, .int .i64 c.m3, .int .i64 c.m4, .int .i64 c.m5, .int .i64 c.m6, .int .i64 c.m7, .int .i64 c.read, o, .int .i64 c.en]
theorem Cel.v_cs (c : Cel) (o : Value) : c.v o = .agg (c.cs o) := rfl
theorem Cel.cs_set (c : Cel) (o o' : Value) : (c.cs o).setIfInBounds 14 o' = c.cs o' := rfl
theorem Cel.cs_one (c : Cel) (o : Value) (h : o.oneCell' = true) : (c.cs o).all (·.oneCell') = true := by
  simp [Cel.cs, h]
  simp [Value.oneCell']
def celZ : Cel := ⟨0, 0, 0, 0, 0, 0, 0, 0, 0, 0, 0, 0, 0, 0, 0⟩
theorem infoInt : (Tryd.prog.info? 3).map (fun i => (i.zero, i.size, i.bytes)) = some (some (.int .i64 0), 1, 8) := by kernel_rfl
theorem sizeCell : (Tryd.prog.info? 62).map (·.size) = some 16 := by kernel_rfl
theorem row_lt {w : World} {g : Nat} {t : TypeId} {cs : Array Value} (h : Rw w g t cs) : g < w.heap.size := h.lt
set_option maxRecDepth 100000 in
set_option maxHeartbeats 4000000 in
theorem copied_any (c : Cel) (xs : List Int) (hx : xs.length ≤ 1000) (v : Value) (w : World) (hS : Sl w 1 v xs.length (ints xs)) :
    Calls Tryd.prog 89 #[c.v v] w fun e w' => ∃ v', e = .returned (c.v v') ∧ w'.ownsRow w.heap.size 3 1 v' xs.length (ints xs) ∧ Below w.heap.size w w' := by
  obtain ⟨i0, hi, hz0, hz1, hz2⟩ := info_parts infoInt
  rw [Cel.v_cs]
  have h14 : (c.cs v)[14]? = some v := rfl
  have HS := Lib.hid hS
  clear hS
  go_enter Tryd.func89, Tryd.ntmps89
  go_wp2_with (at_builtin; refine wpList_append_nil rfl (.const (.slice none 0 0)) (.tmp 4) 31 rfl 3 i0 _ 1 8 Tryd.underlying31 hi hz0 hz1 hz2 rfl (by decide) rfl v xs.length (ints xs) rfl (HS.out.up (by repeat (first | exact Below.refl _ _ | assumption | refine Below.drew ?_ | refine Below.alloc ?_ (by first | (simp; done) | (simp; omega)) _ | refine Below.setCell ?_ (by first | (simp; done) | (simp; omega)) _))) (ints_cell xs) (by unfold maxLen; omega) (by omega) ?_)
  intro v' W ho hb
  have z2 : w.heap.size + 2 ≤ W.heap.size := by have := hb.size; simp at this; omega
  have D : Below w.heap.size w W := by
    refine Below.trans ?_ (hb.mono (by first | omega | (simp; done) | (simp; omega)))
    exact (by repeat (first | exact Below.refl _ _ | assumption | refine Below.drew ?_ | refine Below.alloc ?_ (by first | (simp; done) | (simp; omega)) _ | refine Below.setCell ?_ (by first | (simp; done) | (simp; omega)) _))
  have r1 : Rw W w.heap.size 62 (c.cs v) := Rw.up ((Rw.new w _ _ rfl).alloc _) hb (by first | omega | (simp; done) | (simp; omega))
  have r2 : Rw W (w.heap.size + 1) 62 (celZ.cs (.slice none 0 0)) := (Rw.new _ 62 _ (by simp)).up hb (by first | omega | (simp; done) | (simp; omega))
  have k1 := r1.cell h14
  have k2 := r1.fr 14
  have hv := own_block ho
  obtain ⟨ao, cap, rfl⟩ := own_form ho
  have R1 := Lib.hid (r1.set 14 (.slice ao xs.length cap))
  have R2 := Lib.hid (r2.set_other (a := ⟨w.heap.size, 14, none⟩) (.slice ao xs.length cap) (by simp))
  have DD := Lib.hid (D.setCell (p := ⟨w.heap.size, 14, none⟩) (Nat.le_refl _) (.slice ao xs.length cap))
  have HO := Lib.hid (own_set (a := ⟨w.heap.size, 14, none⟩) ho (.slice ao xs.length cap) (fun e => by have := hv _ e; simp at this; omega))
  clear r1 r2 D hb ho HS h14
  go_wp2_with (first | (refine wpList_load_row rfl 62 (.tmp 1) rfl w.heap.size rfl 62 (c.cs (.slice ao xs.length cap)) (0, 0) _ R1.out Tryd.underlying62 rfl sizeCell ?_) | (refine wpList_store_row rfl 62 (.tmp 2) (.tmp 7) rfl (w.heap.size + 1) (c.cs (.slice ao xs.length cap)) rfl rfl 62 _ R2.out sizeCell rfl (c.cs_one _ rfl) ?_))
  refine bodyPost_ret (results_cell_row Tryd.results89 _ _ (w.heap.size + 1) 62 (c.cs (.slice ao xs.length cap)) (0, 0) _ rfl (R2.out.row _) Tryd.underlying62 rfl sizeCell) rfl ⟨_, rfl, ?_, below_row DD.out (by omega) _⟩
  exact own_low (own_row HO.out _ (fun e => by have := hv _ e; omega)) (by omega)

end Go.Proofs.YtnnnljfdjdehaaaDoor
