/- A slice of edges, sorted: the library's sort, by its contract. -/
import Derived.Test.YtehhhiodfcdnmaaGreatDoorR26
import Derived.Test.YtehhhiodfcdnmaaGreatDoorFlShelf
import Derived.Test.YtehhhiodfcdnmaaGreatDoorR2
import Derived.Shelf.SlSortCmp.SmallK
import Derived.Lib.SliceRun
import Derived.Deep.MidRow
import Derived.Test.YtehhhiodfcdnmaaGreatDoorR6
namespace Go.Proofs.YtehhhiodfcdnmaaGreatDoor
set_option linter.unusedSimpArgs false
set_option linter.unusedVariables false
set_option maxRecDepth 100000
set_option maxHeartbeats 8000000
open Go.RowKit Go.Sort Go.Shelf Go.Lib
instance : Inhabited Edg := ⟨⟨0, 0⟩⟩
theorem edg_len (e : Edg) : e.cells.length = 2 := rfl
theorem edg_one (e : Edg) : ∀ v ∈ e.cells, v.oneCell' = true := fun v hv => by
 simp [Edg.cells] at hv
 rcases hv with rfl | rfl <;> rfl
theorem isAggE : ∀ w, (isAgg 74).run Tryz.prog w = .ok true w := Tryz.isAgg74
theorem sizeOfE : ∀ w, (Go.sizeOf 74).run Tryz.prog w = .ok 2 w := Tryz.sizeOf74
theorem cmpLaysE (blk off size : Nat) (w : World) : CmpLays Tryz.prog 96 #[] Edg.cells 2 cmpE blk off size w :=
 fun _ _ _ _ x y => edges1_any x y _
theorem hlenE (n : Nat) (W : World) (h : n ≤ 12) : Calls Tryz.prog 132 #[.int .u64 n] W fun e w' => (∃ l : Int, e = .returned (.int .i64 l)) ∧ w' = W :=
 (Tryz.bits_Len n W om om).mono fun _ _ ⟨he, hw⟩ => ⟨⟨_, he⟩, hw⟩
def sortE (l : List Edg) : List Edg := (Sort.insertionSort (ltOf cmpE) l.toArray 0 l.length).toList
theorem sortFunc_raw (l : List Edg) (blk off cap : Nat) (w : World) (hH : HoldsK Edg.cells 2 w blk off l.toArray) (hblk : blk < w.heap.size) (h12 : l.length ≤ 12) :
  Calls Tryz.prog 95 #[.slice (some ⟨blk, off, none⟩) l.length cap, .func (.func 96) #[] #[]] w fun e w' => e = .returned (.tuple #[]) ∧ ∃ n os, w' = sortWorldK Edg.cells 2 w blk off n (Sort.insertionSort (ltOf cmpE) l.toArray 0 l.length) os := by
 have eg : ∀ args w, (callFunc 96 args).run Tryz.prog w = .ok (.enter 96 args) w := enters_of Tryz.func96 kr rfl
 have h := AnyQ.slices_SortFunc_small Tryz.sortE 2 isAggE sizeOfE Edg.cells edg_len edg_one cmpE 96 #[] blk off cap l.toArray w eg (cmpLaysE blk off l.toArray.size w) hH hblk (by simpa using h12) hlenE
 exact h
def EdM (w : World) (g off : Nat) (d : List Edg) : Prop := (∃ cur, Rw w g 74 cur) ∧ ∀ k (hk : k < d.length), w.cell? ⟨g, off + k * 2, none⟩ = some (.int .i64 d[k].fr) ∧ w.cell? ⟨g, off + k * 2 + 1, none⟩ = some (.int .i64 d[k].tt)
theorem EdM.up {B : Nat} {w w' : World} {g off : Nat} {d : List Edg} (h : EdM w g off d) (hb : Below B w w') (hg : g < B) : EdM w' g off d :=
 ⟨let ⟨c, hc⟩ := h.1; ⟨c, hc.up hb hg⟩, fun k hk => ⟨bcl hb hg (h.2 k hk).1, bcl hb hg (h.2 k hk).2⟩⟩
theorem EdM.lt {w : World} {g off : Nat} {d : List Edg} (h : EdM w g off d) : g < w.heap.size := let ⟨_, hc⟩ := h.1; hc.lt
theorem EdM.holds {w : World} {g off : Nat} {d : List Edg} (h : EdM w g off d) : HoldsK Edg.cells 2 w g off d.toArray := by
 obtain ⟨⟨cur, hc⟩, hd⟩ := h
 intro j hj
 simp at hj
 have hk : j / 2 < d.length := by omega
 have hj2 : j = j / 2 * 2 + j % 2 := by omega
 refine ⟨?_, hc.fr _⟩
 rw [get_flatK _ _ _ _ (by simpa using hj)]
 simp only [id, List.getElem!_toArray]
 rw [getElem!_pos d (j / 2) hk]
 have h2 : j % 2 = 0 ∨ j % 2 = 1 := by omega
 rcases h2 with h2 | h2
 ·have := (hd (j / 2) hk).1
  rw [show off + j = off + j / 2 * 2 by omega, this, h2]
  rfl
 ·have := (hd (j / 2) hk).2
  rw [show off + j = off + j / 2 * 2 + 1 by omega, this, h2]
  rfl
theorem ltE_iff (x y : Edg) : ltOf cmpE x y = decide (x.fr < y.fr ∨ (x.fr = y.fr ∧ x.tt < y.tt)) := by
 unfold ltOf cmpE orI cmpI
 by_cases h1 : x.fr < y.fr
 ·simp [h1]
 ·by_cases h2 : y.fr < x.fr
  ·simp [h1, h2]
   omega
  ·have : x.fr = y.fr := by omega
   by_cases h3 : x.tt < y.tt
   ·simp [this, h3]
   ·by_cases h4 : y.tt < x.tt <;> simp [this, h3, h4]
theorem swoE : SWO (ltOf cmpE) where
 irrefl x := by rw [ltE_iff]; simp
 trans x y z h1 h2 := by rw [ltE_iff] at *; simp at *; omega
 ntrans x y z h1 h2 := by rw [ltE_iff] at *; simp at *; omega
def RiseE (l : List Edg) : Prop := ∀ i j (hi : i < j) (hj : j < l.length), ltOf cmpE l[j] (l[i]'om) = false
theorem sortW_rw {w : World} {g off m : Nat} {d : Array Edg} {os : Array Obj} {cur : Array Value} (h : Rw w g 74 cur) : ∃ cur', Rw (sortWorldK Edg.cells 2 w g off m d os) g 74 cur' := by
 have hl := h.lt
 refine ⟨putCells id off (flatK Edg.cells 2 d) cur, ?_⟩
 show ((mapBlock (Sort.ahead w m) g (putCells id off (flatK Edg.cells 2 d))).heap ++ os)[g]? = _
 have hs : g < (mapBlock (Sort.ahead w m) g (putCells id off (flatK Edg.cells 2 d))).heap.size := by
  show g < (w.heap.modify g _).size
  simpa using hl
 rw [Array.getElem?_append_left hs]
 show (w.heap.modify g _)[g]? = _
 rw [Array.getElem?_modify, if_pos rfl, show w.heap[g]? = some _ from h]
 rfl
theorem sortW_below {w : World} {g off m B : Nat} {d : Array Edg} {os : Array Obj} (hB : B ≤ g) (hg : g < w.heap.size) : Below B w (sortWorldK Edg.cells 2 w g off m d os) := by
 refine ⟨rfl, rfl, rfl, ?_, fun k hk => ?_⟩
 ·show _ ≤ ((w.heap.modify g _) ++ os).size
  simp
 ·show ((w.heap.modify g _) ++ os)[k]? = _
  have hs : k < (w.heap.modify g (onCells (putCells id off (flatK Edg.cells 2 d)))).size := by simp; omega
  rw [Array.getElem?_append_left hs, Array.getElem?_modify, if_neg om]
theorem sortFunc_any (l : List Edg) (g off cap : Nat) (w : World) (hE : EdM w g off l) (h12 : l.length ≤ 12) :
  Calls Tryz.prog 95 #[.slice (some ⟨g, off, none⟩) l.length cap, .func (.func 96) #[] #[]] w fun e w' => e = .returned (.tuple #[]) ∧ ∃ r : List Edg, r.Perm l ∧ RiseE r ∧ EdM w' g off r ∧ ∀ B, B ≤ g → Below B w w' := by
 have hg := hE.lt
 refine (sortFunc_raw l g off cap w hE.holds hg h12).mono ?_
 rintro e w' ⟨rfl, n, os, rfl⟩
 obtain ⟨⟨hsz, -, hperm⟩, hsort⟩ := insertionSort_holds (lt := ltOf cmpE) swoE l.toArray 0 l.length (Nat.zero_le _) (by simp)
 generalize Sort.insertionSort (ltOf cmpE) l.toArray 0 l.length = a at hsz hperm hsort
 have hsz' : a.size = l.length := by simpa using hsz
 refine ⟨rfl, a.toList, ?_, ?_, ⟨sortW_rw hE.1.choose_spec, fun k hk => ?_⟩, fun B hB => sortW_below hB hg⟩
 ·have e1 : (a.extract 0 l.length).toList = a.toList := by rw [← hsz']; simp
  have e2 : (l.toArray.extract 0 l.length).toList = l := by simp
  rw [e1, e2] at hperm
  exact hperm
 ·intro i j hi hj
  have hj' : j < a.size := by simpa using hj
  have := hsort i j (Nat.zero_le _) hi om
  rw [getElem!_pos _ j hj', getElem!_pos _ i om] at this
  simpa using this
 ·have hk' : k < a.size := by simpa using hk
  have hH : HoldsK Edg.cells 2 (sortWorldK Edg.cells 2 w g off n a os) g off a :=
   holdsK_grow _ _ _ _ _ _ _ (by show g < (w.heap.modify g _).size; simpa using hg) (holdsK_putRowK _ _ _ _ _ _ _ (holdsK_ahead _ _ _ _ _ _ _ hE.holds) (by simpa using hsz))
  have c0 := (hH.cell (i := k) (c := 0) hk' (by decide)).1
  have c1 := (hH.cell (i := k) (c := 1) hk' (by decide)).1
  rw [getElem!_pos _ k hk'] at c0 c1
  exact ⟨c0, c1⟩
def uniqE : List Edg → List Edg
 | [] => []
 | [a] => [a]
 | a :: b :: r => if a = b then uniqE (b :: r) else a :: uniqE (b :: r)
theorem uniq_snoc : ∀ (l : List Edg) (x y : Edg), uniqE (l ++ [x, y]) = if x = y then uniqE (l ++ [x]) else uniqE (l ++ [x]) ++ [y]
 | [], x, y => by
  by_cases h : x = y <;> simp [uniqE, h]
 | [a], x, y => by
  by_cases h : x = y <;> by_cases h2 : a = x <;> simp [uniqE, h, h2]
  all_goals (subst h; simp_all [uniqE])
 | a :: b :: r, x, y => by
  have h := uniq_snoc (b :: r) x y
  simp only [List.cons_append] at h ⊢
  by_cases e : a = b
  ·rw [uniqE, if_pos e, h, uniqE, if_pos e]
  ·rw [uniqE, if_neg e, h, uniqE, if_neg e]
   by_cases e2 : x = y <;> simp [e2]
theorem uniq_take (l : List Edg) (k : Nat) (h0 : 1 ≤ k) (hk : k < l.length) : uniqE (l.take (k + 1)) = if l[k - 1] = l[k] then uniqE (l.take k) else uniqE (l.take k) ++ [l[k]] := by
 have e1 : l.take k = l.take (k - 1) ++ [l[k - 1]] := by
  have := List.take_succ_eq_append_getElem (i := k - 1) (l := l) om
  rw [show k - 1 + 1 = k by omega] at this
  exact this
 have e2 : l.take (k + 1) = l.take (k - 1) ++ [l[k - 1], l[k]] := by
  rw [List.take_succ_eq_append_getElem hk, e1, List.append_assoc]
  rfl
 rw [e2, uniq_snoc, ← e1]
theorem uniq_same (l : List Edg) : ∀ k, k ≤ l.length → (∀ j (h : j < k) (h' : j < l.length), 1 ≤ j → l[j - 1] ≠ l[j]) → uniqE (l.take k) = l.take k
 | 0, _, _ => by simp [uniqE]
 | 1, h1, _ => by
  have : l.take 1 = [l[0]] := by
   rw [List.take_succ_eq_append_getElem om]
   simp
  rw [this]
  rfl
 | k + 2, hk, h => by
  rw [uniq_take l (k + 1) om om, if_neg (h (k + 1) om om om), uniq_same l (k + 1) om (fun j a b c => h j om b c), List.take_succ_eq_append_getElem (i := k + 1) om]
theorem eqE (a b c d : Int) (w : World) : (Op.equalIn 10000 74 (.agg #[.int .i64 a, .int .i64 b]) (.agg #[.int .i64 c, .int .i64 d])).run Tryz.prog w = .ok (a == c && b == d) w := by
 have u3 := Tryz.underlying3
 have a3 := Tryz.isAgg3
 have z3 := Tryz.sizeOf3
 rw [show (10000 : Nat) = 9999 + 1 from rfl, Op.equalIn]
 simp only [Sem.run_bind, run_underlying Tryz.underlying74, Result.andThen_ok]
 by_cases h1 : a = c <;> by_cases h2 : b = d
 all_goals (try go_simp)
theorem run_clear2 {P : Program} (w : World) (t e ty : TypeId) (z : Value) (ht : P.underlying t = some (.slice e)) (hv : ∀ w, (zeroValue e).run P w = .ok z w) (b o n c : Nat) (hn : 0 < n) (us : List Value) (hus : (Builtin.zeroCells z.cells n).toList = us)
  (hc : ∀ j, j < us.length → (w.cell? ⟨b, o + j, none⟩).isSome = true) (hf : ∀ j, j < us.length → w.frozen? ⟨b, o + j, none⟩ = false) (h1 : ∀ v ∈ us, v.oneCell' = true) :
  (Builtin.clear_ #[t] ty #[.slice (some ⟨b, o, none⟩) n c]).run P w = .ok (.tuple #[]) (w.setCells b o us) := by
 have hst := run_storeCells_cells (P := P) b o us 0 w (by simpa using hc) (by simpa using hf) h1
 simp only [Nat.add_zero] at hst
 obtain ⟨m, rfl⟩ : ∃ m, n = m + 1 := ⟨n - 1, by omega⟩
 simp [Builtin.clear_, run_underlying ht, hv, hus, hst]
theorem wpList_clear {P : Program} {ops : Array Oper} {rest : List Oper} {o : Oper} {a : Act} {w : World} {Q : Exit → Act → World → Prop} (hg : o.guard = none) (x : Operand) (t : TypeId) (ho : o.op = .call { callee := .builtin .clear, args := #[x], argTypes := #[t] })
  (e : TypeId) (z : Value) (ht : P.underlying t = some (.slice e)) (hv : ∀ w, (zeroValue e).run P w = .ok z w) (b off n c : Nat) (hx : a.eval x = .slice (some ⟨b, off, none⟩) n c) (hn : 0 < n) (us : List Value) (hus : (Builtin.zeroCells z.cells n).toList = us)
  (hc : ∀ j, j < us.length → (w.cell? ⟨b, off + j, none⟩).isSome = true) (hf : ∀ j, j < us.length → w.frozen? ⟨b, off + j, none⟩ = false) (h1 : ∀ v ∈ us, v.oneCell' = true)
  (h : ∀ W, Hid (W = w.setCells b off us) → wpList P ops Q rest (a.put o.dst (.tuple #[])) W) : wpList P ops Q (o :: rest) a w := by
 refine wpList_plain hg fun K hK' => ?_
 have hrun := run_clear2 (P := P) w t e o.type z ht hv b off n c hn us hus hc hf h1
 unfold Oper.wp
 simp [execOp, ho, resolve, invoke, builtin, hx, hrun, Result.andThen]
 exact hK' _ _ (h _ (hd rfl))
theorem wpList_store_midF {P : Program} {ops : Array Oper} {rest : List Oper} {op : Oper} {a : Act} {w : World} {Q : Exit → Act → World → Prop} (hgd : op.guard = none) (ty : TypeId) (x y : Operand) (ho : op.op = .store ty x y)
  (b o : Nat) (cells : Array Value) (hx : a.eval x = .pointer (some ⟨b, o, none⟩)) (hy : a.eval y = .agg cells)
  (ht : w.there b o cells.size) (hi : (P.info? ty).map (·.size) = some cells.size) (h1 : cells.all (·.oneCell') = true)
  (h : ∀ W, Hid (W = w.setCells b o cells.toList) → wpList P ops Q rest (a.put op.dst undef) W) : wpList P ops Q (op :: rest) a w :=
 wpList_store_mid hgd ty x y ho b o cells hx hy ht hi h1 (h _ (hd rfl))
theorem sizeEdg : (Tryz.prog.info? 74).map (·.size) = some 2 := by kernel_rfl
theorem zeroEdg : ∀ w, (zeroValue 74).run Tryz.prog w = .ok (.agg #[.int .i64 0, .int .i64 0]) w := fun w => by kernel_rfl
theorem rw_setCellsF : ∀ (us : List Value) {w : World} {g : Nat} (o : Nat) {t : TypeId} {cs : Array Value}, Rw w g t cs → ∃ cs', Rw (w.setCells g o us) g t cs'
 | [], _, _, _, _, cs, h => ⟨cs, h⟩
 | u :: r, w, g, o, t, cs, h => by
  rw [World.setCells]
  exact rw_setCellsF r (o + 1) (h.set o u)
theorem below_setCellsF : ∀ (us : List Value) {B : Nat} {a w : World} {b : Nat} (o : Nat), Below B a w → B ≤ b → Below B a (w.setCells b o us)
 | [], _, _, _, _, _, h, _ => h
 | u :: r, B, a, w, b, o, h, hb => by
  rw [World.setCells]
  exact below_setCellsF r (o + 1) (h.setCell (p := ⟨b, o, none⟩) hb u) hb
structure Cq (w W : World) (g off : Nat) (d : List Edg) : Prop where
 e : EdM W g off d
 b : ∀ B, B ≤ g → Below B w W
theorem Cq.up {w W W' : World} {g off : Nat} {d : List Edg} (h : Cq w W g off d) (hb : Below W.heap.size W W') : Cq w W' g off d :=
 ⟨h.e.up hb h.e.lt, fun B hB => (h.b B hB).trans (hb.mono (by have := h.e.lt; omega))⟩
theorem Cq.there {w W : World} {g off : Nat} {d : List Edg} (h : Cq w W g off d) {k : Nat} (hk : k < d.length) : W.there g (off + k * 2) 2 := fun j hj => by
 obtain ⟨⟨cur, hc⟩, hd⟩ := h.e
 refine ⟨?_, hc.fr _⟩
 have h2 : j = 0 ∨ j = 1 := by omega
 rcases h2 with rfl | rfl
 ·rw [Nat.add_zero, (hd k hk).1]
  rfl
 ·rw [(hd k hk).2]
  rfl
theorem Cq.put {w W : World} {g off : Nat} {d : List Edg} (h : Cq w W g off d) {k : Nat} (hk : k < d.length) (x : Edg) : Cq w (W.setCells g (off + k * 2) [.int .i64 x.fr, .int .i64 x.tt]) g off (d.set k x) := by
 have hth := h.there hk
 refine ⟨⟨let ⟨c, hc⟩ := h.e.1; rw_setCellsF _ _ hc, fun j hj => ?_⟩, fun B hB => below_setCellsF _ _ (h.b B hB) hB⟩
 have hj' : j < d.length := by simpa using hj
 obtain ⟨c0, c1⟩ := h.e.2 j hj'
 by_cases e : k = j
 ·subst e
  simp only [List.getElem_set_self]
  have a0 := World.cell?_setCells_in g [.int .i64 x.fr, .int .i64 x.tt] (off + k * 2) W (fun i hi => (hth i (by simpa using hi)).1) 0 (by simp)
  have a1 := World.cell?_setCells_in g [.int .i64 x.fr, .int .i64 x.tt] (off + k * 2) W (fun i hi => (hth i (by simpa using hi)).1) 1 (by simp)
  exact ⟨a0, a1⟩
 ·simp only [List.getElem_set_ne e]
  refine ⟨?_, ?_⟩
  ·rw [World.cell?_setCells_out g _ (off + k * 2) W ⟨g, off + j * 2, none⟩ (fun _ _ => by simp; omega)]
   exact c0
  ·rw [World.cell?_setCells_out g _ (off + k * 2) W ⟨g, off + j * 2 + 1, none⟩ (fun _ _ => by simp; omega)]
   exact c1
theorem zc_len (n : Nat) : ((Builtin.zeroCells (Value.cells (.agg #[.int .i64 0, .int .i64 0])) n).toList).length = n * 2 := by
 simp [Builtin.zeroCells, Value.cells]
theorem zc_one (n : Nat) : ∀ v ∈ (Builtin.zeroCells (Value.cells (.agg #[.int .i64 0, .int .i64 0])) n).toList, v.oneCell' = true := fun v hv => by
 simp [Builtin.zeroCells, Value.cells] at hv
 obtain ⟨a, _, rfl⟩ := hv
 have h2 : a % 2 = 0 ∨ a % 2 = 1 := by omega
 rcases h2 with h | h <;> simp [h, Value.oneCell']
theorem Cq.clear {w W : World} {g off : Nat} {d : List Edg} (h : Cq w W g off d) (k : Nat) (us : List Value) : Cq w (W.setCells g (off + k * 2) us) g off (d.take k) := by
 refine ⟨⟨let ⟨c, hc⟩ := h.e.1; rw_setCellsF _ _ hc, fun j hj => ?_⟩, fun B hB => below_setCellsF _ _ (h.b B hB) hB⟩
 have hj' : j < k ∧ j < d.length := by
  simp at hj
  omega
 obtain ⟨c0, c1⟩ := h.e.2 j hj'.2
 simp only [List.getElem_take]
 refine ⟨?_, ?_⟩
 ·rw [World.cell?_setCells_out g us (off + k * 2) W ⟨g, off + j * 2, none⟩ (fun _ _ => Or.inl so)]
  exact c0
 ·rw [World.cell?_setCells_out g us (off + k * 2) W ⟨g, off + j * 2 + 1, none⟩ (fun _ _ => Or.inl so)]
  exact c1
theorem Cq.isSome {w W : World} {g off : Nat} {d : List Edg} (h : Cq w W g off d) {k j : Nat} (hj : j < (d.length - k) * 2) : (W.cell? ⟨g, off + k * 2 + j, none⟩).isSome = true := by
 have hq : k + j / 2 < d.length := by omega
 have := h.there hq (j % 2) om
 rw [show off + k * 2 + j = off + (k + j / 2) * 2 + j % 2 by omega]
 exact this.1
theorem compact_any (l : List Edg) (g off cap : Nat) (hcap : l.length ≤ cap) (hbig : l.length ≤ 1000) (w : World) (hE : EdM w g off l) :
  Calls Tryz.prog 99 #[.slice (some ⟨g, off, none⟩) l.length cap] w fun e w' => e = .returned (.slice (some ⟨g, off, none⟩) (uniqE l).length cap) ∧ EdM w' g off (uniqE l) ∧ ∀ B, B ≤ g → Below B w w' := by
 have hC : Cq w w g off l := ⟨hE, fun B _ => Below.refl _ _⟩
 have CQ := hd hC
 clear hE hC
 by_cases hn : l.length < 2
 ·have hni : (l.length : Int) < 2 := by omega
  have HU : Hid (uniqE l = l) := by
   show _ = _
   match l, hn with
   | [], _ => rfl
   | [a], _ => rfl
  clear hn
  go_enter Tryz.func99, Tryz.ntmps99
  go_wp2
  go_ret
  exact ⟨by rw [HU.out]; rfl, by rw [HU.out]; exact CQ.out.e, CQ.out.b⟩
 ·have hni : ¬ (l.length : Int) < 2 := by omega
  go_enter Tryz.func99, Tryz.ntmps99
  go_wp2
  go_loopw [3] (fun i wr => ∃ k : Nat, i = .int .i64 k ∧ 1 ≤ k ∧ k ≤ l.length ∧ Hid (∀ j (h : j < k) (h' : j < l.length), 1 ≤ j → l[j - 1] ≠ l[j]) ∧ Hid (Cq w wr g off l)) (fun i _ => l.length - (intOf i).toNat)
  case atStart => exact ⟨1, rfl, Nat.le_refl _, by omega, hd (fun j h h' h1 => by omega), CQ⟩
  case round =>
  clear CQ
  obtain ⟨k, rfl, hk1, hk, HZ, C⟩ := hrel
  by_cases hlt : k < l.length
  ·have hli : (k : Int) < l.length := by omega
   have h0i : (0 : Int) ≤ k := by omega
   have h1i : (0 : Int) ≤ (k : Int) - 1 := by omega
   have h2i : (k : Int) - 1 < l.length := by omega
   have HWk : Hid (IntKind.i64.wrap ((k : Int) - 1) = ((k - 1 : Nat) : Int)) := by
    show _ = _
    rw [IntKind.wrap_i64]
    omega
   have HKm : Hid ((k : Int) - 1 = ((k - 1 : Nat) : Int)) := by
    show _ = _
    omega
   have hm1 : ((k - 1 : Nat) : Int) < l.length := by omega
   have hm0 : (0 : Int) ≤ ((k - 1 : Nat) : Int) := by omega
   obtain ⟨x, hx⟩ : ∃ x, l[k] = x := ⟨_, rfl⟩
   obtain ⟨y, hy⟩ : ∃ y, l[k - 1] = y := ⟨_, rfl⟩
   have HX := hd hx
   have HY := hd hy
   have cA := C.out.e.2 k hlt
   have cB := C.out.e.2 (k - 1) om
   rw [hx] at cA
   rw [hy] at cB
   have A0 := hd cA.1
   have A1 := hd cA.2
   have B0 := hd cB.1
   have B1 := hd cB.2
   have hgl := C.out.e.lt
   clear hx hy cA cB
   by_cases hxy : x = y
   ·have HB : Hid ((x.fr == y.fr && x.tt == y.tt) = true) := by
     show _ = _
     simp [hxy]
    have HXY := hd hxy
    clear hxy
    go_wp2
    have CC := C
    clear C
    refine region_still (S := fun w' => Below wr.heap.size wr w') 9 kr (Below.refl _ _).drew (fun hHeld => ?_)
    have hq := fun w' (hSw : (fun w' => Below wr.heap.size wr w') w') => And.intro (bcl hSw hgl A0.out) (And.intro (bcl hSw hgl A1.out) (And.intro (bcl hSw hgl B0.out) (bcl hSw hgl B1.out)))
    refine Still.u 0 [3, 2] hHeld hq ?_
    refine Still.u 1 [3, 2] hHeld hq ?_
    refine Still.u 2 [3] hHeld hq ?_
    refine Still.u 3 [] hHeld hq ?_
    refine Still.u 4 [8, 7] hHeld hq ?_
    refine Still.u 5 [8, 7, 6] hHeld hq ?_
    refine Still.t 6 [8, 7] hHeld ?_ (hy := by (intro w' hSw; (try dsimp only at hSw); go_simp; (try simp only [HWk.out]); (try simp only [HKm.out]); try with_reducible rfl))
    refine Still.u 7 [8] hHeld hq ?_
    refine Still.u 8 [] hHeld hq ?_
    refine Still.o 9 rfl rfl (fun K hK => ?_)
    have qe := eqE x.fr x.tt y.fr y.tt
    rw [HB.out] at qe
    go_simp
    refine hK _ _ ab (fun _ => Still.vv ?_)
    clear hK K
    have C' := hd (CC.out.up hHeld)
    clear hHeld qe CC
    have HLN := hd (show l.length - k + k = l.length by omega)
    have HU0 : Hid (l.take k = uniqE (l.take (k + 1))) := by
     show _ = _
     rw [uniq_take l k hk1 hlt, if_pos (by rw [HX.out, HY.out]; exact HXY.out.symm), uniq_same l k hk (fun j h h' h1 => HZ.out j h h' h1)]
    clear A0 A1 B0 B1 HB HX HY HXY HWk HKm hm1 hm0 h1i h2i HZ
    obtain ⟨r, hr⟩ : ∃ r, l.length - k = r := ⟨_, rfl⟩
    obtain ⟨rc, hrc⟩ : ∃ rc, cap - k = rc := ⟨_, rfl⟩
    have HR := hd hr
    have HRC := hd hrc
    have hrr : r ≤ rc := by omega
    have hr1 : 1 ≤ r := by omega
    have hlk : l.length = k + r := by omega
    have HLK := hd hlk
    have hr2 : r ≤ 1000 := by omega
    clear hlk
    go_upto_region 8 with fail
    clear hr hrc
    go_wp2
    go_loopw [3, 5] (fun i j wr => ∃ (m q : Nat) (d : List Edg), i = .int .i64 m ∧ j = .int .i64 q ∧ 1 ≤ q ∧ q ≤ r ∧ m ≤ k + q - 1 ∧ k ≤ m ∧ Hid (d.length = k + r) ∧ Hid (d.take m = uniqE (l.take (k + q))) ∧ Hid (∀ j, k + q - 1 ≤ j → d[j]? = l[j]?) ∧ Hid (Cq w wr g off d)) (fun _ j _ => r - (intOf j).toNat)
    case atStart => exact ⟨k, 1, l, rfl, rfl, Nat.le_refl _, hr1, by omega, Nat.le_refl _, HLK, HU0, hd (fun _ _ => rfl), by first | exact C' | exact hd (C'.out.up (Below.refl _ _).drew)⟩
    case round =>
    clear C' HU0
    obtain ⟨m, q, d, rfl, rfl, hq1, hq2, hm, hkm, HDL, HDT, HDS, C⟩ := hrel
    by_cases hqr : q < r
    ·have hqi : (q : Int) < r := by omega
     have hq0 : (0 : Int) ≤ q := by omega
     have HWq : Hid (IntKind.i64.wrap ((q : Int) - 1) = ((q - 1 : Nat) : Int)) := by
      show _ = _
      rw [IntKind.wrap_i64]
      omega
     have HQm : Hid ((q : Int) - 1 = ((q - 1 : Nat) : Int)) := by
      show _ = _
      omega
     have hm1 : ((q - 1 : Nat) : Int) < r := by omega
     have hm0 : (0 : Int) ≤ ((q - 1 : Nat) : Int) := by omega
     have hdq : k + q < d.length := by have := HDL.out; omega
     have hdq' : k + (q - 1) < d.length := by omega
     have hlq : k + q < l.length := by have := HLK.out; omega
     obtain ⟨x, hx⟩ : ∃ x, d[k + q] = x := ⟨_, rfl⟩
     obtain ⟨y, hy⟩ : ∃ y, d[k + (q - 1)] = y := ⟨_, rfl⟩
     have hxl : l[k + q] = x := by
      have := HDS.out (k + q) om
      rw [List.getElem?_eq_getElem hdq, List.getElem?_eq_getElem hlq] at this
      injection this with this
      rw [← this, hx]
     have hyl : l[k + q - 1]'om = y := by
      have := HDS.out (k + q - 1) (Nat.le_refl _)
      rw [List.getElem?_eq_getElem om, List.getElem?_eq_getElem om] at this
      injection this with this
      rw [← this, ← hy]
      congr 1
      omega
     have hut := uniq_take l (k + q) om hlq
     rw [hxl, hyl] at hut
     have cA := C.out.e.2 (k + q) hdq
     have cB := C.out.e.2 (k + (q - 1)) hdq'
     rw [hx] at cA
     rw [hy] at cB
     rw [show off + (k + q) * 2 = off + k * 2 + q * 2 by omega] at cA
     rw [show off + (k + (q - 1)) * 2 = off + k * 2 + (q - 1) * 2 by omega] at cB
     have A0 := hd cA.1
     have A1 := hd cA.2
     have B0 := hd cB.1
     have B1 := hd cB.2
     have HUT := hd hut
     have HXD := hd hx
     have hgl := C.out.e.lt
     clear hx hy cA cB hut hxl hyl
     by_cases hxy : x = y
     ·have HB : Hid ((x.fr == y.fr && x.tt == y.tt) = true) := by
       show _ = _
       simp [hxy]
      have HXY := hd hxy
      clear hxy
      go_wp2
      have CC := C
      clear C
      refine region_still (S := fun w' => Below wr.heap.size wr w') 9 kr (Below.refl _ _).drew (fun hHeld => ?_)
      have hq := fun w' (hSw : (fun w' => Below wr.heap.size wr w') w') => And.intro (bcl hSw hgl A0.out) (And.intro (bcl hSw hgl A1.out) (And.intro (bcl hSw hgl B0.out) (bcl hSw hgl B1.out)))
      refine Still.u 0 [3, 2] hHeld hq ?_
      refine Still.u 1 [3, 2] hHeld hq ?_
      refine Still.u 2 [3] hHeld hq ?_
      refine Still.u 3 [] hHeld hq ?_
      refine Still.u 4 [8, 7] hHeld hq ?_
      refine Still.u 5 [8, 7, 6] hHeld hq ?_
      refine Still.t 6 [8, 7] hHeld ?_ (hy := by (intro w' hSw; (try dsimp only at hSw); go_simp; (try simp only [HWq.out]); (try simp only [HQm.out]); try with_reducible rfl))
      refine Still.u 7 [8] hHeld hq ?_
      refine Still.u 8 [] hHeld hq ?_
      refine Still.o 9 rfl rfl (fun K hK => ?_)
      have qe := eqE x.fr x.tt y.fr y.tt
      rw [HB.out] at qe
      go_simp
      refine hK _ _ ab (fun _ => Still.vv ?_)
      clear hK K
      have C' := hd (CC.out.up hHeld)
      have a0 := bcl hHeld hgl A0.out
      have a1 := bcl hHeld hgl A1.out
      clear hHeld qe CC A0 A1 B0 B1
      go_wp2
      go_roundw
      case rel => exact ⟨m, q + 1, d, rfl, by go_num, by omega, by omega, by omega, hkm, HDL, hd (by rw [show k + (q + 1) = k + q + 1 by omega, HUT.out, if_pos HXY.out.symm]; exact HDT.out), hd (fun j hj => HDS.out j om), C'⟩
      case measure => simp [intOf]; omega
     ·have HB : Hid ((x.fr == y.fr && x.tt == y.tt) = false) := by
       show _ = _
       cases hbb : (x.fr == y.fr && x.tt == y.tt) with
       | false => rfl
       | true =>
        simp at hbb
        exact absurd (by cases x; cases y; simp_all) hxy
      have HXY := hd hxy
      have hml : m < d.length := by have := HDL.out; omega
      have hmi : (m : Int) < l.length := by have := HLK.out; omega
      have hmi0 : (0 : Int) ≤ m := by omega
      clear hxy
      go_wp2
      have CC := C
      clear C
      refine region_still (S := fun w' => Below wr.heap.size wr w') 9 kr (Below.refl _ _).drew (fun hHeld => ?_)
      have hq := fun w' (hSw : (fun w' => Below wr.heap.size wr w') w') => And.intro (bcl hSw hgl A0.out) (And.intro (bcl hSw hgl A1.out) (And.intro (bcl hSw hgl B0.out) (bcl hSw hgl B1.out)))
      refine Still.u 0 [3, 2] hHeld hq ?_
      refine Still.u 1 [3, 2] hHeld hq ?_
      refine Still.u 2 [3] hHeld hq ?_
      refine Still.u 3 [] hHeld hq ?_
      refine Still.u 4 [8, 7] hHeld hq ?_
      refine Still.u 5 [8, 7, 6] hHeld hq ?_
      refine Still.t 6 [8, 7] hHeld ?_ (hy := by (intro w' hSw; (try dsimp only at hSw); go_simp; (try simp only [HWq.out]); (try simp only [HQm.out]); try with_reducible rfl))
      refine Still.u 7 [8] hHeld hq ?_
      refine Still.u 8 [] hHeld hq ?_
      refine Still.o 9 rfl rfl (fun K hK => ?_)
      have qe := eqE x.fr x.tt y.fr y.tt
      rw [HB.out] at qe
      go_simp
      refine hK _ _ ab (fun _ => Still.vv ?_)
      clear hK K
      have C' := hd (CC.out.up hHeld)
      have a0 := bcl hHeld hgl A0.out
      have a1 := bcl hHeld hgl A1.out
      clear hHeld qe CC A0 A1 B0 B1
      have HTH := hd (C'.out.there hml)
      go_wp2_with (refine wpList_store_midF rfl 74 (.tmp 51) (.tmp 50) rfl g (off + m * 2) #[.int .i64 x.fr, .int .i64 x.tt] rfl rfl HTH.out sizeEdg (by simp [Value.oneCell']) ?_)
      intro W5 HW5
      have C5 : Hid (Cq w W5 g off (d.set m x)) := by
       show Cq _ _ _ _ _
       rw [HW5.out]
       exact C'.out.put hml x
      clear HW5 HTH C' a0 a1
      go_wp2
      go_roundw
      case rel => exact ⟨m + 1, q + 1, d.set m x, by go_num, by go_num, by omega, by omega, by omega, by omega, hd (by rw [List.length_set]; exact HDL.out), hd (by
       rw [show k + (q + 1) = k + q + 1 by omega, HUT.out, if_neg (Ne.symm HXY.out), ← HDT.out, List.take_succ_eq_append_getElem (by rw [List.length_set]; exact hml), List.take_set_of_le (Nat.le_refl _), List.getElem_set_self]), hd (fun j hj => by
       rw [List.getElem?_set_ne om]
       exact HDS.out j om), C5⟩
      case measure => simp [intOf]; omega
    ·obtain rfl : q = r := by omega
     have hqi : ¬ (q : Int) < q := by omega
     have HUL : Hid (uniqE l = d.take m) := by
      show _ = _
      rw [HDT.out, ← HLK.out, List.take_length]
     have hml : m < d.length := by have := HDL.out; omega
     have hmi : (m : Int) ≤ l.length := by have := HLK.out; omega
     have hmi0 : (0 : Int) ≤ m := by omega
     have hmc : (m : Int) ≤ cap := by omega
     have hmn : 0 < l.length - m := by have := HDL.out; have := HLK.out; omega
     have HML : Hid ((d.take m).length = m) := by
      show _ = _
      simp
      omega
     have hdl : d.length = l.length := by have := HDL.out; have := HLK.out; omega
     have HIS := hd (show ∀ j, j < (l.length - m) * 2 → (wr.cell? ⟨g, off + m * 2 + j, none⟩).isSome = true from fun j hj => C.out.isSome om)
     obtain ⟨⟨cur, hcur⟩, -⟩ := C.out.e
     have HFR := hd hcur.fr
     clear hcur hdl
     go_wp2_with (refine wpList_clear rfl (.tmp 56) 65 rfl 74 _ Tryz.underlying65 zeroEdg g (off + m * 2) (l.length - m) (cap - m) rfl hmn _ rfl (fun j hj => HIS.out j (by rw [zc_len] at hj; exact hj)) (fun j hj => HFR.out _) (zc_one _) ?_)
     intro W6 HW6
     have C6 : Hid (Cq w W6 g off (d.take m)) := by
      show Cq _ _ _ _ _
      rw [HW6.out]
      exact C.out.clear m _
     clear HW6 HIS HFR C
     go_wp2
     go_ret
     exact ⟨by rw [HUL.out, HML.out]; rfl, by rw [HUL.out]; exact C6.out.e, C6.out.b⟩
   ·have HB : Hid ((x.fr == y.fr && x.tt == y.tt) = false) := by
     show _ = _
     cases hbb : (x.fr == y.fr && x.tt == y.tt) with
     | false => rfl
     | true =>
      simp at hbb
      exact absurd (by cases x; cases y; simp_all) hxy
    have HXY := hd hxy
    clear hxy
    go_wp2
    have CC := C
    clear C
    refine region_still (S := fun w' => Below wr.heap.size wr w') 9 kr (Below.refl _ _).drew (fun hHeld => ?_)
    have hq := fun w' (hSw : (fun w' => Below wr.heap.size wr w') w') => And.intro (bcl hSw hgl A0.out) (And.intro (bcl hSw hgl A1.out) (And.intro (bcl hSw hgl B0.out) (bcl hSw hgl B1.out)))
    refine Still.u 0 [3, 2] hHeld hq ?_
    refine Still.u 1 [3, 2] hHeld hq ?_
    refine Still.u 2 [3] hHeld hq ?_
    refine Still.u 3 [] hHeld hq ?_
    refine Still.u 4 [8, 7] hHeld hq ?_
    refine Still.u 5 [8, 7, 6] hHeld hq ?_
    refine Still.t 6 [8, 7] hHeld ?_ (hy := by (intro w' hSw; (try dsimp only at hSw); go_simp; (try simp only [HWk.out]); (try simp only [HKm.out]); try with_reducible rfl))
    refine Still.u 7 [8] hHeld hq ?_
    refine Still.u 8 [] hHeld hq ?_
    refine Still.o 9 rfl rfl (fun K hK => ?_)
    have qe := eqE x.fr x.tt y.fr y.tt
    rw [HB.out] at qe
    go_simp
    refine hK _ _ ab (fun _ => Still.vv ?_)
    clear hK K
    have C' := hd (CC.out.up hHeld)
    clear hHeld qe CC
    go_wp2
    go_roundw
    case rel => exact ⟨k + 1, by go_num, by omega, by omega, hd (fun j h h' h1 => by
     rcases Nat.lt_or_ge j k with h2 | h2
     ·exact HZ.out j h2 h' h1
     ·obtain rfl : j = k := by omega
      rw [HX.out, HY.out]
      exact Ne.symm HXY.out), C'⟩
    case measure => simp [intOf]; omega
  ·have hli : ¬ (k : Int) < l.length := by omega
   have HU : Hid (uniqE l = l) := by
    show _ = _
    have := uniq_same l l.length (Nat.le_refl _) (fun j h h' h1 => HZ.out j om h' h1)
    simpa using this
   go_wp2
   go_ret
   exact ⟨by rw [HU.out]; rfl, by rw [HU.out]; exact C.out.e, C.out.b⟩
def chE (c : Chn) : List Edg := if c.kd = 2 then [⟨c.fr, c.tt⟩, ⟨c.tt, c.fr⟩] else [⟨c.fr, c.tt⟩]
def rawE : List Chn → List Edg
 | [] => []
 | c :: r => chE c ++ rawE r
theorem rawE_app : ∀ (a b : List Chn), rawE (a ++ b) = rawE a ++ rawE b
 | [], b => rfl
 | c :: r, b => by
  simp only [List.cons_append, rawE, rawE_app r b, List.append_assoc]
theorem rawE_len : ∀ (a : List Chn), (rawE a).length ≤ 2 * a.length
 | [] => by simp [rawE]
 | c :: r => by
  have := rawE_len r
  simp only [rawE, List.length_append, List.length_cons]
  have h2 : (chE c).length ≤ 2 := by unfold chE; split <;> simp
  omega
theorem infoEdg : (Tryz.prog.info? 74).map (fun i => (i.zero, i.size, i.bytes)) = some (some (.agg #[.int .i64 0, .int .i64 0]), 2, 16) := by kernel_rfl
theorem new_rangeE (w : World) (t : TypeId) (cs : Array Value) (g : Nat) (hg : g = w.heap.size) : ∀ j u, cs.toList[j]? = some u → (w.alloc (.cells cs t)).cell? ((⟨g, 0, none⟩ : Addr).add j) = some u := fun j u hj => by
 rw [Addr.add_mid, Nat.zero_add, hg, World.cell?_alloc_new]
 simpa using hj
theorem two_one (a b : Int) : ∀ u ∈ [Value.int .i64 a, .int .i64 b], u.oneCell' = true := fun u hu => by
 simp at hu
 rcases hu with rfl | rfl <;> rfl
theorem own_edm {w : World} {base : Nat} {v : Value} {l : List Edg} (h : w.ownsRow base 74 2 v l.length (rowC Edg.cells l)) (h0 : 0 < l.length) : ∃ g cap, v = .slice (some ⟨g, 0, none⟩) l.length cap ∧ base ≤ g ∧ l.length ≤ cap ∧ EdM w g 0 l := by
 have hsl := own_sl h
 obtain ⟨b, off, cap, e, hcap, hb, hc⟩ := hsl.open h0
 rcases h.2 with ⟨e0, _⟩ | ⟨g, cap', cur, e0, hg, hh, _⟩
 ·rw [e0] at e
  cases e
 ·rw [e0] at e
  injection e with e1 _ e2
  injection e1 with e1
  injection e1 with e1 e3
  subst e1 e2 e3
  refine ⟨_, _, e0, hg, hcap, ⟨cur, hh⟩, fun k hk => ⟨?_, ?_⟩⟩
  ·exact hc (k * 2) _ (by
    have := rowC_at (s := 2) (f := Edg.cells) edg_len l k 0 hk (by decide)
    rw [Nat.add_zero] at this
    rw [this]
    rfl)
  ·have := hc (k * 2 + 1) (.int .i64 l[k].tt) (by
    rw [rowC_at (s := 2) (f := Edg.cells) edg_len l k 1 hk (by decide)]
    rfl)
   rw [← Nat.add_assoc] at this
   exact this
end Go.Proofs.YtehhhiodfcdnmaaGreatDoor
