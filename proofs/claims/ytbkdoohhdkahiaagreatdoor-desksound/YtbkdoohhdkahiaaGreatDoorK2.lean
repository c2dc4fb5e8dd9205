/- Rows of flat things, as cells. -/
import Derived.Test.YtbkdoohhdkahiaaGreatDoorK0
import Derived.Test.YtbkdoohhdkahiaaGreatDoorK1
import Derived.Test.YtbkdoohhdkahiaaGreatDoorFlShelf
import Derived.Shelf.SlSortCmp.SmallK
import Derived.Lib.SliceRun
import Derived.Deep.MidRow
import Derived.Test.YtbkdoohhdkahiaaGreatDoorProg
import Derived.WalkKit
import Derived.Outline
import Derived.WalkSmall
import Derived.Sort.Grow
import Derived.Lib.LaidTab
import Derived.Lib.ItoaNum
namespace Go.Proofs.YtbkdoohhdkahiaaGreatDoor
set_option linter.unusedSimpArgs false
set_option linter.unusedVariables false
open Go.RowKit Go.Sort
def rowC {α : Type} (f : α → List Value) (l : List α) : List Value := l.flatMap f
theorem rowC_len {α : Type} {f : α → List Value} {s : Nat} (hs : ∀ x, (f x).length = s) : ∀ l : List α, (rowC f l).length = l.length * s
  | [] => by simp [rowC]
  | x :: r => by
    have := rowC_len hs r
    unfold rowC at this ⊢
    rw [List.flatMap_cons, List.length_append, this, hs x, List.length_cons, Nat.succ_mul]; omega
theorem rowC_at {α : Type} {f : α → List Value} {s : Nat} (hs : ∀ x, (f x).length = s) : ∀ (l : List α) (k j : Nat) (h : k < l.length), j < s → (rowC f l)[k * s + j]? = (f l[k])[j]?
  | x :: r, 0, j, _, hj => by
    unfold rowC
    rw [List.flatMap_cons, List.getElem?_append_left (by rw [hs]; omega)]; simp
  | x :: r, k + 1, j, h, hj => by
    have := rowC_at hs r k j (by simpa using h) hj
    unfold rowC at this ⊢
    rw [List.flatMap_cons, List.getElem?_append_right (by rw [hs, Nat.succ_mul]; omega)]
    rw [show (k + 1) * s + j - (f x).length = k * s + j by rw [hs, Nat.succ_mul]; omega, this]
    rfl
end Go.Proofs.YtbkdoohhdkahiaaGreatDoor
namespace Go.Proofs.YtbkdoohhdkahiaaGreatDoor
set_option linter.unusedSimpArgs false
set_option linter.unusedVariables false
open Go.RowKit Go.Sort Go.Shelf Go.Lib
instance : Inhabited Edg := ⟨⟨0, 0⟩⟩
theorem edg_len (e : Edg) : e.cells.length = 2 := rfl
theorem edg_one (e : Edg) : ∀ v ∈ e.cells, v.oneCell' = true := fun v hv => by
  simp [Edg.cells] at hv
  rcases hv with rfl | rfl <;> rfl
theorem isAggE : ∀ w, (isAgg 53).run Tryz.prog w = .ok true w := Tryz.isAgg53
theorem sizeOfE : ∀ w, (Go.sizeOf 53).run Tryz.prog w = .ok 2 w := Tryz.sizeOf53
theorem cmpLaysE (blk off size : Nat) (w : World) : CmpLays Tryz.prog 120 #[] Edg.cells 2 cmpE blk off size w :=
  fun _ _ _ _ x y => edges1_any x y _
theorem hlenE (n : Nat) (W : World) (h : n ≤ 12) : Calls Tryz.prog 172 #[.int .u64 n] W fun e w' => (∃ l : Int, e = .returned (.int .i64 l)) ∧ w' = W :=
  (Tryz.bits_Len n W (by omega) (by omega)).mono fun _ _ ⟨he, hw⟩ => ⟨⟨_, he⟩, hw⟩
def sortE (l : List Edg) : List Edg := (Sort.insertionSort (ltOf cmpE) l.toArray 0 l.length).toList
theorem sortFunc_raw (l : List Edg) (blk off cap : Nat) (w : World) (hH : HoldsK Edg.cells 2 w blk off l.toArray) (hblk : blk < w.heap.size) (h12 : l.length ≤ 12) :
    Calls Tryz.prog 119 #[.slice (some ⟨blk, off, none⟩) l.length cap, .func (.func 120) #[] #[]] w fun e w' => e = .returned (.tuple #[]) ∧ ∃ n os, w' = sortWorldK Edg.cells 2 w blk off n (Sort.insertionSort (ltOf cmpE) l.toArray 0 l.length) os := by
  have eg : ∀ args w, (callFunc 120 args).run Tryz.prog w = .ok (.enter 120 args) w := enters_of Tryz.func120 (by kernel_rfl) rfl
  have h := AnyQ.slices_SortFunc_small Tryz.sortE 2 isAggE sizeOfE Edg.cells edg_len edg_one cmpE 120 #[] blk off cap l.toArray w eg (cmpLaysE blk off l.toArray.size w) hH hblk (by simpa using h12) hlenE
  exact h
end Go.Proofs.YtbkdoohhdkahiaaGreatDoor
namespace Go.Proofs.YtbkdoohhdkahiaaGreatDoor
set_option linter.unusedSimpArgs false
set_option linter.unusedVariables false
open Go.RowKit Go.Sort Go.Shelf Go.Lib
def EdM (w : World) (g off : Nat) (d : List Edg) : Prop := (∃ cur, Rw w g 53 cur) ∧ ∀ k (hk : k < d.length), w.cell? ⟨g, off + k * 2, none⟩ = some (.int .i64 d[k].fr) ∧ w.cell? ⟨g, off + k * 2 + 1, none⟩ = some (.int .i64 d[k].tt)
theorem EdM.up {B : Nat} {w w' : World} {g off : Nat} {d : List Edg} (h : EdM w g off d) (hb : RowKit.Below B w w') (hg : g < B) : EdM w' g off d :=
  ⟨let ⟨c, hc⟩ := h.1; ⟨c, hc.up hb hg⟩, fun k hk => ⟨bcl hb hg (h.2 k hk).1, bcl hb hg (h.2 k hk).2⟩⟩
theorem EdM.lt {w : World} {g off : Nat} {d : List Edg} (h : EdM w g off d) : g < w.heap.size := let ⟨_, hc⟩ := h.1; hc.lt
theorem EdM.holds {w : World} {g off : Nat} {d : List Edg} (h : EdM w g off d) : HoldsK Edg.cells 2 w g off d.toArray := by
  obtain ⟨⟨cur, hc⟩, hd⟩ := h
  intro j hj
  simp at hj
  have hk : j / 2 < d.length := by omega
  have hj2 : j = j / 2 * 2 + j % 2 := by omega
  refine ⟨?_, hc.fr _⟩
  rw [get_flatK _ _ _ _ (by simpa using hj)]
  simp only [id, List.getElem!_toArray]
  rw [getElem!_pos d (j / 2) hk]
  have h2 : j % 2 = 0 ∨ j % 2 = 1 := by omega
  rcases h2 with h2 | h2
  · have := (hd (j / 2) hk).1
    rw [show off + j = off + j / 2 * 2 by omega, this, h2]
    rfl
  · have := (hd (j / 2) hk).2
    rw [show off + j = off + j / 2 * 2 + 1 by omega, this, h2]
    rfl
theorem ltE_iff (x y : Edg) : ltOf cmpE x y = decide (x.fr < y.fr ∨ (x.fr = y.fr ∧ x.tt < y.tt)) := by
  unfold ltOf cmpE orI cmpI
  by_cases h1 : x.fr < y.fr
  · simp [h1]
  · by_cases h2 : y.fr < x.fr
    · simp [h1, h2]
      omega
    · have : x.fr = y.fr := by omega
      by_cases h3 : x.tt < y.tt
      · simp [this, h3]
      · by_cases h4 : y.tt < x.tt <;> simp [this, h3, h4]
theorem swoE : SWO (ltOf cmpE) where
  irrefl x := by rw [ltE_iff]; simp
  trans x y z h1 h2 := by rw [ltE_iff] at *; simp at *; omega
  ntrans x y z h1 h2 := by rw [ltE_iff] at *; simp at *; omega
def RiseE (l : List Edg) : Prop := ∀ i j (hi : i < j) (hj : j < l.length), ltOf cmpE l[j] (l[i]'(by omega)) = false
theorem sortW_rw {w : World} {g off m : Nat} {d : Array Edg} {os : Array Obj} {cur : Array Value} (h : Rw w g 53 cur) : ∃ cur', Rw (sortWorldK Edg.cells 2 w g off m d os) g 53 cur' := by
  have hl := h.lt
  refine ⟨putCells id off (flatK Edg.cells 2 d) cur, ?_⟩
  show ((mapBlock (Sort.ahead w m) g (putCells id off (flatK Edg.cells 2 d))).heap ++ os)[g]? = _
  have hs : g < (mapBlock (Sort.ahead w m) g (putCells id off (flatK Edg.cells 2 d))).heap.size := by
    show g < (w.heap.modify g _).size
    simpa using hl
  rw [Array.getElem?_append_left hs]
  show (w.heap.modify g _)[g]? = _
  rw [Array.getElem?_modify, if_pos rfl, show w.heap[g]? = some _ from h]
  rfl
theorem sortW_below {w : World} {g off m B : Nat} {d : Array Edg} {os : Array Obj} (hB : B ≤ g) (hg : g < w.heap.size) : RowKit.Below B w (sortWorldK Edg.cells 2 w g off m d os) := by
  refine ⟨rfl, rfl, rfl, ?_, fun k hk => ?_⟩
  · show _ ≤ ((w.heap.modify g _) ++ os).size
    simp
  · show ((w.heap.modify g _) ++ os)[k]? = _
    have hs : k < (w.heap.modify g (onCells (putCells id off (flatK Edg.cells 2 d)))).size := by simp; omega
    rw [Array.getElem?_append_left hs, Array.getElem?_modify, if_neg (by omega)]
theorem sortFunc_any (l : List Edg) (g off cap : Nat) (w : World) (hE : EdM w g off l) (h12 : l.length ≤ 12) :
    Calls Tryz.prog 119 #[.slice (some ⟨g, off, none⟩) l.length cap, .func (.func 120) #[] #[]] w fun e w' => e = .returned (.tuple #[]) ∧ ∃ r : List Edg, r.Perm l ∧ RiseE r ∧ EdM w' g off r ∧ ∀ B, B ≤ g → RowKit.Below B w w' := by
  have hg := hE.lt
  refine (sortFunc_raw l g off cap w hE.holds hg h12).mono ?_
  rintro e w' ⟨rfl, n, os, rfl⟩
  obtain ⟨⟨hsz, -, hperm⟩, hsort⟩ := insertionSort_holds (lt := ltOf cmpE) swoE l.toArray 0 l.length (Nat.zero_le _) (by simp)
  generalize Sort.insertionSort (ltOf cmpE) l.toArray 0 l.length = a at hsz hperm hsort
  have hsz' : a.size = l.length := by simpa using hsz
  refine ⟨rfl, a.toList, ?_, ?_, ⟨sortW_rw hE.1.choose_spec, fun k hk => ?_⟩, fun B hB => sortW_below hB hg⟩
  · have e1 : (a.extract 0 l.length).toList = a.toList := by rw [← hsz']; simp
    have e2 : (l.toArray.extract 0 l.length).toList = l := by simp
    rw [e1, e2] at hperm
    exact hperm
  · intro i j hi hj
    have hj' : j < a.size := by simpa using hj
    have := hsort i j (Nat.zero_le _) hi (by omega)
    rw [getElem!_pos _ j hj', getElem!_pos _ i (by omega)] at this
    simpa using this
  · have hk' : k < a.size := by simpa using hk
    have hH : HoldsK Edg.cells 2 (sortWorldK Edg.cells 2 w g off n a os) g off a :=
      holdsK_grow _ _ _ _ _ _ _ (by show g < (w.heap.modify g _).size; simpa using hg) (holdsK_putRowK _ _ _ _ _ _ _ (holdsK_ahead _ _ _ _ _ _ _ hE.holds) (by simpa using hsz))
    have c0 := (hH.cell (i := k) (c := 0) hk' (by decide)).1
    have c1 := (hH.cell (i := k) (c := 1) hk' (by decide)).1
    rw [getElem!_pos _ k hk'] at c0 c1
    exact ⟨c0, c1⟩
end Go.Proofs.YtbkdoohhdkahiaaGreatDoor
namespace Go.Proofs.YtbkdoohhdkahiaaGreatDoor
set_option linter.unusedSimpArgs false
set_option linter.unusedVariables false
open Go.RowKit Go.Sort Go.Shelf Go.Lib
def uniqE : List Edg → List Edg
  | [] => []
  | [a] => [a]
  | a :: b :: r => if a = b then uniqE (b :: r) else a :: uniqE (b :: r)
theorem uniq_snoc : ∀ (l : List Edg) (x y : Edg), uniqE (l ++ [x, y]) = if x = y then uniqE (l ++ [x]) else uniqE (l ++ [x]) ++ [y]
  | [], x, y => by
    by_cases h : x = y <;> simp [uniqE, h]
  | [a], x, y => by
    by_cases h : x = y <;> by_cases h2 : a = x <;> simp [uniqE, h, h2]
    all_goals (subst h; simp_all [uniqE])
  | a :: b :: r, x, y => by
    have h := uniq_snoc (b :: r) x y
    simp only [List.cons_append] at h ⊢
    by_cases e : a = b
    · rw [uniqE, if_pos e, h, uniqE, if_pos e]
    · rw [uniqE, if_neg e, h, uniqE, if_neg e]
      by_cases e2 : x = y <;> simp [e2]
theorem uniq_take (l : List Edg) (k : Nat) (h0 : 1 ≤ k) (hk : k < l.length) : uniqE (l.take (k + 1)) = if l[k - 1] = l[k] then uniqE (l.take k) else uniqE (l.take k) ++ [l[k]] := by
  have e1 : l.take k = l.take (k - 1) ++ [l[k - 1]] := by
    have := List.take_succ_eq_append_getElem (i := k - 1) (l := l) (by omega)
    rw [show k - 1 + 1 = k by omega] at this
    exact this
  have e2 : l.take (k + 1) = l.take (k - 1) ++ [l[k - 1], l[k]] := by
    rw [List.take_succ_eq_append_getElem hk, e1, List.append_assoc]
    rfl
  rw [e2, uniq_snoc, ← e1]
theorem uniq_same (l : List Edg) : ∀ k, k ≤ l.length → (∀ j (h : j < k) (h' : j < l.length), 1 ≤ j → l[j - 1] ≠ l[j]) → uniqE (l.take k) = l.take k
  | 0, _, _ => by simp [uniqE]
  | 1, h1, _ => by
    have : l.take 1 = [l[0]] := by
      rw [List.take_succ_eq_append_getElem (by omega)]
      simp
    rw [this]
    rfl
  | k + 2, hk, h => by
    rw [uniq_take l (k + 1) (by omega) (by omega), if_neg (h (k + 1) (by omega) (by omega) (by omega)), uniq_same l (k + 1) (by omega) (fun j a b c => h j (by omega) b c), List.take_succ_eq_append_getElem (i := k + 1) (by omega)]
theorem eqE (a b c d : Int) (w : World) : (Op.equalIn 10000 53 (.agg #[.int .i64 a, .int .i64 b]) (.agg #[.int .i64 c, .int .i64 d])).run Tryz.prog w = .ok (a == c && b == d) w := by
  have u3 := Tryz.underlying3
  have a3 := Tryz.isAgg3
  have z3 := Tryz.sizeOf3
  rw [show (10000 : Nat) = 9999 + 1 from rfl, Op.equalIn]
  simp only [Sem.run_bind, run_underlying Tryz.underlying53, Result.andThen_ok]
  by_cases h1 : a = c <;> by_cases h2 : b = d
  all_goals (try go_simp)
theorem run_clear2 {P : Program} (w : World) (t e ty : TypeId) (z : Value) (ht : P.underlying t = some (.slice e)) (hv : ∀ w, (zeroValue e).run P w = .ok z w) (b o n c : Nat) (hn : 0 < n) (us : List Value) (hus : (Builtin.zeroCells z.cells n).toList = us)
    (hc : ∀ j, j < us.length → (w.cell? ⟨b, o + j, none⟩).isSome = true) (hf : ∀ j, j < us.length → w.frozen? ⟨b, o + j, none⟩ = false) (h1 : ∀ v ∈ us, v.oneCell' = true) :
    (Builtin.clear_ #[t] ty #[.slice (some ⟨b, o, none⟩) n c]).run P w = .ok (.tuple #[]) (w.setCells b o us) := by
  have hst := run_storeCells_cells (P := P) b o us 0 w (by simpa using hc) (by simpa using hf) h1
  simp only [Nat.add_zero] at hst
  obtain ⟨m, rfl⟩ : ∃ m, n = m + 1 := ⟨n - 1, by omega⟩
  simp [Builtin.clear_, run_underlying ht, hv, hus, hst]
theorem wpList_clear {P : Program} {ops : Array Oper} {rest : List Oper} {o : Oper} {a : Act} {w : World} {Q : Exit → Act → World → Prop} (hg : o.guard = none) (x : Operand) (t : TypeId) (ho : o.op = .call { callee := .builtin .clear, args := #[x], argTypes := #[t] })
    (e : TypeId) (z : Value) (ht : P.underlying t = some (.slice e)) (hv : ∀ w, (zeroValue e).run P w = .ok z w) (b off n c : Nat) (hx : a.eval x = .slice (some ⟨b, off, none⟩) n c) (hn : 0 < n) (us : List Value) (hus : (Builtin.zeroCells z.cells n).toList = us)
    (hc : ∀ j, j < us.length → (w.cell? ⟨b, off + j, none⟩).isSome = true) (hf : ∀ j, j < us.length → w.frozen? ⟨b, off + j, none⟩ = false) (h1 : ∀ v ∈ us, v.oneCell' = true)
    (h : ∀ W, Hid (W = w.setCells b off us) → wpList P ops Q rest (a.put o.dst (.tuple #[])) W) : wpList P ops Q (o :: rest) a w := by
  refine wpList_plain hg fun K hK' => ?_
  have hrun := run_clear2 (P := P) w t e o.type z ht hv b off n c hn us hus hc hf h1
  unfold Oper.wp
  simp [execOp, ho, resolve, invoke, builtin, hx, hrun, Result.andThen]
  exact hK' _ _ (h _ (Lib.hid rfl))
end Go.Proofs.YtbkdoohhdkahiaaGreatDoor
namespace Go.Proofs.YtbkdoohhdkahiaaGreatDoor
set_option linter.unusedSimpArgs false
set_option linter.unusedVariables false
open Go.RowKit Go.Sort Go.Shelf Go.Lib
theorem wpList_store_midF {P : Program} {ops : Array Oper} {rest : List Oper} {op : Oper} {a : Act} {w : World} {Q : Exit → Act → World → Prop} (hgd : op.guard = none) (ty : TypeId) (x y : Operand) (ho : op.op = .store ty x y)
    (b o : Nat) (cells : Array Value) (hx : a.eval x = .pointer (some ⟨b, o, none⟩)) (hy : a.eval y = .agg cells)
    (ht : w.there b o cells.size) (hi : (P.info? ty).map (·.size) = some cells.size) (h1 : cells.all (·.oneCell') = true)
    (h : ∀ W, Hid (W = w.setCells b o cells.toList) → wpList P ops Q rest (a.put op.dst undef) W) : wpList P ops Q (op :: rest) a w :=
  wpList_store_mid hgd ty x y ho b o cells hx hy ht hi h1 (h _ (Lib.hid rfl))
theorem sizeEdg : (Tryz.prog.info? 53).map (·.size) = some 2 := by kernel_rfl
theorem zeroEdg : ∀ w, (zeroValue 53).run Tryz.prog w = .ok (.agg #[.int .i64 0, .int .i64 0]) w := fun w => by kernel_rfl
theorem rw_setCellsF : ∀ (us : List Value) {w : World} {g : Nat} (o : Nat) {t : TypeId} {cs : Array Value}, Rw w g t cs → ∃ cs', Rw (w.setCells g o us) g t cs'
  | [], _, _, _, _, cs, h => ⟨cs, h⟩
  | u :: r, w, g, o, t, cs, h => by
    rw [World.setCells]
    exact rw_setCellsF r (o + 1) (h.set o u)
theorem below_setCellsF : ∀ (us : List Value) {B : Nat} {a w : World} {b : Nat} (o : Nat), RowKit.Below B a w → B ≤ b → RowKit.Below B a (w.setCells b o us)
  | [], _, _, _, _, _, h, _ => h
  | u :: r, B, a, w, b, o, h, hb => by
    rw [World.setCells]
    exact below_setCellsF r (o + 1) (h.setCell (p := ⟨b, o, none⟩) hb u) hb
structure Cq (w W : World) (g off : Nat) (d : List Edg) : Prop where
  e : EdM W g off d
  b : ∀ B, B ≤ g → RowKit.Below B w W
theorem Cq.up {w W W' : World} {g off : Nat} {d : List Edg} (h : Cq w W g off d) (hb : RowKit.Below W.heap.size W W') : Cq w W' g off d :=
  ⟨h.e.up hb h.e.lt, fun B hB => (h.b B hB).trans (hb.mono (by have := h.e.lt; omega))⟩
theorem Cq.there {w W : World} {g off : Nat} {d : List Edg} (h : Cq w W g off d) {k : Nat} (hk : k < d.length) : W.there g (off + k * 2) 2 := fun j hj => by
  obtain ⟨⟨cur, hc⟩, hd⟩ := h.e
  refine ⟨?_, hc.fr _⟩
  have h2 : j = 0 ∨ j = 1 := by omega
  rcases h2 with rfl | rfl
  · rw [Nat.add_zero, (hd k hk).1]
    rfl
  · rw [(hd k hk).2]
    rfl
theorem Cq.put {w W : World} {g off : Nat} {d : List Edg} (h : Cq w W g off d) {k : Nat} (hk : k < d.length) (x : Edg) : Cq w (W.setCells g (off + k * 2) [.int .i64 x.fr, .int .i64 x.tt]) g off (d.set k x) := by
  have hth := h.there hk
  refine ⟨⟨let ⟨c, hc⟩ := h.e.1; rw_setCellsF _ _ hc, fun j hj => ?_⟩, fun B hB => below_setCellsF _ _ (h.b B hB) hB⟩
  have hj' : j < d.length := by simpa using hj
  obtain ⟨c0, c1⟩ := h.e.2 j hj'
  by_cases e : k = j
  · subst e
    simp only [List.getElem_set_self]
    have a0 := World.cell?_setCells_in g [.int .i64 x.fr, .int .i64 x.tt] (off + k * 2) W (fun i hi => (hth i (by simpa using hi)).1) 0 (by simp)
    have a1 := World.cell?_setCells_in g [.int .i64 x.fr, .int .i64 x.tt] (off + k * 2) W (fun i hi => (hth i (by simpa using hi)).1) 1 (by simp)
    exact ⟨a0, a1⟩
  · simp only [List.getElem_set_ne e]
    refine ⟨?_, ?_⟩
    · rw [World.cell?_setCells_out g _ (off + k * 2) W ⟨g, off + j * 2, none⟩ (fun _ _ => by simp; omega)]
      exact c0
    · rw [World.cell?_setCells_out g _ (off + k * 2) W ⟨g, off + j * 2 + 1, none⟩ (fun _ _ => by simp; omega)]
      exact c1
theorem zc_len (n : Nat) : ((Builtin.zeroCells (Value.cells (.agg #[.int .i64 0, .int .i64 0])) n).toList).length = n * 2 := by
  simp [Builtin.zeroCells, Value.cells]
theorem zc_one (n : Nat) : ∀ v ∈ (Builtin.zeroCells (Value.cells (.agg #[.int .i64 0, .int .i64 0])) n).toList, v.oneCell' = true := fun v hv => by
  simp [Builtin.zeroCells, Value.cells] at hv
  obtain ⟨a, _, rfl⟩ := hv
  have h2 : a % 2 = 0 ∨ a % 2 = 1 := by omega
  rcases h2 with h | h <;> simp [h, Value.oneCell']
theorem Cq.clear {w W : World} {g off : Nat} {d : List Edg} (h : Cq w W g off d) (k : Nat) (us : List Value) : Cq w (W.setCells g (off + k * 2) us) g off (d.take k) := by
  refine ⟨⟨let ⟨c, hc⟩ := h.e.1; rw_setCellsF _ _ hc, fun j hj => ?_⟩, fun B hB => below_setCellsF _ _ (h.b B hB) hB⟩
  have hj' : j < k ∧ j < d.length := by
    simp at hj
    omega
  obtain ⟨c0, c1⟩ := h.e.2 j hj'.2
  simp only [List.getElem_take]
  refine ⟨?_, ?_⟩
  · rw [World.cell?_setCells_out g us (off + k * 2) W ⟨g, off + j * 2, none⟩ (fun _ _ => Or.inl (by simp; omega))]
    exact c0
  · rw [World.cell?_setCells_out g us (off + k * 2) W ⟨g, off + j * 2 + 1, none⟩ (fun _ _ => Or.inl (by simp; omega))]
    exact c1
theorem Cq.isSome {w W : World} {g off : Nat} {d : List Edg} (h : Cq w W g off d) {k j : Nat} (hj : j < (d.length - k) * 2) : (W.cell? ⟨g, off + k * 2 + j, none⟩).isSome = true := by
  have hq : k + j / 2 < d.length := by omega
  have := h.there hq (j % 2) (by omega)
  rw [show off + k * 2 + j = off + (k + j / 2) * 2 + j % 2 by omega]
  exact this.1
set_option maxRecDepth 100000 in
set_option maxHeartbeats 8000000 in
theorem compact_any (l : List Edg) (g off cap : Nat) (hcap : l.length ≤ cap) (hbig : l.length ≤ 1000) (w : World) (hE : EdM w g off l) :
    Calls Tryz.prog 123 #[.slice (some ⟨g, off, none⟩) l.length cap] w fun e w' => e = .returned (.slice (some ⟨g, off, none⟩) (uniqE l).length cap) ∧ EdM w' g off (uniqE l) ∧ ∀ B, B ≤ g → RowKit.Below B w w' := by
  have hC : Cq w w g off l := ⟨hE, fun B _ => RowKit.Below.refl _ _⟩
  have CQ := Lib.hid hC
  clear hE hC
  by_cases hn : l.length < 2
  · have hni : (l.length : Int) < 2 := by omega
    have HU : Hid (uniqE l = l) := by
      show _ = _
      match l, hn with
      | [], _ => rfl
      | [a], _ => rfl
    clear hn
    go_enter Tryz.func123, Tryz.ntmps123
    go_wp2
    go_ret
    exact ⟨by rw [HU.out]; rfl, by rw [HU.out]; exact CQ.out.e, CQ.out.b⟩
  · have hni : ¬ (l.length : Int) < 2 := by omega
    go_enter Tryz.func123, Tryz.ntmps123
    go_wp2
    go_loopw [3] (fun i wr => ∃ k : Nat, i = .int .i64 k ∧ 1 ≤ k ∧ k ≤ l.length ∧ Hid (∀ j (h : j < k) (h' : j < l.length), 1 ≤ j → l[j - 1] ≠ l[j]) ∧ Hid (Cq w wr g off l)) (fun i _ => l.length - (intOf i).toNat)
    case atStart => exact ⟨1, rfl, Nat.le_refl _, by omega, Lib.hid (fun j h h' h1 => by omega), CQ⟩
    case round =>
    clear CQ
    obtain ⟨k, rfl, hk1, hk, HZ, C⟩ := hrel
    by_cases hlt : k < l.length
    · have hli : (k : Int) < l.length := by omega
      have h0i : (0 : Int) ≤ k := by omega
      have h1i : (0 : Int) ≤ (k : Int) - 1 := by omega
      have h2i : (k : Int) - 1 < l.length := by omega
      have HWk : Hid (IntKind.i64.wrap ((k : Int) - 1) = ((k - 1 : Nat) : Int)) := by
        show _ = _
        rw [IntKind.wrap_i64]
        omega
      have HKm : Hid ((k : Int) - 1 = ((k - 1 : Nat) : Int)) := by
        show _ = _
        omega
      have hm1 : ((k - 1 : Nat) : Int) < l.length := by omega
      have hm0 : (0 : Int) ≤ ((k - 1 : Nat) : Int) := by omega
      obtain ⟨x, hx⟩ : ∃ x, l[k] = x := ⟨_, rfl⟩
      obtain ⟨y, hy⟩ : ∃ y, l[k - 1] = y := ⟨_, rfl⟩
      have HX := Lib.hid hx
      have HY := Lib.hid hy
      have cA := C.out.e.2 k hlt
      have cB := C.out.e.2 (k - 1) (by omega)
      rw [hx] at cA
      rw [hy] at cB
      have A0 := Lib.hid cA.1
      have A1 := Lib.hid cA.2
      have B0 := Lib.hid cB.1
      have B1 := Lib.hid cB.2
      have hgl := C.out.e.lt
      clear hx hy cA cB
      by_cases hxy : x = y
      · have HB : Hid ((x.fr == y.fr && x.tt == y.tt) = true) := by
          show _ = _
          simp [hxy]
        have HXY := Lib.hid hxy
        clear hxy
        go_wp2
        have CC := C
        clear C
        refine region_still (S := fun w' => RowKit.Below wr.heap.size wr w') 9 (by kernel_rfl) (RowKit.Below.refl _ _).drew (fun hHeld => ?_)
        have hq := fun w' (hSw : (fun w' => RowKit.Below wr.heap.size wr w') w') => And.intro (bcl hSw hgl A0.out) (And.intro (bcl hSw hgl A1.out) (And.intro (bcl hSw hgl B0.out) (bcl hSw hgl B1.out)))
        refine Still.u 0 [3, 2] hHeld hq ?_
        refine Still.u 1 [3, 2] hHeld hq ?_
        refine Still.u 2 [3] hHeld hq ?_
        refine Still.u 3 [] hHeld hq ?_
        refine Still.u 4 [8, 7] hHeld hq ?_
        refine Still.u 5 [8, 7, 6] hHeld hq ?_
        refine Still.t 6 [8, 7] hHeld ?_ (hy := by (intro w' hSw; (try dsimp only at hSw); go_simp; (try simp only [HWk.out]); (try simp only [HKm.out]); try with_reducible rfl))
        refine Still.u 7 [8] hHeld hq ?_
        refine Still.u 8 [] hHeld hq ?_
        refine Still.o 9 rfl rfl (fun K hK => ?_)
        have qe := eqE x.fr x.tt y.fr y.tt
        rw [HB.out] at qe
        go_simp
        refine hK _ _ (fun h => absurd rfl h) (fun _ => ?_)
        clear hK K
        refine Still.over (by kernel_rfl) ?_ _
        have C' := Lib.hid (CC.out.up hHeld)
        clear hHeld qe CC
        have HLN := Lib.hid (show l.length - k + k = l.length by omega)
        have HU0 : Hid (l.take k = uniqE (l.take (k + 1))) := by
          show _ = _
          rw [uniq_take l k hk1 hlt, if_pos (by rw [HX.out, HY.out]; exact HXY.out.symm), uniq_same l k hk (fun j h h' h1 => HZ.out j h h' h1)]
        clear A0 A1 B0 B1 HB HX HY HXY HWk HKm hm1 hm0 h1i h2i HZ
        obtain ⟨r, hr⟩ : ∃ r, l.length - k = r := ⟨_, rfl⟩
        obtain ⟨rc, hrc⟩ : ∃ rc, cap - k = rc := ⟨_, rfl⟩
        have HR := Lib.hid hr
        have HRC := Lib.hid hrc
        have hrr : r ≤ rc := by omega
        have hr1 : 1 ≤ r := by omega
        have hlk : l.length = k + r := by omega
        have HLK := Lib.hid hlk
        have hr2 : r ≤ 1000 := by omega
        clear hlk
        go_upto_region 8 with fail
        clear hr hrc
        go_wp2
        go_loopw [3, 5] (fun i j wr => ∃ (m q : Nat) (d : List Edg), i = .int .i64 m ∧ j = .int .i64 q ∧ 1 ≤ q ∧ q ≤ r ∧ m ≤ k + q - 1 ∧ k ≤ m ∧ Hid (d.length = k + r) ∧ Hid (d.take m = uniqE (l.take (k + q))) ∧ Hid (∀ j, k + q - 1 ≤ j → d[j]? = l[j]?) ∧ Hid (Cq w wr g off d)) (fun _ j _ => r - (intOf j).toNat)
        case atStart => exact ⟨k, 1, l, rfl, rfl, Nat.le_refl _, hr1, by omega, Nat.le_refl _, HLK, HU0, Lib.hid (fun _ _ => rfl), by first | exact C' | exact Lib.hid (C'.out.up (RowKit.Below.refl _ _).drew)⟩
        case round =>
        clear C' HU0
        obtain ⟨m, q, d, rfl, rfl, hq1, hq2, hm, hkm, HDL, HDT, HDS, C⟩ := hrel
        by_cases hqr : q < r
        · have hqi : (q : Int) < r := by omega
          have hq0 : (0 : Int) ≤ q := by omega
          have HWq : Hid (IntKind.i64.wrap ((q : Int) - 1) = ((q - 1 : Nat) : Int)) := by
            show _ = _
            rw [IntKind.wrap_i64]
            omega
          have HQm : Hid ((q : Int) - 1 = ((q - 1 : Nat) : Int)) := by
            show _ = _
            omega
          have hm1 : ((q - 1 : Nat) : Int) < r := by omega
          have hm0 : (0 : Int) ≤ ((q - 1 : Nat) : Int) := by omega
          have hdq : k + q < d.length := by have := HDL.out; omega
          have hdq' : k + (q - 1) < d.length := by omega
          have hlq : k + q < l.length := by have := HLK.out; omega
          obtain ⟨x, hx⟩ : ∃ x, d[k + q] = x := ⟨_, rfl⟩
          obtain ⟨y, hy⟩ : ∃ y, d[k + (q - 1)] = y := ⟨_, rfl⟩
          have hxl : l[k + q] = x := by
            have := HDS.out (k + q) (by omega)
            rw [List.getElem?_eq_getElem hdq, List.getElem?_eq_getElem hlq] at this
            injection this with this
            rw [← this, hx]
          have hyl : l[k + q - 1]'(by omega) = y := by
            have := HDS.out (k + q - 1) (Nat.le_refl _)
            rw [List.getElem?_eq_getElem (by omega), List.getElem?_eq_getElem (by omega)] at this
            injection this with this
            rw [← this, ← hy]
            congr 1
            omega
          have hut := uniq_take l (k + q) (by omega) hlq
          rw [hxl, hyl] at hut
          have cA := C.out.e.2 (k + q) hdq
          have cB := C.out.e.2 (k + (q - 1)) hdq'
          rw [hx] at cA
          rw [hy] at cB
          rw [show off + (k + q) * 2 = off + k * 2 + q * 2 by omega] at cA
          rw [show off + (k + (q - 1)) * 2 = off + k * 2 + (q - 1) * 2 by omega] at cB
          have A0 := Lib.hid cA.1
          have A1 := Lib.hid cA.2
          have B0 := Lib.hid cB.1
          have B1 := Lib.hid cB.2
          have HUT := Lib.hid hut
          have HXD := Lib.hid hx
          have hgl := C.out.e.lt
          clear hx hy cA cB hut hxl hyl
          by_cases hxy : x = y
          · have HB : Hid ((x.fr == y.fr && x.tt == y.tt) = true) := by
              show _ = _
              simp [hxy]
            have HXY := Lib.hid hxy
            clear hxy
            go_wp2
            have CC := C
            clear C
            refine region_still (S := fun w' => RowKit.Below wr.heap.size wr w') 9 (by kernel_rfl) (RowKit.Below.refl _ _).drew (fun hHeld => ?_)
            have hq := fun w' (hSw : (fun w' => RowKit.Below wr.heap.size wr w') w') => And.intro (bcl hSw hgl A0.out) (And.intro (bcl hSw hgl A1.out) (And.intro (bcl hSw hgl B0.out) (bcl hSw hgl B1.out)))
            refine Still.u 0 [3, 2] hHeld hq ?_
            refine Still.u 1 [3, 2] hHeld hq ?_
            refine Still.u 2 [3] hHeld hq ?_
            refine Still.u 3 [] hHeld hq ?_
            refine Still.u 4 [8, 7] hHeld hq ?_
            refine Still.u 5 [8, 7, 6] hHeld hq ?_
            refine Still.t 6 [8, 7] hHeld ?_ (hy := by (intro w' hSw; (try dsimp only at hSw); go_simp; (try simp only [HWq.out]); (try simp only [HQm.out]); try with_reducible rfl))
            refine Still.u 7 [8] hHeld hq ?_
            refine Still.u 8 [] hHeld hq ?_
            refine Still.o 9 rfl rfl (fun K hK => ?_)
            have qe := eqE x.fr x.tt y.fr y.tt
            rw [HB.out] at qe
            go_simp
            refine hK _ _ (fun h => absurd rfl h) (fun _ => ?_)
            clear hK K
            refine Still.over (by kernel_rfl) ?_ _
            have C' := Lib.hid (CC.out.up hHeld)
            have a0 := bcl hHeld hgl A0.out
            have a1 := bcl hHeld hgl A1.out
            clear hHeld qe CC A0 A1 B0 B1
            go_wp2
            go_roundw
            case rel => exact ⟨m, q + 1, d, rfl, by go_num, by omega, by omega, by omega, hkm, HDL, Lib.hid (by rw [show k + (q + 1) = k + q + 1 by omega, HUT.out, if_pos HXY.out.symm]; exact HDT.out), Lib.hid (fun j hj => HDS.out j (by omega)), C'⟩
            case measure => simp [intOf]; omega
          · have HB : Hid ((x.fr == y.fr && x.tt == y.tt) = false) := by
              show _ = _
              cases hbb : (x.fr == y.fr && x.tt == y.tt) with
              | false => rfl
              | true =>
                simp at hbb
                exact absurd (by cases x; cases y; simp_all) hxy
            have HXY := Lib.hid hxy
            have hml : m < d.length := by have := HDL.out; omega
            have hmi : (m : Int) < l.length := by have := HLK.out; omega
            have hmi0 : (0 : Int) ≤ m := by omega
            clear hxy
            go_wp2
            have CC := C
            clear C
            refine region_still (S := fun w' => RowKit.Below wr.heap.size wr w') 9 (by kernel_rfl) (RowKit.Below.refl _ _).drew (fun hHeld => ?_)
            have hq := fun w' (hSw : (fun w' => RowKit.Below wr.heap.size wr w') w') => And.intro (bcl hSw hgl A0.out) (And.intro (bcl hSw hgl A1.out) (And.intro (bcl hSw hgl B0.out) (bcl hSw hgl B1.out)))
            refine Still.u 0 [3, 2] hHeld hq ?_
            refine Still.u 1 [3, 2] hHeld hq ?_
            refine Still.u 2 [3] hHeld hq ?_
            refine Still.u 3 [] hHeld hq ?_
            refine Still.u 4 [8, 7] hHeld hq ?_
            refine Still.u 5 [8, 7, 6] hHeld hq ?_
            refine Still.t 6 [8, 7] hHeld ?_ (hy := by (intro w' hSw; (try dsimp only at hSw); go_simp; (try simp only [HWq.out]); (try simp only [HQm.out]); try with_reducible rfl))
            refine Still.u 7 [8] hHeld hq ?_
            refine Still.u 8 [] hHeld hq ?_
            refine Still.o 9 rfl rfl (fun K hK => ?_)
            have qe := eqE x.fr x.tt y.fr y.tt
            rw [HB.out] at qe
            go_simp
            refine hK _ _ (fun h => absurd rfl h) (fun _ => ?_)
            clear hK K
            refine Still.over (by kernel_rfl) ?_ _
            have C' := Lib.hid (CC.out.up hHeld)
            have a0 := bcl hHeld hgl A0.out
            have a1 := bcl hHeld hgl A1.out
            clear hHeld qe CC A0 A1 B0 B1
            have HTH := Lib.hid (C'.out.there hml)
            go_wp2_with (refine wpList_store_midF rfl 53 (.tmp 51) (.tmp 50) rfl g (off + m * 2) #[.int .i64 x.fr, .int .i64 x.tt] rfl rfl HTH.out sizeEdg (by simp [Value.oneCell']) ?_)
            intro W5 HW5
            have C5 : Hid (Cq w W5 g off (d.set m x)) := by
              show Cq _ _ _ _ _
              rw [HW5.out]
              exact C'.out.put hml x
            clear HW5 HTH C' a0 a1
            go_wp2
            go_roundw
            case rel => exact ⟨m + 1, q + 1, d.set m x, by go_num, by go_num, by omega, by omega, by omega, by omega, Lib.hid (by rw [List.length_set]; exact HDL.out), Lib.hid (by
              rw [show k + (q + 1) = k + q + 1 by omega, HUT.out, if_neg (Ne.symm HXY.out), ← HDT.out, List.take_succ_eq_append_getElem (by rw [List.length_set]; exact hml), List.take_set_of_le (Nat.le_refl _), List.getElem_set_self]), Lib.hid (fun j hj => by
              rw [List.getElem?_set_ne (by omega)]
              exact HDS.out j (by omega)), C5⟩
            case measure => simp [intOf]; omega
        · obtain rfl : q = r := by omega
          have hqi : ¬ (q : Int) < q := by omega
          have HUL : Hid (uniqE l = d.take m) := by
            show _ = _
            rw [HDT.out, ← HLK.out, List.take_length]
          have hml : m < d.length := by have := HDL.out; omega
          have hmi : (m : Int) ≤ l.length := by have := HLK.out; omega
          have hmi0 : (0 : Int) ≤ m := by omega
          have hmc : (m : Int) ≤ cap := by omega
          have hmn : 0 < l.length - m := by have := HDL.out; have := HLK.out; omega
          have HML : Hid ((d.take m).length = m) := by
            show _ = _
            simp
            omega
          have hdl : d.length = l.length := by have := HDL.out; have := HLK.out; omega
          have HIS := Lib.hid (show ∀ j, j < (l.length - m) * 2 → (wr.cell? ⟨g, off + m * 2 + j, none⟩).isSome = true from fun j hj => C.out.isSome (by omega))
          obtain ⟨⟨cur, hcur⟩, -⟩ := C.out.e
          have HFR := Lib.hid hcur.fr
          clear hcur hdl
          go_wp2_with (refine wpList_clear rfl (.tmp 56) 25 rfl 53 _ Tryz.underlying25 zeroEdg g (off + m * 2) (l.length - m) (cap - m) rfl hmn _ rfl (fun j hj => HIS.out j (by rw [zc_len] at hj; exact hj)) (fun j hj => HFR.out _) (zc_one _) ?_)
          intro W6 HW6
          have C6 : Hid (Cq w W6 g off (d.take m)) := by
            show Cq _ _ _ _ _
            rw [HW6.out]
            exact C.out.clear m _
          clear HW6 HIS HFR C
          go_wp2
          go_ret
          exact ⟨by rw [HUL.out, HML.out]; rfl, by rw [HUL.out]; exact C6.out.e, C6.out.b⟩
      · have HB : Hid ((x.fr == y.fr && x.tt == y.tt) = false) := by
          show _ = _
          cases hbb : (x.fr == y.fr && x.tt == y.tt) with
          | false => rfl
          | true =>
            simp at hbb
            exact absurd (by cases x; cases y; simp_all) hxy
        have HXY := Lib.hid hxy
        clear hxy
        go_wp2
        have CC := C
        clear C
        refine region_still (S := fun w' => RowKit.Below wr.heap.size wr w') 9 (by kernel_rfl) (RowKit.Below.refl _ _).drew (fun hHeld => ?_)
        have hq := fun w' (hSw : (fun w' => RowKit.Below wr.heap.size wr w') w') => And.intro (bcl hSw hgl A0.out) (And.intro (bcl hSw hgl A1.out) (And.intro (bcl hSw hgl B0.out) (bcl hSw hgl B1.out)))
        refine Still.u 0 [3, 2] hHeld hq ?_
        refine Still.u 1 [3, 2] hHeld hq ?_
        refine Still.u 2 [3] hHeld hq ?_
        refine Still.u 3 [] hHeld hq ?_
        refine Still.u 4 [8, 7] hHeld hq ?_
        refine Still.u 5 [8, 7, 6] hHeld hq ?_
        refine Still.t 6 [8, 7] hHeld ?_ (hy := by (intro w' hSw; (try dsimp only at hSw); go_simp; (try simp only [HWk.out]); (try simp only [HKm.out]); try with_reducible rfl))
        refine Still.u 7 [8] hHeld hq ?_
        refine Still.u 8 [] hHeld hq ?_
        refine Still.o 9 rfl rfl (fun K hK => ?_)
        have qe := eqE x.fr x.tt y.fr y.tt
        rw [HB.out] at qe
        go_simp
        refine hK _ _ (fun h => absurd rfl h) (fun _ => ?_)
        clear hK K
        refine Still.over (by kernel_rfl) ?_ _
        have C' := Lib.hid (CC.out.up hHeld)
        clear hHeld qe CC
        go_wp2
        go_roundw
        case rel => exact ⟨k + 1, by go_num, by omega, by omega, Lib.hid (fun j h h' h1 => by
          rcases Nat.lt_or_ge j k with h2 | h2
          · exact HZ.out j h2 h' h1
          · obtain rfl : j = k := by omega
            rw [HX.out, HY.out]
            exact Ne.symm HXY.out), C'⟩
        case measure => simp [intOf]; omega
    · have hli : ¬ (k : Int) < l.length := by omega
      have HU : Hid (uniqE l = l) := by
        show _ = _
        have := uniq_same l l.length (Nat.le_refl _) (fun j h h' h1 => HZ.out j (by omega) h' h1)
        simpa using this
      go_wp2
      go_ret
      exact ⟨by rw [HU.out]; rfl, by rw [HU.out]; exact C.out.e, C.out.b⟩
end Go.Proofs.YtbkdoohhdkahiaaGreatDoor
namespace Go.Proofs.YtbkdoohhdkahiaaGreatDoor
set_option linter.unusedSimpArgs false
set_option linter.unusedVariables false
open Go.RowKit
def regB (a : Int) : Bool := decide (0 ≤ a) && decide (a < 4)
theorem isReg_any (a : Int) (w : World) : Calls Tryz.prog 175 #[.int .i64 a] w fun e w' => e = .returned (.bool (regB a)) ∧ w' = w := by
  by_cases h : 0 ≤ a
  all_goals
  go_enter Tryz.func175, Tryz.ntmps175
  go_wp2
  all_goals go_ret
  all_goals exact ⟨ret_bool (by simp [regB]; try omega), rfl⟩
def chkRow (ba bb bn : Bool) (lo hi a b n : Int) : Int :=
  if (ba && !regB a) || (bb && !regB b) || (bn && (decide (n < lo) || decide (hi < n))) then 3
  else if (!ba && a != 0) || (!bb && b != 0) || (!bn && n != 0) then 1 else 0
set_option maxHeartbeats 2000000 in
theorem chk_row (k : Nat) (hk1 : 1 ≤ k) (hk : k < 16) (ws : ByteArray) (ba bb bn : Bool) (lo hi a b n : Int) (w : World) (hz : 1 < w.heap.size)
   (c0 : w.cell? ⟨1, k * 6, none⟩ = some (.string ws)) (c1 : w.cell? ⟨1, k * 6 + 1, none⟩ = some (.bool ba))
   (c2 : w.cell? ⟨1, k * 6 + 2, none⟩ = some (.bool bb)) (c3 : w.cell? ⟨1, k * 6 + 3, none⟩ = some (.bool bn))
   (c4 : w.cell? ⟨1, k * 6 + 4, none⟩ = some (.int .i64 lo)) (c5 : w.cell? ⟨1, k * 6 + 5, none⟩ = some (.int .i64 hi)) : Calls Tryz.prog 128 #[.agg #[.int .i64 k, .int .i64 a, .int .i64 b, .int .i64 n]] w fun e w' => e = .returned (.int .i64 (chkRow ba bb bn lo hi a b n)) ∧ Below w.heap.size w w' := by
  have hk1' : ¬ ((k : Int) < 1) := by omega
  have hk2' : ¬ ((15 : Int) < k) := by omega
  go_enter Tryz.func128, Tryz.ntmps128
  go_wp2_with (go_at_call 175; refine (isReg_any _ _).mono ?_; rintro e w' ⟨rfl, rfl⟩)
  all_goals go_ret
  all_goals refine ⟨ret_int ?_, up0⟩
  all_goals (simp_all [chkRow]; done)
end Go.Proofs.YtbkdoohhdkahiaaGreatDoor
namespace Go.Proofs.YtbkdoohhdkahiaaGreatDoor
set_option linter.unusedSimpArgs false
set_option linter.unusedVariables false
open Go.RowKit
def rowA (k : Nat) : Bool := [false, true, true, true, true, true, true, true, false, true, true, true, true, true, false, false].getD k false
def rowB (k : Nat) : Bool := [false, false, true, true, true, true, true, true, false, false, false, false, false, true, false, false].getD k false
def rowN (k : Nat) : Bool := [false, true, false, false, false, false, false, false, true, true, false, false, true, true, false, false].getD k false
def rowLo (k : Nat) : Int := if k = 1 then -9223372036854775808 else 0
def rowHi (k : Nat) : Int := if k = 1 then 9223372036854775807 else if k = 8 ∨ k = 9 then 19 else if k = 12 ∨ k = 13 then 5 else 0
def rowW (k : Nat) : List UInt8 := [[], [115, 101, 116], [99, 111, 112, 121], [97, 100, 100], [115, 117, 98], [108, 101, 115, 115], [108, 111, 97, 100], [115, 97, 118, 101], [106, 117, 109, 112], [122, 101, 114, 111], [105, 110], [111, 117, 116], [112, 117, 116], [103, 101, 116], [114, 101, 115, 116], [115, 116, 111, 112]].getD k []
structure Shp (w : World) : Prop where
  size : 1 < w.heap.size
  c0 : ∀ k, k < 16 → w.cell? ⟨1, k * 6, none⟩ = some (.string ⟨(rowW k).toArray⟩)
  c1 : ∀ k, k < 16 → w.cell? ⟨1, k * 6 + 1, none⟩ = some (.bool (rowA k))
  c2 : ∀ k, k < 16 → w.cell? ⟨1, k * 6 + 2, none⟩ = some (.bool (rowB k))
  c3 : ∀ k, k < 16 → w.cell? ⟨1, k * 6 + 3, none⟩ = some (.bool (rowN k))
  c4 : ∀ k, k < 16 → w.cell? ⟨1, k * 6 + 4, none⟩ = some (.int .i64 (rowLo k))
  c5 : ∀ k, k < 16 → w.cell? ⟨1, k * 6 + 5, none⟩ = some (.int .i64 (rowHi k))
theorem Shp.up {w w' : World} (h : Shp w) (hb : Below w.heap.size w w') : Shp w' :=
  ⟨Nat.lt_of_lt_of_le h.size hb.size, fun k hk => (hb.cell h.size).trans (h.c0 k hk), fun k hk => (hb.cell h.size).trans (h.c1 k hk), fun k hk => (hb.cell h.size).trans (h.c2 k hk),
    fun k hk => (hb.cell h.size).trans (h.c3 k hk), fun k hk => (hb.cell h.size).trans (h.c4 k hk), fun k hk => (hb.cell h.size).trans (h.c5 k hk)⟩
def chkI (op a b n : Int) : Int := if op < 1 ∨ 15 < op then 4 else chkRow (rowA op.toNat) (rowB op.toNat) (rowN op.toNat) (rowLo op.toNat) (rowHi op.toNat) a b n
theorem chk_out (op a b n : Int) (w : World) (ho : op < 1 ∨ 15 < op) : Calls Tryz.prog 128 #[.agg #[.int .i64 op, .int .i64 a, .int .i64 b, .int .i64 n]] w fun e w' => e = .returned (.int .i64 4) ∧ Below w.heap.size w w' := by
  by_cases h : op < 1
  · clear ho
    go_enter Tryz.func128, Tryz.ntmps128
    go_wp2
    all_goals go_ret
    all_goals exact ⟨rfl, up0⟩
  · have h2 : 15 < op := by omega
    clear ho
    go_enter Tryz.func128, Tryz.ntmps128
    go_wp2
    all_goals go_ret
    all_goals exact ⟨rfl, up0⟩
theorem chk_any (op a b n : Int) (w : World) (h : Shp w) : Calls Tryz.prog 128 #[.agg #[.int .i64 op, .int .i64 a, .int .i64 b, .int .i64 n]] w fun e w' => e = .returned (.int .i64 (chkI op a b n)) ∧ Below w.heap.size w w' := by
  by_cases ho : op < 1 ∨ 15 < op
  · unfold chkI; rw [if_pos ho]; exact chk_out op a b n w ho
  · obtain ⟨k, rfl⟩ := Int.eq_ofNat_of_zero_le (show 0 ≤ op by omega)
    unfold chkI; rw [if_neg ho, Int.toNat_natCast]
    exact chk_row k (by omega) (by omega) _ _ _ _ _ _ a b n w h.size (h.c0 k (by omega)) (h.c1 k (by omega)) (h.c2 k (by omega)) (h.c3 k (by omega)) (h.c4 k (by omega)) (h.c5 k (by omega))
end Go.Proofs.YtbkdoohhdkahiaaGreatDoor
namespace Go.Proofs.YtbkdoohhdkahiaaGreatDoor
set_option linter.unusedSimpArgs false
set_option linter.unusedVariables false
open Go.RowKit Go.Sort
structure Env (w : World) : Prop where
  shp : Shp w
  tab : Lib.TabIs Tryz.prog w "internal/strconv.uint64pow10" .u64 Lib.pow10Tab
  syn : ∃ tp p, w.cell? ⟨2, 0, none⟩ = some (.iface tp p)
  rng : ∃ tp p, w.cell? ⟨3, 0, none⟩ = some (.iface tp p)
  max : ∃ m, w.cell? ⟨0, 0, none⟩ = some (.int .i64 m)
  size : 7 ≤ w.heap.size
theorem gPow : Tryz.prog.globalNamed "internal/strconv.uint64pow10" = some 4 := by kernel_rfl
theorem Env.up {w w' : World} (h : Env w) (hb : Below w.heap.size w w') : Env w' := by
  have hz := h.size
  obtain ⟨tp, p, e1⟩ := h.syn
  obtain ⟨tq, q, e2⟩ := h.rng
  obtain ⟨m, e3⟩ := h.max
  exact ⟨h.shp.up hb, var?_below hb gPow (by omega) h.tab, ⟨tp, p, (hb.cell (p := ⟨2, 0, none⟩) (by simp; omega)).trans e1⟩, ⟨tq, q, (hb.cell (p := ⟨3, 0, none⟩) (by simp; omega)).trans e2⟩,
    ⟨m, (hb.cell (p := ⟨0, 0, none⟩) (by simp; omega)).trans e3⟩, Nat.le_trans hz hb.size⟩
def in64 (n : Int) : Prop := -9223372036854775808 ≤ n ∧ n ≤ 9223372036854775807
theorem chk_v (op a b n c : Int) (w : World) (he : Env w) (hc : chkI op a b n = c) : Calls Tryz.prog 128 #[.agg #[.int .i64 op, .int .i64 a, .int .i64 b, .int .i64 n]] w fun e w' => e = .returned (.int .i64 c) ∧ Below w.heap.size w w' := hc ▸ chk_any op a b n w he.shp
end Go.Proofs.YtbkdoohhdkahiaaGreatDoor
namespace Go.Proofs.YtbkdoohhdkahiaaGreatDoor
set_option linter.unusedSimpArgs false
set_option linter.unusedVariables false
open Go.RowKit Go.Sort
def withinB (n lo hi : Int) : Bool := decide (lo ≤ n) && decide (n ≤ hi)
end Go.Proofs.YtbkdoohhdkahiaaGreatDoor
