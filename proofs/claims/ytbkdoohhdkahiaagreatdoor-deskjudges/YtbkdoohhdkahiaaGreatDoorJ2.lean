/- Rows of flat things, as cells. -/
import Derived.Test.YtbkdoohhdkahiaaGreatDoorJ0
import Derived.Test.YtbkdoohhdkahiaaGreatDoorJ1
import Derived.Test.YtbkdoohhdkahiaaGreatDoorFlShelf
import Derived.Shelf.SlSortCmp.SmallK
import Derived.Lib.SliceRun
import Derived.Deep.MidRow
import Derived.Lib.Hide
import Derived.Test.YtbkdoohhdkahiaaGreatDoorProg
import Derived.Deep.AppendLies
import Derived.Deep.LoopGhost
namespace Go.Proofs.YtbkdoohhdkahiaaGreatDoor
set_option linter.unusedSimpArgs false
set_option linter.unusedVariables false
set_option maxRecDepth 100000
set_option maxHeartbeats 8000000
open Go.RowKit Go.Sort
variable {B g m off s : Nat} {W w : World} {d : List Edg} {P : Program} {ops : Array Oper} {a : Act} {Q : Exit -> Act -> World -> Prop}
def xbe {α : Type} (f : α -> List Value) (l : List α) : List Value := l.flatMap f
theorem xgp {α : Type} {f : α -> List Value} (hs : ∀ x, (f x).length = s) : ∀ l : List α, (xbe f l).length = l.length * s
 | [] => by simp [xbe]
 | x :: r => by
  have := xgp hs r
  unfold xbe at this ⊢
  rw [List.flatMap_cons, List.length_append, this, hs x, List.length_cons, Nat.succ_mul]; omega
theorem xcn {α : Type} {f : α -> List Value} (hs : ∀ x, (f x).length = s) : ∀ (l : List α) (k j : Nat) (h : k < l.length), j < s -> (xbe f l)[k * s + j]? = (f l[k])[j]?
 | x :: r, 0, j, _, hj => by
  unfold xbe
  rw [List.flatMap_cons, List.getElem?_append_left (by rw [hs]; omega)]; simp
 | x :: r, k + 1, j, h, hj => by
  have := xcn hs r k j (by simpa using h) hj
  unfold xbe at this ⊢
  rw [List.flatMap_cons, List.getElem?_append_right (by rw [hs, Nat.succ_mul]; omega)]
  rw [show (k + 1) * s + j - (f x).length = k * s + j by rw [hs, Nat.succ_mul]; omega, this]
  rfl
open Go.RowKit Go.Sort Go.Shelf Go.Lib
instance : Inhabited Edg := ⟨⟨0, 0⟩⟩
theorem xgl (e : Edg) : e.cells.length = 2 := rfl
theorem x2v (e : Edg) : ∀ v ∈ e.cells, v.oneCell' = true := fun v hv => by
 simp [Edg.cells] at hv
 rcases hv with rfl | rfl <;> rfl
theorem x5r : ∀ w, (isAgg 53).run Tryz.prog w = .ok true w := Tryz.isAgg53
theorem x31 : ∀ w, (Go.sizeOf 53).run Tryz.prog w = .ok 2 w := Tryz.sizeOf53
theorem x0k (blk off size : Nat) (w : World) : CmpLays Tryz.prog 120 #[] Edg.cells 2 xrx blk off size w :=
 fun _ _ _ _ x y => xvz x y _
theorem x56 (n : Nat) (W : World) (h : n <= 12) : Calls Tryz.prog 172 #[.int .u64 n] W fun e w' => (∃ l : Int, e = .returned (.int .i64 l)) /\ w' = W :=
 (Tryz.bits_Len n W om om).mono fun _ _ ⟨he, hw⟩ => ⟨⟨_, he⟩, hw⟩
def sortE (l : List Edg) : List Edg := (Sort.insertionSort (ltOf xrx) l.toArray 0 l.length).toList
theorem xo7 (l : List Edg) (blk off cap : Nat) (w : World) (hH : HoldsK Edg.cells 2 w blk off l.toArray) (hblk : blk < w.heap.size) (h12 : l.length <= 12) :
  Calls Tryz.prog 119 #[.slice (some ⟨blk, off, none⟩) l.length cap, .func (.func 120) #[] #[]] w fun e w' => e = .returned (.tuple #[]) /\ ∃ n os, w' = sortWorldK Edg.cells 2 w blk off n (Sort.insertionSort (ltOf xrx) l.toArray 0 l.length) os := by
 have eg : ∀ args w, (callFunc 120 args).run Tryz.prog w = .ok (.enter 120 args) w := enters_of Tryz.func120 kr rfl
 have h := AnyQ.slices_SortFunc_small Tryz.sortE 2 x5r x31 Edg.cells xgl x2v xrx 120 #[] blk off cap l.toArray w eg (x0k blk off l.toArray.size w) hH hblk (by simpa using h12) x56
 exact h
def EdM (w : World) (g off : Nat) (d : List Edg) : Prop := (∃ cur, Rw w g 53 cur) /\ ∀ k (hk : k < d.length), w.cell? ⟨g, off + k * 2, none⟩ = some (.int .i64 d[k].fr) /\ w.cell? ⟨g, off + k * 2 + 1, none⟩ = some (.int .i64 d[k].tt)
theorem EdM.up {w' : World} (h : EdM w g off d) (hb : Below B w w') (hg : g < B) : EdM w' g off d :=
 ⟨let ⟨c, hc⟩ := h.1; ⟨c, hc.up hb hg⟩, fun k hk => ⟨bcl hb hg (h.2 k hk).1, bcl hb hg (h.2 k hk).2⟩⟩
theorem EdM.lt (h : EdM w g off d) : g < w.heap.size := let ⟨_, hc⟩ := h.1; hc.lt
theorem EdM.holds (h : EdM w g off d) : HoldsK Edg.cells 2 w g off d.toArray := by
 obtain ⟨⟨cur, hc⟩, hd⟩ := h
 intro j hj
 simp at hj
 have hk : j / 2 < d.length := by omega
 have hj2 : j = j / 2 * 2 + j % 2 := by omega
 refine ⟨?_, hc.fr _⟩
 rw [get_flatK _ _ _ _ (by simpa using hj)]
 simp only [id, List.getElem!_toArray]
 rw [getElem!_pos d (j / 2) hk]
 have h2 : j % 2 = 0 \/ j % 2 = 1 := by omega
 rcases h2 with h2 | h2
 .have := (hd (j / 2) hk).1
  rw [show off + j = off + j / 2 * 2 by omega, this, h2]
  rfl
 .have := (hd (j / 2) hk).2
  rw [show off + j = off + j / 2 * 2 + 1 by omega, this, h2]
  rfl
theorem xq2 (x y : Edg) : ltOf xrx x y = decide (x.fr < y.fr \/ (x.fr = y.fr /\ x.tt < y.tt)) := by
 unfold ltOf xrx orI x2j
 by_cases h1 : x.fr < y.fr
 .simp [h1]
 .by_cases h2 : y.fr < x.fr
  .simp [h1, h2]
   omega
  .have : x.fr = y.fr := by omega
   by_cases h3 : x.tt < y.tt
   .simp [this, h3]
   .by_cases h4 : y.tt < x.tt <;> simp [this, h3, h4]
theorem swoE : SWO (ltOf xrx) where
 irrefl x := by rw [xq2]; simp
 trans x y z h1 h2 := by rw [xq2] at *; simp at *; omega
 ntrans x y z h1 h2 := by rw [xq2] at *; simp at *; omega
def xz6 (l : List Edg) : Prop := ∀ i j (hi : i < j) (hj : j < l.length), ltOf xrx l[j] (l[i]'om) = false
theorem x0l {d : Array Edg} {os : Array Obj} {cur : Array Value} (h : Rw w g 53 cur) : ∃ cur', Rw (sortWorldK Edg.cells 2 w g off m d os) g 53 cur' := by
 have hl := h.lt
 refine ⟨putCells id off (flatK Edg.cells 2 d) cur, ?_⟩
 show ((mapBlock (Sort.ahead w m) g (putCells id off (flatK Edg.cells 2 d))).heap ++ os)[g]? = _
 have hs : g < (mapBlock (Sort.ahead w m) g (putCells id off (flatK Edg.cells 2 d))).heap.size := by
  show g < (w.heap.modify g _).size
  simpa using hl
 rw [Array.getElem?_append_left hs]
 show (w.heap.modify g _)[g]? = _
 rw [Array.getElem?_modify, if_pos rfl, show w.heap[g]? = some _ from h]
 rfl
theorem xr2 {d : Array Edg} {os : Array Obj} (hB : B <= g) (hg : g < w.heap.size) : Below B w (sortWorldK Edg.cells 2 w g off m d os) := by
 refine ⟨rfl, rfl, rfl, ?_, fun k hk => ?_⟩
 .show _ <= ((w.heap.modify g _) ++ os).size
  simp
 .show ((w.heap.modify g _) ++ os)[k]? = _
  have hs : k < (w.heap.modify g (onCells (putCells id off (flatK Edg.cells 2 d)))).size := by simp; omega
  rw [Array.getElem?_append_left hs, Array.getElem?_modify, if_neg om]
theorem xoo (l : List Edg) (g off cap : Nat) (w : World) (hE : EdM w g off l) (h12 : l.length <= 12) :
  Calls Tryz.prog 119 #[.slice (some ⟨g, off, none⟩) l.length cap, .func (.func 120) #[] #[]] w fun e w' => e = .returned (.tuple #[]) /\ ∃ r : List Edg, r.Perm l /\ xz6 r /\ EdM w' g off r /\ ∀ B, B <= g -> Below B w w' := by
 have hg := hE.lt
 refine (xo7 l g off cap w hE.holds hg h12).mono ?_
 rintro e w' ⟨rfl, n, os, rfl⟩
 obtain ⟨⟨hsz, -, hperm⟩, hsort⟩ := insertionSort_holds (lt := ltOf xrx) swoE l.toArray 0 l.length (Nat.zero_le _) (by simp)
 generalize Sort.insertionSort (ltOf xrx) l.toArray 0 l.length = a at hsz hperm hsort
 have hsz' : a.size = l.length := by simpa using hsz
 refine ⟨rfl, a.toList, ?_, ?_, ⟨x0l hE.1.choose_spec, fun k hk => ?_⟩, fun B hB => xr2 hB hg⟩
 .have e1 : (a.extract 0 l.length).toList = a.toList := by rw [<- hsz']; simp
  have e2 : (l.toArray.extract 0 l.length).toList = l := by simp
  rw [e1, e2] at hperm
  exact hperm
 .intro i j hi hj
  have hj' : j < a.size := by simpa using hj
  have := hsort i j (Nat.zero_le _) hi om
  rw [getElem!_pos _ j hj', getElem!_pos _ i om] at this
  simpa using this
 .have hk' : k < a.size := by simpa using hk
  have hH : HoldsK Edg.cells 2 (sortWorldK Edg.cells 2 w g off n a os) g off a :=
   holdsK_grow _ _ _ _ _ _ _ (by show g < (w.heap.modify g _).size; simpa using hg) (holdsK_putRowK _ _ _ _ _ _ _ (holdsK_ahead _ _ _ _ _ _ _ hE.holds) (by simpa using hsz))
  have c0 := (hH.cell (i := k) (c := 0) hk' (by decide)).1
  have c1 := (hH.cell (i := k) (c := 1) hk' (by decide)).1
  rw [getElem!_pos _ k hk'] at c0 c1
  exact ⟨c0, c1⟩
def xce : List Edg -> List Edg
 | [] => []
 | [a] => [a]
 | a :: b :: r => if a = b then xce (b :: r) else a :: xce (b :: r)
theorem xok : ∀ (l : List Edg) (x y : Edg), xce (l ++ [x, y]) = if x = y then xce (l ++ [x]) else xce (l ++ [x]) ++ [y]
 | [], x, y => by
  by_cases h : x = y <;> simp [xce, h]
 | [a], x, y => by
  by_cases h : x = y <;> by_cases h2 : a = x <;> simp [xce, h, h2]
  all_goals (subst h; simp_all [xce])
 | a :: b :: r, x, y => by
  have h := xok (b :: r) x y
  simp only [List.cons_append] at h ⊢
  by_cases e : a = b
  .rw [xce, if_pos e, h, xce, if_pos e]
  .rw [xce, if_neg e, h, xce, if_neg e]
   by_cases e2 : x = y <;> simp [e2]
theorem xkf (l : List Edg) (k : Nat) (h0 : 1 <= k) (hk : k < l.length) : xce (l.take (k + 1)) = if l[k - 1] = l[k] then xce (l.take k) else xce (l.take k) ++ [l[k]] := by
 have e1 : l.take k = l.take (k - 1) ++ [l[k - 1]] := by
  have := List.take_succ_eq_append_getElem (i := k - 1) (l := l) om
  rw [show k - 1 + 1 = k by omega] at this
  exact this
 have e2 : l.take (k + 1) = l.take (k - 1) ++ [l[k - 1], l[k]] := by
  rw [List.take_succ_eq_append_getElem hk, e1, List.append_assoc]
  rfl
 rw [e2, xok, <- e1]
theorem xj7 (l : List Edg) : ∀ k, k <= l.length -> (∀ j (h : j < k) (h' : j < l.length), 1 <= j -> l[j - 1] ≠ l[j]) -> xce (l.take k) = l.take k
 | 0, _, _ => by simp [xce]
 | 1, h1, _ => by
  have : l.take 1 = [l[0]] := by
   rw [List.take_succ_eq_append_getElem om]
   simp
  rw [this]
  rfl
 | k + 2, hk, h => by
  rw [xkf l (k + 1) om om, if_neg (h (k + 1) om om om), xj7 l (k + 1) om (fun j a b c => h j om b c), List.take_succ_eq_append_getElem (i := k + 1) om]
theorem eqE (a b c d : Int) (w : World) : (Op.equalIn 10000 53 (.agg #[.int .i64 a, .int .i64 b]) (.agg #[.int .i64 c, .int .i64 d])).run Tryz.prog w = .ok (a == c && b == d) w := by
 have u3 := Tryz.underlying3
 have a3 := Tryz.isAgg3
 have z3 := Tryz.sizeOf3
 rw [show (10000 : Nat) = 9999 + 1 from rfl, Op.equalIn]
 simp only [Sem.run_bind, run_underlying Tryz.underlying53, Result.andThen_ok]
 by_cases h1 : a = c <;> by_cases h2 : b = d
 all_goals (try go_simp)
theorem xvy (w : World) (t e ty : TypeId) (z : Value) (ht : P.underlying t = some (.slice e)) (hv : ∀ w, (zeroValue e).run P w = .ok z w) (b o n c : Nat) (hn : 0 < n) (us : List Value) (hus : (Builtin.zeroCells z.cells n).toList = us)
  (hc : ∀ j, j < us.length -> (w.cell? ⟨b, o + j, none⟩).isSome = true) (hf : ∀ j, j < us.length -> w.frozen? ⟨b, o + j, none⟩ = false) (h1 : ∀ v ∈ us, v.oneCell' = true) :
  (Builtin.clear_ #[t] ty #[.slice (some ⟨b, o, none⟩) n c]).run P w = .ok (.tuple #[]) (w.setCells b o us) := by
 have hst := run_storeCells_cells (P := P) b o us 0 w (by simpa using hc) (by simpa using hf) h1
 simp only [Nat.add_zero] at hst
 obtain ⟨m, rfl⟩ : ∃ m, n = m + 1 := ⟨n - 1, by omega⟩
 simp [Builtin.clear_, run_underlying ht, hv, hus, hst]
theorem xo4 {rest : List Oper} {o : Oper} (hg : o.guard = none) (x : Operand) (t : TypeId) (ho : o.op = .call { callee := .builtin .clear, args := #[x], argTypes := #[t] })
  (e : TypeId) (z : Value) (ht : P.underlying t = some (.slice e)) (hv : ∀ w, (zeroValue e).run P w = .ok z w) (b off n c : Nat) (hx : a.eval x = .slice (some ⟨b, off, none⟩) n c) (hn : 0 < n) (us : List Value) (hus : (Builtin.zeroCells z.cells n).toList = us)
  (hc : ∀ j, j < us.length -> (w.cell? ⟨b, off + j, none⟩).isSome = true) (hf : ∀ j, j < us.length -> w.frozen? ⟨b, off + j, none⟩ = false) (h1 : ∀ v ∈ us, v.oneCell' = true)
  (h : ∀ W, Hid (W = w.setCells b off us) -> wpList P ops Q rest (a.put o.dst (.tuple #[])) W) : wpList P ops Q (o :: rest) a w := by
 refine wpList_plain hg fun K hK' => ?_
 have hrun := xvy (P := P) w t e o.type z ht hv b off n c hn us hus hc hf h1
 unfold Oper.wp
 simp [execOp, ho, resolve, invoke, builtin, hx, hrun, Result.andThen]
 exact hK' _ _ (h _ (hd rfl))
theorem xi3 {rest : List Oper} {op : Oper} (hgd : op.guard = none) (ty : TypeId) (x y : Operand) (ho : op.op = .store ty x y)
  (b o : Nat) (cells : Array Value) (hx : a.eval x = .pointer (some ⟨b, o, none⟩)) (hy : a.eval y = .agg cells)
  (ht : w.there b o cells.size) (hi : (P.info? ty).map (·.size) = some cells.size) (h1 : cells.all (·.oneCell') = true)
  (h : ∀ W, Hid (W = w.setCells b o cells.toList) -> wpList P ops Q rest (a.put op.dst undef) W) : wpList P ops Q (op :: rest) a w :=
 wpList_store_mid hgd ty x y ho b o cells hx hy ht hi h1 (h _ (hd rfl))
theorem x33 : (Tryz.prog.info? 53).map (·.size) = some 2 := by kernel_rfl
theorem x4h : ∀ w, (zeroValue 53).run Tryz.prog w = .ok (.agg #[.int .i64 0, .int .i64 0]) w := fun w => by kernel_rfl
theorem xf6 : ∀ (us : List Value) {w : World} {g : Nat} (o : Nat) {t : TypeId} {cs : Array Value}, Rw w g t cs -> ∃ cs', Rw (w.setCells g o us) g t cs'
 | [], _, _, _, _, cs, h => ⟨cs, h⟩
 | u :: r, w, g, o, t, cs, h => by
  rw [World.setCells]
  exact xf6 r (o + 1) (h.set o u)
theorem xeo : ∀ (us : List Value) {B : Nat} {a w : World} {b : Nat} (o : Nat), Below B a w -> B <= b -> Below B a (w.setCells b o us)
 | [], _, _, _, _, _, h, _ => h
 | u :: r, B, a, w, b, o, h, hb => by
  rw [World.setCells]
  exact xeo r (o + 1) (h.setCell (p := ⟨b, o, none⟩) hb u) hb
structure Cq (w W : World) (g off : Nat) (d : List Edg) : Prop where
 e : EdM W g off d
 b : ∀ B, B <= g -> Below B w W
theorem Cq.up {W' : World} (h : Cq w W g off d) (hb : Below W.heap.size W W') : Cq w W' g off d :=
 ⟨h.e.up hb h.e.lt, fun B hB => (h.b B hB).trans (hb.mono (by have := h.e.lt; omega))⟩
theorem Cq.there (h : Cq w W g off d) {k : Nat} (hk : k < d.length) : W.there g (off + k * 2) 2 := fun j hj => by
 obtain ⟨⟨cur, hc⟩, hd⟩ := h.e
 refine ⟨?_, hc.fr _⟩
 have h2 : j = 0 \/ j = 1 := by omega
 rcases h2 with rfl | rfl
 .rw [Nat.add_zero, (hd k hk).1]
  rfl
 .rw [(hd k hk).2]
  rfl
theorem Cq.put (h : Cq w W g off d) {k : Nat} (hk : k < d.length) (x : Edg) : Cq w (W.setCells g (off + k * 2) [.int .i64 x.fr, .int .i64 x.tt]) g off (d.set k x) := by
 have hth := h.there hk
 refine ⟨⟨let ⟨c, hc⟩ := h.e.1; xf6 _ _ hc, fun j hj => ?_⟩, fun B hB => xeo _ _ (h.b B hB) hB⟩
 have hj' : j < d.length := by simpa using hj
 obtain ⟨c0, c1⟩ := h.e.2 j hj'
 by_cases e : k = j
 .subst e
  simp only [List.getElem_set_self]
  have a0 := World.cell?_setCells_in g [.int .i64 x.fr, .int .i64 x.tt] (off + k * 2) W (fun i hi => (hth i (by simpa using hi)).1) 0 (by simp)
  have a1 := World.cell?_setCells_in g [.int .i64 x.fr, .int .i64 x.tt] (off + k * 2) W (fun i hi => (hth i (by simpa using hi)).1) 1 (by simp)
  exact ⟨a0, a1⟩
 .simp only [List.getElem_set_ne e]
  refine ⟨?_, ?_⟩
  .rw [World.cell?_setCells_out g _ (off + k * 2) W ⟨g, off + j * 2, none⟩ (fun _ _ => by simp; omega)]
   exact c0
  .rw [World.cell?_setCells_out g _ (off + k * 2) W ⟨g, off + j * 2 + 1, none⟩ (fun _ _ => by simp; omega)]
   exact c1
theorem x5g (n : Nat) : ((Builtin.zeroCells (Value.cells (.agg #[.int .i64 0, .int .i64 0])) n).toList).length = n * 2 := by
 simp [Builtin.zeroCells, Value.cells]
theorem x5j (n : Nat) : ∀ v ∈ (Builtin.zeroCells (Value.cells (.agg #[.int .i64 0, .int .i64 0])) n).toList, v.oneCell' = true := fun v hv => by
 simp [Builtin.zeroCells, Value.cells] at hv
 obtain ⟨a, _, rfl⟩ := hv
 have h2 : a % 2 = 0 \/ a % 2 = 1 := by omega
 rcases h2 with h | h <;> simp [h, Value.oneCell']
theorem Cq.clear (h : Cq w W g off d) (k : Nat) (us : List Value) : Cq w (W.setCells g (off + k * 2) us) g off (d.take k) := by
 refine ⟨⟨let ⟨c, hc⟩ := h.e.1; xf6 _ _ hc, fun j hj => ?_⟩, fun B hB => xeo _ _ (h.b B hB) hB⟩
 have hj' : j < k /\ j < d.length := by
  simp at hj
  omega
 obtain ⟨c0, c1⟩ := h.e.2 j hj'.2
 simp only [List.getElem_take]
 refine ⟨?_, ?_⟩
 .rw [World.cell?_setCells_out g us (off + k * 2) W ⟨g, off + j * 2, none⟩ (fun _ _ => Or.inl so)]
  exact c0
 .rw [World.cell?_setCells_out g us (off + k * 2) W ⟨g, off + j * 2 + 1, none⟩ (fun _ _ => Or.inl so)]
  exact c1
theorem Cq.isSome (h : Cq w W g off d) {k j : Nat} (hj : j < (d.length - k) * 2) : (W.cell? ⟨g, off + k * 2 + j, none⟩).isSome = true := by
 have hq : k + j / 2 < d.length := by omega
 have := h.there hq (j % 2) om
 rw [show off + k * 2 + j = off + (k + j / 2) * 2 + j % 2 by omega]
 exact this.1
theorem xse (l : List Edg) (g off cap : Nat) (hcap : l.length <= cap) (hbig : l.length <= 1000) (w : World) (hE : EdM w g off l) :
  Calls Tryz.prog 123 #[.slice (some ⟨g, off, none⟩) l.length cap] w fun e w' => e = .returned (.slice (some ⟨g, off, none⟩) (xce l).length cap) /\ EdM w' g off (xce l) /\ ∀ B, B <= g -> Below B w w' := by
 have hC : Cq w w g off l := ⟨hE, fun B _ => Below.refl _ _⟩
 have CQ := hd hC
 clear hE hC
 by_cases hn : l.length < 2
 .have hni : (l.length : Int) < 2 := by omega
  have HU : Hid (xce l = l) := by
   show _ = _
   match l, hn with
   | [], _ => rfl
   | [a], _ => rfl
  clear hn
  go_enter Tryz.func123, Tryz.ntmps123
  go_wp2
  go_ret
  exact ⟨by rw [HU.out]; rfl, by rw [HU.out]; exact CQ.out.e, CQ.out.b⟩
 .have hni : ¬ (l.length : Int) < 2 := by omega
  go_enter Tryz.func123, Tryz.ntmps123
  go_wp2
  go_loopw [3] (fun i wr => ∃ k : Nat, i = .int .i64 k /\ 1 <= k /\ k <= l.length /\ Hid (∀ j (h : j < k) (h' : j < l.length), 1 <= j -> l[j - 1] ≠ l[j]) /\ Hid (Cq w wr g off l)) (fun i _ => l.length - (intOf i).toNat)
  case atStart => exact ⟨1, rfl, Nat.le_refl _, by omega, hd (fun j h h' h1 => by omega), CQ⟩
  case round =>
  clear CQ
  obtain ⟨k, rfl, hk1, hk, HZ, C⟩ := hrel
  by_cases hlt : k < l.length
  .have hli : (k : Int) < l.length := by omega
   have h0i : (0 : Int) <= k := by omega
   have h1i : (0 : Int) <= (k : Int) - 1 := by omega
   have h2i : (k : Int) - 1 < l.length := by omega
   have HWk : Hid (IntKind.i64.wrap ((k : Int) - 1) = ((k - 1 : Nat) : Int)) := by
    show _ = _
    rw [IntKind.wrap_i64]
    omega
   have HKm : Hid ((k : Int) - 1 = ((k - 1 : Nat) : Int)) := by
    show _ = _
    omega
   have hm1 : ((k - 1 : Nat) : Int) < l.length := by omega
   have hm0 : (0 : Int) <= ((k - 1 : Nat) : Int) := by omega
   obtain ⟨x, hx⟩ : ∃ x, l[k] = x := ⟨_, rfl⟩
   obtain ⟨y, hy⟩ : ∃ y, l[k - 1] = y := ⟨_, rfl⟩
   have HX := hd hx
   have HY := hd hy
   have cA := C.out.e.2 k hlt
   have cB := C.out.e.2 (k - 1) om
   rw [hx] at cA
   rw [hy] at cB
   have A0 := hd cA.1
   have A1 := hd cA.2
   have B0 := hd cB.1
   have B1 := hd cB.2
   have hgl := C.out.e.lt
   clear hx hy cA cB
   by_cases hxy : x = y
   .have HB : Hid ((x.fr == y.fr && x.tt == y.tt) = true) := by
     show _ = _
     simp [hxy]
    have HXY := hd hxy
    clear hxy
    go_wp2
    have CC := C
    clear C
    refine xad (S := fun w' => Below wr.heap.size wr w') 9 kr (Below.refl _ _).drew (fun hHeld => ?_)
    have hq := fun w' (hSw : (fun w' => Below wr.heap.size wr w') w') => And.intro (bcl hSw hgl A0.out) (And.intro (bcl hSw hgl A1.out) (And.intro (bcl hSw hgl B0.out) (bcl hSw hgl B1.out)))
    refine Still.u 0 [3, 2] hHeld hq ?_
    refine Still.u 1 [3, 2] hHeld hq ?_
    refine Still.u 2 [3] hHeld hq ?_
    refine Still.u 3 [] hHeld hq ?_
    refine Still.u 4 [8, 7] hHeld hq ?_
    refine Still.u 5 [8, 7, 6] hHeld hq ?_
    refine Still.t 6 [8, 7] hHeld ?_ (hy := by (intro w' hSw; (try dsimp only at hSw); go_simp; (try simp only [HWk.out]); (try simp only [HKm.out]); try with_reducible rfl))
    refine Still.u 7 [8] hHeld hq ?_
    refine Still.u 8 [] hHeld hq ?_
    refine Still.o 9 rfl rfl (fun K hK => ?_)
    have qe := eqE x.fr x.tt y.fr y.tt
    rw [HB.out] at qe
    go_simp
    refine hK _ _ ab (fun _ => Still.vv ?_)
    clear hK K
    have C' := hd (CC.out.up hHeld)
    clear hHeld qe CC
    have HLN := hd (show l.length - k + k = l.length by omega)
    have HU0 : Hid (l.take k = xce (l.take (k + 1))) := by
     show _ = _
     rw [xkf l k hk1 hlt, if_pos (by rw [HX.out, HY.out]; exact HXY.out.symm), xj7 l k hk (fun j h h' h1 => HZ.out j h h' h1)]
    clear A0 A1 B0 B1 HB HX HY HXY HWk HKm hm1 hm0 h1i h2i HZ
    obtain ⟨r, hr⟩ : ∃ r, l.length - k = r := ⟨_, rfl⟩
    obtain ⟨rc, hrc⟩ : ∃ rc, cap - k = rc := ⟨_, rfl⟩
    have HR := hd hr
    have HRC := hd hrc
    have hrr : r <= rc := by omega
    have hr1 : 1 <= r := by omega
    have hlk : l.length = k + r := by omega
    have HLK := hd hlk
    have hr2 : r <= 1000 := by omega
    clear hlk
    go_upto_region 8 with fail
    clear hr hrc
    go_wp2
    go_loopw [3, 5] (fun i j wr => ∃ (m q : Nat) (d : List Edg), i = .int .i64 m /\ j = .int .i64 q /\ 1 <= q /\ q <= r /\ m <= k + q - 1 /\ k <= m /\ Hid (d.length = k + r) /\ Hid (d.take m = xce (l.take (k + q))) /\ Hid (∀ j, k + q - 1 <= j -> d[j]? = l[j]?) /\ Hid (Cq w wr g off d)) (fun _ j _ => r - (intOf j).toNat)
    case atStart => exact ⟨k, 1, l, rfl, rfl, Nat.le_refl _, hr1, by omega, Nat.le_refl _, HLK, HU0, hd (fun _ _ => rfl), by first | exact C' | exact hd (C'.out.up (Below.refl _ _).drew)⟩
    case round =>
    clear C' HU0
    obtain ⟨m, q, d, rfl, rfl, hq1, hq2, hm, hkm, HDL, HDT, HDS, C⟩ := hrel
    by_cases hqr : q < r
    .have hqi : (q : Int) < r := by omega
     have hq0 : (0 : Int) <= q := by omega
     have HWq : Hid (IntKind.i64.wrap ((q : Int) - 1) = ((q - 1 : Nat) : Int)) := by
      show _ = _
      rw [IntKind.wrap_i64]
      omega
     have HQm : Hid ((q : Int) - 1 = ((q - 1 : Nat) : Int)) := by
      show _ = _
      omega
     have hm1 : ((q - 1 : Nat) : Int) < r := by omega
     have hm0 : (0 : Int) <= ((q - 1 : Nat) : Int) := by omega
     have hdq : k + q < d.length := by have := HDL.out; omega
     have hdq' : k + (q - 1) < d.length := by omega
     have hlq : k + q < l.length := by have := HLK.out; omega
     obtain ⟨x, hx⟩ : ∃ x, d[k + q] = x := ⟨_, rfl⟩
     obtain ⟨y, hy⟩ : ∃ y, d[k + (q - 1)] = y := ⟨_, rfl⟩
     have hxl : l[k + q] = x := by
      have := HDS.out (k + q) om
      rw [List.getElem?_eq_getElem hdq, List.getElem?_eq_getElem hlq] at this
      injection this with this
      rw [<- this, hx]
     have hyl : l[k + q - 1]'om = y := by
      have := HDS.out (k + q - 1) (Nat.le_refl _)
      rw [List.getElem?_eq_getElem om, List.getElem?_eq_getElem om] at this
      injection this with this
      rw [<- this, <- hy]
      congr 1
      omega
     have hut := xkf l (k + q) om hlq
     rw [hxl, hyl] at hut
     have cA := C.out.e.2 (k + q) hdq
     have cB := C.out.e.2 (k + (q - 1)) hdq'
     rw [hx] at cA
     rw [hy] at cB
     rw [show off + (k + q) * 2 = off + k * 2 + q * 2 by omega] at cA
     rw [show off + (k + (q - 1)) * 2 = off + k * 2 + (q - 1) * 2 by omega] at cB
     have A0 := hd cA.1
     have A1 := hd cA.2
     have B0 := hd cB.1
     have B1 := hd cB.2
     have HUT := hd hut
     have HXD := hd hx
     have hgl := C.out.e.lt
     clear hx hy cA cB hut hxl hyl
     by_cases hxy : x = y
     .have HB : Hid ((x.fr == y.fr && x.tt == y.tt) = true) := by
       show _ = _
       simp [hxy]
      have HXY := hd hxy
      clear hxy
      go_wp2
      have CC := C
      clear C
      refine xad (S := fun w' => Below wr.heap.size wr w') 9 kr (Below.refl _ _).drew (fun hHeld => ?_)
      have hq := fun w' (hSw : (fun w' => Below wr.heap.size wr w') w') => And.intro (bcl hSw hgl A0.out) (And.intro (bcl hSw hgl A1.out) (And.intro (bcl hSw hgl B0.out) (bcl hSw hgl B1.out)))
      refine Still.u 0 [3, 2] hHeld hq ?_
      refine Still.u 1 [3, 2] hHeld hq ?_
      refine Still.u 2 [3] hHeld hq ?_
      refine Still.u 3 [] hHeld hq ?_
      refine Still.u 4 [8, 7] hHeld hq ?_
      refine Still.u 5 [8, 7, 6] hHeld hq ?_
      refine Still.t 6 [8, 7] hHeld ?_ (hy := by (intro w' hSw; (try dsimp only at hSw); go_simp; (try simp only [HWq.out]); (try simp only [HQm.out]); try with_reducible rfl))
      refine Still.u 7 [8] hHeld hq ?_
      refine Still.u 8 [] hHeld hq ?_
      refine Still.o 9 rfl rfl (fun K hK => ?_)
      have qe := eqE x.fr x.tt y.fr y.tt
      rw [HB.out] at qe
      go_simp
      refine hK _ _ ab (fun _ => Still.vv ?_)
      clear hK K
      have C' := hd (CC.out.up hHeld)
      have a0 := bcl hHeld hgl A0.out
      have a1 := bcl hHeld hgl A1.out
      clear hHeld qe CC A0 A1 B0 B1
      go_wp2
      go_roundw
      case rel => exact ⟨m, q + 1, d, rfl, by go_num, by omega, by omega, by omega, hkm, HDL, hd (by rw [show k + (q + 1) = k + q + 1 by omega, HUT.out, if_pos HXY.out.symm]; exact HDT.out), hd (fun j hj => HDS.out j om), C'⟩
      case measure => simp [intOf]; omega
     .have HB : Hid ((x.fr == y.fr && x.tt == y.tt) = false) := by
       show _ = _
       cases hbb : (x.fr == y.fr && x.tt == y.tt) with
       | false => rfl
       | true =>
        simp at hbb
        exact absurd (by cases x; cases y; simp_all) hxy
      have HXY := hd hxy
      have hml : m < d.length := by have := HDL.out; omega
      have hmi : (m : Int) < l.length := by have := HLK.out; omega
      have hmi0 : (0 : Int) <= m := by omega
      clear hxy
      go_wp2
      have CC := C
      clear C
      refine xad (S := fun w' => Below wr.heap.size wr w') 9 kr (Below.refl _ _).drew (fun hHeld => ?_)
      have hq := fun w' (hSw : (fun w' => Below wr.heap.size wr w') w') => And.intro (bcl hSw hgl A0.out) (And.intro (bcl hSw hgl A1.out) (And.intro (bcl hSw hgl B0.out) (bcl hSw hgl B1.out)))
      refine Still.u 0 [3, 2] hHeld hq ?_
      refine Still.u 1 [3, 2] hHeld hq ?_
      refine Still.u 2 [3] hHeld hq ?_
      refine Still.u 3 [] hHeld hq ?_
      refine Still.u 4 [8, 7] hHeld hq ?_
      refine Still.u 5 [8, 7, 6] hHeld hq ?_
      refine Still.t 6 [8, 7] hHeld ?_ (hy := by (intro w' hSw; (try dsimp only at hSw); go_simp; (try simp only [HWq.out]); (try simp only [HQm.out]); try with_reducible rfl))
      refine Still.u 7 [8] hHeld hq ?_
      refine Still.u 8 [] hHeld hq ?_
      refine Still.o 9 rfl rfl (fun K hK => ?_)
      have qe := eqE x.fr x.tt y.fr y.tt
      rw [HB.out] at qe
      go_simp
      refine hK _ _ ab (fun _ => Still.vv ?_)
      clear hK K
      have C' := hd (CC.out.up hHeld)
      have a0 := bcl hHeld hgl A0.out
      have a1 := bcl hHeld hgl A1.out
      clear hHeld qe CC A0 A1 B0 B1
      have HTH := hd (C'.out.there hml)
      go_wp2_with (refine xi3 rfl 53 (.tmp 51) (.tmp 50) rfl g (off + m * 2) #[.int .i64 x.fr, .int .i64 x.tt] rfl rfl HTH.out x33 (by simp [Value.oneCell']) ?_)
      intro W5 HW5
      have C5 : Hid (Cq w W5 g off (d.set m x)) := by
       show Cq _ _ _ _ _
       rw [HW5.out]
       exact C'.out.put hml x
      clear HW5 HTH C' a0 a1
      go_wp2
      go_roundw
      case rel => exact ⟨m + 1, q + 1, d.set m x, by go_num, by go_num, by omega, by omega, by omega, by omega, hd (by rw [List.length_set]; exact HDL.out), hd (by
       rw [show k + (q + 1) = k + q + 1 by omega, HUT.out, if_neg (Ne.symm HXY.out), <- HDT.out, List.take_succ_eq_append_getElem (by rw [List.length_set]; exact hml), List.take_set_of_le (Nat.le_refl _), List.getElem_set_self]), hd (fun j hj => by
       rw [List.getElem?_set_ne om]
       exact HDS.out j om), C5⟩
      case measure => simp [intOf]; omega
    .obtain rfl : q = r := by omega
     have hqi : ¬ (q : Int) < q := by omega
     have HUL : Hid (xce l = d.take m) := by
      show _ = _
      rw [HDT.out, <- HLK.out, List.take_length]
     have hml : m < d.length := by have := HDL.out; omega
     have hmi : (m : Int) <= l.length := by have := HLK.out; omega
     have hmi0 : (0 : Int) <= m := by omega
     have hmc : (m : Int) <= cap := by omega
     have hmn : 0 < l.length - m := by have := HDL.out; have := HLK.out; omega
     have HML : Hid ((d.take m).length = m) := by
      show _ = _
      simp
      omega
     have hdl : d.length = l.length := by have := HDL.out; have := HLK.out; omega
     have HIS := hd (show ∀ j, j < (l.length - m) * 2 -> (wr.cell? ⟨g, off + m * 2 + j, none⟩).isSome = true from fun j hj => C.out.isSome om)
     obtain ⟨⟨cur, hcur⟩, -⟩ := C.out.e
     have HFR := hd hcur.fr
     clear hcur hdl
     go_wp2_with (refine xo4 rfl (.tmp 56) 25 rfl 53 _ Tryz.underlying25 x4h g (off + m * 2) (l.length - m) (cap - m) rfl hmn _ rfl (fun j hj => HIS.out j (by rw [x5g] at hj; exact hj)) (fun j hj => HFR.out _) (x5j _) ?_)
     intro W6 HW6
     have C6 : Hid (Cq w W6 g off (d.take m)) := by
      show Cq _ _ _ _ _
      rw [HW6.out]
      exact C.out.clear m _
     clear HW6 HIS HFR C
     go_wp2
     go_ret
     exact ⟨by rw [HUL.out, HML.out]; rfl, by rw [HUL.out]; exact C6.out.e, C6.out.b⟩
   .have HB : Hid ((x.fr == y.fr && x.tt == y.tt) = false) := by
     show _ = _
     cases hbb : (x.fr == y.fr && x.tt == y.tt) with
     | false => rfl
     | true =>
      simp at hbb
      exact absurd (by cases x; cases y; simp_all) hxy
    have HXY := hd hxy
    clear hxy
    go_wp2
    have CC := C
    clear C
    refine xad (S := fun w' => Below wr.heap.size wr w') 9 kr (Below.refl _ _).drew (fun hHeld => ?_)
    have hq := fun w' (hSw : (fun w' => Below wr.heap.size wr w') w') => And.intro (bcl hSw hgl A0.out) (And.intro (bcl hSw hgl A1.out) (And.intro (bcl hSw hgl B0.out) (bcl hSw hgl B1.out)))
    refine Still.u 0 [3, 2] hHeld hq ?_
    refine Still.u 1 [3, 2] hHeld hq ?_
    refine Still.u 2 [3] hHeld hq ?_
    refine Still.u 3 [] hHeld hq ?_
    refine Still.u 4 [8, 7] hHeld hq ?_
    refine Still.u 5 [8, 7, 6] hHeld hq ?_
    refine Still.t 6 [8, 7] hHeld ?_ (hy := by (intro w' hSw; (try dsimp only at hSw); go_simp; (try simp only [HWk.out]); (try simp only [HKm.out]); try with_reducible rfl))
    refine Still.u 7 [8] hHeld hq ?_
    refine Still.u 8 [] hHeld hq ?_
    refine Still.o 9 rfl rfl (fun K hK => ?_)
    have qe := eqE x.fr x.tt y.fr y.tt
    rw [HB.out] at qe
    go_simp
    refine hK _ _ ab (fun _ => Still.vv ?_)
    clear hK K
    have C' := hd (CC.out.up hHeld)
    clear hHeld qe CC
    go_wp2
    go_roundw
    case rel => exact ⟨k + 1, by go_num, by omega, by omega, hd (fun j h h' h1 => by
     rcases Nat.lt_or_ge j k with h2 | h2
     .exact HZ.out j h2 h' h1
     .obtain rfl : j = k := by omega
      rw [HX.out, HY.out]
      exact Ne.symm HXY.out), C'⟩
    case measure => simp [intOf]; omega
  .have hli : ¬ (k : Int) < l.length := by omega
   have HU : Hid (xce l = l) := by
    show _ = _
    have := xj7 l l.length (Nat.le_refl _) (fun j h h' h1 => HZ.out j om h' h1)
    simpa using this
   go_wp2
   go_ret
   exact ⟨by rw [HU.out]; rfl, by rw [HU.out]; exact C.out.e, C.out.b⟩
def xaf (n lo hi : Int) : Bool := decide (lo <= n) && decide (n <= hi)
theorem xao (n lo hi : Int) (w : World) : Calls Tryz.prog 21 #[.int .i64 n, .int .i64 lo, .int .i64 hi] w fun e w' => e = .returned (.bool (xaf n lo hi)) /\ w' = w := by
 by_cases h : lo <= n
 all_goals
 go_enter Tryz.func21, Tryz.ntmps21
 go_wp2
 all_goals go_ret
 all_goals exact ⟨xaw (by simp [xaf]; try omega), rfl⟩
theorem x4f (a : Int) : xaf a 0 3 = xlb a := by
 unfold xaf xlb; congr 1; simp; omega
theorem xdu (a : Int) (w : World) : Calls Tryz.prog 194 #[.int .i64 a] w fun e w' => e = .returned (.bool (xlb a)) /\ w' = w := by
 go_enter Tryz.func194, Tryz.ntmps194
 go_wp2_with (go_at_call 21; refine (xao _ _ _ _).mono ?_; rintro e w' ⟨rfl, rfl⟩)
 go_ret
 exact ⟨xaw (x4f a), rfl⟩
theorem x1l (op : Int) (ho : op < 1 \/ 15 < op) (w : World) : Calls Tryz.prog 193 #[.int .i64 op] w fun e w' => e = .returned (.tuple #[.bool false, .bool false, .bool false]) /\ w' = w := by
 have h1 : (op == 1) = false := by simp; omega
 have h2 : (op == 2) = false := by simp; omega
 have h3 : (op == 3) = false := by simp; omega
 have h4 : (op == 4) = false := by simp; omega
 have h5 : (op == 5) = false := by simp; omega
 have h6 : (op == 6) = false := by simp; omega
 have h7 : (op == 7) = false := by simp; omega
 have h8 : (op == 8) = false := by simp; omega
 have h9 : (op == 9) = false := by simp; omega
 have h10 : (op == 10) = false := by simp; omega
 have h11 : (op == 11) = false := by simp; omega
 have h12 : (op == 12) = false := by simp; omega
 have h13 : (op == 13) = false := by simp; omega
 clear ho
 go_enter Tryz.func193, Tryz.ntmps193
 go_wp2
 all_goals go_ret3
 all_goals exact ⟨rfl, rfl⟩
theorem xlg (op : Int) (w : World) : Calls Tryz.prog 193 #[.int .i64 op] w fun e w' => e = .returned (.tuple #[.bool (xqe op.toNat), .bool (xqh op.toNat), .bool (xoa op.toNat)]) /\ w' = w := by
 by_cases ho : op < 1 \/ 15 < op
 .have e1 : xqe op.toNat = false := by
   rcases ho with h | h
   .rw [show op.toNat = 0 by omega]; rfl
   .unfold xqe; rw [List.getD_eq_getElem?_getD, List.getElem?_eq_none so]; rfl
  have e2 : xqh op.toNat = false := by
   rcases ho with h | h
   .rw [show op.toNat = 0 by omega]; rfl
   .unfold xqh; rw [List.getD_eq_getElem?_getD, List.getElem?_eq_none so]; rfl
  have e3 : xoa op.toNat = false := by
   rcases ho with h | h
   .rw [show op.toNat = 0 by omega]; rfl
   .unfold xoa; rw [List.getD_eq_getElem?_getD, List.getElem?_eq_none so]; rfl
  rw [e1, e2, e3]
  exact x1l op ho w
 .have h : op = 1 \/ op = 2 \/ op = 3 \/ op = 4 \/ op = 5 \/ op = 6 \/ op = 7 \/ op = 8 \/ op = 9 \/ op = 10 \/ op = 11 \/ op = 12 \/ op = 13 \/ op = 14 \/ op = 15 := by omega
  clear ho
  rcases h with rfl | rfl | rfl | rfl | rfl | rfl | rfl | rfl | rfl | rfl | rfl | rfl | rfl | rfl | rfl
  all_goals
   go_enter Tryz.func193, Tryz.ntmps193
   go_wp2
   go_ret3
   exact ⟨rfl, rfl⟩
theorem xjh (k : Nat) (hk1 : 1 <= k) (hk : k < 16) (ba bb bn : Bool) (eA : xqe k = ba) (eB : xqh k = bb) (eN : xoa k = bn) (a b n : Int) (w : World)
  (h8 : ((k : Int) == 8) = false) (h9 : ((k : Int) == 9) = false) (h12 : ((k : Int) == 12) = false) (h13 : ((k : Int) == 13) = false) (lo hi : Int) (hl : lo <= n) (hh : n <= hi) :
  Calls Tryz.prog 160 #[.agg #[.int .i64 k, .int .i64 a, .int .i64 b, .int .i64 n]] w fun e w' => e = .returned (.int .i64 (xdd ba bb bn lo hi a b n)) /\ Below w.heap.size w w' := by
 have hw : xaf k 1 15 = true := by unfold xaf; simp; omega
 go_enter Tryz.func160, Tryz.ntmps160
 go_wp2_with (first | (go_at_call 21; refine (xao _ _ _ _).mono ?_; rintro e w' ⟨rfl, rfl⟩) | (go_at_call 194; refine (xdu _ _).mono ?_; rintro e w' ⟨rfl, rfl⟩) | (go_at_call 193; refine (xlg _ _).mono ?_; rw [Int.toNat_natCast, eA, eB, eN]; rintro e w' ⟨rfl, rfl⟩))
 all_goals go_ret
 all_goals refine ⟨xax ?_, up0⟩
 all_goals clear h8 h9 h12 h13 hw eA eB eN
 all_goals (have q1 : decide (n < lo) = false := by simp; omega
            have q2 : decide (hi < n) = false := by simp; omega
            simp_all [xdd])
theorem x1d (a b n : Int) (w : World) :
  Calls Tryz.prog 160 #[.agg #[.int .i64 8, .int .i64 a, .int .i64 b, .int .i64 n]] w fun e w' => e = .returned (.int .i64 (xdd false false true 0 19 a b n)) /\ Below w.heap.size w w' := by
 have hw : xaf 8 1 15 = true := by decide
 go_enter Tryz.func160, Tryz.ntmps160
 go_wp2_with (first | (go_at_call 21; refine (xao _ _ _ _).mono ?_; rintro e w' ⟨rfl, rfl⟩) | (go_at_call 194; refine (xdu _ _).mono ?_; rintro e w' ⟨rfl, rfl⟩) | (go_at_call 193; refine (xlg _ _).mono ?_; rw [show xqe (Int.toNat 8) = false from rfl, show xqh (Int.toNat 8) = false from rfl, show xoa (Int.toNat 8) = true from rfl]; rintro e w' ⟨rfl, rfl⟩))
 all_goals go_ret
 all_goals refine ⟨xax ?_, up0⟩
 all_goals clear hw
 all_goals (simp_all [xdd, xaf]; try omega)
theorem x1q (a b n : Int) (w : World) :
  Calls Tryz.prog 160 #[.agg #[.int .i64 9, .int .i64 a, .int .i64 b, .int .i64 n]] w fun e w' => e = .returned (.int .i64 (xdd true false true 0 19 a b n)) /\ Below w.heap.size w w' := by
 have hw : xaf 9 1 15 = true := by decide
 go_enter Tryz.func160, Tryz.ntmps160
 go_wp2_with (first | (go_at_call 21; refine (xao _ _ _ _).mono ?_; rintro e w' ⟨rfl, rfl⟩) | (go_at_call 194; refine (xdu _ _).mono ?_; rintro e w' ⟨rfl, rfl⟩) | (go_at_call 193; refine (xlg _ _).mono ?_; rw [show xqe (Int.toNat 9) = true from rfl, show xqh (Int.toNat 9) = false from rfl, show xoa (Int.toNat 9) = true from rfl]; rintro e w' ⟨rfl, rfl⟩))
 all_goals go_ret
 all_goals refine ⟨xax ?_, up0⟩
 all_goals clear hw
 all_goals (simp_all [xdd, xaf]; try omega)
theorem xy1 (a b n : Int) (w : World) :
  Calls Tryz.prog 160 #[.agg #[.int .i64 12, .int .i64 a, .int .i64 b, .int .i64 n]] w fun e w' => e = .returned (.int .i64 (xdd true false true 0 5 a b n)) /\ Below w.heap.size w w' := by
 have hw : xaf 12 1 15 = true := by decide
 go_enter Tryz.func160, Tryz.ntmps160
 go_wp2_with (first | (go_at_call 21; refine (xao _ _ _ _).mono ?_; rintro e w' ⟨rfl, rfl⟩) | (go_at_call 194; refine (xdu _ _).mono ?_; rintro e w' ⟨rfl, rfl⟩) | (go_at_call 193; refine (xlg _ _).mono ?_; rw [show xqe (Int.toNat 12) = true from rfl, show xqh (Int.toNat 12) = false from rfl, show xoa (Int.toNat 12) = true from rfl]; rintro e w' ⟨rfl, rfl⟩))
 all_goals go_ret
 all_goals refine ⟨xax ?_, up0⟩
 all_goals clear hw
 all_goals (simp_all [xdd, xaf]; try omega)
theorem xxb (a b n : Int) (w : World) :
  Calls Tryz.prog 160 #[.agg #[.int .i64 13, .int .i64 a, .int .i64 b, .int .i64 n]] w fun e w' => e = .returned (.int .i64 (xdd true true true 0 5 a b n)) /\ Below w.heap.size w w' := by
 have hw : xaf 13 1 15 = true := by decide
 go_enter Tryz.func160, Tryz.ntmps160
 go_wp2_with (first | (go_at_call 21; refine (xao _ _ _ _).mono ?_; rintro e w' ⟨rfl, rfl⟩) | (go_at_call 194; refine (xdu _ _).mono ?_; rintro e w' ⟨rfl, rfl⟩) | (go_at_call 193; refine (xlg _ _).mono ?_; rw [show xqe (Int.toNat 13) = true from rfl, show xqh (Int.toNat 13) = true from rfl, show xoa (Int.toNat 13) = true from rfl]; rintro e w' ⟨rfl, rfl⟩))
 all_goals go_ret
 all_goals refine ⟨xax ?_, up0⟩
 all_goals clear hw
 all_goals (simp_all [xdd, xaf]; try omega)
theorem xv1 (op a b n : Int) (w : World) (ho : op < 1 \/ 15 < op) :
  Calls Tryz.prog 160 #[.agg #[.int .i64 op, .int .i64 a, .int .i64 b, .int .i64 n]] w fun e w' => e = .returned (.int .i64 4) /\ Below w.heap.size w w' := by
 have hw : xaf op 1 15 = false := by unfold xaf; simp; omega
 clear ho
 go_enter Tryz.func160, Tryz.ntmps160
 go_wp2_with (go_at_call 21; refine (xao _ _ _ _).mono ?_; rintro e w' ⟨rfl, rfl⟩)
 go_ret
 exact ⟨rfl, up0⟩
theorem xmp (op a b n : Int) (hn : xb6 n) (w : World) :
  Calls Tryz.prog 160 #[.agg #[.int .i64 op, .int .i64 a, .int .i64 b, .int .i64 n]] w fun e w' => e = .returned (.int .i64 (xob op a b n)) /\ Below w.heap.size w w' := by
 by_cases ho : op < 1 \/ 15 < op
 .unfold xob; rw [if_pos ho]; exact xv1 op a b n w ho
 .unfold xob; rw [if_neg ho]
  by_cases e8 : op = 8
  .subst e8; exact x1d a b n w
  by_cases e9 : op = 9
  .subst e9; exact x1q a b n w
  by_cases e12 : op = 12
  .subst e12; exact xy1 a b n w
  by_cases e13 : op = 13
  .subst e13; exact xxb a b n w
  obtain ⟨k, rfl⟩ := Int.eq_ofNat_of_zero_le (show 0 <= op by omega)
  rw [Int.toNat_natCast]
  by_cases e1 : k = 1
  .subst e1
   exact xjh 1 om om _ _ _ rfl rfl rfl a b n w (by decide) (by decide) (by decide) (by decide) _ _ hn.1 hn.2
  .have hN : xoa k = false := by
    have : ∀ k, k < 16 -> (k = 1 \/ k = 8 \/ k = 9 \/ k = 12 \/ k = 13 \/ xoa k = false) := by decide
    rcases this k om with h | h | h | h | h | h
    .exact absurd h e1
    .omega
    .omega
    .omega
    .omega
    .exact h
   have e : xdd (xqe k) (xqh k) (xoa k) (xrz k) (xql k) a b n = xdd (xqe k) (xqh k) (xoa k) n n a b n := by
    rw [hN]; rfl
   rw [e]
   exact xjh k om om _ _ _ rfl rfl rfl a b n w so so so so _ _ (Int.le_refl _) (Int.le_refl _)
structure Ins where
 op : Int
 a : Int
 b : Int
 n : Int
def Ins.v (i : Ins) : Value := .agg #[.int .i64 i.op, .int .i64 i.a, .int .i64 i.b, .int .i64 i.n]
def Ins.cells (i : Ins) : List Value := [.int .i64 i.op, .int .i64 i.a, .int .i64 i.b, .int .i64 i.n]
def Ins.ok (i : Ins) : Prop := xb6 i.op /\ xb6 i.a /\ xb6 i.b /\ xb6 i.n
def Ins.chk (i : Ins) : Int := xob i.op i.a i.b i.n
def xck : List Ins -> List Value
 | [] => []
 | i :: r => i.cells ++ xck r
theorem xih : ∀ (l : List Ins) (k j : Nat) (h : k < l.length), j < 4 -> (xck l)[k * 4 + j]? = l[k].cells[j]?
 | i :: r, 0, j, _, hj => by
  rw [xck, List.getElem?_append_left (by simp [Ins.cells]; omega)]; simp
 | i :: r, k + 1, j, h, hj => by
  rw [xck, List.getElem?_append_right (by simp [Ins.cells]; omega)]
  have := xih r k j (by simpa using h) hj
  rw [show (k + 1) * 4 + j - i.cells.length = k * 4 + j by simp [Ins.cells]; omega, this]
  rfl
theorem xdm {b : Nat} {l : List Ins} (hc : ∀ j u, (xck l)[j]? = some u -> w.cell? ⟨b, off + j, none⟩ = some u) (k : Nat) (h : k < l.length) :
  w.cell? ⟨b, off + k * 4, none⟩ = some (.int .i64 l[k].op) /\ w.cell? ⟨b, off + k * 4 + 1, none⟩ = some (.int .i64 l[k].a) /\ w.cell? ⟨b, off + k * 4 + 2, none⟩ = some (.int .i64 l[k].b) /\ w.cell? ⟨b, off + k * 4 + 3, none⟩ = some (.int .i64 l[k].n) := by
 refine ⟨?_, ?_, ?_, ?_⟩
 .exact hc (k * 4) _ (by have := xih l k 0 h (by decide); simpa [Ins.cells] using this)
 .exact hc (k * 4 + 1) _ (by rw [xih l k 1 h (by decide)]; rfl)
 .exact hc (k * 4 + 2) _ (by rw [xih l k 2 h (by decide)]; rfl)
 .exact hc (k * 4 + 3) _ (by rw [xih l k 3 h (by decide)]; rfl)
def xdr : List Ins -> Int
 | [] => 0
 | i :: r => if i.chk = 0 then xdr r else i.chk
def xd3 (l : List Ins) : Int := if l.length < 1 \/ 20 < l.length then 2 else xdr l
theorem xkq : ∀ (l : List Ins) (k : Nat) (h : k < l.length), (∀ j (hj : j < l.length), j < k -> l[j].chk = 0) -> l[k].chk ≠ 0 -> xdr l = l[k].chk
 | i :: r, 0, _, _, hne => by rw [xdr, if_neg (show ¬ i.chk = 0 from hne)]; rfl
 | i :: r, k + 1, h, hz, hne => by
  rw [xdr, if_pos (show i.chk = 0 from hz 0 (by simp) om)]
  exact xkq r k (by simpa using h) (fun j hj hlt => hz (j + 1) (by simpa using hj) om) hne
theorem xiu : ∀ l : List Ins, (∀ j (hj : j < l.length), l[j].chk = 0) -> xdr l = 0
 | [], _ => rfl
 | i :: r, hz => by
  rw [xdr, if_pos (show i.chk = 0 from hz 0 (by simp))]
  exact xiu r (fun j hj => hz (j + 1) (by simpa using hj))
theorem xc3 : ∀ {l : List Ins}, xdr l = 0 -> ∀ j (hj : j < l.length), l[j].chk = 0
 | i :: r, h, j, hj => by
  rw [xdr] at h
  by_cases hc : i.chk = 0
  .rw [if_pos hc] at h
   cases j with
   | zero => exact hc
   | succ j => exact xc3 h j (by simpa using hj)
  .rw [if_neg hc] at h; exact absurd h hc
theorem xem {l : List Ins} (h : xd3 l = 0) : 1 <= l.length /\ l.length <= 20 /\ ∀ j (hj : j < l.length), l[j].chk = 0 := by
 unfold xd3 at h
 by_cases hl : l.length < 1 \/ 20 < l.length
 .rw [if_pos hl] at h; omega
 .rw [if_neg hl] at h
  exact ⟨by omega, by omega, xc3 h⟩
theorem xfc (l : List Ins) (v : Value) (w : World) (he : Env w) (hS : Sl w 4 v l.length (xck l)) : Calls Tryz.prog 77 #[v] w fun e w' => e = .returned (.int .i64 (xd3 l)) /\ Below w.heap.size w w' := by
 by_cases hl : l.length < 1 \/ 20 < l.length
 .obtain ⟨ao, cap, rfl⟩ := hS.form
  unfold xd3
  rw [if_pos hl]
  by_cases h1 : l.length < 1
  .have h1' : (l.length : Int) < 1 := by omega
   clear hl
   go_enter Tryz.func77, Tryz.ntmps77
   go_wp2
   go_ret
   exact ⟨rfl, Below.refl _ _⟩
  .have h1' : ¬ (l.length : Int) < 1 := by omega
   have h2' : (20 : Int) < l.length := by omega
   clear hl
   go_enter Tryz.func77, Tryz.ntmps77
   go_wp2
   go_ret
   exact ⟨rfl, Below.refl _ _⟩
 .unfold xd3
  rw [if_neg hl]
  have h1' : ¬ (l.length : Int) < 1 := by omega
  have h2' : ¬ (20 : Int) < l.length := by omega
  obtain ⟨b, off, cap, rfl, hcap, hbw, hc⟩ := hS.open om
  have HC := hd hc
  obtain ⟨res, hres⟩ : ∃ res, res = xdr l := ⟨_, rfl⟩
  rw [<- hres]
  have HR := hd hres
  have hl20 : l.length <= 20 := by omega
  clear hl hc hS hres
  go_enter Tryz.func77, Tryz.ntmps77
  go_wp2
  go_loopw [16] (fun i wr => ∃ k : Nat, i = .int .i64 k /\ k <= l.length /\ Hid (∀ j (hj : j < l.length), j < k -> l[j].chk = 0) /\ Below w.heap.size w wr) (fun i _ => l.length - (intOf i).toNat)
  case atStart => exact ⟨0, rfl, Nat.zero_le _, fun j hj h => by omega, Below.refl _ _⟩
  case round =>
   obtain ⟨k, rfl, hk, HZ, hbel⟩ := hrel
   by_cases hlt : k < l.length
   .obtain ⟨c0, c1, c2, c3⟩ := xdm HC.out k hlt
    have c0 := bcl hbel hbw c0
    have c1 := bcl hbel hbw c1
    have c2 := bcl hbel hbw c2
    have c3 := bcl hbel hbw c3
    have her := he.up hbel
    have hbr : b < wr.heap.size := Nat.lt_of_lt_of_le hbw hbel.size
    have hkc : (k : Int) < l.length := by omega
    obtain ⟨ck, hck⟩ : ∃ ck, ck = l[k].chk := ⟨_, rfl⟩
    by_cases h0 : ck = 0
    .have HCK : Hid (xob l[k].op l[k].a l[k].b l[k].n = 0) := by show l[k].chk = 0; rw [<- hck, h0]
     clear hck h0
     go_wp2_with (go_at_call 128; refine (x49 _ _ _ _ 0 _ ?_ HCK.out).mono ?_; (exact her.up up0); rintro e w1 ⟨rfl, hb1⟩)
     go_roundw
     case rel => exact ⟨k + 1, by go_num, by omega, fun j hj hjk => by
      by_cases e : j = k
      .subst e; exact HCK.out
      .exact HZ.out j hj om, (hbel.alloc hbel.size _).trans (hb1.mono (by simp; have := hbel.size; omega))⟩
     case measure => simp [intOf]; omega
    .have HCK : Hid (xob l[k].op l[k].a l[k].b l[k].n = ck) := by show l[k].chk = ck; rw [hck]
     have HRR : Hid (ck = res) := by
      show ck = res
      rw [HR.out, hck]; exact (xkq l k hlt HZ.out (by rw [<- hck]; exact h0)).symm
     have h0' : (ck != 0) = true := by simpa using h0
     clear hck h0
     go_wp2_with (go_at_call 128; refine (x49 _ _ _ _ ck _ ?_ HCK.out).mono ?_; (exact her.up up0); rintro e w1 ⟨rfl, hb1⟩)
     go_ret
     exact ⟨xax HRR.out, (hbel.alloc hbel.size _).trans (hb1.mono (by simp; have := hbel.size; omega))⟩
   .have hkc : ¬ (k : Int) < l.length := by omega
    have HRR : Hid ((0 : Int) = res) := by
     show (0 : Int) = res
     rw [HR.out]; exact (xiu l (fun j hj => HZ.out j hj om)).symm
    go_wp2
    go_ret
    exact ⟨xax HRR.out, hbel⟩
theorem xr6 (l : List Ins) (hok : ∀ j (hj : j < l.length), l[j].ok) (v : Value) (w : World) (hS : Sl w 4 v l.length (xck l)) : Calls Tryz.prog 104 #[v] w fun e w' => e = .returned (.int .i64 (xd3 l)) /\ Below w.heap.size w w' := by
 by_cases hl : l.length < 1 \/ 20 < l.length
 .obtain ⟨ao, cap, rfl⟩ := hS.form
  unfold xd3
  rw [if_pos hl]
  have hw : xaf l.length 1 20 = false := by unfold xaf; simp; omega
  clear hl
  go_enter Tryz.func104, Tryz.ntmps104
  go_wp2_with (go_at_call 21; refine (xao _ _ _ _).mono ?_; rintro e w' ⟨rfl, rfl⟩)
  go_ret
  exact ⟨rfl, Below.refl _ _⟩
 .unfold xd3
  rw [if_neg hl]
  have hw : xaf l.length 1 20 = true := by unfold xaf; simp; omega
  obtain ⟨b, off, cap, rfl, hcap, hbw, hc⟩ := hS.open om
  have HC := hd hc
  obtain ⟨res, hres⟩ : ∃ res, res = xdr l := ⟨_, rfl⟩
  rw [<- hres]
  have HR := hd hres
  have hl20 : l.length <= 20 := by omega
  have HOK := hd hok
  clear hl hc hS hres hok
  go_enter Tryz.func104, Tryz.ntmps104
  go_wp2_with (go_at_call 21; refine (xao _ _ _ _).mono ?_; rintro e w' ⟨rfl, rfl⟩)
  go_loopw [3] (fun i wr => ∃ k : Nat, i = .int .i64 k /\ k <= l.length /\ Hid (∀ j (hj : j < l.length), j < k -> l[j].chk = 0) /\ Below w'.heap.size w' wr) (fun i _ => l.length - (intOf i).toNat)
  case atStart => exact ⟨0, rfl, Nat.zero_le _, fun j hj h => by omega, Below.refl _ _⟩
  case round =>
   obtain ⟨k, rfl, hk, HZ, hbel⟩ := hrel
   by_cases hlt : k < l.length
   .obtain ⟨c0, c1, c2, c3⟩ := xdm HC.out k hlt
    have c0 := bcl hbel hbw c0
    have c1 := bcl hbel hbw c1
    have c2 := bcl hbel hbw c2
    have c3 := bcl hbel hbw c3
    have hbr : b < wr.heap.size := Nat.lt_of_lt_of_le hbw hbel.size
    have hkc : (k : Int) < l.length := by omega
    have hin := (HOK.out k hlt).2.2.2
    obtain ⟨ck, hck⟩ : ∃ ck, ck = l[k].chk := ⟨_, rfl⟩
    by_cases h0 : ck = 0
    .have HCK : Hid (xob l[k].op l[k].a l[k].b l[k].n = 0) := by show l[k].chk = 0; rw [<- hck, h0]
     clear hck h0
     go_wp2_with (go_at_call 160; refine (xmp _ _ _ _ hin _).mono ?_; rw [HCK.out]; rintro e w1 ⟨rfl, hb1⟩)
     go_roundw
     case rel => exact ⟨k + 1, by go_num, by omega, fun j hj hjk => by
      by_cases e : j = k
      .subst e; exact HCK.out
      .exact HZ.out j hj om, hbel.trans (hb1.mono hbel.size)⟩
     case measure => simp [intOf]; omega
    .have HCK : Hid (xob l[k].op l[k].a l[k].b l[k].n = ck) := by show l[k].chk = ck; rw [hck]
     have HRR : Hid (ck = res) := by
      show ck = res
      rw [HR.out, hck]; exact (xkq l k hlt HZ.out (by rw [<- hck]; exact h0)).symm
     have h0' : (ck != 0) = true := by simpa using h0
     clear hck h0
     go_wp2_with (go_at_call 160; refine (xmp _ _ _ _ hin _).mono ?_; rw [HCK.out]; rintro e w1 ⟨rfl, hb1⟩)
     go_ret
     exact ⟨xax HRR.out, hbel.trans (hb1.mono hbel.size)⟩
   .have hkc : ¬ (k : Int) < l.length := by omega
    have HRR : Hid ((0 : Int) = res) := by
     show (0 : Int) = res
     rw [HR.out]; exact (xiu l (fun j hj => HZ.out j hj om)).symm
    go_wp2
    go_ret
    exact ⟨xax HRR.out, hbel⟩
def xrq : List Ins := [⟨13, 0, 1, 0⟩, ⟨9, 1, 0, 0⟩, ⟨11, 0, 0, 0⟩, ⟨12, 0, 0, 1⟩, ⟨8, 0, 0, 0⟩]
end Go.Proofs.YtbkdoohhdkahiaaGreatDoor
