/- A part of the proofs over this seat's laws: what a function of the program, or of the reference, answers and leaves, told by its theorems below. -/
import Derived.Test.YtclnedeodmlfeaaDoorJ2
import Derived.Deep.RegionWith
import Derived.Test.YtclnedeodmlfeaaDoorJ1
namespace Go.Proofs.YtclnedeodmlfeaaDoor
set_option linter.unusedSimpArgs false
set_option linter.unusedVariables false
open Go.RowKit Go.Sort
structure FromI (w wr : World) (g I : Nat) (cur : Array Value) (op : Int) : Prop where
  hg : wr.heap[g]? = some (.cells cur 9 (0, 0))
  c0 : wr.cell? ⟨I, 0, none⟩ = some (.int .i64 op)
  c1 : wr.cell? ⟨I, 1, none⟩ = some (.int .i64 0)
  c2 : wr.cell? ⟨I, 2, none⟩ = some (.int .i64 0)
  c3 : wr.cell? ⟨I, 3, none⟩ = some (.int .i64 0)
  f : ∀ j, wr.frozen? ⟨I, j, none⟩ = false
  r : ∀ j, j < 4 → wr.cell? ⟨w.heap.size, j, none⟩ = some (.int .i64 0)
  t : ∀ j, wr.frozen? ⟨w.heap.size, j, none⟩ = false
  lt : I < wr.heap.size
  gI : g < I
  wg : w.heap.size < g
  up : Below w.heap.size w wr
theorem FromI.go {w wr w2 : World} {g I : Nat} {cur : Array Value} {op : Int} (h : FromI w wr g I cur op) (hb : Below wr.heap.size wr w2) : FromI w w2 g I cur op := by
  have h1 := h.lt
  have h2 := h.gI
  have h3 := h.wg
  exact ⟨(hb.block g (by omega)).trans h.hg, bcl hb h1 h.c0, bcl hb h1 h.c1, bcl hb h1 h.c2, bcl hb h1 h.c3, fun j => bfr hb h1 (h.f j), fun j hj => bcl hb (by omega) (h.r j hj), fun j => bfr hb (by omega) (h.t j), Nat.lt_of_lt_of_le h1 hb.size, h2, h3, h.up.trans (hb.mono h.up.size)⟩
theorem FromI.put {w wr : World} {g I : Nat} {cur : Array Value} {op : Int} (h : FromI w wr g I cur op) (v : Int) : FromI w (wr.setCell ⟨I, 0, none⟩ (.int .i64 v)) g I cur v := by
  have h1 := h.lt
  have h2 := h.gI
  have h3 := h.wg
  exact ⟨(Below.heap_setCell wr _ _ _ (by simp; omega)).trans h.hg, cl_same h.c0, cl_set (Or.inr (by decide)) h.c1, cl_set (Or.inr (by decide)) h.c2, cl_set (Or.inr (by decide)) h.c3, fun j => fr_set (h.f j), fun j hj => cl_set (Or.inl (by omega)) (h.r j hj), fun j => fr_set (h.t j), by rw [size_set]; exact h1, h2, h3, h.up.setCell (by simp; omega) _⟩
theorem FromI.drew {w wr : World} {g I : Nat} {cur : Array Value} {op : Int} (h : FromI w wr g I cur op) : FromI w wr.drew g I cur op :=
  ⟨h.hg, h.c0, h.c1, h.c2, h.c3, h.f, h.r, h.t, h.lt, h.gI, h.wg, h.up.drew⟩
def NI (p : List UInt8) (k op : Nat) : Prop := (op = 0 ∧ ∀ j, 1 ≤ j → j < k → rowW j ≠ p) ∨ (1 ≤ op ∧ op < k ∧ rowW op = p)
theorem NI.start (p : List UInt8) : NI p 1 0 := Or.inl ⟨rfl, fun j h1 h2 => by omega⟩
theorem NI.hit {p : List UInt8} {k op : Nat} (h : NI p k op) (h1 : 1 ≤ k) (hp : rowW k = p) : NI p (k + 1) k := Or.inr ⟨h1, by omega, hp⟩
theorem NI.miss {p : List UInt8} {k op : Nat} (h : NI p k op) (hp : rowW k ≠ p) : NI p (k + 1) op := by
  rcases h with ⟨h1, h2⟩ | ⟨h1, h2, h3⟩
  · exact Or.inl ⟨h1, fun j a b => by
      by_cases e : j = k
      · subst e; exact hp
      · exact h2 j a (by omega)⟩
  · exact Or.inr ⟨h1, by omega, h3⟩
theorem NI.done {p : List UInt8} {op : Nat} (h : NI p 16 op) : op = namedF p := by
  rcases h with ⟨h1, h2⟩ | ⟨h1, h2, h3⟩
  · rw [h1, namedF_none p h2]
  · rw [← h3, named_row op h1 h2]
theorem splitG_ne (c : UInt8) (m : Nat) (h : 0 < m) : ∀ (l cur : List UInt8), splitG c m cur l ≠ []
  | [], cur => by rw [splitG_end c m cur h]; simp
  | x :: r, cur => by
    by_cases hx : x = c
    · subst hx; rw [splitG_hit x m cur r h]; simp
    · rw [splitG_miss c x m cur r h hx]; exact splitG_ne c m h r _
theorem row_first {w : World} {g n : Nat} {cur : Array Value} {p0 : List UInt8} {ps : List (List UInt8)} (h : w.heap[g]? = some (.cells cur 9 (0, 0))) (hc : cur.toList.take ((n + 1) * 1) = strs (p0 :: ps)) : w.cell? ⟨g, 0, none⟩ = some (.string ⟨p0.toArray⟩) := by
  have h0 : cur[0]? = some (.string ⟨p0.toArray⟩) := by
    have := congrArg (·[0]?) hc
    rw [← Array.getElem?_toList]
    simpa [strs, List.getElem?_take] using this
  simp [World.cell?, h, h0]
structure FromJ (w wr : World) (I b off : Nat) (x0 x1 x2 : List UInt8) (op a bb n : Int) : Prop where
  s0 : wr.cell? ⟨b, off, none⟩ = some (.string ⟨x0.toArray⟩)
  s1 : wr.cell? ⟨b, off + 1, none⟩ = some (.string ⟨x1.toArray⟩)
  s2 : wr.cell? ⟨b, off + 2, none⟩ = some (.string ⟨x2.toArray⟩)
  c0 : wr.cell? ⟨I, 0, none⟩ = some (.int .i64 op)
  c1 : wr.cell? ⟨I, 1, none⟩ = some (.int .i64 a)
  c2 : wr.cell? ⟨I, 2, none⟩ = some (.int .i64 bb)
  c3 : wr.cell? ⟨I, 3, none⟩ = some (.int .i64 n)
  f : ∀ j, wr.frozen? ⟨I, j, none⟩ = false
  r : ∀ j, j < 4 → wr.cell? ⟨w.heap.size, j, none⟩ = some (.int .i64 0)
  t : ∀ j, wr.frozen? ⟨w.heap.size, j, none⟩ = false
  lt : I < wr.heap.size
  blt : b < wr.heap.size
  bI : b ≠ I
  wI : w.heap.size < I
  up : Below w.heap.size w wr
theorem FromJ.make {w w2 w4 : World} {g I b off : Nat} {cur : Array Value} {op : Int} {o : Obj} {xs : List Value} {x0 x1 x2 : List UInt8} (h : FromI w w2 g I cur op) (hgrow : (w2.alloc o).grownBy w4 (some g))
    (hcells : ∀ j u, xs[j]? = some u → w4.cell? ⟨b, off + j, none⟩ = some u) (h0 : xs[0]? = some (.string ⟨x0.toArray⟩)) (h1 : xs[1]? = some (.string ⟨x1.toArray⟩)) (h2 : xs[2]? = some (.string ⟨x2.toArray⟩))
    (hb : b = g ∨ (w2.alloc o).heap.size ≤ b) (hlt : b < w4.heap.size) : FromJ w w4 I b off x0 x1 x2 op 0 0 0 := by
  have l1 := h.lt
  have l2 := h.gI
  have l3 := h.wg
  have hz : (w2.alloc o).heap.size = w2.heap.size + 1 := by simp
  have hsz := hgrow.size
  have cell : ∀ k j v, k < w2.heap.size → k ≠ g → w2.cell? ⟨k, j, none⟩ = some v → w4.cell? ⟨k, j, none⟩ = some v := fun k j v hk hne hv =>
    (World.cell?_of_block (w := w2.alloc o) (a := ⟨k, j, none⟩) (hgrow.block k (by omega) (by simp; exact hne))).trans (cl_alloc o hk hv)
  have froz : ∀ k j, k < w2.heap.size → k ≠ g → w2.frozen? ⟨k, j, none⟩ = false → w4.frozen? ⟨k, j, none⟩ = false := fun k j hk hne hv =>
    (World.frozen?_of_block (w := w2.alloc o) (a := ⟨k, j, none⟩) (hgrow.block k (by omega) (by simp; exact hne))).trans (fr_alloc o hk hv)
  refine ⟨hcells 0 _ h0, hcells 1 _ h1, hcells 2 _ h2, cell I 0 _ l1 (by omega) h.c0, cell I 1 _ l1 (by omega) h.c1, cell I 2 _ l1 (by omega) h.c2, cell I 3 _ l1 (by omega) h.c3, fun j => froz I j l1 (by omega) (h.f j),
    fun j hj => cell _ j _ (by omega) (by omega) (h.r j hj), fun j => froz _ j (by omega) (by omega) (h.t j), by omega, hlt, by omega, by omega, ?_⟩
  exact (h.up.alloc h.up.size o).grown hgrow (by have := h.up.size; omega) (fun k hk => by simp at hk; omega)
theorem FromJ.go {w wr w2 : World} {I b off : Nat} {x0 x1 x2 : List UInt8} {op a bb n : Int} (h : FromJ w wr I b off x0 x1 x2 op a bb n) (hb : Below wr.heap.size wr w2) : FromJ w w2 I b off x0 x1 x2 op a bb n := by
  have l1 := h.lt
  have l2 := h.blt
  have l3 := h.wI
  exact ⟨bcl hb l2 h.s0, bcl hb l2 h.s1, bcl hb l2 h.s2, bcl hb l1 h.c0, bcl hb l1 h.c1, bcl hb l1 h.c2, bcl hb l1 h.c3, fun j => bfr hb l1 (h.f j), fun j hj => bcl hb (by omega) (h.r j hj), fun j => bfr hb (by omega) (h.t j),
    Nat.lt_of_lt_of_le l1 hb.size, Nat.lt_of_lt_of_le l2 hb.size, h.bI, l3, h.up.trans (hb.mono h.up.size)⟩
theorem FromJ.put1 {w wr : World} {I b off : Nat} {x0 x1 x2 : List UInt8} {op a bb n : Int} (h : FromJ w wr I b off x0 x1 x2 op a bb n) (v : Int) : FromJ w (wr.setCell ⟨I, 1, none⟩ (.int .i64 v)) I b off x0 x1 x2 op v bb n := by
  have l1 := h.lt
  have l2 := h.blt
  have l3 := h.wI
  exact ⟨cl_set (Or.inl h.bI) h.s0, cl_set (Or.inl h.bI) h.s1, cl_set (Or.inl h.bI) h.s2, cl_set (Or.inr (by decide)) h.c0, cl_same h.c1, cl_set (Or.inr (by decide)) h.c2, cl_set (Or.inr (by decide)) h.c3, fun j => fr_set (h.f j), fun j hj => cl_set (Or.inl (by omega)) (h.r j hj), fun j => fr_set (h.t j), by rw [size_set]; exact l1, by rw [size_set]; exact l2, h.bI, l3, h.up.setCell (by simp; omega) _⟩
theorem FromJ.put2 {w wr : World} {I b off : Nat} {x0 x1 x2 : List UInt8} {op a bb n : Int} (h : FromJ w wr I b off x0 x1 x2 op a bb n) (v : Int) : FromJ w (wr.setCell ⟨I, 2, none⟩ (.int .i64 v)) I b off x0 x1 x2 op a v n := by
  have l1 := h.lt
  have l2 := h.blt
  have l3 := h.wI
  exact ⟨cl_set (Or.inl h.bI) h.s0, cl_set (Or.inl h.bI) h.s1, cl_set (Or.inl h.bI) h.s2, cl_set (Or.inr (by decide)) h.c0, cl_set (Or.inr (by decide)) h.c1, cl_same h.c2, cl_set (Or.inr (by decide)) h.c3, fun j => fr_set (h.f j), fun j hj => cl_set (Or.inl (by omega)) (h.r j hj), fun j => fr_set (h.t j), by rw [size_set]; exact l1, by rw [size_set]; exact l2, h.bI, l3, h.up.setCell (by simp; omega) _⟩
theorem FromJ.put3 {w wr : World} {I b off : Nat} {x0 x1 x2 : List UInt8} {op a bb n : Int} (h : FromJ w wr I b off x0 x1 x2 op a bb n) (v : Int) : FromJ w (wr.setCell ⟨I, 3, none⟩ (.int .i64 v)) I b off x0 x1 x2 op a bb v := by
  have l1 := h.lt
  have l2 := h.blt
  have l3 := h.wI
  exact ⟨cl_set (Or.inl h.bI) h.s0, cl_set (Or.inl h.bI) h.s1, cl_set (Or.inl h.bI) h.s2, cl_set (Or.inr (by decide)) h.c0, cl_set (Or.inr (by decide)) h.c1, cl_set (Or.inr (by decide)) h.c2, cl_same h.c3, fun j => fr_set (h.f j), fun j hj => cl_set (Or.inl (by omega)) (h.r j hj), fun j => fr_set (h.t j), by rw [size_set]; exact l1, by rw [size_set]; exact l2, h.bI, l3, h.up.setCell (by simp; omega) _⟩
theorem FromJ.store {w wr : World} {I b off : Nat} {x0 x1 x2 : List UInt8} {op a bb n : Int} (h : FromJ w wr I b off x0 x1 x2 op a bb n) (a0 a1 a2 a3 : Value) :
    Below w.heap.size w ((((wr.setCell ⟨w.heap.size, 0, none⟩ a0).setCell ⟨w.heap.size, 1, none⟩ a1).setCell ⟨w.heap.size, 2, none⟩ a2).setCell ⟨w.heap.size, 3, none⟩ a3) :=
  (((h.up.setCell (by simp) _).setCell (by simp) _).setCell (by simp) _).setCell (by simp) _
def rW (l : List UInt8) : List (List UInt8) := (splitF 32 5 l).tail ++ [[], [], []]
def rK (l : List UInt8) : Nat := namedF ((splitF 32 5 l).headD [])
def rA (l : List UInt8) : Int := if rowA (rK l) then saidF ((rW l).headD []) else 0
def rW1 (l : List UInt8) : List (List UInt8) := if rowA (rK l) then (rW l).tail else rW l
def rB (l : List UInt8) : Int := if rowB (rK l) then saidF ((rW1 l).headD []) else 0
def rW2 (l : List UInt8) : List (List UInt8) := if rowB (rK l) then (rW1 l).tail else rW1 l
def rN (l : List UInt8) : Int := if rowN (rK l) then saidF ((rW2 l).headD []) else 0
def rV (l : List UInt8) : Value := .agg #[.int .i64 (rK l), .int .i64 (rA l), .int .i64 (rB l), .int .i64 (rN l)]
theorem wrap64_in64 (z : Int) : in64 (wrap64 z) := by unfold in64 wrap64; omega
theorem fold_in64 : ∀ (l : List UInt8) (z : Int), in64 z → in64 (l.foldl stepZ z)
  | [], z, h => h
  | c :: r, z, h => by rw [List.foldl_cons]; exact fold_in64 r _ (wrap64_in64 _)
theorem said_in64 (l : List UInt8) : in64 (saidF l) := by
  unfold saidF
  split
  · exact zero_in64
  · split
    · exact fold_in64 _ _ zero_in64
    · exact wrap64_in64 _
theorem splitG_len (c : UInt8) : ∀ (m : Nat) (l cur : List UInt8), (splitG c m cur l).length ≤ m
  | m, [], cur => by rw [splitG]; split <;> simp; omega
  | m, x :: r, cur => by
    rw [splitG]
    split
    · simp
    · split
      · have := splitG_len c (m - 1) r []
        simp; omega
      · exact splitG_len c m r _
theorem three_of (ps : List (List UInt8)) : ∃ x0 x1 x2 xs, ps ++ [[], [], []] = x0 :: x1 :: x2 :: xs := by
  match ps with
  | [] => exact ⟨_, _, _, _, rfl⟩
  | [a] => exact ⟨_, _, _, _, rfl⟩
  | [a, b] => exact ⟨_, _, _, _, rfl⟩
  | a :: b :: c :: r => exact ⟨_, _, _, _, rfl⟩
theorem strs_three {ps xs : List (List UInt8)} {x0 x1 x2 : List UInt8} (h : ps ++ [[], [], []] = x0 :: x1 :: x2 :: xs) :
    (strs ps ++ [Value.string ⟨#[]⟩, .string ⟨#[]⟩, .string ⟨#[]⟩])[0]? = some (.string ⟨x0.toArray⟩) ∧ (strs ps ++ [Value.string ⟨#[]⟩, .string ⟨#[]⟩, .string ⟨#[]⟩])[1]? = some (.string ⟨x1.toArray⟩) ∧ (strs ps ++ [Value.string ⟨#[]⟩, .string ⟨#[]⟩, .string ⟨#[]⟩])[2]? = some (.string ⟨x2.toArray⟩) := by
  have e : strs ps ++ [Value.string ⟨#[]⟩, .string ⟨#[]⟩, .string ⟨#[]⟩] = strs (ps ++ [[], [], []]) := by simp [strs]
  rw [e, h]
  exact ⟨rfl, rfl, rfl⟩
theorem row_rest {w : World} {g j o1 : Nat} {cur : Array Value} {p0 : List UInt8} {ps : List (List UInt8)} {u : Value} (h : w.heap[g]? = some (.cells cur 9 (0, 0))) (hc : cur.toList.take ((ps.length + 1) * 1) = strs (p0 :: ps)) (hj : (strs ps)[j]? = some u) (ho : o1 = 1) : w.cell? ⟨g, o1 + j, none⟩ = some u := by
  subst ho
  have hl := (List.getElem?_eq_some_iff.1 hj).1
  have h0 : cur[1 + j]? = some u := by
    have := congrArg (·[1 + j]?) hc
    simp only [List.getElem?_take] at this
    rw [if_pos (by simp [strs] at hl; omega)] at this
    rw [← Array.getElem?_toList, this]
    rw [show 1 + j = j + 1 by omega]
    simpa [strs] using hj
  simp [World.cell?, h, h0]
theorem row_spare {w : World} {g i : Nat} {cur : Array Value} (hg : g < w.heap.size) (h : w.heap[g]? = some (.cells cur 9 (0, 0))) (o : Obj) (hi : i < cur.size) : ((w.alloc o).cell? ⟨g, i, none⟩).isSome = true ∧ (w.alloc o).frozen? ⟨g, i, none⟩ = false := by
  rw [World.cell?_alloc_lt w o ⟨g, i, none⟩ hg, World.frozen?_alloc_old w o ⟨g, i, none⟩ (by simp; omega)]
  constructor
  · simp [World.cell?, h, hi]
  · simp [World.frozen?, h]
theorem three_new (w : World) (t : TypeId) : ∀ j u, [Value.string ⟨#[]⟩, .string ⟨#[]⟩, .string ⟨#[]⟩][j]? = some u → (w.alloc (.cells #[.string ⟨#[]⟩, .string ⟨#[]⟩, .string ⟨#[]⟩] t)).cell? ((⟨w.heap.size, 0, none⟩ : Addr).add j) = some u := by
  intro j u hj
  match j, hj with
  | 0, hj => simp at hj; subst hj; simp [Addr.add]
  | 1, hj => simp at hj; subst hj; simp [Addr.add]
  | 2, hj => simp at hj; subst hj; simp [Addr.add]
  | j + 3, hj => simp at hj
theorem three_cell : ∀ u ∈ [Value.string ⟨#[]⟩, .string ⟨#[]⟩, .string ⟨#[]⟩], u.oneCell' = true := by
  intro u hu; simp at hu; subst hu; rfl
set_option maxRecDepth 100000 in
set_option maxHeartbeats 2000000 in
theorem from_core (l : List UInt8) (hs : l.length < 281474976710657) (w : World) (ck : Int) (tx : List UInt8) (hck : chkI (rK l) (rA l) (rB l) (rN l) = ck) (htx : txt (rK l) (rA l) (rB l) (rN l) = tx)
    (res : Value) (hres : (if ck = 0 ∧ tx = l then Value.tuple #[rV l, .bool true] else .tuple #[zero4, .bool false]) = res) : Calls Tryd.prog 15 #[.string ⟨l.toArray⟩] w fun e w' => e = .returned res ∧ Below w.heap.size w w' := by
  have HCK := Lib.hid hck
  have HTX := Lib.hid htx
  have HR := Lib.hid hres
  clear hck htx hres
  obtain ⟨i0, hi, hz0, hz1, hz2⟩ := info_parts info9
  go_enter Tryd.func15, Tryd.ntmps15
  go_wp2_with fail
  refine (split_any l 32 5 (by decide) hs _).mono ?_
  rintro e w1 ⟨v, rfl, hown, hb1⟩
  obtain ⟨p0, ps, hps⟩ : ∃ p0 ps, splitF 32 5 l = p0 :: ps := by
    cases h : splitF 32 5 l with
    | nil => exact absurd h (splitG_ne 32 5 (by decide) l [])
    | cons p0 ps => exact ⟨p0, ps, rfl⟩
  rw [hps] at hown
  obtain ⟨g, cap, cur, hv, hgb, hgh, hncap, hcapm, hcs, hcur⟩ := own_open hown
  subst hv
  have hglt : g < w1.heap.size := by
    rcases Nat.lt_or_ge g w1.heap.size with h | h
    · exact h
    · rw [Array.getElem?_eq_none h] at hgh; cases hgh
  have hwz : w.heap.size < w1.heap.size := by have := hb1.size; simp at this; omega
  have HF : Hid (FromI w (w1.alloc (.cells #[.int .i64 0, .int .i64 0, .int .i64 0, .int .i64 0] 23)) g w1.heap.size cur 0) := by
    refine ⟨(Below.heap_alloc _ _ _ hglt).trans hgh, by simp, by simp, by simp, by simp, fun j => by simp, fun j hj => ?_, fun j => ?_, by simp, hglt, by simp at hgb; omega, ?_⟩
    · refine cl_alloc _ hwz (bcl hb1 (by simp) ?_)
      rw [World.cell?_alloc_new]
      match j, hj with
      | 0, _ => rfl
      | 1, _ => rfl
      | 2, _ => rfl
      | 3, _ => rfl
    · exact fr_alloc _ hwz (bfr hb1 (by simp) (by simp))
    · refine Below.alloc ?_ (Nat.le_of_lt hwz) _
      exact ((Below.refl _ _).alloc (Nat.le_refl _) _).trans (hb1.mono (by simp))
  clear hb1 hgh hown
  go_wp2
  go_loopw [6] (fun kv wr => ∃ k op : Nat, kv = .int .i64 k ∧ 1 ≤ k ∧ k ≤ 16 ∧ op < 16 ∧ Hid (NI p0 k op) ∧ Hid (FromI w wr g w1.heap.size cur op)) (fun kv _ => 16 - (intOf kv).toNat)
  case atStart => exact ⟨1, 0, rfl, by omega, by omega, by omega, NI.start p0, HF⟩
  case round =>
    obtain ⟨k, op, rfl, hk1, hk2, hop, hni, hf⟩ := hrel
    go_wp2_with fail
    refine (words_any _).mono ?_
    rintro e w2 ⟨rfl, hcs2, hsz2, hb2⟩
    have hf2 := hf.out.go hb2
    by_cases hlt : k < 16
    · have i1 : (0 : Int) ≤ k := by omega
      have i2 : (k : Int) < 16 := by omega
      have hp2 : w2.cell? ⟨g, 0, none⟩ = some (.string ⟨p0.toArray⟩) := row_first hf2.hg hcur
      have hg2 : g < w2.heap.size := by have := hf2.lt; have := hf2.gI; omega
      have HF2 := Lib.hid hf2
      clear hf2 hf hb2
      by_cases hq : rowW k = p0
      · have hq' : (rowW k == p0) = true := by simp [hq]
        have HQ := Lib.hid hq
        clear hq
        go_wp2_with fail
        go_region_with (first | (go_at_call 32; refine (words_any _).mono ?_; rintro e w3 ⟨rfl, hcs3, hsz3, hb3⟩; have hc3 : w3.cell? ⟨w2.heap.size, k, none⟩ = some (.string ⟨(rowW k).toArray⟩) := hcs3 k hlt; have hp3 : w3.cell? ⟨g, 0, none⟩ = some (.string ⟨p0.toArray⟩) := bcl hb3 hg2 hp2))
        all_goals
          have hf3 := HF2.out.go (w2 := w3) ⟨hb3.os, hb3.tape, hb3.output, hb3.size, hb3.block⟩
          have x0 := hf3.c0
          have y0 := hf3.f 0
          have HF3 := Lib.hid hf3
          clear hf3 HF2 hb3 hcs3 hcs2 hsz2 hsz3 hp3 hp2
          go_wp2
          go_roundw
          case rel => exact ⟨k + 1, k, by go_num, by omega, by omega, hlt, hni.out.hit hk1 HQ.out, by first | exact (HF3.out.put k).drew | exact HF3.out.put k⟩
          case measure => simp [intOf]; omega
      · have hq' : (rowW k == p0) = false := by simp [hq]
        have HQ := Lib.hid hq
        clear hq
        go_wp2_with fail
        go_region_with (first | (go_at_call 32; refine (words_any _).mono ?_; rintro e w3 ⟨rfl, hcs3, hsz3, hb3⟩; have hc3 : w3.cell? ⟨w2.heap.size, k, none⟩ = some (.string ⟨(rowW k).toArray⟩) := hcs3 k hlt; have hp3 : w3.cell? ⟨g, 0, none⟩ = some (.string ⟨p0.toArray⟩) := bcl hb3 hg2 hp2))
        all_goals
          have hf3 := HF2.out.go (w2 := w3) ⟨hb3.os, hb3.tape, hb3.output, hb3.size, hb3.block⟩
          have x0 := hf3.c0
          have y0 := hf3.f 0
          have HF3 := Lib.hid hf3
          clear hf3 HF2 hb3 hcs3 hcs2 hsz2 hsz3 hp3 hp2
          go_wp2
          go_roundw
          case rel => exact ⟨k + 1, op, by go_num, by omega, by omega, hop, hni.out.miss HQ.out, by first | exact HF3.out.drew | exact HF3.out⟩
          case measure => simp [intOf]; omega
    · obtain rfl : k = 16 := by omega
      have hopn := hni.out.done
      have HN := Lib.hid hopn
      have HF2 := Lib.hid hf2
      have x0 := hf2.c0
      have hgw2 : g < w2.heap.size := by have := hf2.lt; have := hf2.gI; omega
      have hgh2 := hf2.hg
      have hpl : ps.length ≤ 4 := by
        have := splitG_len 32 5 l []
        have h5 : (splitF 32 5 l).length ≤ 5 := this
        rw [hps] at h5; simp at h5; omega
      obtain ⟨o1, c1, hoc⟩ : ∃ o1 c1 : Nat, (cap = 1 ∧ o1 = 0 ∧ c1 = 0) ∨ (cap ≠ 1 ∧ o1 = 1 ∧ c1 = cap - 1) := by
        by_cases h : cap = 1
        · exact ⟨0, 0, Or.inl ⟨h, rfl, rfl⟩⟩
        · exact ⟨1, cap - 1, Or.inr ⟨h, rfl, rfl⟩⟩
      have hold : ∀ o, ∀ j u, (strs ps)[j]? = some u → (w2.alloc o).cell? ⟨g, o1 + j, none⟩ = some u := by
        intro o j u hj
        refine cl_alloc _ hgw2 ?_
        refine row_rest hgh2 hcur hj ?_
        rcases hoc with ⟨h1, h2, h3⟩ | ⟨h1, h2, h3⟩
        · have : ps.length = 0 := by omega
          have := (List.getElem?_eq_some_iff.1 hj).1
          simp [strs] at this; omega
        · omega
      have hspare : ∀ o, ps.length + 3 ≤ c1 → ∀ j, j < [Value.string ⟨#[]⟩, .string ⟨#[]⟩, .string ⟨#[]⟩].length → ((w2.alloc o).cell? ⟨g, o1 + ps.length * 1 + j, none⟩).isSome = true ∧ (w2.alloc o).frozen? ⟨g, o1 + ps.length * 1 + j, none⟩ = false := by
        intro o hc j hj
        simp at hj
        refine row_spare hgw2 hgh2 o (by omega)
      have HOC := Lib.hid hoc
      have HOLD := Lib.hid hold
      have HSP := Lib.hid hspare
      clear hf2 hf hb2 hopn hni hcs2 hsz2 hold hspare hgh2 hoc
      have hbig : ps.length + 1 ≤ cap := hncap
      obtain ⟨sl, hsl⟩ : ∃ sl, sl = Value.slice (some ⟨g, o1, none⟩) ps.length c1 := ⟨_, rfl⟩
      have HSL := Lib.hid hsl
      rcases HOC.out with ⟨hc1, ho1, hcc1⟩ | ⟨hc1, ho1, hcc1⟩
      all_goals
        subst ho1 hcc1
        clear hsl
        go_wp2_with (first | (go_at_call 30; refine (has_any _ _).mono ?_; rw [Int.toNat_natCast]; rintro e w' ⟨rfl, rfl⟩) | (at_builtin; refine wpList_append_mid _ rfl (.tmp 36) (.tmp 37) 62 rfl 9 i0 (.string ⟨#[]⟩) 1 16 Tryd.underlying62 hi hz0 hz1 hz2 rfl (by decide) g _ ps.length _ (strs ps) rfl (by simp [strs]) (HOLD.out _) (by simp; omega) ⟨_, 0, none⟩ 3 3 [.string ⟨#[]⟩, .string ⟨#[]⟩, .string ⟨#[]⟩] rfl rfl (three_new _ _) three_cell (HSP.out _) (by unfold maxLen; omega) (by omega) (by decide) ?_; intro b1 off1 cap1 w4 hcells hgrow hb1 hlt1 hcap1; refine Hid.out ?_))
      all_goals
        obtain ⟨x0, x1, x2, xs, hrw0⟩ := three_of ps
        have hrw : rW l = x0 :: x1 :: x2 :: xs := by unfold rW; rw [hps]; exact hrw0
        have hrk : rK l = op := by unfold rK; rw [hps, HN.out]; rfl
        have hx := strs_three hrw0
        have hJ := FromJ.make (x0 := x0) (x1 := x1) (x2 := x2) HF2.out hgrow hcells hx.1 hx.2.1 hx.2.2 (by simpa using hb1) hlt1
        have bne := hJ.bI
        have bne' : ¬ w1.heap.size = b1 := fun e => bne e.symm
        have q0 := hJ.s0
        have q1 := hJ.s1
        have q2 := hJ.s2
        have k1 : ¬ cap1 = 1 := by omega
        have k2 : ¬ cap1 - 1 = 1 := by omega
        have k3 : ((ps.length : Int) + 3) ≤ cap1 := by omega
        clear hcells hgrow HF2 hx hb1 HOLD HSP
        cases hA : rowA op
        all_goals cases hB : rowB op
        all_goals cases hN : rowN op
        · have HJ := Lib.hid hJ
          have y0 := hJ.c0
          have y1 := hJ.c1
          have y2 := hJ.c2
          have y3 := hJ.c3
          have z1 := hJ.f 1
          have z2 := hJ.f 2
          have z3 := hJ.f 3
          clear hJ
          refine Lib.hid ?_
          go_wp2_with (first | (go_at_call 37; refine (said_any _ _).mono ?_; rintro e w' ⟨rfl, rfl⟩))
          have hX := HJ.out
          have HE : Hid (chkI op 0 0 0 = ck) := by
            show _ = _
            rw [← HCK.out]; simp [rA, rB, rN, rW1, rW2, hrk, hrw, hA, hB, hN]
          have HT : Hid (txt op 0 0 0 = tx) := by
            show _ = _
            rw [← HTX.out]; simp [rA, rB, rN, rW1, rW2, hrk, hrw, hA, hB, hN]
          have HV : Hid (Value.agg #[.int .i64 op, .int .i64 0, .int .i64 0, .int .i64 0] = rV l) := by
            show _ = _
            simp [rV, rA, rB, rN, rW1, rW2, hrk, hrw, hA, hB, hN]
          refine (chkRef_any op 0 0 0 (zero_in64) _).mono ?_
          rw [HE.out]
          rintro e w5 ⟨rfl, hb5⟩
          have hY := hX.go hb5
          clear hb5
          have HY := Lib.hid hY
          have y0 := hY.c0
          have y1 := hY.c1
          have y2 := hY.c2
          have y3 := hY.c3
          have r0 := hY.r 0 (by decide)
          have r1 := hY.r 1 (by decide)
          have r2 := hY.r 2 (by decide)
          have r3 := hY.r 3 (by decide)
          have t0 := hY.t 0
          have t1 := hY.t 1
          have t2 := hY.t 2
          have t3 := hY.t 3
          clear hX hY HJ z1 z2 z3
          by_cases hck : ck = 0
          · subst hck
            obtain ⟨k9, e9, h91, h92, -⟩ := right_of HE.out
            have e9n : op = k9 := by omega
            clear e9; subst e9n
            go_wp2_with fail
            refine (text_any op h91 h92 0 0 0 (zero_in64) (zero_in64) (zero_in64) _).mono ?_
            rw [HT.out]
            rintro e w6 ⟨rfl, hb6⟩
            have hZ := HY.out.go hb6
            have y0 := hZ.c0
            have y1 := hZ.c1
            have y2 := hZ.c2
            have y3 := hZ.c3
            have r0 := hZ.r 0 (by decide)
            have r1 := hZ.r 1 (by decide)
            have r2 := hZ.r 2 (by decide)
            have r3 := hZ.r 3 (by decide)
            have t0 := hZ.t 0
            have t1 := hZ.t 1
            have t2 := hZ.t 2
            have t3 := hZ.t 3
            have hx := hZ.store
            have HX := Lib.hid hx
            clear hx hb6 hZ HY
            by_cases htx : tx = l
            · have htx' : (tx == l) = true := by simp [htx]
              have HTL := Lib.hid htx
              clear htx
              go_wp2
              refine bodyPost_ret (v := .tuple #[.agg #[.int .i64 op, .int .i64 0, .int .i64 0, .int .i64 0], .bool true]) ?_ rfl ⟨?_, HX.out _ _ _ _⟩
              · simp [results, Tryd.results15, go_sem, *]
              · rw [← HR.out, ← HV.out]; simp [HTL.out]
            · have htx' : (tx == l) = false := by simp [htx]
              have HTL := Lib.hid htx
              clear htx
              go_wp2
              refine bodyPost_ret (v := .tuple #[zero4, .bool false]) ?_ rfl ⟨?_, HX.out _ _ _ _⟩
              · simp [results, Tryd.results15, go_sem, zero4, *]
              · rw [← HR.out, if_neg (fun h => HTL.out h.2)]
          · have hck' : (ck != 0) = true := by simpa using hck
            have HCN := Lib.hid hck
            have hx := HY.out.store
            have HX := Lib.hid hx
            clear hx HY hck
            go_wp2
            refine bodyPost_ret (v := .tuple #[zero4, .bool false]) ?_ rfl ⟨?_, HX.out _ _ _ _⟩
            · simp [results, Tryd.results15, go_sem, zero4, *]
            · rw [← HR.out, if_neg (fun h => HCN.out h.1)]
        · have HJ := Lib.hid hJ
          have y0 := hJ.c0
          have y1 := hJ.c1
          have y2 := hJ.c2
          have y3 := hJ.c3
          have z1 := hJ.f 1
          have z2 := hJ.f 2
          have z3 := hJ.f 3
          clear hJ
          refine Lib.hid ?_
          go_wp2_with (first | (go_at_call 37; refine (said_any _ _).mono ?_; rintro e w' ⟨rfl, rfl⟩))
          have hX := (HJ.out).put3 (saidF x0)
          have HE : Hid (chkI op 0 0 (saidF x0) = ck) := by
            show _ = _
            rw [← HCK.out]; simp [rA, rB, rN, rW1, rW2, hrk, hrw, hA, hB, hN]
          have HT : Hid (txt op 0 0 (saidF x0) = tx) := by
            show _ = _
            rw [← HTX.out]; simp [rA, rB, rN, rW1, rW2, hrk, hrw, hA, hB, hN]
          have HV : Hid (Value.agg #[.int .i64 op, .int .i64 0, .int .i64 0, .int .i64 (saidF x0)] = rV l) := by
            show _ = _
            simp [rV, rA, rB, rN, rW1, rW2, hrk, hrw, hA, hB, hN]
          refine (chkRef_any op 0 0 (saidF x0) (said_in64 _) _).mono ?_
          rw [HE.out]
          rintro e w5 ⟨rfl, hb5⟩
          have hY := hX.go hb5
          clear hb5
          have HY := Lib.hid hY
          have y0 := hY.c0
          have y1 := hY.c1
          have y2 := hY.c2
          have y3 := hY.c3
          have r0 := hY.r 0 (by decide)
          have r1 := hY.r 1 (by decide)
          have r2 := hY.r 2 (by decide)
          have r3 := hY.r 3 (by decide)
          have t0 := hY.t 0
          have t1 := hY.t 1
          have t2 := hY.t 2
          have t3 := hY.t 3
          clear hX hY HJ z1 z2 z3
          by_cases hck : ck = 0
          · subst hck
            obtain ⟨k9, e9, h91, h92, -⟩ := right_of HE.out
            have e9n : op = k9 := by omega
            clear e9; subst e9n
            go_wp2_with fail
            refine (text_any op h91 h92 0 0 (saidF x0) (zero_in64) (zero_in64) (said_in64 _) _).mono ?_
            rw [HT.out]
            rintro e w6 ⟨rfl, hb6⟩
            have hZ := HY.out.go hb6
            have y0 := hZ.c0
            have y1 := hZ.c1
            have y2 := hZ.c2
            have y3 := hZ.c3
            have r0 := hZ.r 0 (by decide)
            have r1 := hZ.r 1 (by decide)
            have r2 := hZ.r 2 (by decide)
            have r3 := hZ.r 3 (by decide)
            have t0 := hZ.t 0
            have t1 := hZ.t 1
            have t2 := hZ.t 2
            have t3 := hZ.t 3
            have hx := hZ.store
            have HX := Lib.hid hx
            clear hx hb6 hZ HY
            by_cases htx : tx = l
            · have htx' : (tx == l) = true := by simp [htx]
              have HTL := Lib.hid htx
              clear htx
              go_wp2
              refine bodyPost_ret (v := .tuple #[.agg #[.int .i64 op, .int .i64 0, .int .i64 0, .int .i64 (saidF x0)], .bool true]) ?_ rfl ⟨?_, HX.out _ _ _ _⟩
              · simp [results, Tryd.results15, go_sem, *]
              · rw [← HR.out, ← HV.out]; simp [HTL.out]
            · have htx' : (tx == l) = false := by simp [htx]
              have HTL := Lib.hid htx
              clear htx
              go_wp2
              refine bodyPost_ret (v := .tuple #[zero4, .bool false]) ?_ rfl ⟨?_, HX.out _ _ _ _⟩
              · simp [results, Tryd.results15, go_sem, zero4, *]
              · rw [← HR.out, if_neg (fun h => HTL.out h.2)]
          · have hck' : (ck != 0) = true := by simpa using hck
            have HCN := Lib.hid hck
            have hx := HY.out.store
            have HX := Lib.hid hx
            clear hx HY hck
            go_wp2
            refine bodyPost_ret (v := .tuple #[zero4, .bool false]) ?_ rfl ⟨?_, HX.out _ _ _ _⟩
            · simp [results, Tryd.results15, go_sem, zero4, *]
            · rw [← HR.out, if_neg (fun h => HCN.out h.1)]
        · have HJ := Lib.hid hJ
          have y0 := hJ.c0
          have y1 := hJ.c1
          have y2 := hJ.c2
          have y3 := hJ.c3
          have z1 := hJ.f 1
          have z2 := hJ.f 2
          have z3 := hJ.f 3
          clear hJ
          refine Lib.hid ?_
          go_wp2_with (first | (go_at_call 37; refine (said_any _ _).mono ?_; rintro e w' ⟨rfl, rfl⟩))
          have hX := (HJ.out).put2 (saidF x0)
          have HE : Hid (chkI op 0 (saidF x0) 0 = ck) := by
            show _ = _
            rw [← HCK.out]; simp [rA, rB, rN, rW1, rW2, hrk, hrw, hA, hB, hN]
          have HT : Hid (txt op 0 (saidF x0) 0 = tx) := by
            show _ = _
            rw [← HTX.out]; simp [rA, rB, rN, rW1, rW2, hrk, hrw, hA, hB, hN]
          have HV : Hid (Value.agg #[.int .i64 op, .int .i64 0, .int .i64 (saidF x0), .int .i64 0] = rV l) := by
            show _ = _
            simp [rV, rA, rB, rN, rW1, rW2, hrk, hrw, hA, hB, hN]
          refine (chkRef_any op 0 (saidF x0) 0 (zero_in64) _).mono ?_
          rw [HE.out]
          rintro e w5 ⟨rfl, hb5⟩
          have hY := hX.go hb5
          clear hb5
          have HY := Lib.hid hY
          have y0 := hY.c0
          have y1 := hY.c1
          have y2 := hY.c2
          have y3 := hY.c3
          have r0 := hY.r 0 (by decide)
          have r1 := hY.r 1 (by decide)
          have r2 := hY.r 2 (by decide)
          have r3 := hY.r 3 (by decide)
          have t0 := hY.t 0
          have t1 := hY.t 1
          have t2 := hY.t 2
          have t3 := hY.t 3
          clear hX hY HJ z1 z2 z3
          by_cases hck : ck = 0
          · subst hck
            obtain ⟨k9, e9, h91, h92, -⟩ := right_of HE.out
            have e9n : op = k9 := by omega
            clear e9; subst e9n
            go_wp2_with fail
            refine (text_any op h91 h92 0 (saidF x0) 0 (zero_in64) (said_in64 _) (zero_in64) _).mono ?_
            rw [HT.out]
            rintro e w6 ⟨rfl, hb6⟩
            have hZ := HY.out.go hb6
            have y0 := hZ.c0
            have y1 := hZ.c1
            have y2 := hZ.c2
            have y3 := hZ.c3
            have r0 := hZ.r 0 (by decide)
            have r1 := hZ.r 1 (by decide)
            have r2 := hZ.r 2 (by decide)
            have r3 := hZ.r 3 (by decide)
            have t0 := hZ.t 0
            have t1 := hZ.t 1
            have t2 := hZ.t 2
            have t3 := hZ.t 3
            have hx := hZ.store
            have HX := Lib.hid hx
            clear hx hb6 hZ HY
            by_cases htx : tx = l
            · have htx' : (tx == l) = true := by simp [htx]
              have HTL := Lib.hid htx
              clear htx
              go_wp2
              refine bodyPost_ret (v := .tuple #[.agg #[.int .i64 op, .int .i64 0, .int .i64 (saidF x0), .int .i64 0], .bool true]) ?_ rfl ⟨?_, HX.out _ _ _ _⟩
              · simp [results, Tryd.results15, go_sem, *]
              · rw [← HR.out, ← HV.out]; simp [HTL.out]
            · have htx' : (tx == l) = false := by simp [htx]
              have HTL := Lib.hid htx
              clear htx
              go_wp2
              refine bodyPost_ret (v := .tuple #[zero4, .bool false]) ?_ rfl ⟨?_, HX.out _ _ _ _⟩
              · simp [results, Tryd.results15, go_sem, zero4, *]
              · rw [← HR.out, if_neg (fun h => HTL.out h.2)]
          · have hck' : (ck != 0) = true := by simpa using hck
            have HCN := Lib.hid hck
            have hx := HY.out.store
            have HX := Lib.hid hx
            clear hx HY hck
            go_wp2
            refine bodyPost_ret (v := .tuple #[zero4, .bool false]) ?_ rfl ⟨?_, HX.out _ _ _ _⟩
            · simp [results, Tryd.results15, go_sem, zero4, *]
            · rw [← HR.out, if_neg (fun h => HCN.out h.1)]
        · have HJ := Lib.hid hJ
          have y0 := hJ.c0
          have y1 := hJ.c1
          have y2 := hJ.c2
          have y3 := hJ.c3
          have z1 := hJ.f 1
          have z2 := hJ.f 2
          have z3 := hJ.f 3
          clear hJ
          refine Lib.hid ?_
          go_wp2_with (first | (go_at_call 37; refine (said_any _ _).mono ?_; rintro e w' ⟨rfl, rfl⟩))
          have hX := ((HJ.out).put2 (saidF x0)).put3 (saidF x1)
          have HE : Hid (chkI op 0 (saidF x0) (saidF x1) = ck) := by
            show _ = _
            rw [← HCK.out]; simp [rA, rB, rN, rW1, rW2, hrk, hrw, hA, hB, hN]
          have HT : Hid (txt op 0 (saidF x0) (saidF x1) = tx) := by
            show _ = _
            rw [← HTX.out]; simp [rA, rB, rN, rW1, rW2, hrk, hrw, hA, hB, hN]
          have HV : Hid (Value.agg #[.int .i64 op, .int .i64 0, .int .i64 (saidF x0), .int .i64 (saidF x1)] = rV l) := by
            show _ = _
            simp [rV, rA, rB, rN, rW1, rW2, hrk, hrw, hA, hB, hN]
          refine (chkRef_any op 0 (saidF x0) (saidF x1) (said_in64 _) _).mono ?_
          rw [HE.out]
          rintro e w5 ⟨rfl, hb5⟩
          have hY := hX.go hb5
          clear hb5
          have HY := Lib.hid hY
          have y0 := hY.c0
          have y1 := hY.c1
          have y2 := hY.c2
          have y3 := hY.c3
          have r0 := hY.r 0 (by decide)
          have r1 := hY.r 1 (by decide)
          have r2 := hY.r 2 (by decide)
          have r3 := hY.r 3 (by decide)
          have t0 := hY.t 0
          have t1 := hY.t 1
          have t2 := hY.t 2
          have t3 := hY.t 3
          clear hX hY HJ z1 z2 z3
          by_cases hck : ck = 0
          · subst hck
            obtain ⟨k9, e9, h91, h92, -⟩ := right_of HE.out
            have e9n : op = k9 := by omega
            clear e9; subst e9n
            go_wp2_with fail
            refine (text_any op h91 h92 0 (saidF x0) (saidF x1) (zero_in64) (said_in64 _) (said_in64 _) _).mono ?_
            rw [HT.out]
            rintro e w6 ⟨rfl, hb6⟩
            have hZ := HY.out.go hb6
            have y0 := hZ.c0
            have y1 := hZ.c1
            have y2 := hZ.c2
            have y3 := hZ.c3
            have r0 := hZ.r 0 (by decide)
            have r1 := hZ.r 1 (by decide)
            have r2 := hZ.r 2 (by decide)
            have r3 := hZ.r 3 (by decide)
            have t0 := hZ.t 0
            have t1 := hZ.t 1
            have t2 := hZ.t 2
            have t3 := hZ.t 3
            have hx := hZ.store
            have HX := Lib.hid hx
            clear hx hb6 hZ HY
            by_cases htx : tx = l
            · have htx' : (tx == l) = true := by simp [htx]
              have HTL := Lib.hid htx
              clear htx
              go_wp2
              refine bodyPost_ret (v := .tuple #[.agg #[.int .i64 op, .int .i64 0, .int .i64 (saidF x0), .int .i64 (saidF x1)], .bool true]) ?_ rfl ⟨?_, HX.out _ _ _ _⟩
              · simp [results, Tryd.results15, go_sem, *]
              · rw [← HR.out, ← HV.out]; simp [HTL.out]
            · have htx' : (tx == l) = false := by simp [htx]
              have HTL := Lib.hid htx
              clear htx
              go_wp2
              refine bodyPost_ret (v := .tuple #[zero4, .bool false]) ?_ rfl ⟨?_, HX.out _ _ _ _⟩
              · simp [results, Tryd.results15, go_sem, zero4, *]
              · rw [← HR.out, if_neg (fun h => HTL.out h.2)]
          · have hck' : (ck != 0) = true := by simpa using hck
            have HCN := Lib.hid hck
            have hx := HY.out.store
            have HX := Lib.hid hx
            clear hx HY hck
            go_wp2
            refine bodyPost_ret (v := .tuple #[zero4, .bool false]) ?_ rfl ⟨?_, HX.out _ _ _ _⟩
            · simp [results, Tryd.results15, go_sem, zero4, *]
            · rw [← HR.out, if_neg (fun h => HCN.out h.1)]
        · have HJ := Lib.hid hJ
          have y0 := hJ.c0
          have y1 := hJ.c1
          have y2 := hJ.c2
          have y3 := hJ.c3
          have z1 := hJ.f 1
          have z2 := hJ.f 2
          have z3 := hJ.f 3
          clear hJ
          refine Lib.hid ?_
          go_wp2_with (first | (go_at_call 37; refine (said_any _ _).mono ?_; rintro e w' ⟨rfl, rfl⟩))
          have hX := (HJ.out).put1 (saidF x0)
          have HE : Hid (chkI op (saidF x0) 0 0 = ck) := by
            show _ = _
            rw [← HCK.out]; simp [rA, rB, rN, rW1, rW2, hrk, hrw, hA, hB, hN]
          have HT : Hid (txt op (saidF x0) 0 0 = tx) := by
            show _ = _
            rw [← HTX.out]; simp [rA, rB, rN, rW1, rW2, hrk, hrw, hA, hB, hN]
          have HV : Hid (Value.agg #[.int .i64 op, .int .i64 (saidF x0), .int .i64 0, .int .i64 0] = rV l) := by
            show _ = _
            simp [rV, rA, rB, rN, rW1, rW2, hrk, hrw, hA, hB, hN]
          refine (chkRef_any op (saidF x0) 0 0 (zero_in64) _).mono ?_
          rw [HE.out]
          rintro e w5 ⟨rfl, hb5⟩
          have hY := hX.go hb5
          clear hb5
          have HY := Lib.hid hY
          have y0 := hY.c0
          have y1 := hY.c1
          have y2 := hY.c2
          have y3 := hY.c3
          have r0 := hY.r 0 (by decide)
          have r1 := hY.r 1 (by decide)
          have r2 := hY.r 2 (by decide)
          have r3 := hY.r 3 (by decide)
          have t0 := hY.t 0
          have t1 := hY.t 1
          have t2 := hY.t 2
          have t3 := hY.t 3
          clear hX hY HJ z1 z2 z3
          by_cases hck : ck = 0
          · subst hck
            obtain ⟨k9, e9, h91, h92, -⟩ := right_of HE.out
            have e9n : op = k9 := by omega
            clear e9; subst e9n
            go_wp2_with fail
            refine (text_any op h91 h92 (saidF x0) 0 0 (said_in64 _) (zero_in64) (zero_in64) _).mono ?_
            rw [HT.out]
            rintro e w6 ⟨rfl, hb6⟩
            have hZ := HY.out.go hb6
            have y0 := hZ.c0
            have y1 := hZ.c1
            have y2 := hZ.c2
            have y3 := hZ.c3
            have r0 := hZ.r 0 (by decide)
            have r1 := hZ.r 1 (by decide)
            have r2 := hZ.r 2 (by decide)
            have r3 := hZ.r 3 (by decide)
            have t0 := hZ.t 0
            have t1 := hZ.t 1
            have t2 := hZ.t 2
            have t3 := hZ.t 3
            have hx := hZ.store
            have HX := Lib.hid hx
            clear hx hb6 hZ HY
            by_cases htx : tx = l
            · have htx' : (tx == l) = true := by simp [htx]
              have HTL := Lib.hid htx
              clear htx
              go_wp2
              refine bodyPost_ret (v := .tuple #[.agg #[.int .i64 op, .int .i64 (saidF x0), .int .i64 0, .int .i64 0], .bool true]) ?_ rfl ⟨?_, HX.out _ _ _ _⟩
              · simp [results, Tryd.results15, go_sem, *]
              · rw [← HR.out, ← HV.out]; simp [HTL.out]
            · have htx' : (tx == l) = false := by simp [htx]
              have HTL := Lib.hid htx
              clear htx
              go_wp2
              refine bodyPost_ret (v := .tuple #[zero4, .bool false]) ?_ rfl ⟨?_, HX.out _ _ _ _⟩
              · simp [results, Tryd.results15, go_sem, zero4, *]
              · rw [← HR.out, if_neg (fun h => HTL.out h.2)]
          · have hck' : (ck != 0) = true := by simpa using hck
            have HCN := Lib.hid hck
            have hx := HY.out.store
            have HX := Lib.hid hx
            clear hx HY hck
            go_wp2
            refine bodyPost_ret (v := .tuple #[zero4, .bool false]) ?_ rfl ⟨?_, HX.out _ _ _ _⟩
            · simp [results, Tryd.results15, go_sem, zero4, *]
            · rw [← HR.out, if_neg (fun h => HCN.out h.1)]
        · have HJ := Lib.hid hJ
          have y0 := hJ.c0
          have y1 := hJ.c1
          have y2 := hJ.c2
          have y3 := hJ.c3
          have z1 := hJ.f 1
          have z2 := hJ.f 2
          have z3 := hJ.f 3
          clear hJ
          refine Lib.hid ?_
          go_wp2_with (first | (go_at_call 37; refine (said_any _ _).mono ?_; rintro e w' ⟨rfl, rfl⟩))
          have hX := ((HJ.out).put1 (saidF x0)).put3 (saidF x1)
          have HE : Hid (chkI op (saidF x0) 0 (saidF x1) = ck) := by
            show _ = _
            rw [← HCK.out]; simp [rA, rB, rN, rW1, rW2, hrk, hrw, hA, hB, hN]
          have HT : Hid (txt op (saidF x0) 0 (saidF x1) = tx) := by
            show _ = _
            rw [← HTX.out]; simp [rA, rB, rN, rW1, rW2, hrk, hrw, hA, hB, hN]
          have HV : Hid (Value.agg #[.int .i64 op, .int .i64 (saidF x0), .int .i64 0, .int .i64 (saidF x1)] = rV l) := by
            show _ = _
            simp [rV, rA, rB, rN, rW1, rW2, hrk, hrw, hA, hB, hN]
          refine (chkRef_any op (saidF x0) 0 (saidF x1) (said_in64 _) _).mono ?_
          rw [HE.out]
          rintro e w5 ⟨rfl, hb5⟩
          have hY := hX.go hb5
          clear hb5
          have HY := Lib.hid hY
          have y0 := hY.c0
          have y1 := hY.c1
          have y2 := hY.c2
          have y3 := hY.c3
          have r0 := hY.r 0 (by decide)
          have r1 := hY.r 1 (by decide)
          have r2 := hY.r 2 (by decide)
          have r3 := hY.r 3 (by decide)
          have t0 := hY.t 0
          have t1 := hY.t 1
          have t2 := hY.t 2
          have t3 := hY.t 3
          clear hX hY HJ z1 z2 z3
          by_cases hck : ck = 0
          · subst hck
            obtain ⟨k9, e9, h91, h92, -⟩ := right_of HE.out
            have e9n : op = k9 := by omega
            clear e9; subst e9n
            go_wp2_with fail
            refine (text_any op h91 h92 (saidF x0) 0 (saidF x1) (said_in64 _) (zero_in64) (said_in64 _) _).mono ?_
            rw [HT.out]
            rintro e w6 ⟨rfl, hb6⟩
            have hZ := HY.out.go hb6
            have y0 := hZ.c0
            have y1 := hZ.c1
            have y2 := hZ.c2
            have y3 := hZ.c3
            have r0 := hZ.r 0 (by decide)
            have r1 := hZ.r 1 (by decide)
            have r2 := hZ.r 2 (by decide)
            have r3 := hZ.r 3 (by decide)
            have t0 := hZ.t 0
            have t1 := hZ.t 1
            have t2 := hZ.t 2
            have t3 := hZ.t 3
            have hx := hZ.store
            have HX := Lib.hid hx
            clear hx hb6 hZ HY
            by_cases htx : tx = l
            · have htx' : (tx == l) = true := by simp [htx]
              have HTL := Lib.hid htx
              clear htx
              go_wp2
              refine bodyPost_ret (v := .tuple #[.agg #[.int .i64 op, .int .i64 (saidF x0), .int .i64 0, .int .i64 (saidF x1)], .bool true]) ?_ rfl ⟨?_, HX.out _ _ _ _⟩
              · simp [results, Tryd.results15, go_sem, *]
              · rw [← HR.out, ← HV.out]; simp [HTL.out]
            · have htx' : (tx == l) = false := by simp [htx]
              have HTL := Lib.hid htx
              clear htx
              go_wp2
              refine bodyPost_ret (v := .tuple #[zero4, .bool false]) ?_ rfl ⟨?_, HX.out _ _ _ _⟩
              · simp [results, Tryd.results15, go_sem, zero4, *]
              · rw [← HR.out, if_neg (fun h => HTL.out h.2)]
          · have hck' : (ck != 0) = true := by simpa using hck
            have HCN := Lib.hid hck
            have hx := HY.out.store
            have HX := Lib.hid hx
            clear hx HY hck
            go_wp2
            refine bodyPost_ret (v := .tuple #[zero4, .bool false]) ?_ rfl ⟨?_, HX.out _ _ _ _⟩
            · simp [results, Tryd.results15, go_sem, zero4, *]
            · rw [← HR.out, if_neg (fun h => HCN.out h.1)]
        · have HJ := Lib.hid hJ
          have y0 := hJ.c0
          have y1 := hJ.c1
          have y2 := hJ.c2
          have y3 := hJ.c3
          have z1 := hJ.f 1
          have z2 := hJ.f 2
          have z3 := hJ.f 3
          clear hJ
          refine Lib.hid ?_
          go_wp2_with (first | (go_at_call 37; refine (said_any _ _).mono ?_; rintro e w' ⟨rfl, rfl⟩))
          have hX := ((HJ.out).put1 (saidF x0)).put2 (saidF x1)
          have HE : Hid (chkI op (saidF x0) (saidF x1) 0 = ck) := by
            show _ = _
            rw [← HCK.out]; simp [rA, rB, rN, rW1, rW2, hrk, hrw, hA, hB, hN]
          have HT : Hid (txt op (saidF x0) (saidF x1) 0 = tx) := by
            show _ = _
            rw [← HTX.out]; simp [rA, rB, rN, rW1, rW2, hrk, hrw, hA, hB, hN]
          have HV : Hid (Value.agg #[.int .i64 op, .int .i64 (saidF x0), .int .i64 (saidF x1), .int .i64 0] = rV l) := by
            show _ = _
            simp [rV, rA, rB, rN, rW1, rW2, hrk, hrw, hA, hB, hN]
          refine (chkRef_any op (saidF x0) (saidF x1) 0 (zero_in64) _).mono ?_
          rw [HE.out]
          rintro e w5 ⟨rfl, hb5⟩
          have hY := hX.go hb5
          clear hb5
          have HY := Lib.hid hY
          have y0 := hY.c0
          have y1 := hY.c1
          have y2 := hY.c2
          have y3 := hY.c3
          have r0 := hY.r 0 (by decide)
          have r1 := hY.r 1 (by decide)
          have r2 := hY.r 2 (by decide)
          have r3 := hY.r 3 (by decide)
          have t0 := hY.t 0
          have t1 := hY.t 1
          have t2 := hY.t 2
          have t3 := hY.t 3
          clear hX hY HJ z1 z2 z3
          by_cases hck : ck = 0
          · subst hck
            obtain ⟨k9, e9, h91, h92, -⟩ := right_of HE.out
            have e9n : op = k9 := by omega
            clear e9; subst e9n
            go_wp2_with fail
            refine (text_any op h91 h92 (saidF x0) (saidF x1) 0 (said_in64 _) (said_in64 _) (zero_in64) _).mono ?_
            rw [HT.out]
            rintro e w6 ⟨rfl, hb6⟩
            have hZ := HY.out.go hb6
            have y0 := hZ.c0
            have y1 := hZ.c1
            have y2 := hZ.c2
            have y3 := hZ.c3
            have r0 := hZ.r 0 (by decide)
            have r1 := hZ.r 1 (by decide)
            have r2 := hZ.r 2 (by decide)
            have r3 := hZ.r 3 (by decide)
            have t0 := hZ.t 0
            have t1 := hZ.t 1
            have t2 := hZ.t 2
            have t3 := hZ.t 3
            have hx := hZ.store
            have HX := Lib.hid hx
            clear hx hb6 hZ HY
            by_cases htx : tx = l
            · have htx' : (tx == l) = true := by simp [htx]
              have HTL := Lib.hid htx
              clear htx
              go_wp2
              refine bodyPost_ret (v := .tuple #[.agg #[.int .i64 op, .int .i64 (saidF x0), .int .i64 (saidF x1), .int .i64 0], .bool true]) ?_ rfl ⟨?_, HX.out _ _ _ _⟩
              · simp [results, Tryd.results15, go_sem, *]
              · rw [← HR.out, ← HV.out]; simp [HTL.out]
            · have htx' : (tx == l) = false := by simp [htx]
              have HTL := Lib.hid htx
              clear htx
              go_wp2
              refine bodyPost_ret (v := .tuple #[zero4, .bool false]) ?_ rfl ⟨?_, HX.out _ _ _ _⟩
              · simp [results, Tryd.results15, go_sem, zero4, *]
              · rw [← HR.out, if_neg (fun h => HTL.out h.2)]
          · have hck' : (ck != 0) = true := by simpa using hck
            have HCN := Lib.hid hck
            have hx := HY.out.store
            have HX := Lib.hid hx
            clear hx HY hck
            go_wp2
            refine bodyPost_ret (v := .tuple #[zero4, .bool false]) ?_ rfl ⟨?_, HX.out _ _ _ _⟩
            · simp [results, Tryd.results15, go_sem, zero4, *]
            · rw [← HR.out, if_neg (fun h => HCN.out h.1)]
        · have HJ := Lib.hid hJ
          have y0 := hJ.c0
          have y1 := hJ.c1
          have y2 := hJ.c2
          have y3 := hJ.c3
          have z1 := hJ.f 1
          have z2 := hJ.f 2
          have z3 := hJ.f 3
          clear hJ
          refine Lib.hid ?_
          go_wp2_with (first | (go_at_call 37; refine (said_any _ _).mono ?_; rintro e w' ⟨rfl, rfl⟩))
          have hX := (((HJ.out).put1 (saidF x0)).put2 (saidF x1)).put3 (saidF x2)
          have HE : Hid (chkI op (saidF x0) (saidF x1) (saidF x2) = ck) := by
            show _ = _
            rw [← HCK.out]; simp [rA, rB, rN, rW1, rW2, hrk, hrw, hA, hB, hN]
          have HT : Hid (txt op (saidF x0) (saidF x1) (saidF x2) = tx) := by
            show _ = _
            rw [← HTX.out]; simp [rA, rB, rN, rW1, rW2, hrk, hrw, hA, hB, hN]
          have HV : Hid (Value.agg #[.int .i64 op, .int .i64 (saidF x0), .int .i64 (saidF x1), .int .i64 (saidF x2)] = rV l) := by
            show _ = _
            simp [rV, rA, rB, rN, rW1, rW2, hrk, hrw, hA, hB, hN]
          refine (chkRef_any op (saidF x0) (saidF x1) (saidF x2) (said_in64 _) _).mono ?_
          rw [HE.out]
          rintro e w5 ⟨rfl, hb5⟩
          have hY := hX.go hb5
          clear hb5
          have HY := Lib.hid hY
          have y0 := hY.c0
          have y1 := hY.c1
          have y2 := hY.c2
          have y3 := hY.c3
          have r0 := hY.r 0 (by decide)
          have r1 := hY.r 1 (by decide)
          have r2 := hY.r 2 (by decide)
          have r3 := hY.r 3 (by decide)
          have t0 := hY.t 0
          have t1 := hY.t 1
          have t2 := hY.t 2
          have t3 := hY.t 3
          clear hX hY HJ z1 z2 z3
          by_cases hck : ck = 0
          · subst hck
            obtain ⟨k9, e9, h91, h92, -⟩ := right_of HE.out
            have e9n : op = k9 := by omega
            clear e9; subst e9n
            go_wp2_with fail
            refine (text_any op h91 h92 (saidF x0) (saidF x1) (saidF x2) (said_in64 _) (said_in64 _) (said_in64 _) _).mono ?_
            rw [HT.out]
            rintro e w6 ⟨rfl, hb6⟩
            have hZ := HY.out.go hb6
            have y0 := hZ.c0
            have y1 := hZ.c1
            have y2 := hZ.c2
            have y3 := hZ.c3
            have r0 := hZ.r 0 (by decide)
            have r1 := hZ.r 1 (by decide)
            have r2 := hZ.r 2 (by decide)
            have r3 := hZ.r 3 (by decide)
            have t0 := hZ.t 0
            have t1 := hZ.t 1
            have t2 := hZ.t 2
            have t3 := hZ.t 3
            have hx := hZ.store
            have HX := Lib.hid hx
            clear hx hb6 hZ HY
            by_cases htx : tx = l
            · have htx' : (tx == l) = true := by simp [htx]
              have HTL := Lib.hid htx
              clear htx
              go_wp2
              refine bodyPost_ret (v := .tuple #[.agg #[.int .i64 op, .int .i64 (saidF x0), .int .i64 (saidF x1), .int .i64 (saidF x2)], .bool true]) ?_ rfl ⟨?_, HX.out _ _ _ _⟩
              · simp [results, Tryd.results15, go_sem, *]
              · rw [← HR.out, ← HV.out]; simp [HTL.out]
            · have htx' : (tx == l) = false := by simp [htx]
              have HTL := Lib.hid htx
              clear htx
              go_wp2
              refine bodyPost_ret (v := .tuple #[zero4, .bool false]) ?_ rfl ⟨?_, HX.out _ _ _ _⟩
              · simp [results, Tryd.results15, go_sem, zero4, *]
              · rw [← HR.out, if_neg (fun h => HTL.out h.2)]
          · have hck' : (ck != 0) = true := by simpa using hck
            have HCN := Lib.hid hck
            have hx := HY.out.store
            have HX := Lib.hid hx
            clear hx HY hck
            go_wp2
            refine bodyPost_ret (v := .tuple #[zero4, .bool false]) ?_ rfl ⟨?_, HX.out _ _ _ _⟩
            · simp [results, Tryd.results15, go_sem, zero4, *]
            · rw [← HR.out, if_neg (fun h => HCN.out h.1)]
theorem from_any (l : List UInt8) (hs : l.length < 281474976710657) (w : World) :
    Calls Tryd.prog 15 #[.string ⟨l.toArray⟩] w fun e w' => e = .returned (if chkI (rK l) (rA l) (rB l) (rN l) = 0 ∧ txt (rK l) (rA l) (rB l) (rN l) = l then Value.tuple #[rV l, .bool true] else .tuple #[zero4, .bool false]) ∧ Below w.heap.size w w' :=
  from_core l hs w _ _ rfl rfl _ rfl
end Go.Proofs.YtclnedeodmlfeaaDoor

namespace Go.Proofs.YtclnedeodmlfeaaDoor
set_option linter.unusedSimpArgs false
set_option linter.unusedVariables false
open Go.RowKit Go.Sort
theorem it (n : Nat) (h : n < 10) : Lib.itoa n = [UInt8.ofNat (48 + n)] := itoa_digit n (by omega) (by omega)
theorem it0 : Lib.itoa 0 = [48] := it 0 (by decide)
theorem it1 : Lib.itoa 1 = [49] := it 1 (by decide)
theorem it2 : Lib.itoa 2 = [50] := it 2 (by decide)
theorem it3 : Lib.itoa 3 = [51] := it 3 (by decide)
theorem it5 : Lib.itoa 5 = [53] := it 5 (by decide)
theorem itm5 : Lib.itoa (-5) = [45, 53] := by rw [← itoa_neg1 (-5) (by decide)]; show 45 :: Lib.itoa 5 = _; rw [it5]
theorem txt_get : txt 13 1 2 3 = [103, 101, 116, 32, 49, 32, 50, 32, 51] := by unfold txt; rw [it1, it2, it3]; rfl
theorem txt_set : txt 1 0 0 (-5) = [115, 101, 116, 32, 48, 32, 45, 53] := by unfold txt; rw [it0, itm5]; rfl
theorem txt_set5 : txt 1 0 0 5 = [115, 101, 116, 32, 48, 32, 53] := by unfold txt; rw [it0, it5]; rfl
def sA : List UInt8 := [115, 101, 116, 32, 48, 32, 45, 53]
def sB : List UInt8 := [115, 101, 116, 32, 48, 32, 48, 53]
theorem gK_A : gK sA = 1 := by decide +kernel
theorem gA_A : gA sA = 0 := by decide +kernel
theorem gB_A : gB sA = 0 := by decide +kernel
theorem gN_A : gN sA = -5 := by decide +kernel
theorem gK_B : gK sB = 1 := by decide +kernel
theorem gA_B : gA sB = 0 := by decide +kernel
theorem gB_B : gB sB = 0 := by decide +kernel
theorem gN_B : gN sB = 5 := by decide +kernel
theorem read_A (w : World) (he : Env w) : Calls Tryd.prog 14 #[.string ⟨#[115, 101, 116, 32, 48, 32, 45, 53]⟩] w fun e w' => e = .returned (.tuple #[.agg #[.int .i64 1, .int .i64 0, .int .i64 0, .int .i64 (-5)], .int .i64 0]) ∧ Below w.heap.size w w' := by
  refine (read_any sA w he (by decide)).mono ?_
  rintro e w' ⟨rfl, hb⟩
  refine ⟨?_, hb⟩
  unfold gV
  rw [gK_A, gA_A, gB_A, gN_A, if_pos ⟨by decide, txt_set⟩]
  rfl
theorem read_B (w : World) (he : Env w) : Calls Tryd.prog 14 #[.string ⟨#[115, 101, 116, 32, 48, 32, 48, 53]⟩] w fun e w' => e = .returned (.tuple #[.agg #[.int .i64 0, .int .i64 0, .int .i64 0, .int .i64 0], .int .i64 1]) ∧ Below w.heap.size w w' := by
  refine (read_any sB w he (by decide)).mono ?_
  rintro e w' ⟨rfl, hb⟩
  refine ⟨?_, hb⟩
  rw [gK_B, gA_B, gB_B, gN_B, if_neg (fun h => by have := h.2; rw [txt_set5] at this; revert this; decide)]
  rfl
theorem show_C (w : World) (he : Env w) : Calls Tryd.prog 9 #[.agg #[.int .i64 13, .int .i64 1, .int .i64 2, .int .i64 3]] w fun e w' => e = .returned (.tuple #[.string ⟨#[103, 101, 116, 32, 49, 32, 50, 32, 51]⟩, .int .i64 0]) ∧ Below w.heap.size w w' := by
  refine (show_any 13 1 2 3 ⟨by decide, by decide⟩ ⟨by decide, by decide⟩ ⟨by decide, by decide⟩ w he).mono ?_
  rintro e w' ⟨rfl, hb⟩
  refine ⟨?_, hb⟩
  rw [if_pos (by decide), show Int.toNat 13 = 13 from rfl, txt_get]
  rfl
theorem chk_v (op a b n c : Int) (w : World) (he : Env w) (hc : chkI op a b n = c) : Calls Tryd.prog 13 #[.agg #[.int .i64 op, .int .i64 a, .int .i64 b, .int .i64 n]] w fun e w' => e = .returned (.int .i64 c) ∧ Below w.heap.size w w' := hc ▸ chk_any op a b n w he.shp
set_option maxHeartbeats 1000000 in
theorem begun_any (w : World) (he : Env w) : Calls Tryd.prog 12 #[] w fun e w' => e = .returned (.bool true) ∧ Below w.heap.size w w' := by
  go_enter Tryd.func12, Tryd.ntmps12
  go_wp2_with fail
  refine (show_C _ he).mono ?_
  rintro e w1 ⟨rfl, hb1⟩
  have he1 := he.up hb1
  go_wp2_with fail
  refine (read_A _ he1).mono ?_
  rintro e w2 ⟨rfl, hb2⟩
  have he2 := he1.up hb2
  go_wp2_with fail
  refine (read_B _ (he2.up (by repeat (first | exact Below.refl _ _ | assumption | refine Below.drew ?_ | refine Below.alloc ?_ (by first | (simp; done) | (simp; omega)) _ | refine Below.setCell ?_ (by first | (simp; done) | (simp; omega)) _)))).mono ?_
  rintro e w3 ⟨rfl, hb3⟩
  have he3 := (he2.up (by repeat (first | exact Below.refl _ _ | assumption | refine Below.drew ?_ | refine Below.alloc ?_ (by first | (simp; done) | (simp; omega)) _ | refine Below.setCell ?_ (by first | (simp; done) | (simp; omega)) _))).up hb3
  have a0 : w3.cell? ⟨w2.heap.size, 0, none⟩ = some (.int .i64 1) := bcl hb3 (by simp) (by simp)
  have a1 : w3.cell? ⟨w2.heap.size, 1, none⟩ = some (.int .i64 0) := bcl hb3 (by simp) (by simp)
  have a2 : w3.cell? ⟨w2.heap.size, 2, none⟩ = some (.int .i64 0) := bcl hb3 (by simp) (by simp)
  have a3 : w3.cell? ⟨w2.heap.size, 3, none⟩ = some (.int .i64 (-5)) := bcl hb3 (by simp) (by simp)
  have hz : w2.heap.size < w3.heap.size := by have := hb3.size; simp at this; omega
  have hup : Below w.heap.size w w3 := (hb1.trans (hb2.mono hb1.size)).trans (Below.trans (Below.alloc (Below.refl _ _) (Nat.le_trans hb1.size hb2.size) _) (hb3.mono (by simp; have := hb1.size; have := hb2.size; omega)))
  have hsz : w.heap.size ≤ w3.heap.size := hup.size
  clear hb1 hb2 hb3
  go_wp2_with fail
  refine (chk_v 0 0 0 0 4 _ (he3.up (by repeat (first | exact Below.refl _ _ | assumption | refine Below.drew ?_ | refine Below.alloc ?_ (by first | (simp; done) | (simp; omega)) _ | refine Below.setCell ?_ (by first | (simp; done) | (simp; omega)) _))) (by decide)).mono ?_
  rintro e w4 ⟨rfl, hb4⟩
  have he4 := (he3.up (by repeat (first | exact Below.refl _ _ | assumption | refine Below.drew ?_ | refine Below.alloc ?_ (by first | (simp; done) | (simp; omega)) _ | refine Below.setCell ?_ (by first | (simp; done) | (simp; omega)) _))).up hb4
  have hup4 : Below w.heap.size w w4 := (hup.alloc hsz _).trans (hb4.mono (by simp; omega))
  go_wp2_with fail
  refine (chk_v 15 1 0 0 1 _ he4 (by decide)).mono ?_
  rintro e w5 ⟨rfl, hb5⟩
  have he5 := he4.up hb5
  have hup5 : Below w.heap.size w w5 := hup4.trans (hb5.mono hup4.size)
  go_wp2_with fail
  refine (chk_v 8 0 0 20 3 _ he5 (by decide)).mono ?_
  rintro e w6 ⟨rfl, hb6⟩
  have hup6 : Below w.heap.size w w6 := hup5.trans (hb6.mono hup5.size)
  go_wp2
  go_ret
  exact ⟨rfl, hup6⟩
end Go.Proofs.YtclnedeodmlfeaaDoor
