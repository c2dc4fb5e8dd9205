/- The law ChansTrue: what its loops keep. -/
import Derived.Test.YtpikadbljhfoiaaChans7
namespace Go.Proofs.Ytpikadbljhfoiaa
set_option linter.unusedSimpArgs false
set_option linter.unusedVariables false
open Go.RowKit Go.Sort

/-- A queue's line, a sample's line, what was put and taken, what came out: where they lie (B: the first one's block). -/
structure Inv (w wr : World) (B : Nat) (Q S I O : List Int) (q s vi vo : Value) : Prop where
  cq : wr.cell? ⟨B, 0, none⟩ = some q
  fq : wr.frozen? ⟨B, 0, none⟩ = false
  cs : wr.cell? ⟨B + 1, 0, none⟩ = some s
  fs : wr.frozen? ⟨B + 1, 0, none⟩ = false
  sq : Sl wr 1 q Q.length (ints Q)
  ss : Sl wr 1 s S.length (ints S)
  nq : 0 < Q.length → ∀ k, q.ownBlock = some k → B + 2 ≤ k
  ns : 0 < S.length → ∀ k, s.ownBlock = some k → B + 2 ≤ k
  oi : wr.ownsRow (B + 2) 3 1 vi I.length (ints I)
  oo : wr.ownsRow (B + 2) 3 1 vo O.length (ints O)
  dq : 0 < Q.length → ∀ k, q.ownBlock = some k → vi.ownBlock ≠ some k ∧ vo.ownBlock ≠ some k
  ds : 0 < S.length → ∀ k, s.ownBlock = some k → vi.ownBlock ≠ some k ∧ vo.ownBlock ≠ some k
  dio : ∀ k, vi.ownBlock = some k → vo.ownBlock ≠ some k
  bel : Below B w wr
  sz : B + 2 ≤ wr.heap.size

theorem Sl.set0 {w : World} {size : Nat} {v : Value} {n : Nat} {xs : List Value} (h : Sl w size v n xs) {c j : Nat} (u : Value) (hne : 0 < n → v.ownBlock ≠ some c) : Sl (w.setCell ⟨c, j, none⟩ u) size v n xs := by
  by_cases hn : 0 < n
  · exact h.set u (hne hn)
  · obtain ⟨h1, ao, cap, rfl, h3, h4⟩ := h
    exact ⟨h1, ao, cap, rfl, h3, fun h => absurd h hn⟩
theorem Sl.lt {w : World} {size : Nat} {v : Value} {n : Nat} {xs : List Value} (h : Sl w size v n xs) (hn : 0 < n) (k : Nat) (hk : v.ownBlock = some k) : k < w.heap.size := by
  obtain ⟨b, off, cap, rfl, _, hlt, _⟩ := h.open hn
  simp [Value.ownBlock] at hk
  omega
theorem own_up {w w' : World} {base : Nat} {e : TypeId} {size : Nat} {v : Value} {n : Nat} {xs : List Value} (h : w.ownsRow base e size v n xs) (hb : Below w.heap.size w w') : w'.ownsRow base e size v n xs := by
  have hlt := h.lt
  refine ⟨h.1, ?_⟩
  rcases h.2 with hn | ⟨g, cap, cur, rfl, hg, hh, r⟩
  · exact .inl hn
  · exact .inr ⟨g, cap, cur, rfl, hg, by rw [hb.block g (hlt g rfl).2]; exact hh, r⟩
theorem Inv.up {w wr wr' : World} {B : Nat} {Q S I O : List Int} {q s vi vo : Value} (h : Inv w wr B Q S I O q s vi vo) (hb : Below wr.heap.size wr wr') : Inv w wr' B Q S I O q s vi vo :=
  ⟨bcl hb (by have := h.sz; omega) h.cq, bfr hb (by have := h.sz; omega) h.fq, bcl hb (by have := h.sz; omega) h.cs, bfr hb (by have := h.sz; omega) h.fs, h.sq.up hb, h.ss.up hb, h.nq, h.ns, own_up h.oi hb, own_up h.oo hb, h.dq, h.ds, h.dio, h.bel.trans (hb.mono (by have := h.sz; omega)), Nat.le_trans h.sz hb.size⟩
/-- Another queue's line is stored. -/
theorem Inv.putq {w wr : World} {B : Nat} {Q S I O Q' : List Int} {q s vi vo q' : Value} (h : Inv w wr B Q S I O q s vi vo) (hs : Sl wr 1 q' Q'.length (ints Q')) (hn : 0 < Q'.length → ∀ k, q'.ownBlock = some k → B + 2 ≤ k) (hd : 0 < Q'.length → ∀ k, q'.ownBlock = some k → vi.ownBlock ≠ some k ∧ vo.ownBlock ≠ some k) :
    Inv w (wr.setCell ⟨B, 0, none⟩ q') B Q' S I O q' s vi vo :=
  ⟨cl_same h.cq, fr_set h.fq, cl_set (Or.inl (by omega)) h.cs, fr_set h.fs, hs.set0 _ (fun h0 e => by have := hn h0 _ e; omega), h.ss.set0 _ (fun h0 e => by have := h.ns h0 _ e; omega), hn, h.ns,
   ownsRow_setCell_below h.oi (by simp) _, ownsRow_setCell_below h.oo (by simp) _, hd, h.ds, h.dio, h.bel.setCell (by simp) _, by rw [size_set]; exact h.sz⟩
/-- Another sample's line is stored. -/
theorem Inv.puts {w wr : World} {B : Nat} {Q S I O S' : List Int} {q s vi vo s' : Value} (h : Inv w wr B Q S I O q s vi vo) (hs : Sl wr 1 s' S'.length (ints S')) (hn : 0 < S'.length → ∀ k, s'.ownBlock = some k → B + 2 ≤ k) (hd : 0 < S'.length → ∀ k, s'.ownBlock = some k → vi.ownBlock ≠ some k ∧ vo.ownBlock ≠ some k) :
    Inv w (wr.setCell ⟨B + 1, 0, none⟩ s') B Q S' I O q s' vi vo :=
  ⟨cl_set (Or.inl (by omega)) h.cq, fr_set h.fq, cl_same h.cs, fr_set h.fs, h.sq.set0 _ (fun h0 e => by have := h.nq h0 _ e; omega), hs.set0 _ (fun h0 e => by have := hn h0 _ e; omega), h.nq, hn,
   ownsRow_setCell_below h.oi (by simp) _, ownsRow_setCell_below h.oo (by simp) _, h.dq, hd, h.dio, h.bel.setCell (by simp) _, by rw [size_set]; exact h.sz⟩
theorem sl_grown {w w' : World} {row : Option Nat} {size : Nat} {v : Value} {n : Nat} {xs : List Value} (h : Sl w size v n xs) (hg : w.grownBy w' row) (hne : 0 < n → ∀ k, v.ownBlock = some k → row ≠ some k) : Sl w' size v n xs := by
  obtain ⟨h1, ao, cap, rfl, h3, h4⟩ := h
  refine ⟨h1, ao, cap, rfl, h3, fun hn => ?_⟩
  obtain ⟨b, off, rfl, hlt, hc⟩ := h4 hn
  exact ⟨b, off, rfl, Nat.lt_of_lt_of_le hlt hg.size, fun j u hj => (hg.cell_far ⟨b, off + j, none⟩ hlt (fun e => hne hn b rfl e.symm)).trans (hc j u hj)⟩
/-- One more was put and taken. -/
theorem Inv.addi {w wr w' : World} {B : Nat} {Q S I O : List Int} {q s vi vo vi' : Value} {z : Int} (h : Inv w wr B Q S I O q s vi vo) (hg : wr.grownBy w' vi.ownBlock) (ho : w'.ownsRow (B + 2) 3 1 vi' (I ++ [z]).length (ints (I ++ [z])))
    (hw : ∀ k, vi'.ownBlock = some k → vi.ownBlock = some k ∨ wr.heap.size ≤ k) : Inv w w' B Q S (I ++ [z]) O q s vi' vo := by
  have hb := own_block h.oi
  have hsz := h.sz
  have far : ∀ j, j = B ∨ j = B + 1 → some j ≠ vi.ownBlock := fun j hj e => by have := hb j e.symm; omega
  refine ⟨(hg.cell_far ⟨B, 0, none⟩ (by simp; omega) (far _ (Or.inl rfl))).trans h.cq, (hg.frozen_far ⟨B, 0, none⟩ (by simp; omega) (far _ (Or.inl rfl))).trans h.fq, (hg.cell_far ⟨B + 1, 0, none⟩ (by simp; omega) (far _ (Or.inr rfl))).trans h.cs, (hg.frozen_far ⟨B + 1, 0, none⟩ (by simp; omega) (far _ (Or.inr rfl))).trans h.fs,
    sl_grown h.sq hg (fun h0 k e => (h.dq h0 k e).1), sl_grown h.ss hg (fun h0 k e => (h.ds h0 k e).1), h.nq, h.ns, ho, h.oo.kept hg ?_, ?_, ?_, ?_, h.bel.grown hg (by omega) (fun k e => by have := hb k e; omega), Nat.le_trans hsz hg.size⟩
  · cases hv : vo.ownBlock with
    | none => exact Or.inl rfl
    | some k => exact Or.inr (fun e => h.dio k e.symm hv)
  · intro h0 k e
    refine ⟨fun e2 => ?_, (h.dq h0 k e).2⟩
    rcases hw k e2 with h1 | h1
    · exact (h.dq h0 k e).1 h1
    · have := h.sq.lt h0 k e; omega
  · intro h0 k e
    refine ⟨fun e2 => ?_, (h.ds h0 k e).2⟩
    rcases hw k e2 with h1 | h1
    · exact (h.ds h0 k e).1 h1
    · have := h.ss.lt h0 k e; omega
  · intro k e e2
    rcases hw k e with h1 | h1
    · exact h.dio k h1 e2
    · have := (h.oo.lt k e2).2; omega
/-- One more came out. -/
theorem Inv.addo {w wr w' : World} {B : Nat} {Q S I O : List Int} {q s vi vo vo' : Value} {z : Int} (h : Inv w wr B Q S I O q s vi vo) (hg : wr.grownBy w' vo.ownBlock) (ho : w'.ownsRow (B + 2) 3 1 vo' (O ++ [z]).length (ints (O ++ [z])))
    (hw : ∀ k, vo'.ownBlock = some k → vo.ownBlock = some k ∨ wr.heap.size ≤ k) : Inv w w' B Q S I (O ++ [z]) q s vi vo' := by
  have hb := own_block h.oo
  have hsz := h.sz
  have far : ∀ j, j = B ∨ j = B + 1 → some j ≠ vo.ownBlock := fun j hj e => by have := hb j e.symm; omega
  refine ⟨(hg.cell_far ⟨B, 0, none⟩ (by simp; omega) (far _ (Or.inl rfl))).trans h.cq, (hg.frozen_far ⟨B, 0, none⟩ (by simp; omega) (far _ (Or.inl rfl))).trans h.fq, (hg.cell_far ⟨B + 1, 0, none⟩ (by simp; omega) (far _ (Or.inr rfl))).trans h.cs, (hg.frozen_far ⟨B + 1, 0, none⟩ (by simp; omega) (far _ (Or.inr rfl))).trans h.fs,
    sl_grown h.sq hg (fun h0 k e => (h.dq h0 k e).2), sl_grown h.ss hg (fun h0 k e => (h.ds h0 k e).2), h.nq, h.ns, h.oi.kept hg ?_, ho, ?_, ?_, ?_, h.bel.grown hg (by omega) (fun k e => by have := hb k e; omega), Nat.le_trans hsz hg.size⟩
  · cases hv : vi.ownBlock with
    | none => exact Or.inl rfl
    | some k => exact Or.inr (fun e => h.dio k hv e.symm)
  · intro h0 k e
    refine ⟨(h.dq h0 k e).1, fun e2 => ?_⟩
    rcases hw k e2 with h1 | h1
    · exact (h.dq h0 k e).2 h1
    · have := h.sq.lt h0 k e; omega
  · intro h0 k e
    refine ⟨(h.ds h0 k e).1, fun e2 => ?_⟩
    rcases hw k e2 with h1 | h1
    · exact (h.ds h0 k e).2 h1
    · have := h.ss.lt h0 k e; omega
  · intro k e e2
    rcases hw k e2 with h1 | h1
    · exact h.dio k e h1
    · have := (h.oi.lt k e).2; omega
/-- A slice that is new by now is apart from all that was there. -/
theorem Inv.fresh {w wr : World} {B : Nat} {Q S I O : List Int} {q s vi vo v : Value} (h : Inv w wr B Q S I O q s vi vo) (hv : ∀ k, v.ownBlock = some k → wr.heap.size ≤ k) :
    (∀ k, v.ownBlock = some k → B + 2 ≤ k) ∧ ∀ k, v.ownBlock = some k → vi.ownBlock ≠ some k ∧ vo.ownBlock ≠ some k :=
  ⟨fun k e => Nat.le_trans h.sz (hv k e), fun k e => ⟨fun e2 => by have := (h.oi.lt k e2).2; have := hv k e; omega, fun e2 => by have := (h.oo.lt k e2).2; have := hv k e; omega⟩⟩
end Go.Proofs.Ytpikadbljhfoiaa
