/- The law ChansTrue: lines that are new, and how they come into the loops' keeping. -/
import Derived.Test.YtpikadbljhfoiaaChansT0
namespace Go.Proofs.Ytpikadbljhfoiaa
set_option linter.unusedSimpArgs false
set_option linter.unusedVariables false
open Go.RowKit Go.Sort

/-- A line that is new by now: its variable's block, what it holds. -/
structure Fresh1 (wr W : World) (b : Nat) (v : Value) (Z : List Int) : Prop where
  bel : Below wr.heap.size wr W
  ge : wr.heap.size ≤ b
  lt : b < W.heap.size
  cell : W.cell? ⟨b, 0, none⟩ = some v
  sl : Sl W 1 v Z.length (ints Z)
  own : ∀ k, v.ownBlock = some k → wr.heap.size ≤ k

theorem fresh_A {wr wa w1 : World} {u v : Value} {Z : List Int} (ha : Below wr.heap.size wr wa) (hz : wa.heap.size = wr.heap.size + 1) (hc : wa.cell? ⟨wr.heap.size, 0, none⟩ = some u) (s : SlN wa w1 v Z.length (ints Z)) (bb : Below wa.heap.size wa w1) :
    Fresh1 wr (w1.setCell ⟨wr.heap.size, 0, none⟩ v) wr.heap.size v Z := by
  have own : ∀ k, v.ownBlock = some k → wr.heap.size + 1 ≤ k := fun k e => by have := s.2 k e; omega
  exact ⟨(ha.trans (bb.mono (by omega))).setCell (by simp) _, Nat.le_refl _, by rw [size_set]; have := bb.size; omega, cl_same (bcl bb (by omega) hc), s.1.set _ (fun e => by have := own _ e; omega), fun k e => by have := own k e; omega⟩
theorem fresh_B {wr wa w1 : World} {v : Value} {Z : List Int} {t : TypeId} (ha : Below wr.heap.size wr wa) (hz : wa.heap.size = wr.heap.size) (s : SlN wa w1 v Z.length (ints Z)) (bb : Below wa.heap.size wa w1) :
    Fresh1 wr (w1.alloc (.cells #[v] t)) w1.heap.size v Z :=
  ⟨(ha.trans (bb.mono (by omega))).alloc (by have := bb.size; omega) _, by have := bb.size; omega, by simp, by simp, s.1.up ((Below.refl _ _).alloc (Nat.le_refl _) _), fun k e => by have := s.2 k e; omega⟩

/-- Two lines beside what the loops keep. -/
structure Two (wr : World) (B b1 b2 : Nat) (v1 v2 vi vo : Value) (Z T : List Int) : Prop where
  c1 : wr.cell? ⟨b1, 0, none⟩ = some v1
  c2 : wr.cell? ⟨b2, 0, none⟩ = some v2
  s1 : Sl wr 1 v1 Z.length (ints Z)
  s2 : Sl wr 1 v2 T.length (ints T)
  g1 : B + 2 ≤ b1
  g2 : B + 2 ≤ b2
  l1 : b1 < wr.heap.size
  l2 : b2 < wr.heap.size
  n1 : ∀ k, v1.ownBlock = some k → B + 2 ≤ k
  n2 : ∀ k, v2.ownBlock = some k → B + 2 ≤ k
  d1 : 0 < Z.length → ∀ k, v1.ownBlock = some k → vi.ownBlock ≠ some k ∧ vo.ownBlock ≠ some k
  d2 : 0 < T.length → ∀ k, v2.ownBlock = some k → vi.ownBlock ≠ some k ∧ vo.ownBlock ≠ some k
  e1 : vi.ownBlock ≠ some b1 ∧ vo.ownBlock ≠ some b1
  e2 : vi.ownBlock ≠ some b2 ∧ vo.ownBlock ≠ some b2

theorem two_mk {w wr W1 W2 : World} {B b1 b2 : Nat} {Q S I O Z T : List Int} {q s vi vo v1 v2 : Value} (h : Inv w wr B Q S I O q s vi vo) (F1 : Fresh1 wr W1 b1 v1 Z) (F2 : Fresh1 W1 W2 b2 v2 T) : Two W2 B b1 b2 v1 v2 vi vo Z T := by
  have hs := h.sz
  have z1 := F1.bel.size
  have z2 := F2.bel.size
  have a1 := F1.lt
  have a2 := F2.ge
  have a3 := F1.ge
  have hi : ∀ k, vi.ownBlock = some k → k < wr.heap.size := fun k e => (h.oi.lt k e).2
  have ho : ∀ k, vo.ownBlock = some k → k < wr.heap.size := fun k e => (h.oo.lt k e).2
  refine ⟨bcl F2.bel F1.lt F1.cell, F2.cell, F1.sl.up F2.bel, F2.sl, by omega, by omega, by omega, F2.lt, fun k e => by have := F1.own k e; omega, fun k e => by have := F2.own k e; omega, fun _ k e => ?_, fun _ k e => ?_, ?_, ?_⟩
  · have := F1.own k e
    exact ⟨fun e2 => by have := hi k e2; omega, fun e2 => by have := ho k e2; omega⟩
  · have := F2.own k e
    exact ⟨fun e2 => by have := hi k e2; omega, fun e2 => by have := ho k e2; omega⟩
  · exact ⟨fun e2 => by have := hi _ e2; omega, fun e2 => by have := ho _ e2; omega⟩
  · exact ⟨fun e2 => by have := hi _ e2; omega, fun e2 => by have := ho _ e2; omega⟩
theorem two_one {w wr W1 : World} {B b1 : Nat} {Q S I O Z : List Int} {q s vi vo v1 : Value} (h : Inv w wr B Q S I O q s vi vo) (F1 : Fresh1 wr W1 b1 v1 Z) : Two W1 B b1 b1 v1 v1 vi vo Z Z := by
  have hs := h.sz
  have z1 := F1.bel.size
  have a3 := F1.ge
  have hi : ∀ k, vi.ownBlock = some k → k < wr.heap.size := fun k e => (h.oi.lt k e).2
  have ho : ∀ k, vo.ownBlock = some k → k < wr.heap.size := fun k e => (h.oo.lt k e).2
  have d : 0 < Z.length → ∀ k, v1.ownBlock = some k → vi.ownBlock ≠ some k ∧ vo.ownBlock ≠ some k := fun _ k e => by
    have := F1.own k e
    exact ⟨fun e2 => by have := hi k e2; omega, fun e2 => by have := ho k e2; omega⟩
  have e : vi.ownBlock ≠ some b1 ∧ vo.ownBlock ≠ some b1 := ⟨fun e2 => by have := hi _ e2; omega, fun e2 => by have := ho _ e2; omega⟩
  exact ⟨F1.cell, F1.cell, F1.sl, F1.sl, by omega, by omega, F1.lt, F1.lt, fun k e => by have := F1.own k e; omega, fun k e => by have := F1.own k e; omega, d, d, e, e⟩
theorem Two.up {wr wr' : World} {B b1 b2 : Nat} {v1 v2 vi vo : Value} {Z T : List Int} (h : Two wr B b1 b2 v1 v2 vi vo Z T) (hb : Below wr.heap.size wr wr') : Two wr' B b1 b2 v1 v2 vi vo Z T :=
  ⟨bcl hb h.l1 h.c1, bcl hb h.l2 h.c2, h.s1.up hb, h.s2.up hb, h.g1, h.g2, Nat.lt_of_lt_of_le h.l1 hb.size, Nat.lt_of_lt_of_le h.l2 hb.size, h.n1, h.n2, h.d1, h.d2, h.e1, h.e2⟩
theorem apart_new {wr : World} {v vi vi' : Value} {Z : List Int} (s : Sl wr 1 v Z.length (ints Z)) (h0 : 0 < Z.length) (k : Nat) (e : v.ownBlock = some k) (hd : vi.ownBlock ≠ some k) (hw : ∀ k, vi'.ownBlock = some k → vi.ownBlock = some k ∨ wr.heap.size ≤ k) : vi'.ownBlock ≠ some k := by
  intro e2
  rcases hw k e2 with h | h
  · exact hd h
  · have := s.lt h0 k e; omega
theorem far_new {wr : World} {vi vi' : Value} {b : Nat} (l : b < wr.heap.size) (hd : vi.ownBlock ≠ some b) (hw : ∀ k, vi'.ownBlock = some k → vi.ownBlock = some k ∨ wr.heap.size ≤ k) : vi'.ownBlock ≠ some b := by
  intro e2
  rcases hw b e2 with h | h
  · exact hd h
  · omega
theorem Two.addi {wr w' : World} {B b1 b2 : Nat} {v1 v2 vi vo vi' : Value} {Z T : List Int} (h : Two wr B b1 b2 v1 v2 vi vo Z T) (hg : wr.grownBy w' vi.ownBlock) (hw : ∀ k, vi'.ownBlock = some k → vi.ownBlock = some k ∨ wr.heap.size ≤ k) : Two w' B b1 b2 v1 v2 vi' vo Z T :=
  ⟨(hg.cell_far ⟨b1, 0, none⟩ h.l1 (fun e => h.e1.1 e.symm)).trans h.c1, (hg.cell_far ⟨b2, 0, none⟩ h.l2 (fun e => h.e2.1 e.symm)).trans h.c2,
   sl_grown h.s1 hg (fun h0 k e => (h.d1 h0 k e).1), sl_grown h.s2 hg (fun h0 k e => (h.d2 h0 k e).1), h.g1, h.g2, Nat.lt_of_lt_of_le h.l1 hg.size, Nat.lt_of_lt_of_le h.l2 hg.size, h.n1, h.n2,
   fun h0 k e => ⟨apart_new h.s1 h0 k e (h.d1 h0 k e).1 hw, (h.d1 h0 k e).2⟩, fun h0 k e => ⟨apart_new h.s2 h0 k e (h.d2 h0 k e).1 hw, (h.d2 h0 k e).2⟩, ⟨far_new h.l1 h.e1.1 hw, h.e1.2⟩, ⟨far_new h.l2 h.e2.1 hw, h.e2.2⟩⟩
theorem Two.addo {wr w' : World} {B b1 b2 : Nat} {v1 v2 vi vo vo' : Value} {Z T : List Int} (h : Two wr B b1 b2 v1 v2 vi vo Z T) (hg : wr.grownBy w' vo.ownBlock) (hw : ∀ k, vo'.ownBlock = some k → vo.ownBlock = some k ∨ wr.heap.size ≤ k) : Two w' B b1 b2 v1 v2 vi vo' Z T :=
  ⟨(hg.cell_far ⟨b1, 0, none⟩ h.l1 (fun e => h.e1.2 e.symm)).trans h.c1, (hg.cell_far ⟨b2, 0, none⟩ h.l2 (fun e => h.e2.2 e.symm)).trans h.c2,
   sl_grown h.s1 hg (fun h0 k e => (h.d1 h0 k e).2), sl_grown h.s2 hg (fun h0 k e => (h.d2 h0 k e).2), h.g1, h.g2, Nat.lt_of_lt_of_le h.l1 hg.size, Nat.lt_of_lt_of_le h.l2 hg.size, h.n1, h.n2,
   fun h0 k e => ⟨(h.d1 h0 k e).1, apart_new h.s1 h0 k e (h.d1 h0 k e).2 hw⟩, fun h0 k e => ⟨(h.d2 h0 k e).1, apart_new h.s2 h0 k e (h.d2 h0 k e).2 hw⟩, ⟨h.e1.1, far_new h.l1 h.e1.2 hw⟩, ⟨h.e2.1, far_new h.l2 h.e2.2 hw⟩⟩
theorem Two.storeq {w wr : World} {B b1 b2 : Nat} {Q S I O Z T : List Int} {q s v1 v2 vi vo : Value} (h : Inv w wr B Q S I O q s vi vo) (t : Two wr B b1 b2 v1 v2 vi vo Z T) : Inv w (wr.setCell ⟨B, 0, none⟩ v1) B Z S I O v1 s vi vo :=
  h.putq t.s1 (fun _ => t.n1) t.d1
theorem Two.store {w wr : World} {B b1 b2 : Nat} {Q S I O Z T : List Int} {q s v1 v2 vi vo : Value} (h : Inv w wr B Q S I O q s vi vo) (t : Two wr B b1 b2 v1 v2 vi vo Z T) : Inv w ((wr.setCell ⟨B, 0, none⟩ v1).setCell ⟨B + 1, 0, none⟩ v2) B Z T I O v1 v2 vi vo :=
  (h.putq t.s1 (fun _ => t.n1) t.d1).puts (t.s2.set0 _ (fun _ e => by have := t.n2 _ e; omega)) (fun _ => t.n2) t.d2
theorem Two.store' {w wr : World} {B b1 b2 : Nat} {Q S I O Z T : List Int} {q s v1 v2 vi vo : Value} (h : Inv w wr B Q S I O q s vi vo) (t : Two wr B b1 b2 v1 v2 vi vo Z T) : Inv w ((wr.setCell ⟨B + 1, 0, none⟩ v2).setCell ⟨B, 0, none⟩ v1) B Z T I O v1 v2 vi vo :=
  (h.puts t.s2 (fun _ => t.n2) t.d2).putq (t.s1.set0 _ (fun _ e => by have := t.n1 _ e; omega)) (fun _ => t.n1) t.d1
theorem lies_new {H g n cap : Nat} {v : Value} (h : v.ownBlock = some g ∨ g = H) (off : Nat) : ∀ k, Value.ownBlock (.slice (some ⟨g, off, none⟩) n cap) = some k → v.ownBlock = some k ∨ H ≤ k := by
  intro k e
  obtain rfl : g = k := by simpa [Value.ownBlock] using e
  exact h.imp id (fun e => by omega)

theorem chk2 {n : Nat} (h : n ≤ 3) : chkL 2 n = 0 := by unfold chkL; simp; omega
theorem chk1 {n : Nat} (h : n ≤ 1) : chkL 1 n = 0 := by unfold chkL; simp; omega
theorem putR2 (Q : List Int) (x : Int) (h : Q.length ≤ 3) : putR 2 Q x = (if Q.length = 3 then (Q, false) else (Q ++ [x], true)) := by
  unfold putR putS
  rw [if_pos (chk2 h)]
  rfl
theorem putR1 (S : List Int) (x : Int) (h : S.length ≤ 1) : putR 1 S x = ([x], true) := by
  unfold putR putS
  rw [if_pos (chk1 h)]
  rfl
theorem getR2 (Q : List Int) (h : Q.length ≤ 3) : getR 2 Q = (Q.tail, Q.headD 0, !Q.isEmpty) := by
  unfold getR
  rw [if_pos (chk2 h)]
  cases Q <;> rfl
theorem getR1 (x : Int) : getR 1 [x] = ([x], x, true) := rfl

set_option maxHeartbeats 1000000 in
theorem choose_any (c : Int) (w : World) : Calls Try.prog 13 #[.int .i64 c, .int .i64 2] w fun e w' => ∃ m, e = .returned (.int .i64 m) ∧ w' = w := by
  by_cases h : c < 0
  all_goals
    go_enter Try.func13, Try.ntmps13
    go_wp2
    all_goals go_ret
    all_goals first | exact ⟨_, rfl, rfl⟩ | rfl | (simp; done)
end Go.Proofs.Ytpikadbljhfoiaa
