/- What a runner does: Set, Copy, Add, Sub. -/
import Derived.Test.YtjhjaafoikadgaaDoorCell5
namespace Go.Proofs.YtjhjaafoikadgaaDoor
set_option linter.unusedSimpArgs false
set_option linter.unusedVariables false
open Go.RowKit Go.Sort


set_option maxRecDepth 100000 in
set_option maxHeartbeats 8000000 in
theorem do1 (B : Nat) (w W : World) (g base : Nat) (c : Cel) (o i : Value) (x : Wnt) (xs : List Int) (a b n : Int) (ha0 : 0 ≤ a) (ha1 : a < 4) (hb0 : 0 ≤ b) (hb1 : b < 4) (hat0 : 0 ≤ c.at_) (hat1 : c.at_ ≤ 20) (h : Rn B w W g base c o i x xs) :
    Calls Tryd.prog 95 #[.pointer (some ⟨g, 0, none⟩), .agg #[.int .i64 1, .int .i64 a, .int .i64 b, .int .i64 n]] W fun e W' => e = .returned (.tuple #[]) ∧ Rn B w W' g base { c.setReg a (n) with at_ := c.at_ + 1 } o i x xs := by
  have hg : g < W.heap.size := h.lt
  have hg' : g ≠ W.heap.size := Nat.ne_of_lt hg
  have k0 : W.cell? ⟨g, 0, none⟩ = some (.int .i64 c.at_) := h.r.cell rfl
  have ka : W.cell? ⟨g, 1 + a.toNat, none⟩ = some (.int .i64 (c.reg a)) := h.r.cell (rcs_reg _ _ _ _ ha0 ha1)
  have kb : W.cell? ⟨g, 1 + b.toNat, none⟩ = some (.int .i64 (c.reg b)) := h.r.cell (rcs_reg _ _ _ _ hb0 hb1)
  have fa : W.frozen? ⟨g, 1 + a.toNat, none⟩ = false := h.r.fr _
  have H := Lib.hid h
  clear h
  go_enter Tryd.func95, Tryd.ntmps95
  go_wp2
  go_region
  all_goals
    have H1 := Lib.hid (((H.out.reg ha0 ha1 (n)).alloc (.cells #[.int .i64 1, .int .i64 a, .int .i64 b, .int .i64 n] 74)).drew)
    clear H k0 ka kb fa
    generalize World.drew _ = W1 at H1 ⊢
    have q0 : W1.cell? ⟨g, 0, none⟩ = some (.int .i64 _) := H1.out.r.cell rfl
    have q1 : W1.frozen? ⟨g, 0, none⟩ = false := H1.out.r.fr _
    go_wp2
    go_end0
    exact ⟨rfl, H1.out.setAt _⟩

set_option maxRecDepth 100000 in
set_option maxHeartbeats 8000000 in
theorem do2 (B : Nat) (w W : World) (g base : Nat) (c : Cel) (o i : Value) (x : Wnt) (xs : List Int) (a b n : Int) (ha0 : 0 ≤ a) (ha1 : a < 4) (hb0 : 0 ≤ b) (hb1 : b < 4) (hat0 : 0 ≤ c.at_) (hat1 : c.at_ ≤ 20) (h : Rn B w W g base c o i x xs) :
    Calls Tryd.prog 95 #[.pointer (some ⟨g, 0, none⟩), .agg #[.int .i64 2, .int .i64 a, .int .i64 b, .int .i64 n]] W fun e W' => e = .returned (.tuple #[]) ∧ Rn B w W' g base { c.setReg a (c.reg b) with at_ := c.at_ + 1 } o i x xs := by
  have hg : g < W.heap.size := h.lt
  have hg' : g ≠ W.heap.size := Nat.ne_of_lt hg
  have k0 : W.cell? ⟨g, 0, none⟩ = some (.int .i64 c.at_) := h.r.cell rfl
  have ka : W.cell? ⟨g, 1 + a.toNat, none⟩ = some (.int .i64 (c.reg a)) := h.r.cell (rcs_reg _ _ _ _ ha0 ha1)
  have kb : W.cell? ⟨g, 1 + b.toNat, none⟩ = some (.int .i64 (c.reg b)) := h.r.cell (rcs_reg _ _ _ _ hb0 hb1)
  have fa : W.frozen? ⟨g, 1 + a.toNat, none⟩ = false := h.r.fr _
  have H := Lib.hid h
  clear h
  go_enter Tryd.func95, Tryd.ntmps95
  go_wp2
  go_region
  all_goals
    have H1 := Lib.hid (((H.out.reg ha0 ha1 (c.reg b)).alloc (.cells #[.int .i64 2, .int .i64 a, .int .i64 b, .int .i64 n] 74)).drew)
    clear H k0 ka kb fa
    generalize World.drew _ = W1 at H1 ⊢
    have q0 : W1.cell? ⟨g, 0, none⟩ = some (.int .i64 _) := H1.out.r.cell rfl
    have q1 : W1.frozen? ⟨g, 0, none⟩ = false := H1.out.r.fr _
    go_wp2
    go_end0
    exact ⟨rfl, H1.out.setAt _⟩

set_option maxRecDepth 100000 in
set_option maxHeartbeats 8000000 in
theorem do3 (B : Nat) (w W : World) (g base : Nat) (c : Cel) (o i : Value) (x : Wnt) (xs : List Int) (a b n : Int) (ha0 : 0 ≤ a) (ha1 : a < 4) (hb0 : 0 ≤ b) (hb1 : b < 4) (hat0 : 0 ≤ c.at_) (hat1 : c.at_ ≤ 20) (h : Rn B w W g base c o i x xs) :
    Calls Tryd.prog 95 #[.pointer (some ⟨g, 0, none⟩), .agg #[.int .i64 3, .int .i64 a, .int .i64 b, .int .i64 n]] W fun e W' => e = .returned (.tuple #[]) ∧ Rn B w W' g base { c.setReg a (wrap64 (c.reg a + c.reg b)) with at_ := c.at_ + 1 } o i x xs := by
  have hg : g < W.heap.size := h.lt
  have hg' : g ≠ W.heap.size := Nat.ne_of_lt hg
  have k0 : W.cell? ⟨g, 0, none⟩ = some (.int .i64 c.at_) := h.r.cell rfl
  have ka : W.cell? ⟨g, 1 + a.toNat, none⟩ = some (.int .i64 (c.reg a)) := h.r.cell (rcs_reg _ _ _ _ ha0 ha1)
  have kb : W.cell? ⟨g, 1 + b.toNat, none⟩ = some (.int .i64 (c.reg b)) := h.r.cell (rcs_reg _ _ _ _ hb0 hb1)
  have fa : W.frozen? ⟨g, 1 + a.toNat, none⟩ = false := h.r.fr _
  have H := Lib.hid h
  clear h
  go_enter Tryd.func95, Tryd.ntmps95
  go_wp2
  go_region
  all_goals
    have H1 := Lib.hid (((H.out.reg ha0 ha1 (wrap64 (c.reg a + c.reg b))).alloc (.cells #[.int .i64 3, .int .i64 a, .int .i64 b, .int .i64 n] 74)).drew)
    clear H k0 ka kb fa
    generalize World.drew _ = W1 at H1 ⊢
    have q0 : W1.cell? ⟨g, 0, none⟩ = some (.int .i64 _) := H1.out.r.cell rfl
    have q1 : W1.frozen? ⟨g, 0, none⟩ = false := H1.out.r.fr _
    go_wp2
    go_end0
    exact ⟨rfl, H1.out.setAt _⟩

set_option maxRecDepth 100000 in
set_option maxHeartbeats 8000000 in
theorem do4 (B : Nat) (w W : World) (g base : Nat) (c : Cel) (o i : Value) (x : Wnt) (xs : List Int) (a b n : Int) (ha0 : 0 ≤ a) (ha1 : a < 4) (hb0 : 0 ≤ b) (hb1 : b < 4) (hat0 : 0 ≤ c.at_) (hat1 : c.at_ ≤ 20) (h : Rn B w W g base c o i x xs) :
    Calls Tryd.prog 95 #[.pointer (some ⟨g, 0, none⟩), .agg #[.int .i64 4, .int .i64 a, .int .i64 b, .int .i64 n]] W fun e W' => e = .returned (.tuple #[]) ∧ Rn B w W' g base { c.setReg a (wrap64 (c.reg a - c.reg b)) with at_ := c.at_ + 1 } o i x xs := by
  have hg : g < W.heap.size := h.lt
  have hg' : g ≠ W.heap.size := Nat.ne_of_lt hg
  have k0 : W.cell? ⟨g, 0, none⟩ = some (.int .i64 c.at_) := h.r.cell rfl
  have ka : W.cell? ⟨g, 1 + a.toNat, none⟩ = some (.int .i64 (c.reg a)) := h.r.cell (rcs_reg _ _ _ _ ha0 ha1)
  have kb : W.cell? ⟨g, 1 + b.toNat, none⟩ = some (.int .i64 (c.reg b)) := h.r.cell (rcs_reg _ _ _ _ hb0 hb1)
  have fa : W.frozen? ⟨g, 1 + a.toNat, none⟩ = false := h.r.fr _
  have H := Lib.hid h
  clear h
  go_enter Tryd.func95, Tryd.ntmps95
  go_wp2
  go_region
  all_goals
    have H1 := Lib.hid (((H.out.reg ha0 ha1 (wrap64 (c.reg a - c.reg b))).alloc (.cells #[.int .i64 4, .int .i64 a, .int .i64 b, .int .i64 n] 74)).drew)
    clear H k0 ka kb fa
    generalize World.drew _ = W1 at H1 ⊢
    have q0 : W1.cell? ⟨g, 0, none⟩ = some (.int .i64 _) := H1.out.r.cell rfl
    have q1 : W1.frozen? ⟨g, 0, none⟩ = false := H1.out.r.fr _
    go_wp2
    go_end0
    exact ⟨rfl, H1.out.setAt _⟩
end Go.Proofs.YtjhjaafoikadgaaDoor
