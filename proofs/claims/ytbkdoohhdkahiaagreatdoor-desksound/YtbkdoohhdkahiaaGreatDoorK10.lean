/- What a runner does: Set, Copy, Add, Sub. -/
import Derived.Test.YtbkdoohhdkahiaaGreatDoorK9
import Derived.Test.YtbkdoohhdkahiaaGreatDoorK0
import Derived.Defers
import Derived.Recover
namespace Go.Proofs.YtbkdoohhdkahiaaGreatDoor
set_option linter.unusedSimpArgs false
set_option linter.unusedVariables false
open Go.RowKit Go.Sort
set_option maxRecDepth 100000 in
set_option maxHeartbeats 8000000 in
theorem do1 (B : Nat) (w W : World) (g base : Nat) (c : Cel) (o i : Value) (x : Wnt) (xs : List Int) (a b n : Int) (ha0 : 0 ≤ a) (ha1 : a < 4) (hb0 : 0 ≤ b) (hb1 : b < 4) (hat0 : 0 ≤ c.at_) (hat1 : c.at_ ≤ 20) (h : Rn B w W g base c o i x xs) :
    Calls Tryz.prog 185 #[.pointer (some ⟨g, 0, none⟩), .agg #[.int .i64 1, .int .i64 a, .int .i64 b, .int .i64 n]] W fun e W' => e = .returned (.tuple #[]) ∧ Rn B w W' g base { c.setReg a (n) with at_ := c.at_ + 1 } o i x xs := by
  have hg : g < W.heap.size := h.lt
  have hg' : g ≠ W.heap.size := Nat.ne_of_lt hg
  have k0 : W.cell? ⟨g, 0, none⟩ = some (.int .i64 c.at_) := h.r.cell rfl
  have ka : W.cell? ⟨g, 1 + a.toNat, none⟩ = some (.int .i64 (c.reg a)) := h.r.cell (rcs_reg _ _ _ _ ha0 ha1)
  have kb : W.cell? ⟨g, 1 + b.toNat, none⟩ = some (.int .i64 (c.reg b)) := h.r.cell (rcs_reg _ _ _ _ hb0 hb1)
  have fa : W.frozen? ⟨g, 1 + a.toNat, none⟩ = false := h.r.fr _
  have H := Lib.hid h
  clear h
  go_enter Tryz.func185, Tryz.ntmps185
  go_wp2
  go_region
  all_goals
    have H1 := Lib.hid (((H.out.reg ha0 ha1 (n)).alloc (.cells #[.int .i64 1, .int .i64 a, .int .i64 b, .int .i64 n] 124)).drew)
    clear H k0 ka kb fa
    generalize World.drew _ = W1 at H1 ⊢
    have q0 : W1.cell? ⟨g, 0, none⟩ = some (.int .i64 _) := H1.out.r.cell rfl
    have q1 : W1.frozen? ⟨g, 0, none⟩ = false := H1.out.r.fr _
    go_wp2
    go_end0
    exact ⟨rfl, H1.out.setAt _⟩
set_option maxRecDepth 100000 in
set_option maxHeartbeats 8000000 in
theorem do2 (B : Nat) (w W : World) (g base : Nat) (c : Cel) (o i : Value) (x : Wnt) (xs : List Int) (a b n : Int) (ha0 : 0 ≤ a) (ha1 : a < 4) (hb0 : 0 ≤ b) (hb1 : b < 4) (hat0 : 0 ≤ c.at_) (hat1 : c.at_ ≤ 20) (h : Rn B w W g base c o i x xs) :
    Calls Tryz.prog 185 #[.pointer (some ⟨g, 0, none⟩), .agg #[.int .i64 2, .int .i64 a, .int .i64 b, .int .i64 n]] W fun e W' => e = .returned (.tuple #[]) ∧ Rn B w W' g base { c.setReg a (c.reg b) with at_ := c.at_ + 1 } o i x xs := by
  have hg : g < W.heap.size := h.lt
  have hg' : g ≠ W.heap.size := Nat.ne_of_lt hg
  have k0 : W.cell? ⟨g, 0, none⟩ = some (.int .i64 c.at_) := h.r.cell rfl
  have ka : W.cell? ⟨g, 1 + a.toNat, none⟩ = some (.int .i64 (c.reg a)) := h.r.cell (rcs_reg _ _ _ _ ha0 ha1)
  have kb : W.cell? ⟨g, 1 + b.toNat, none⟩ = some (.int .i64 (c.reg b)) := h.r.cell (rcs_reg _ _ _ _ hb0 hb1)
  have fa : W.frozen? ⟨g, 1 + a.toNat, none⟩ = false := h.r.fr _
  have H := Lib.hid h
  clear h
  go_enter Tryz.func185, Tryz.ntmps185
  go_wp2
  go_region
  all_goals
    have H1 := Lib.hid (((H.out.reg ha0 ha1 (c.reg b)).alloc (.cells #[.int .i64 2, .int .i64 a, .int .i64 b, .int .i64 n] 124)).drew)
    clear H k0 ka kb fa
    generalize World.drew _ = W1 at H1 ⊢
    have q0 : W1.cell? ⟨g, 0, none⟩ = some (.int .i64 _) := H1.out.r.cell rfl
    have q1 : W1.frozen? ⟨g, 0, none⟩ = false := H1.out.r.fr _
    go_wp2
    go_end0
    exact ⟨rfl, H1.out.setAt _⟩
set_option maxRecDepth 100000 in
set_option maxHeartbeats 8000000 in
theorem do3 (B : Nat) (w W : World) (g base : Nat) (c : Cel) (o i : Value) (x : Wnt) (xs : List Int) (a b n : Int) (ha0 : 0 ≤ a) (ha1 : a < 4) (hb0 : 0 ≤ b) (hb1 : b < 4) (hat0 : 0 ≤ c.at_) (hat1 : c.at_ ≤ 20) (h : Rn B w W g base c o i x xs) :
    Calls Tryz.prog 185 #[.pointer (some ⟨g, 0, none⟩), .agg #[.int .i64 3, .int .i64 a, .int .i64 b, .int .i64 n]] W fun e W' => e = .returned (.tuple #[]) ∧ Rn B w W' g base { c.setReg a (wrap64 (c.reg a + c.reg b)) with at_ := c.at_ + 1 } o i x xs := by
  have hg : g < W.heap.size := h.lt
  have hg' : g ≠ W.heap.size := Nat.ne_of_lt hg
  have k0 : W.cell? ⟨g, 0, none⟩ = some (.int .i64 c.at_) := h.r.cell rfl
  have ka : W.cell? ⟨g, 1 + a.toNat, none⟩ = some (.int .i64 (c.reg a)) := h.r.cell (rcs_reg _ _ _ _ ha0 ha1)
  have kb : W.cell? ⟨g, 1 + b.toNat, none⟩ = some (.int .i64 (c.reg b)) := h.r.cell (rcs_reg _ _ _ _ hb0 hb1)
  have fa : W.frozen? ⟨g, 1 + a.toNat, none⟩ = false := h.r.fr _
  have H := Lib.hid h
  clear h
  go_enter Tryz.func185, Tryz.ntmps185
  go_wp2
  go_region
  all_goals
    have H1 := Lib.hid (((H.out.reg ha0 ha1 (wrap64 (c.reg a + c.reg b))).alloc (.cells #[.int .i64 3, .int .i64 a, .int .i64 b, .int .i64 n] 124)).drew)
    clear H k0 ka kb fa
    generalize World.drew _ = W1 at H1 ⊢
    have q0 : W1.cell? ⟨g, 0, none⟩ = some (.int .i64 _) := H1.out.r.cell rfl
    have q1 : W1.frozen? ⟨g, 0, none⟩ = false := H1.out.r.fr _
    go_wp2
    go_end0
    exact ⟨rfl, H1.out.setAt _⟩
set_option maxRecDepth 100000 in
set_option maxHeartbeats 8000000 in
theorem do4 (B : Nat) (w W : World) (g base : Nat) (c : Cel) (o i : Value) (x : Wnt) (xs : List Int) (a b n : Int) (ha0 : 0 ≤ a) (ha1 : a < 4) (hb0 : 0 ≤ b) (hb1 : b < 4) (hat0 : 0 ≤ c.at_) (hat1 : c.at_ ≤ 20) (h : Rn B w W g base c o i x xs) :
    Calls Tryz.prog 185 #[.pointer (some ⟨g, 0, none⟩), .agg #[.int .i64 4, .int .i64 a, .int .i64 b, .int .i64 n]] W fun e W' => e = .returned (.tuple #[]) ∧ Rn B w W' g base { c.setReg a (wrap64 (c.reg a - c.reg b)) with at_ := c.at_ + 1 } o i x xs := by
  have hg : g < W.heap.size := h.lt
  have hg' : g ≠ W.heap.size := Nat.ne_of_lt hg
  have k0 : W.cell? ⟨g, 0, none⟩ = some (.int .i64 c.at_) := h.r.cell rfl
  have ka : W.cell? ⟨g, 1 + a.toNat, none⟩ = some (.int .i64 (c.reg a)) := h.r.cell (rcs_reg _ _ _ _ ha0 ha1)
  have kb : W.cell? ⟨g, 1 + b.toNat, none⟩ = some (.int .i64 (c.reg b)) := h.r.cell (rcs_reg _ _ _ _ hb0 hb1)
  have fa : W.frozen? ⟨g, 1 + a.toNat, none⟩ = false := h.r.fr _
  have H := Lib.hid h
  clear h
  go_enter Tryz.func185, Tryz.ntmps185
  go_wp2
  go_region
  all_goals
    have H1 := Lib.hid (((H.out.reg ha0 ha1 (wrap64 (c.reg a - c.reg b))).alloc (.cells #[.int .i64 4, .int .i64 a, .int .i64 b, .int .i64 n] 124)).drew)
    clear H k0 ka kb fa
    generalize World.drew _ = W1 at H1 ⊢
    have q0 : W1.cell? ⟨g, 0, none⟩ = some (.int .i64 _) := H1.out.r.cell rfl
    have q1 : W1.frozen? ⟨g, 0, none⟩ = false := H1.out.r.fr _
    go_wp2
    go_end0
    exact ⟨rfl, H1.out.setAt _⟩
end Go.Proofs.YtbkdoohhdkahiaaGreatDoor
namespace Go.Proofs.YtbkdoohhdkahiaaGreatDoor
set_option linter.unusedSimpArgs false
set_option linter.unusedVariables false
open Go.RowKit Go.Sort
theorem ent_bit : Enters 157 := enters Tryz.func157 (by kernel_rfl) (by kernel_rfl)
theorem ent_word : Enters 214 := enters Tryz.func214 (by kernel_rfl) (by kernel_rfl)
set_option maxRecDepth 100000 in
set_option maxHeartbeats 8000000 in
theorem do5 (B : Nat) (w W : World) (g base : Nat) (c : Cel) (o i : Value) (x : Wnt) (xs : List Int) (a b n : Int) (ha0 : 0 ≤ a) (ha1 : a < 4) (hb0 : 0 ≤ b) (hb1 : b < 4) (hat0 : 0 ≤ c.at_) (hat1 : c.at_ ≤ 20) (h : Rn B w W g base c o i x xs) :
    Calls Tryz.prog 185 #[.pointer (some ⟨g, 0, none⟩), .agg #[.int .i64 5, .int .i64 a, .int .i64 b, .int .i64 n]] W fun e W' => e = .returned (.tuple #[]) ∧ Rn B w W' g base { c.setReg a (truthI (decide (c.reg a < c.reg b))) with at_ := c.at_ + 1 } o i x xs := by
  have hg : g < W.heap.size := h.lt
  have hg' : g ≠ W.heap.size := Nat.ne_of_lt hg
  have k0 : W.cell? ⟨g, 0, none⟩ = some (.int .i64 c.at_) := h.r.cell rfl
  have ka : W.cell? ⟨g, 1 + a.toNat, none⟩ = some (.int .i64 (c.reg a)) := h.r.cell (rcs_reg _ _ _ _ ha0 ha1)
  have kb : W.cell? ⟨g, 1 + b.toNat, none⟩ = some (.int .i64 (c.reg b)) := h.r.cell (rcs_reg _ _ _ _ hb0 hb1)
  have fa : W.frozen? ⟨g, 1 + a.toNat, none⟩ = false := h.r.fr _
  have H := Lib.hid h
  clear h
  go_enter Tryz.func185, Tryz.ntmps185
  go_wp2
  refine region_still (S := fun w' => w'.cell? ⟨g, 1 + a.toNat, none⟩ = some (.int .i64 (c.reg a)) ∧ w'.cell? ⟨g, 1 + b.toNat, none⟩ = some (.int .i64 (c.reg b)) ∧ w'.cell? ⟨W.heap.size, 1, none⟩ = some (.int .i64 a) ∧ w'.cell? ⟨W.heap.size, 2, none⟩ = some (.int .i64 b)) 25 (by kernel_rfl) ⟨cl_alloc _ hg ka, cl_alloc _ hg kb, (Rw.new W 124 _ rfl).cell rfl, (Rw.new W 124 _ rfl).cell rfl⟩ (fun hHeld => ?_)
  refine Still.t 0 [] hHeld ?_
  refine Still.t 1 [] hHeld ?_
  refine Still.t 2 [] hHeld ?_
  refine Still.t 3 [] hHeld ?_
  refine Still.t 4 [] hHeld ?_
  refine Still.t 5 [] hHeld ?_
  refine Still.t 6 [] hHeld ?_
  refine Still.t 7 [] hHeld ?_
  refine Still.t 8 [] hHeld ?_
  refine Still.t 9 [] hHeld ?_
  refine Still.t 10 [] hHeld ?_
  refine Still.t 11 [] hHeld ?_
  refine Still.t 12 [] hHeld ?_
  refine Still.t 13 [] hHeld ?_
  refine Still.t 14 [] hHeld ?_
  refine Still.t 15 [] hHeld ?_
  refine Still.t 16 [] hHeld ?_
  refine Still.t 17 [] hHeld ?_
  refine Still.t 18 [] hHeld ?_
  refine Still.t 19 [] hHeld ?_
  refine Still.t 21 [24, 23, 22] hHeld ?_
  refine Still.t 22 [24, 23] hHeld ?_
  refine Still.t 23 [24] hHeld ?_
  refine Still.o 20 rfl rfl (fun K hK => ?_)
  refine wp_call 157 _ _ rfl ent_bit #[.bool (decide (c.reg a < c.reg b))] (by first | rfl | simp [Act.eval, Act.put]) ((bit_t _ _).mono ?_)
  rintro e w' ⟨rfl, rfl⟩
  refine ⟨_, rfl, hK _ _ (fun _ => hHeld) (fun _ => ?_)⟩
  clear hK K
  try simp only [Act.put, List.getElem_toArray, List.getElem_cons_zero, List.getElem_cons_succ, List.setIfInBounds_toArray, List.set_cons_zero, List.set_cons_succ]
  refine Still.t 24 [] hHeld ?_
  refine Still.o 25 rfl rfl (fun K hK => ?_)
  go_simp
  refine hK _ _ (fun h => absurd rfl h) (fun _ => ?_)
  clear hK K
  refine Still.over (by kernel_rfl) ?_ _
  clear hHeld
  have H1 := Lib.hid (((H.out.reg ha0 ha1 (truthI (decide (c.reg a < c.reg b)))).alloc (.cells #[.int .i64 5, .int .i64 a, .int .i64 b, .int .i64 n] 124)).drew)
  clear H k0 ka kb fa
  generalize World.drew _ = W1 at H1 ⊢
  have q0 : W1.cell? ⟨g, 0, none⟩ = some (.int .i64 _) := H1.out.r.cell rfl
  have q1 : W1.frozen? ⟨g, 0, none⟩ = false := H1.out.r.fr _
  go_wp2
  go_end0
  exact ⟨rfl, H1.out.setAt _⟩
set_option maxRecDepth 100000 in
set_option maxHeartbeats 8000000 in
theorem do6 (B : Nat) (w W : World) (g base : Nat) (c : Cel) (o i : Value) (x : Wnt) (xs : List Int) (a b n : Int) (ha0 : 0 ≤ a) (ha1 : a < 4) (hb0 : 0 ≤ b) (hb1 : b < 4) (hat0 : 0 ≤ c.at_) (hat1 : c.at_ ≤ 20) (hm0 : 0 ≤ c.reg b) (hm1 : c.reg b < 8) (h : Rn B w W g base c o i x xs) :
    Calls Tryz.prog 185 #[.pointer (some ⟨g, 0, none⟩), .agg #[.int .i64 6, .int .i64 a, .int .i64 b, .int .i64 n]] W fun e W' => e = .returned (.tuple #[]) ∧ Rn B w W' g base { c.setReg a (c.memo (c.reg b)) with at_ := c.at_ + 1 } o i x xs := by
  have hg : g < W.heap.size := h.lt
  have hg' : g ≠ W.heap.size := Nat.ne_of_lt hg
  have k0 : W.cell? ⟨g, 0, none⟩ = some (.int .i64 c.at_) := h.r.cell rfl
  have ka : W.cell? ⟨g, 1 + a.toNat, none⟩ = some (.int .i64 (c.reg a)) := h.r.cell (rcs_reg _ _ _ _ ha0 ha1)
  have kb : W.cell? ⟨g, 1 + b.toNat, none⟩ = some (.int .i64 (c.reg b)) := h.r.cell (rcs_reg _ _ _ _ hb0 hb1)
  have fa : W.frozen? ⟨g, 1 + a.toNat, none⟩ = false := h.r.fr _
  have km : W.cell? ⟨g, 5 + (c.reg b).toNat, none⟩ = some (.int .i64 (c.memo (c.reg b))) := h.r.cell (rcs_mem _ _ _ _ hm0 hm1)
  have H := Lib.hid h
  clear h
  go_enter Tryz.func185, Tryz.ntmps185
  go_wp2
  refine region_still (S := fun w' => w'.cell? ⟨g, 5 + (c.reg b).toNat, none⟩ = some (.int .i64 (c.memo (c.reg b))) ∧ w'.cell? ⟨W.heap.size, 1, none⟩ = some (.int .i64 a) ∧ w'.cell? ⟨W.heap.size, 2, none⟩ = some (.int .i64 b)) 17 (by kernel_rfl) ⟨cl_alloc _ hg km, (Rw.new W 124 _ rfl).cell rfl, (Rw.new W 124 _ rfl).cell rfl⟩ (fun hHeld => ?_)
  refine Still.t 0 [] hHeld ?_
  refine Still.t 1 [] hHeld ?_
  refine Still.t 2 [] hHeld ?_
  refine Still.t 3 [] hHeld ?_
  refine Still.t 4 [] hHeld ?_
  refine Still.t 5 [] hHeld ?_
  refine Still.t 6 [] hHeld ?_
  refine Still.t 8 [] hHeld ?_
  refine Still.t 9 [] hHeld ?_
  refine Still.t 10 [] hHeld ?_
  refine Still.t 13 [16, 15, 14] hHeld ?_
  refine Still.t 14 [16, 15] hHeld ?_
  refine Still.t 15 [16] hHeld ?_
  refine Still.o 7 rfl rfl (fun K hK => ?_)
  refine wp_call 214 _ _ rfl ent_word #[.pointer (some ⟨g, 0, none⟩), .int .i64 b] (by first | rfl | simp [Act.eval, Act.put]) ((word_ok _ g b (c.reg b) hb0 hb1 hm0 hm1 ((H.out.alloc (.cells #[.int .i64 6, .int .i64 a, .int .i64 b, .int .i64 n] 124)).drew.r.cell (rcs_reg _ _ _ _ hb0 hb1))).mono ?_)
  rintro e w' ⟨rfl, rfl⟩
  refine ⟨_, rfl, hK _ _ (fun _ => hHeld) (fun _ => ?_)⟩
  clear hK K
  try simp only [Act.put, List.getElem_toArray, List.getElem_cons_zero, List.getElem_cons_succ, List.setIfInBounds_toArray, List.set_cons_zero, List.set_cons_succ]
  refine Still.t 11 [] hHeld ?_
  refine Still.t 12 [] hHeld ?_
  refine Still.t 16 [] hHeld ?_
  refine Still.o 17 rfl rfl (fun K hK => ?_)
  go_simp
  refine hK _ _ (fun h => absurd rfl h) (fun _ => ?_)
  clear hK K
  refine Still.over (by kernel_rfl) ?_ _
  clear hHeld
  have H1 := Lib.hid (((H.out.reg ha0 ha1 (c.memo (c.reg b))).alloc (.cells #[.int .i64 6, .int .i64 a, .int .i64 b, .int .i64 n] 124)).drew)
  clear H k0 ka kb fa km
  generalize World.drew _ = W1 at H1 ⊢
  have q0 : W1.cell? ⟨g, 0, none⟩ = some (.int .i64 _) := H1.out.r.cell rfl
  have q1 : W1.frozen? ⟨g, 0, none⟩ = false := H1.out.r.fr _
  go_wp2
  go_end0
  exact ⟨rfl, H1.out.setAt _⟩
set_option maxRecDepth 100000 in
set_option maxHeartbeats 8000000 in
theorem do6_bad (B : Nat) (w W : World) (g base : Nat) (c : Cel) (o i : Value) (x : Wnt) (xs : List Int) (a b n : Int) (ha0 : 0 ≤ a) (ha1 : a < 4) (hb0 : 0 ≤ b) (hb1 : b < 4) (hat0 : 0 ≤ c.at_) (hat1 : c.at_ ≤ 20) (hm : c.reg b < 0 ∨ 8 ≤ c.reg b) (h : Rn B w W g base c o i x xs) :
    Calls Tryz.prog 185 #[.pointer (some ⟨g, 0, none⟩), .agg #[.int .i64 6, .int .i64 a, .int .i64 b, .int .i64 n]] W fun e W' => e = .panicked faultE ∧ Rn B w W' g base c o i x xs ∧ Below W.heap.size W W' := by
  have hg : g < W.heap.size := h.lt
  have hg' : g ≠ W.heap.size := Nat.ne_of_lt hg
  have k0 : W.cell? ⟨g, 0, none⟩ = some (.int .i64 c.at_) := h.r.cell rfl
  have kb : W.cell? ⟨g, 1 + b.toNat, none⟩ = some (.int .i64 (c.reg b)) := h.r.cell (rcs_reg _ _ _ _ hb0 hb1)
  have H := Lib.hid h
  clear h
  go_enter Tryz.func185, Tryz.ntmps185
  go_wp2
  refine region_still (S := fun w' => w'.cell? ⟨W.heap.size, 1, none⟩ = some (.int .i64 a) ∧ w'.cell? ⟨W.heap.size, 2, none⟩ = some (.int .i64 b)) 17 (by kernel_rfl) ⟨(Rw.new W 124 _ rfl).cell rfl, (Rw.new W 124 _ rfl).cell rfl⟩ (fun hHeld => ?_)
  refine Still.t 0 [] hHeld ?_
  refine Still.t 1 [] hHeld ?_
  refine Still.t 2 [] hHeld ?_
  refine Still.t 3 [] hHeld ?_
  refine Still.t 4 [] hHeld ?_
  refine Still.t 5 [] hHeld ?_
  refine Still.t 6 [] hHeld ?_
  refine Still.t 8 [] hHeld ?_
  refine Still.t 9 [] hHeld ?_
  refine Still.t 10 [] hHeld ?_
  refine Still.t 13 [16, 15, 14] hHeld ?_
  refine Still.t 14 [16, 15] hHeld ?_
  refine Still.t 15 [16] hHeld ?_
  refine Still.o 7 rfl rfl (fun K hK => ?_)
  refine wp_call_panic 214 _ _ rfl ent_word #[.pointer (some ⟨g, 0, none⟩), .int .i64 b] (by first | rfl | simp [Act.eval, Act.put]) faultE ((word_bad _ g b (c.reg b) hb0 hb1 hm ((H.out.alloc (.cells #[.int .i64 6, .int .i64 a, .int .i64 b, .int .i64 n] 124)).drew.r.cell (rcs_reg _ _ _ _ hb0 hb1))).mono ?_)
  rintro e w' ⟨rfl, rfl⟩
  refine ⟨rfl, ?_⟩
  clear hK K
  simp only [Exit.inBlock, Exit.then]
  exact post_panic rfl ⟨rfl, (H.out.alloc (.cells #[.int .i64 6, .int .i64 a, .int .i64 b, .int .i64 n] 124)).drew, ((Below.refl _ _).alloc (Nat.le_refl _) _).drew⟩
set_option maxRecDepth 100000 in
set_option maxHeartbeats 8000000 in
theorem do7 (B : Nat) (w W : World) (g base : Nat) (c : Cel) (o i : Value) (x : Wnt) (xs : List Int) (a b n : Int) (ha0 : 0 ≤ a) (ha1 : a < 4) (hb0 : 0 ≤ b) (hb1 : b < 4) (hat0 : 0 ≤ c.at_) (hat1 : c.at_ ≤ 20) (hm0 : 0 ≤ c.reg b) (hm1 : c.reg b < 8) (h : Rn B w W g base c o i x xs) :
    Calls Tryz.prog 185 #[.pointer (some ⟨g, 0, none⟩), .agg #[.int .i64 7, .int .i64 a, .int .i64 b, .int .i64 n]] W fun e W' => e = .returned (.tuple #[]) ∧ Rn B w W' g base { c.setMem (c.reg b) (c.reg a) with at_ := c.at_ + 1 } o i x xs := by
  have hg : g < W.heap.size := h.lt
  have hg' : g ≠ W.heap.size := Nat.ne_of_lt hg
  have k0 : W.cell? ⟨g, 0, none⟩ = some (.int .i64 c.at_) := h.r.cell rfl
  have ka : W.cell? ⟨g, 1 + a.toNat, none⟩ = some (.int .i64 (c.reg a)) := h.r.cell (rcs_reg _ _ _ _ ha0 ha1)
  have kb : W.cell? ⟨g, 1 + b.toNat, none⟩ = some (.int .i64 (c.reg b)) := h.r.cell (rcs_reg _ _ _ _ hb0 hb1)
  have km : W.cell? ⟨g, 5 + (c.reg b).toNat, none⟩ = some (.int .i64 (c.memo (c.reg b))) := h.r.cell (rcs_mem _ _ _ _ hm0 hm1)
  have fm : W.frozen? ⟨g, 5 + (c.reg b).toNat, none⟩ = false := h.r.fr _
  have H := Lib.hid h
  clear h
  go_enter Tryz.func185, Tryz.ntmps185
  go_wp2
  refine region_still (S := fun w' => w'.cell? ⟨g, 1 + a.toNat, none⟩ = some (.int .i64 (c.reg a)) ∧ w'.cell? ⟨W.heap.size, 1, none⟩ = some (.int .i64 a) ∧ w'.cell? ⟨W.heap.size, 2, none⟩ = some (.int .i64 b)) 17 (by kernel_rfl) ⟨cl_alloc _ hg ka, (Rw.new W 124 _ rfl).cell rfl, (Rw.new W 124 _ rfl).cell rfl⟩ (fun hHeld => ?_)
  refine Still.t 0 [] hHeld ?_
  refine Still.t 1 [] hHeld ?_
  refine Still.t 2 [] hHeld ?_
  refine Still.t 3 [] hHeld ?_
  refine Still.t 5 [] hHeld ?_
  refine Still.t 6 [] hHeld ?_
  refine Still.t 7 [] hHeld ?_
  refine Still.t 8 [] hHeld ?_
  refine Still.t 9 [] hHeld ?_
  refine Still.t 10 [] hHeld ?_
  refine Still.t 11 [] hHeld ?_
  refine Still.t 12 [] hHeld ?_
  refine Still.t 13 [16, 15, 14] hHeld ?_
  refine Still.t 14 [16, 15] hHeld ?_
  refine Still.t 15 [16] hHeld ?_
  refine Still.o 4 rfl rfl (fun K hK => ?_)
  refine wp_call 214 _ _ rfl ent_word #[.pointer (some ⟨g, 0, none⟩), .int .i64 b] (by first | rfl | simp [Act.eval, Act.put]) ((word_ok _ g b (c.reg b) hb0 hb1 hm0 hm1 ((H.out.alloc (.cells #[.int .i64 7, .int .i64 a, .int .i64 b, .int .i64 n] 124)).drew.r.cell (rcs_reg _ _ _ _ hb0 hb1))).mono ?_)
  rintro e w' ⟨rfl, rfl⟩
  refine ⟨_, rfl, hK _ _ (fun _ => hHeld) (fun _ => ?_)⟩
  clear hK K
  try simp only [Act.put, List.getElem_toArray, List.getElem_cons_zero, List.getElem_cons_succ, List.setIfInBounds_toArray, List.set_cons_zero, List.set_cons_succ]
  refine Still.t 16 [] hHeld ?_
  refine Still.o 17 rfl rfl (fun K hK => ?_)
  go_simp
  refine hK _ _ (fun h => absurd rfl h) (fun _ => ?_)
  clear hK K
  refine Still.over (by kernel_rfl) ?_ _
  clear hHeld
  have H1 := Lib.hid (((H.out.mem hm0 hm1 (c.reg a)).alloc (.cells #[.int .i64 7, .int .i64 a, .int .i64 b, .int .i64 n] 124)).drew)
  clear H k0 ka kb km fm
  generalize World.drew _ = W1 at H1 ⊢
  have q0 : W1.cell? ⟨g, 0, none⟩ = some (.int .i64 _) := H1.out.r.cell rfl
  have q1 : W1.frozen? ⟨g, 0, none⟩ = false := H1.out.r.fr _
  go_wp2
  go_end0
  exact ⟨rfl, H1.out.setAt _⟩
set_option maxRecDepth 100000 in
set_option maxHeartbeats 8000000 in
theorem do7_bad (B : Nat) (w W : World) (g base : Nat) (c : Cel) (o i : Value) (x : Wnt) (xs : List Int) (a b n : Int) (ha0 : 0 ≤ a) (ha1 : a < 4) (hb0 : 0 ≤ b) (hb1 : b < 4) (hat0 : 0 ≤ c.at_) (hat1 : c.at_ ≤ 20) (hm : c.reg b < 0 ∨ 8 ≤ c.reg b) (h : Rn B w W g base c o i x xs) :
    Calls Tryz.prog 185 #[.pointer (some ⟨g, 0, none⟩), .agg #[.int .i64 7, .int .i64 a, .int .i64 b, .int .i64 n]] W fun e W' => e = .panicked faultE ∧ Rn B w W' g base c o i x xs ∧ Below W.heap.size W W' := by
  have hg : g < W.heap.size := h.lt
  have hg' : g ≠ W.heap.size := Nat.ne_of_lt hg
  have k0 : W.cell? ⟨g, 0, none⟩ = some (.int .i64 c.at_) := h.r.cell rfl
  have ka : W.cell? ⟨g, 1 + a.toNat, none⟩ = some (.int .i64 (c.reg a)) := h.r.cell (rcs_reg _ _ _ _ ha0 ha1)
  have kb : W.cell? ⟨g, 1 + b.toNat, none⟩ = some (.int .i64 (c.reg b)) := h.r.cell (rcs_reg _ _ _ _ hb0 hb1)
  have H := Lib.hid h
  clear h
  go_enter Tryz.func185, Tryz.ntmps185
  go_wp2
  refine region_still (S := fun w' => w'.cell? ⟨g, 1 + a.toNat, none⟩ = some (.int .i64 (c.reg a)) ∧ w'.cell? ⟨W.heap.size, 1, none⟩ = some (.int .i64 a) ∧ w'.cell? ⟨W.heap.size, 2, none⟩ = some (.int .i64 b)) 17 (by kernel_rfl) ⟨cl_alloc _ hg ka, (Rw.new W 124 _ rfl).cell rfl, (Rw.new W 124 _ rfl).cell rfl⟩ (fun hHeld => ?_)
  refine Still.t 0 [] hHeld ?_
  refine Still.t 1 [] hHeld ?_
  refine Still.t 2 [] hHeld ?_
  refine Still.t 3 [] hHeld ?_
  refine Still.t 5 [] hHeld ?_
  refine Still.t 6 [] hHeld ?_
  refine Still.t 7 [] hHeld ?_
  refine Still.t 8 [] hHeld ?_
  refine Still.t 9 [] hHeld ?_
  refine Still.t 10 [] hHeld ?_
  refine Still.t 11 [] hHeld ?_
  refine Still.t 12 [] hHeld ?_
  refine Still.t 13 [16, 15, 14] hHeld ?_
  refine Still.t 14 [16, 15] hHeld ?_
  refine Still.t 15 [16] hHeld ?_
  refine Still.o 4 rfl rfl (fun K hK => ?_)
  refine wp_call_panic 214 _ _ rfl ent_word #[.pointer (some ⟨g, 0, none⟩), .int .i64 b] (by first | rfl | simp [Act.eval, Act.put]) faultE ((word_bad _ g b (c.reg b) hb0 hb1 hm ((H.out.alloc (.cells #[.int .i64 7, .int .i64 a, .int .i64 b, .int .i64 n] 124)).drew.r.cell (rcs_reg _ _ _ _ hb0 hb1))).mono ?_)
  rintro e w' ⟨rfl, rfl⟩
  refine ⟨rfl, ?_⟩
  clear hK K
  simp only [Exit.inBlock, Exit.then]
  exact post_panic rfl ⟨rfl, (H.out.alloc (.cells #[.int .i64 7, .int .i64 a, .int .i64 b, .int .i64 n] 124)).drew, ((Below.refl _ _).alloc (Nat.le_refl _) _).drew⟩
end Go.Proofs.YtbkdoohhdkahiaaGreatDoor
namespace Go.Proofs.YtbkdoohhdkahiaaGreatDoor
set_option linter.unusedSimpArgs false
set_option linter.unusedVariables false
open Go.RowKit Go.Sort
theorem ent_take : Enters 215 := enters Tryz.func215 (by kernel_rfl) (by kernel_rfl)
theorem ent_tell : Enters 216 := enters Tryz.func216 (by kernel_rfl) (by kernel_rfl)
set_option maxRecDepth 100000 in
set_option maxHeartbeats 8000000 in
theorem do8 (B : Nat) (w W : World) (g base : Nat) (c : Cel) (o i : Value) (x : Wnt) (xs : List Int) (a b n : Int) (ha0 : 0 ≤ a) (ha1 : a < 4) (hb0 : 0 ≤ b) (hb1 : b < 4) (hat0 : 0 ≤ c.at_) (hat1 : c.at_ ≤ 20) (h : Rn B w W g base c o i x xs) :
    Calls Tryz.prog 185 #[.pointer (some ⟨g, 0, none⟩), .agg #[.int .i64 8, .int .i64 a, .int .i64 b, .int .i64 n]] W fun e W' => e = .returned (.tuple #[]) ∧ Rn B w W' g base { c with at_ := n } o i x xs := by
  have hg : g < W.heap.size := h.lt
  have hg' : g ≠ W.heap.size := Nat.ne_of_lt hg
  have k0 : W.cell? ⟨g, 0, none⟩ = some (.int .i64 c.at_) := h.r.cell rfl
  have f0 : W.frozen? ⟨g, 0, none⟩ = false := h.r.fr _
  have H := Lib.hid h
  clear h
  go_enter Tryz.func185, Tryz.ntmps185
  go_wp2
  go_end0
  exact ⟨rfl, (H.out.setAt n).alloc (.cells #[.int .i64 8, .int .i64 a, .int .i64 b, .int .i64 n] 124)⟩
set_option maxRecDepth 100000 in
set_option maxHeartbeats 8000000 in
theorem do14 (B : Nat) (w W : World) (g base : Nat) (c : Cel) (o i : Value) (x : Wnt) (xs : List Int) (a b n : Int) (ha0 : 0 ≤ a) (ha1 : a < 4) (hb0 : 0 ≤ b) (hb1 : b < 4) (hat0 : 0 ≤ c.at_) (hat1 : c.at_ ≤ 20) (h : Rn B w W g base c o i x xs) :
    Calls Tryz.prog 185 #[.pointer (some ⟨g, 0, none⟩), .agg #[.int .i64 14, .int .i64 a, .int .i64 b, .int .i64 n]] W fun e W' => e = .returned (.tuple #[]) ∧ Rn B w W' g base { c with at_ := c.at_ + 1 } o i x xs := by
  have hg : g < W.heap.size := h.lt
  have hg' : g ≠ W.heap.size := Nat.ne_of_lt hg
  have k0 : W.cell? ⟨g, 0, none⟩ = some (.int .i64 c.at_) := h.r.cell rfl
  have f0 : W.frozen? ⟨g, 0, none⟩ = false := h.r.fr _
  have H := Lib.hid h
  clear h
  go_enter Tryz.func185, Tryz.ntmps185
  go_wp2
  go_end0
  exact ⟨rfl, (H.out.setAt _).alloc (.cells #[.int .i64 14, .int .i64 a, .int .i64 b, .int .i64 n] 124)⟩
set_option maxRecDepth 100000 in
set_option maxHeartbeats 8000000 in
theorem do15 (B : Nat) (w W : World) (g base : Nat) (c : Cel) (o i : Value) (x : Wnt) (xs : List Int) (a b n : Int) (ha0 : 0 ≤ a) (ha1 : a < 4) (hb0 : 0 ≤ b) (hb1 : b < 4) (hat0 : 0 ≤ c.at_) (hat1 : c.at_ ≤ 20) (h : Rn B w W g base c o i x xs) :
    Calls Tryz.prog 185 #[.pointer (some ⟨g, 0, none⟩), .agg #[.int .i64 15, .int .i64 a, .int .i64 b, .int .i64 n]] W fun e W' => e = .returned (.tuple #[]) ∧ Rn B w W' g base { c with en := 1, at_ := c.at_ } o i x xs := by
  have hg : g < W.heap.size := h.lt
  have hg' : g ≠ W.heap.size := Nat.ne_of_lt hg
  have k0 : W.cell? ⟨g, 0, none⟩ = some (.int .i64 c.at_) := h.r.cell rfl
  have f0 : W.frozen? ⟨g, 0, none⟩ = false := h.r.fr _
  have f15 : W.frozen? ⟨g, 15, none⟩ = false := h.r.fr _
  have k15 : W.cell? ⟨g, 15, none⟩ = some (.int .i64 c.en) := h.r.cell rfl
  have H := Lib.hid h
  clear h
  go_enter Tryz.func185, Tryz.ntmps185
  go_wp2
  go_end0
  exact ⟨rfl, ((H.out.setEn 1).setAt _).alloc (.cells #[.int .i64 15, .int .i64 a, .int .i64 b, .int .i64 n] 124)⟩
set_option maxRecDepth 100000 in
set_option maxHeartbeats 8000000 in
theorem do9 (B : Nat) (w W : World) (g base : Nat) (c : Cel) (o i : Value) (x : Wnt) (xs : List Int) (a b n : Int) (ha0 : 0 ≤ a) (ha1 : a < 4) (hb0 : 0 ≤ b) (hb1 : b < 4) (hat0 : 0 ≤ c.at_) (hat1 : c.at_ ≤ 20) (h : Rn B w W g base c o i x xs) :
    Calls Tryz.prog 185 #[.pointer (some ⟨g, 0, none⟩), .agg #[.int .i64 9, .int .i64 a, .int .i64 b, .int .i64 n]] W fun e W' => e = .returned (.tuple #[]) ∧ Rn B w W' g base { c with at_ := if c.reg a = 0 then n else c.at_ + 1 } o i x xs := by
  have hg : g < W.heap.size := h.lt
  have hg' : g ≠ W.heap.size := Nat.ne_of_lt hg
  have k0 : W.cell? ⟨g, 0, none⟩ = some (.int .i64 c.at_) := h.r.cell rfl
  have ka : W.cell? ⟨g, 1 + a.toNat, none⟩ = some (.int .i64 (c.reg a)) := h.r.cell (rcs_reg _ _ _ _ ha0 ha1)
  have f0 : W.frozen? ⟨g, 0, none⟩ = false := h.r.fr _
  have H := Lib.hid h
  clear h
  go_enter Tryz.func185, Tryz.ntmps185
  by_cases hq : c.reg a = 0
  · have hq' : (c.reg a == 0) = true := by simp [hq]
    rw [if_pos hq]
    clear hq
    go_wp2
    go_quiet (fail)
    go_wp2
    go_end0
    exact ⟨rfl, ((H.out.alloc (.cells #[.int .i64 9, .int .i64 a, .int .i64 b, .int .i64 n] 124)).drewN _).setAt n⟩
  · have hq' : (c.reg a == 0) = false := by simpa using hq
    rw [if_neg hq]
    clear hq
    go_wp2
    go_quiet (fail)
    go_wp2
    go_end0
    exact ⟨rfl, ((H.out.alloc (.cells #[.int .i64 9, .int .i64 a, .int .i64 b, .int .i64 n] 124)).drewN _).setAt _⟩
set_option maxRecDepth 100000 in
set_option maxHeartbeats 8000000 in
theorem do10 (B : Nat) (w W : World) (g base : Nat) (c : Cel) (o i : Value) (x : Wnt) (xs : List Int) (a b n : Int) (ha0 : 0 ≤ a) (ha1 : a < 4) (hb0 : 0 ≤ b) (hb1 : b < 4) (hat0 : 0 ≤ c.at_) (hat1 : c.at_ ≤ 20) (inn : List Int) (hS : Sl W 1 i inn.length (ints inn)) (hr0 : 0 ≤ c.read) (hr1 : c.read ≤ 12) (h : Rn B w W g base c o i x xs) :
    Calls Tryz.prog 185 #[.pointer (some ⟨g, 0, none⟩), .agg #[.int .i64 10, .int .i64 a, .int .i64 b, .int .i64 n]] W fun e W' => e = .returned (.tuple #[]) ∧ Rn B w W' g base { (takeC c inn.length).setReg a (takeI inn c.read) with at_ := c.at_ + 1 } o i x xs := by
  have hg : g < W.heap.size := h.lt
  have hg' : g ≠ W.heap.size := Nat.ne_of_lt hg
  have k0 : W.cell? ⟨g, 0, none⟩ = some (.int .i64 c.at_) := h.r.cell rfl
  have HS := Lib.hid hS
  clear hS
  have H := Lib.hid h
  clear h
  go_enter Tryz.func185, Tryz.ntmps185
  go_wp2
  refine region_still (S := fun w' => w'.cell? ⟨W.heap.size, 1, none⟩ = some (.int .i64 a)) 9 (by kernel_rfl) ((Rw.new W 124 _ rfl).cell rfl) (fun hHeld => ?_)
  refine Still.t 0 [] hHeld ?_
  refine Still.t 1 [] hHeld ?_
  refine Still.t 2 [] hHeld ?_
  refine Still.t 3 [] hHeld ?_
  refine Still.t 5 [8, 7, 6] hHeld ?_
  refine Still.t 6 [8, 7] hHeld ?_
  refine Still.t 7 [8] hHeld ?_
  refine Still.o 4 rfl rfl (fun K hK => ?_)
  refine wp_call 215 _ _ rfl ent_take #[.pointer (some ⟨g, 0, none⟩)] (by first | rfl | simp [Act.eval, Act.put]) ((take_any B w _ g base c o i x xs inn ((H.out.alloc (.cells #[.int .i64 10, .int .i64 a, .int .i64 b, .int .i64 n] 124)).drew) (HS.out.up (((Below.refl _ _).alloc (Nat.le_refl _) _).drew)) hr0 hr1).mono ?_)
  rintro e V ⟨rfl, hR, hB⟩
  have q1 : V.cell? ⟨W.heap.size, 1, none⟩ = some (.int .i64 a) := (World.cell?_of_block (w := (W.alloc (.cells #[.int .i64 10, .int .i64 a, .int .i64 b, .int .i64 n] 124)).drew) (a := ⟨W.heap.size, 1, none⟩) (hB W.heap.size (Ne.symm hg'))).trans ((Rw.new W 124 _ rfl).cell rfl)
  refine ⟨_, rfl, hK _ _ (fun _ => q1) (fun _ => ?_)⟩
  clear hK K
  try simp only [Act.put, List.getElem_toArray, List.getElem_cons_zero, List.getElem_cons_succ, List.setIfInBounds_toArray, List.set_cons_zero, List.set_cons_succ]
  have za : V.cell? ⟨g, 1 + a.toNat, none⟩ = some (.int .i64 ((takeC c inn.length).reg a)) := hR.r.cell (rcs_reg _ _ _ _ ha0 ha1)
  have zf : V.frozen? ⟨g, 1 + a.toNat, none⟩ = false := hR.r.fr _
  have HR := Lib.hid hR
  clear hR hB
  refine Still.t 8 [] q1 ?_
  refine Still.o 9 rfl rfl (fun K hK => ?_)
  go_simp
  refine hK _ _ (fun h => absurd rfl h) (fun _ => ?_)
  clear hK K
  refine Still.over (by kernel_rfl) ?_ _
  clear hHeld q1
  have H1 := Lib.hid (HR.out.reg ha0 ha1 (takeI inn c.read))
  clear H HR k0 za zf
  generalize World.setCell _ _ _ = W1 at H1 ⊢
  have q0 : W1.cell? ⟨g, 0, none⟩ = some (.int .i64 _) := H1.out.r.cell rfl
  have q1 : W1.frozen? ⟨g, 0, none⟩ = false := H1.out.r.fr _
  go_wp2
  go_end0
  exact ⟨rfl, H1.out.setAt _⟩
set_option maxRecDepth 100000 in
set_option maxHeartbeats 8000000 in
theorem do11 (B : Nat) (w W : World) (g base : Nat) (c : Cel) (o i : Value) (x : Wnt) (xs : List Int) (a b n : Int) (ha0 : 0 ≤ a) (ha1 : a < 4) (hb0 : 0 ≤ b) (hb1 : b < 4) (hat0 : 0 ≤ c.at_) (hat1 : c.at_ ≤ 20) (hx : xs.length ≤ 16) (h : Rn B w W g base c o i x xs) :
    Calls Tryz.prog 185 #[.pointer (some ⟨g, 0, none⟩), .agg #[.int .i64 11, .int .i64 a, .int .i64 b, .int .i64 n]] W fun e W' => e = .returned (.tuple #[]) ∧ ∃ o', Rn B w W' g base { c with at_ := c.at_ + 1 } o' i x (tellL xs (c.reg a)) := by
  have hg : g < W.heap.size := h.lt
  have hg' : g ≠ W.heap.size := Nat.ne_of_lt hg
  have k0 : W.cell? ⟨g, 0, none⟩ = some (.int .i64 c.at_) := h.r.cell rfl
  have ka : W.cell? ⟨g, 1 + a.toNat, none⟩ = some (.int .i64 (c.reg a)) := h.r.cell (rcs_reg _ _ _ _ ha0 ha1)
  have H := Lib.hid h
  clear h
  go_enter Tryz.func185, Tryz.ntmps185
  go_wp2
  refine region_still (S := fun w' => w'.cell? ⟨g, 1 + a.toNat, none⟩ = some (.int .i64 (c.reg a)) ∧ w'.cell? ⟨W.heap.size, 1, none⟩ = some (.int .i64 a)) 9 (by kernel_rfl) ⟨cl_alloc _ hg ka, (Rw.new W 124 _ rfl).cell rfl⟩ (fun hHeld => ?_)
  refine Still.t 0 [] hHeld ?_
  refine Still.t 1 [8, 7, 6, 5, 4] hHeld ?_
  refine Still.t 2 [8, 7, 3] hHeld ?_
  refine Still.t 3 [8, 7] hHeld ?_
  refine Still.t 4 [8, 7, 6, 5] hHeld ?_
  refine Still.t 5 [8, 7, 6] hHeld ?_
  refine Still.t 6 [8, 7] hHeld ?_
  refine Still.t 7 [8] hHeld ?_
  refine Still.t 8 [] hHeld ?_
  refine Still.o 9 rfl rfl (fun K hK => ?_)
  refine wp_call 216 _ _ rfl ent_tell #[.pointer (some ⟨g, 0, none⟩), .int .i64 (c.reg a)] (by first | rfl | simp [Act.eval, Act.put]) ((tell_any B w _ g base c o i x xs (c.reg a) ((H.out.alloc (.cells #[.int .i64 11, .int .i64 a, .int .i64 b, .int .i64 n] 124)).drew) hx).mono ?_)
  rintro e V ⟨rfl, o', hR⟩
  refine ⟨_, rfl, ?_⟩
  refine hK _ _ (fun h => absurd rfl h) (fun _ => ?_)
  clear hK K
  refine Still.over (by kernel_rfl) ?_ _
  have HR := Lib.hid hR
  clear hR
  have q0 : V.cell? ⟨g, 0, none⟩ = some (.int .i64 c.at_) := HR.out.r.cell rfl
  have q1 : V.frozen? ⟨g, 0, none⟩ = false := HR.out.r.fr _
  clear hHeld H k0 ka
  go_wp2
  go_end0
  exact ⟨rfl, o', HR.out.setAt _⟩
set_option maxRecDepth 100000 in
set_option maxHeartbeats 8000000 in
theorem do12 (B : Nat) (w W : World) (g base : Nat) (c : Cel) (o i : Value) (x : Wnt) (xs : List Int) (a b n : Int) (ha0 : 0 ≤ a) (ha1 : a < 4) (hb0 : 0 ≤ b) (hb1 : b < 4) (hat0 : 0 ≤ c.at_) (hat1 : c.at_ ≤ 20) (h : Rn B w W g base c o i x xs) :
    Calls Tryz.prog 185 #[.pointer (some ⟨g, 0, none⟩), .agg #[.int .i64 12, .int .i64 a, .int .i64 b, .int .i64 n]] W fun e W' => e = .returned (.tuple #[]) ∧ Rn B w W' g base { c with at_ := c.at_ + 1 } o i ⟨12, n, a, 0, c.reg a⟩ xs := by
  have hg : g < W.heap.size := h.lt
  have hg' : g ≠ W.heap.size := Nat.ne_of_lt hg
  have k0 : W.cell? ⟨g, 0, none⟩ = some (.int .i64 c.at_) := h.r.cell rfl
  have ka : W.cell? ⟨g, 1 + a.toNat, none⟩ = some (.int .i64 (c.reg a)) := h.r.cell (rcs_reg _ _ _ _ ha0 ha1)
  have u17 : W.cell? ⟨g, 17, none⟩ = some (.int .i64 x.k) := h.r.cell rfl
  have v17 : W.frozen? ⟨g, 17, none⟩ = false := h.r.fr _
  have u18 : W.cell? ⟨g, 18, none⟩ = some (.int .i64 x.ch) := h.r.cell rfl
  have v18 : W.frozen? ⟨g, 18, none⟩ = false := h.r.fr _
  have u19 : W.cell? ⟨g, 19, none⟩ = some (.int .i64 x.reg) := h.r.cell rfl
  have v19 : W.frozen? ⟨g, 19, none⟩ = false := h.r.fr _
  have u20 : W.cell? ⟨g, 20, none⟩ = some (.int .i64 x.flag) := h.r.cell rfl
  have v20 : W.frozen? ⟨g, 20, none⟩ = false := h.r.fr _
  have u21 : W.cell? ⟨g, 21, none⟩ = some (.int .i64 x.val) := h.r.cell rfl
  have v21 : W.frozen? ⟨g, 21, none⟩ = false := h.r.fr _
  have H := Lib.hid h
  clear h
  go_enter Tryz.func185, Tryz.ntmps185
  go_wp2
  go_region
  all_goals
    have H1 := Lib.hid (((H.out.wnt 12 n a 0 (c.reg a)).alloc (.cells #[.int .i64 12, .int .i64 a, .int .i64 b, .int .i64 n] 124)).drew)
    clear H k0 ka u17 u18 u19 u20 u21 v17 v18 v19 v20 v21
    generalize World.drew _ = W1 at H1 ⊢
    have q0 : W1.cell? ⟨g, 0, none⟩ = some (.int .i64 _) := H1.out.r.cell rfl
    have q1 : W1.frozen? ⟨g, 0, none⟩ = false := H1.out.r.fr _
    go_wp2
    go_end0
    exact ⟨rfl, H1.out.setAt _⟩
set_option maxRecDepth 100000 in
set_option maxHeartbeats 8000000 in
theorem do13 (B : Nat) (w W : World) (g base : Nat) (c : Cel) (o i : Value) (x : Wnt) (xs : List Int) (a b n : Int) (ha0 : 0 ≤ a) (ha1 : a < 4) (hb0 : 0 ≤ b) (hb1 : b < 4) (hat0 : 0 ≤ c.at_) (hat1 : c.at_ ≤ 20) (h : Rn B w W g base c o i x xs) :
    Calls Tryz.prog 185 #[.pointer (some ⟨g, 0, none⟩), .agg #[.int .i64 13, .int .i64 a, .int .i64 b, .int .i64 n]] W fun e W' => e = .returned (.tuple #[]) ∧ Rn B w W' g base { c with at_ := c.at_ + 1 } o i ⟨13, n, a, b, 0⟩ xs := by
  have hg : g < W.heap.size := h.lt
  have hg' : g ≠ W.heap.size := Nat.ne_of_lt hg
  have k0 : W.cell? ⟨g, 0, none⟩ = some (.int .i64 c.at_) := h.r.cell rfl
  have u17 : W.cell? ⟨g, 17, none⟩ = some (.int .i64 x.k) := h.r.cell rfl
  have v17 : W.frozen? ⟨g, 17, none⟩ = false := h.r.fr _
  have u18 : W.cell? ⟨g, 18, none⟩ = some (.int .i64 x.ch) := h.r.cell rfl
  have v18 : W.frozen? ⟨g, 18, none⟩ = false := h.r.fr _
  have u19 : W.cell? ⟨g, 19, none⟩ = some (.int .i64 x.reg) := h.r.cell rfl
  have v19 : W.frozen? ⟨g, 19, none⟩ = false := h.r.fr _
  have u20 : W.cell? ⟨g, 20, none⟩ = some (.int .i64 x.flag) := h.r.cell rfl
  have v20 : W.frozen? ⟨g, 20, none⟩ = false := h.r.fr _
  have u21 : W.cell? ⟨g, 21, none⟩ = some (.int .i64 x.val) := h.r.cell rfl
  have v21 : W.frozen? ⟨g, 21, none⟩ = false := h.r.fr _
  have f0 : W.frozen? ⟨g, 0, none⟩ = false := h.r.fr _
  have H := Lib.hid h
  clear h
  go_enter Tryz.func185, Tryz.ntmps185
  go_wp2
  go_end0
  exact ⟨rfl, ((H.out.wnt 13 n a b 0).setAt _).alloc (.cells #[.int .i64 13, .int .i64 a, .int .i64 b, .int .i64 n] 124)⟩
end Go.Proofs.YtbkdoohhdkahiaaGreatDoor
namespace Go.Proofs.YtbkdoohhdkahiaaGreatDoor
set_option linter.unusedSimpArgs false
set_option linter.unusedVariables false
open Go.RowKit Go.Sort
set_option maxRecDepth 10000 in
theorem chk0 {op a b n : Int} (h : chkI op a b n = 0) : (1 ≤ op ∧ op ≤ 15) ∧ (0 ≤ a ∧ a < 4) ∧ (0 ≤ b ∧ b < 4) ∧ ((op = 8 ∨ op = 9) → 0 ≤ n ∧ n ≤ 19) ∧ ((op = 12 ∨ op = 13) → 0 ≤ n ∧ n ≤ 5) := by
  unfold chkI at h
  split at h
  · omega
  · rename_i ho
    have hop : op = 1 ∨ op = 2 ∨ op = 3 ∨ op = 4 ∨ op = 5 ∨ op = 6 ∨ op = 7 ∨ op = 8 ∨ op = 9 ∨ op = 10 ∨ op = 11 ∨ op = 12 ∨ op = 13 ∨ op = 14 ∨ op = 15 := by omega
    rcases hop with rfl | rfl | rfl | rfl | rfl | rfl | rfl | rfl | rfl | rfl | rfl | rfl | rfl | rfl | rfl
    all_goals
      simp [chkRow, rowA, rowB, rowN, rowLo, rowHi, regB] at h
      omega
def doC (i : Ins) (inn xs : List Int) (c : Cel) (x : Wnt) : Option (Cel × List Int × Wnt) :=
  if i.op = 1 then some ({ c.setReg i.a i.n with at_ := c.at_ + 1 }, xs, x)
  else if i.op = 2 then some ({ c.setReg i.a (c.reg i.b) with at_ := c.at_ + 1 }, xs, x)
  else if i.op = 3 then some ({ c.setReg i.a (wrap64 (c.reg i.a + c.reg i.b)) with at_ := c.at_ + 1 }, xs, x)
  else if i.op = 4 then some ({ c.setReg i.a (wrap64 (c.reg i.a - c.reg i.b)) with at_ := c.at_ + 1 }, xs, x)
  else if i.op = 5 then some ({ c.setReg i.a (truthI (decide (c.reg i.a < c.reg i.b))) with at_ := c.at_ + 1 }, xs, x)
  else if i.op = 6 then (if c.reg i.b < 0 ∨ 8 ≤ c.reg i.b then none else some ({ c.setReg i.a (c.memo (c.reg i.b)) with at_ := c.at_ + 1 }, xs, x))
  else if i.op = 7 then (if c.reg i.b < 0 ∨ 8 ≤ c.reg i.b then none else some ({ c.setMem (c.reg i.b) (c.reg i.a) with at_ := c.at_ + 1 }, xs, x))
  else if i.op = 8 then some ({ c with at_ := i.n }, xs, x)
  else if i.op = 9 then some ({ c with at_ := if c.reg i.a = 0 then i.n else c.at_ + 1 }, xs, x)
  else if i.op = 10 then some ({ (takeC c inn.length).setReg i.a (takeI inn c.read) with at_ := c.at_ + 1 }, xs, x)
  else if i.op = 11 then some ({ c with at_ := c.at_ + 1 }, tellL xs (c.reg i.a), x)
  else if i.op = 12 then some ({ c with at_ := c.at_ + 1 }, xs, ⟨12, i.n, i.a, 0, c.reg i.a⟩)
  else if i.op = 13 then some ({ c with at_ := c.at_ + 1 }, xs, ⟨13, i.n, i.a, i.b, 0⟩)
  else if i.op = 14 then some ({ c with at_ := c.at_ + 1 }, xs, x)
  else some ({ c with en := 1, at_ := c.at_ }, xs, x)
theorem do_any (i : Ins) (hi : i.chk = 0) (B : Nat) (w W : World) (g base : Nat) (c : Cel) (o iv : Value) (x : Wnt) (xs inn : List Int) (hat0 : 0 ≤ c.at_) (hat1 : c.at_ ≤ 20) (hr0 : 0 ≤ c.read) (hr1 : c.read ≤ 12) (hx : xs.length ≤ 16)
    (hS : Sl W 1 iv inn.length (ints inn)) (h : Rn B w W g base c o iv x xs) :
    Calls Tryz.prog 185 #[.pointer (some ⟨g, 0, none⟩), i.v] W fun e W' =>
      (doC i inn xs c x = none ∧ e = .panicked faultE ∧ Rn B w W' g base c o iv x xs ∧ Below W.heap.size W W') ∨ (∃ c' xs' x' o', doC i inn xs c x = some (c', xs', x') ∧ e = .returned (.tuple #[]) ∧ Rn B w W' g base c' o' iv x' xs') := by
  obtain ⟨op, a, b, n⟩ := i
  obtain ⟨hop, ⟨ha0, ha1⟩, ⟨hb0, hb1⟩, hj, hc⟩ := chk0 (op := op) (a := a) (b := b) (n := n) hi
  have hop : op = 1 ∨ op = 2 ∨ op = 3 ∨ op = 4 ∨ op = 5 ∨ op = 6 ∨ op = 7 ∨ op = 8 ∨ op = 9 ∨ op = 10 ∨ op = 11 ∨ op = 12 ∨ op = 13 ∨ op = 14 ∨ op = 15 := by omega
  unfold Ins.v
  rcases hop with rfl | rfl | rfl | rfl | rfl | rfl | rfl | rfl | rfl | rfl | rfl | rfl | rfl | rfl | rfl
  · exact (do1 B w W g base c o iv x xs a b n ha0 ha1 hb0 hb1 hat0 hat1 h).mono fun e W' ⟨h1, h2⟩ => .inr ⟨_, _, _, _, by simp [doC], h1, h2⟩
  · exact (do2 B w W g base c o iv x xs a b n ha0 ha1 hb0 hb1 hat0 hat1 h).mono fun e W' ⟨h1, h2⟩ => .inr ⟨_, _, _, _, by simp [doC], h1, h2⟩
  · exact (do3 B w W g base c o iv x xs a b n ha0 ha1 hb0 hb1 hat0 hat1 h).mono fun e W' ⟨h1, h2⟩ => .inr ⟨_, _, _, _, by simp [doC], h1, h2⟩
  · exact (do4 B w W g base c o iv x xs a b n ha0 ha1 hb0 hb1 hat0 hat1 h).mono fun e W' ⟨h1, h2⟩ => .inr ⟨_, _, _, _, by simp [doC], h1, h2⟩
  · exact (do5 B w W g base c o iv x xs a b n ha0 ha1 hb0 hb1 hat0 hat1 h).mono fun e W' ⟨h1, h2⟩ => .inr ⟨_, _, _, _, by simp [doC], h1, h2⟩
  · by_cases hm : c.reg b < 0 ∨ 8 ≤ c.reg b
    · exact (do6_bad B w W g base c o iv x xs a b n ha0 ha1 hb0 hb1 hat0 hat1 hm h).mono fun e W' ⟨h1, h2⟩ => .inl ⟨by simp [doC, hm], h1, h2⟩
    · exact (do6 B w W g base c o iv x xs a b n ha0 ha1 hb0 hb1 hat0 hat1 (by omega) (by omega) h).mono fun e W' ⟨h1, h2⟩ => .inr ⟨_, _, _, _, by simp [doC, hm], h1, h2⟩
  · by_cases hm : c.reg b < 0 ∨ 8 ≤ c.reg b
    · exact (do7_bad B w W g base c o iv x xs a b n ha0 ha1 hb0 hb1 hat0 hat1 hm h).mono fun e W' ⟨h1, h2⟩ => .inl ⟨by simp [doC, hm], h1, h2⟩
    · exact (do7 B w W g base c o iv x xs a b n ha0 ha1 hb0 hb1 hat0 hat1 (by omega) (by omega) h).mono fun e W' ⟨h1, h2⟩ => .inr ⟨_, _, _, _, by simp [doC, hm], h1, h2⟩
  · exact (do8 B w W g base c o iv x xs a b n ha0 ha1 hb0 hb1 hat0 hat1 h).mono fun e W' ⟨h1, h2⟩ => .inr ⟨_, _, _, _, by simp [doC], h1, h2⟩
  · exact (do9 B w W g base c o iv x xs a b n ha0 ha1 hb0 hb1 hat0 hat1 h).mono fun e W' ⟨h1, h2⟩ => .inr ⟨_, _, _, _, by simp [doC], h1, h2⟩
  · exact (do10 B w W g base c o iv x xs a b n ha0 ha1 hb0 hb1 hat0 hat1 inn hS hr0 hr1 h).mono fun e W' ⟨h1, h2⟩ => .inr ⟨_, _, _, _, by simp [doC], h1, h2⟩
  · exact (do11 B w W g base c o iv x xs a b n ha0 ha1 hb0 hb1 hat0 hat1 hx h).mono fun e W' ⟨h1, o', h2⟩ => .inr ⟨_, _, _, o', by simp [doC], h1, h2⟩
  · exact (do12 B w W g base c o iv x xs a b n ha0 ha1 hb0 hb1 hat0 hat1 h).mono fun e W' ⟨h1, h2⟩ => .inr ⟨_, _, _, _, by simp [doC], h1, h2⟩
  · exact (do13 B w W g base c o iv x xs a b n ha0 ha1 hb0 hb1 hat0 hat1 h).mono fun e W' ⟨h1, h2⟩ => .inr ⟨_, _, _, _, by simp [doC], h1, h2⟩
  · exact (do14 B w W g base c o iv x xs a b n ha0 ha1 hb0 hb1 hat0 hat1 h).mono fun e W' ⟨h1, h2⟩ => .inr ⟨_, _, _, _, by simp [doC], h1, h2⟩
  · exact (do15 B w W g base c o iv x xs a b n ha0 ha1 hb0 hb1 hat0 hat1 h).mono fun e W' ⟨h1, h2⟩ => .inr ⟨_, _, _, _, by simp [doC], h1, h2⟩
def runC (l : List Ins) (inn xs : List Int) (c : Cel) (x : Wnt) : Cel × List Int × Wnt :=
  match l[c.at_.toNat]? with
  | none => ({ c with en := 2 }, xs, x)
  | some i => (doC i inn xs c x).getD ({ c with en := 2 }, xs, x)
end Go.Proofs.YtbkdoohhdkahiaaGreatDoor
namespace Go.Proofs.YtbkdoohhdkahiaaGreatDoor
set_option linter.unusedSimpArgs false
set_option linter.unusedVariables false
open Go.RowKit Go.Sort
theorem catch_panicking (V : World) (gb g : Nat) (v : Int) (u : TypeId) (pv : Value) (older : List PanicEntry) (hp : V.cell? ⟨gb, 0, none⟩ = some (.pointer (some ⟨g, 0, none⟩))) (hc : V.cell? ⟨g, 15, none⟩ = some (.int .i64 v)) (hz : V.frozen? ⟨g, 15, none⟩ = false) :
    CallsD Tryz.prog 184 #[.pointer (some ⟨gb, 0, none⟩)] (.panicking ({ v := .iface u pv, recovered := false } :: older)) V fun e u' V' =>
      e = .returned (.tuple #[]) ∧ u' = .panicking ({ v := .iface u pv, recovered := true } :: older) ∧ V' = V.setCell ⟨g, 15, none⟩ (.int .i64 2) := by
  refine callsD_of_wpS Tryz.func184 rfl fun c₀ cs hu => ?_
  apply wpS_seq
  apply wpS_region
  simp [wpOpsS, go_sem, recoverD, hu, Tryz.ntmps184, Exit.thenS]
  refine wpS_cond (t := true) (by simp [Act.eval, Array.replicate]) ?_
  simp only [if_true]
  apply wpS_region
  simp [wpOpsS, go_sem, hp, hc, hz, bodyPostS, results, Tryz.results184]
theorem catch_idle (V : World) (gb : Nat) :
    CallsD Tryz.prog 184 #[.pointer (some ⟨gb, 0, none⟩)] .returning V fun e u' V' => e = .returned (.tuple #[]) ∧ u' = .returning ∧ V' = V := by
  refine callsD_of_wpS Tryz.func184 rfl fun c₀ cs hu => ?_
  apply wpS_seq
  apply wpS_region
  simp [wpOpsS, go_sem, recoverD, hu, Tryz.ntmps184, Exit.thenS]
  refine wpS_cond (t := false) (by simp [Act.eval, Array.replicate]) ?_
  simp only [Bool.false_eq_true, if_false]
  refine wpS_of_wp (wp_skip ?_)
  cases c₀
  simp_all [bodyPostS, results, Tryz.results184]
end Go.Proofs.YtbkdoohhdkahiaaGreatDoor
