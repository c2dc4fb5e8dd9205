/- What a runner does: Jump, Zero, In, Out, Put, Get, Rest, Stop. -/
import Derived.Test.YtjhjaafoikadgaaDoorCell5
import Derived.Test.YtjhjaafoikadgaaDoorJe
namespace Go.Proofs.YtjhjaafoikadgaaDoor
set_option linter.unusedSimpArgs false
set_option linter.unusedVariables false
open Go.RowKit Go.Sort

theorem ent_take : Enters 100 := enters Tryd.func100 (by kernel_rfl) (by kernel_rfl)
theorem ent_tell : Enters 101 := enters Tryd.func101 (by kernel_rfl) (by kernel_rfl)

set_option maxRecDepth 100000 in
set_option maxHeartbeats 8000000 in
theorem do8 (B : Nat) (w W : World) (g base : Nat) (c : Cel) (o i : Value) (x : Wnt) (xs : List Int) (a b n : Int) (ha0 : 0 ≤ a) (ha1 : a < 4) (hb0 : 0 ≤ b) (hb1 : b < 4) (hat0 : 0 ≤ c.at_) (hat1 : c.at_ ≤ 20) (h : Rn B w W g base c o i x xs) :
    Calls Tryd.prog 95 #[.pointer (some ⟨g, 0, none⟩), .agg #[.int .i64 8, .int .i64 a, .int .i64 b, .int .i64 n]] W fun e W' => e = .returned (.tuple #[]) ∧ Rn B w W' g base { c with at_ := n } o i x xs := by
  have hg : g < W.heap.size := h.lt
  have hg' : g ≠ W.heap.size := Nat.ne_of_lt hg
  have k0 : W.cell? ⟨g, 0, none⟩ = some (.int .i64 c.at_) := h.r.cell rfl
  have f0 : W.frozen? ⟨g, 0, none⟩ = false := h.r.fr _
  have H := Lib.hid h
  clear h
  go_enter Tryd.func95, Tryd.ntmps95
  go_wp2
  go_end0
  exact ⟨rfl, (H.out.setAt n).alloc (.cells #[.int .i64 8, .int .i64 a, .int .i64 b, .int .i64 n] 74)⟩

set_option maxRecDepth 100000 in
set_option maxHeartbeats 8000000 in
theorem do14 (B : Nat) (w W : World) (g base : Nat) (c : Cel) (o i : Value) (x : Wnt) (xs : List Int) (a b n : Int) (ha0 : 0 ≤ a) (ha1 : a < 4) (hb0 : 0 ≤ b) (hb1 : b < 4) (hat0 : 0 ≤ c.at_) (hat1 : c.at_ ≤ 20) (h : Rn B w W g base c o i x xs) :
    Calls Tryd.prog 95 #[.pointer (some ⟨g, 0, none⟩), .agg #[.int .i64 14, .int .i64 a, .int .i64 b, .int .i64 n]] W fun e W' => e = .returned (.tuple #[]) ∧ Rn B w W' g base { c with at_ := c.at_ + 1 } o i x xs := by
  have hg : g < W.heap.size := h.lt
  have hg' : g ≠ W.heap.size := Nat.ne_of_lt hg
  have k0 : W.cell? ⟨g, 0, none⟩ = some (.int .i64 c.at_) := h.r.cell rfl
  have f0 : W.frozen? ⟨g, 0, none⟩ = false := h.r.fr _
  have H := Lib.hid h
  clear h
  go_enter Tryd.func95, Tryd.ntmps95
  go_wp2
  go_end0
  exact ⟨rfl, (H.out.setAt _).alloc (.cells #[.int .i64 14, .int .i64 a, .int .i64 b, .int .i64 n] 74)⟩

set_option maxRecDepth 100000 in
set_option maxHeartbeats 8000000 in
theorem do15 (B : Nat) (w W : World) (g base : Nat) (c : Cel) (o i : Value) (x : Wnt) (xs : List Int) (a b n : Int) (ha0 : 0 ≤ a) (ha1 : a < 4) (hb0 : 0 ≤ b) (hb1 : b < 4) (hat0 : 0 ≤ c.at_) (hat1 : c.at_ ≤ 20) (h : Rn B w W g base c o i x xs) :
    Calls Tryd.prog 95 #[.pointer (some ⟨g, 0, none⟩), .agg #[.int .i64 15, .int .i64 a, .int .i64 b, .int .i64 n]] W fun e W' => e = .returned (.tuple #[]) ∧ Rn B w W' g base { c with en := 1, at_ := c.at_ } o i x xs := by
  have hg : g < W.heap.size := h.lt
  have hg' : g ≠ W.heap.size := Nat.ne_of_lt hg
  have k0 : W.cell? ⟨g, 0, none⟩ = some (.int .i64 c.at_) := h.r.cell rfl
  have f0 : W.frozen? ⟨g, 0, none⟩ = false := h.r.fr _
  have f15 : W.frozen? ⟨g, 15, none⟩ = false := h.r.fr _
  have k15 : W.cell? ⟨g, 15, none⟩ = some (.int .i64 c.en) := h.r.cell rfl
  have H := Lib.hid h
  clear h
  go_enter Tryd.func95, Tryd.ntmps95
  go_wp2
  go_end0
  exact ⟨rfl, ((H.out.setEn 1).setAt _).alloc (.cells #[.int .i64 15, .int .i64 a, .int .i64 b, .int .i64 n] 74)⟩

set_option maxRecDepth 100000 in
set_option maxHeartbeats 8000000 in
theorem do9 (B : Nat) (w W : World) (g base : Nat) (c : Cel) (o i : Value) (x : Wnt) (xs : List Int) (a b n : Int) (ha0 : 0 ≤ a) (ha1 : a < 4) (hb0 : 0 ≤ b) (hb1 : b < 4) (hat0 : 0 ≤ c.at_) (hat1 : c.at_ ≤ 20) (h : Rn B w W g base c o i x xs) :
    Calls Tryd.prog 95 #[.pointer (some ⟨g, 0, none⟩), .agg #[.int .i64 9, .int .i64 a, .int .i64 b, .int .i64 n]] W fun e W' => e = .returned (.tuple #[]) ∧ Rn B w W' g base { c with at_ := if c.reg a = 0 then n else c.at_ + 1 } o i x xs := by
  have hg : g < W.heap.size := h.lt
  have hg' : g ≠ W.heap.size := Nat.ne_of_lt hg
  have k0 : W.cell? ⟨g, 0, none⟩ = some (.int .i64 c.at_) := h.r.cell rfl
  have ka : W.cell? ⟨g, 1 + a.toNat, none⟩ = some (.int .i64 (c.reg a)) := h.r.cell (rcs_reg _ _ _ _ ha0 ha1)
  have f0 : W.frozen? ⟨g, 0, none⟩ = false := h.r.fr _
  have H := Lib.hid h
  clear h
  go_enter Tryd.func95, Tryd.ntmps95
  by_cases hq : c.reg a = 0
  · have hq' : (c.reg a == 0) = true := by simp [hq]
    rw [if_pos hq]
    clear hq
    go_wp2
    go_quiet (fail)
    go_wp2
    go_end0
    exact ⟨rfl, ((H.out.alloc (.cells #[.int .i64 9, .int .i64 a, .int .i64 b, .int .i64 n] 74)).drewN _).setAt n⟩
  · have hq' : (c.reg a == 0) = false := by simpa using hq
    rw [if_neg hq]
    clear hq
    go_wp2
    go_quiet (fail)
    go_wp2
    go_end0
    exact ⟨rfl, ((H.out.alloc (.cells #[.int .i64 9, .int .i64 a, .int .i64 b, .int .i64 n] 74)).drewN _).setAt _⟩

set_option maxRecDepth 100000 in
set_option maxHeartbeats 8000000 in
theorem do10 (B : Nat) (w W : World) (g base : Nat) (c : Cel) (o i : Value) (x : Wnt) (xs : List Int) (a b n : Int) (ha0 : 0 ≤ a) (ha1 : a < 4) (hb0 : 0 ≤ b) (hb1 : b < 4) (hat0 : 0 ≤ c.at_) (hat1 : c.at_ ≤ 20) (inn : List Int) (hS : Sl W 1 i inn.length (ints inn)) (hr0 : 0 ≤ c.read) (hr1 : c.read ≤ 12) (h : Rn B w W g base c o i x xs) :
    Calls Tryd.prog 95 #[.pointer (some ⟨g, 0, none⟩), .agg #[.int .i64 10, .int .i64 a, .int .i64 b, .int .i64 n]] W fun e W' => e = .returned (.tuple #[]) ∧ Rn B w W' g base { (takeC c inn.length).setReg a (takeI inn c.read) with at_ := c.at_ + 1 } o i x xs := by
  have hg : g < W.heap.size := h.lt
  have hg' : g ≠ W.heap.size := Nat.ne_of_lt hg
  have k0 : W.cell? ⟨g, 0, none⟩ = some (.int .i64 c.at_) := h.r.cell rfl
  have HS := Lib.hid hS
  clear hS
  have H := Lib.hid h
  clear h
  go_enter Tryd.func95, Tryd.ntmps95
  go_wp2
  refine region_still (S := fun w' => w'.cell? ⟨W.heap.size, 1, none⟩ = some (.int .i64 a)) 9 (by kernel_rfl) ((Rw.new W 74 _ rfl).cell rfl) (fun hHeld => ?_)
  refine Still.takeBy (i := 0) [] (v := ?v1) (by kernel_rfl) (by kernel_rfl) rfl (by kernel_rfl) (by kernel_rfl) (by kernel_rfl) (fun _ _ _ h => h) (Or.inl ⟨by rfl, ?y1⟩) hHeld ?r1
  case y1 => (intro w' hSw; (try dsimp only at hSw); go_simp; try with_reducible rfl)
  simp only [Act.put, List.getElem_toArray, List.getElem_cons_zero, List.getElem_cons_succ, List.setIfInBounds_toArray, List.set_cons_zero, List.set_cons_succ]
  refine Still.takeBy (i := 1) [] (v := ?v2) (by kernel_rfl) (by kernel_rfl) rfl (by kernel_rfl) (by kernel_rfl) (by kernel_rfl) (fun _ _ _ h => h) (Or.inl ⟨by rfl, ?y2⟩) hHeld ?r2
  case y2 => (intro w' hSw; (try dsimp only at hSw); go_simp; try with_reducible rfl)
  simp only [Act.put, List.getElem_toArray, List.getElem_cons_zero, List.getElem_cons_succ, List.setIfInBounds_toArray, List.set_cons_zero, List.set_cons_succ]
  refine Still.takeBy (i := 2) [] (v := ?v3) (by kernel_rfl) (by kernel_rfl) rfl (by kernel_rfl) (by kernel_rfl) (by kernel_rfl) (fun _ _ _ h => h) (Or.inl ⟨by rfl, ?y3⟩) hHeld ?r3
  case y3 => (intro w' hSw; (try dsimp only at hSw); go_simp; try with_reducible rfl)
  simp only [Act.put, List.getElem_toArray, List.getElem_cons_zero, List.getElem_cons_succ, List.setIfInBounds_toArray, List.set_cons_zero, List.set_cons_succ]
  refine Still.takeBy (i := 3) [] (v := ?v4) (by kernel_rfl) (by kernel_rfl) rfl (by kernel_rfl) (by kernel_rfl) (by kernel_rfl) (fun _ _ _ h => h) (Or.inl ⟨by rfl, ?y4⟩) hHeld ?r4
  case y4 => (intro w' hSw; (try dsimp only at hSw); go_simp; try with_reducible rfl)
  simp only [Act.put, List.getElem_toArray, List.getElem_cons_zero, List.getElem_cons_succ, List.setIfInBounds_toArray, List.set_cons_zero, List.set_cons_succ]
  refine Still.takeBy (i := 5) [8, 7, 6] (v := ?v5) (by kernel_rfl) (by kernel_rfl) rfl (by kernel_rfl) (by kernel_rfl) (by kernel_rfl) (fun _ _ _ h => h) (Or.inl ⟨by rfl, ?y5⟩) hHeld ?r5
  case y5 => (intro w' hSw; (try dsimp only at hSw); go_simp; try with_reducible rfl)
  simp only [Act.put, List.getElem_toArray, List.getElem_cons_zero, List.getElem_cons_succ, List.setIfInBounds_toArray, List.set_cons_zero, List.set_cons_succ]
  refine Still.takeBy (i := 6) [8, 7] (v := ?v6) (by kernel_rfl) (by kernel_rfl) rfl (by kernel_rfl) (by kernel_rfl) (by kernel_rfl) (fun _ _ _ h => h) (Or.inl ⟨by rfl, ?y6⟩) hHeld ?r6
  case y6 => (intro w' hSw; (try dsimp only at hSw); go_simp; try with_reducible rfl)
  simp only [Act.put, List.getElem_toArray, List.getElem_cons_zero, List.getElem_cons_succ, List.setIfInBounds_toArray, List.set_cons_zero, List.set_cons_succ]
  refine Still.takeBy (i := 7) [8] (v := ?v7) (by kernel_rfl) (by kernel_rfl) rfl (by kernel_rfl) (by kernel_rfl) (by kernel_rfl) (fun _ _ _ h => h) (Or.inl ⟨by rfl, ?y7⟩) hHeld ?r7
  case y7 => (intro w' hSw; (try dsimp only at hSw); go_simp; try with_reducible rfl)
  simp only [Act.put, List.getElem_toArray, List.getElem_cons_zero, List.getElem_cons_succ, List.setIfInBounds_toArray, List.set_cons_zero, List.set_cons_succ]
  refine Still.all (rs := [4]) (by kernel_rfl) (by simp) (Still.one (i := 4) rfl rfl (fun K hK => ?_) (by simp))
  refine wp_call 100 _ _ rfl ent_take #[.pointer (some ⟨g, 0, none⟩)] (by first | rfl | simp [Act.eval, Act.put]) ((take_any B w _ g base c o i x xs inn ((H.out.alloc (.cells #[.int .i64 10, .int .i64 a, .int .i64 b, .int .i64 n] 74)).drew) (HS.out.up (((Below.refl _ _).alloc (Nat.le_refl _) _).drew)) hr0 hr1).mono ?_)
  rintro e V ⟨rfl, hR, hB⟩
  have q1 : V.cell? ⟨W.heap.size, 1, none⟩ = some (.int .i64 a) := (World.cell?_of_block (w := (W.alloc (.cells #[.int .i64 10, .int .i64 a, .int .i64 b, .int .i64 n] 74)).drew) (a := ⟨W.heap.size, 1, none⟩) (hB W.heap.size (Ne.symm hg'))).trans ((Rw.new W 74 _ rfl).cell rfl)
  refine ⟨_, rfl, hK _ _ (fun _ => q1) (fun _ => ?_)⟩
  clear hK K
  try simp only [Act.put, List.getElem_toArray, List.getElem_cons_zero, List.getElem_cons_succ, List.setIfInBounds_toArray, List.set_cons_zero, List.set_cons_succ]
  have za : V.cell? ⟨g, 1 + a.toNat, none⟩ = some (.int .i64 ((takeC c inn.length).reg a)) := hR.r.cell (rcs_reg _ _ _ _ ha0 ha1)
  have zf : V.frozen? ⟨g, 1 + a.toNat, none⟩ = false := hR.r.fr _
  have HR := Lib.hid hR
  clear hR hB
  refine Still.takeBy (i := 8) [] (v := ?v8) (by kernel_rfl) (by kernel_rfl) rfl (by kernel_rfl) (by kernel_rfl) (by kernel_rfl) (fun _ _ _ h => h) (Or.inl ⟨by rfl, ?y8⟩) q1 ?r8
  case y8 => (intro w' hSw; (try dsimp only at hSw); go_simp; try with_reducible rfl)
  simp only [Act.put, List.getElem_toArray, List.getElem_cons_zero, List.getElem_cons_succ, List.setIfInBounds_toArray, List.set_cons_zero, List.set_cons_succ]
  refine Still.all (rs := [9]) (by kernel_rfl) (by simp) (Still.one (i := 9) rfl rfl (fun K hK => ?_) (by simp))
  go_simp
  refine hK _ _ (fun h => absurd rfl h) (fun _ => ?_)
  clear hK K
  refine Still.over (by kernel_rfl) ?_ _
  clear hHeld q1
  have H1 := Lib.hid (HR.out.reg ha0 ha1 (takeI inn c.read))
  clear H HR k0 za zf
  generalize World.setCell _ _ _ = W1 at H1 ⊢
  have q0 : W1.cell? ⟨g, 0, none⟩ = some (.int .i64 _) := H1.out.r.cell rfl
  have q1 : W1.frozen? ⟨g, 0, none⟩ = false := H1.out.r.fr _
  go_wp2
  go_end0
  exact ⟨rfl, H1.out.setAt _⟩

set_option maxRecDepth 100000 in
set_option maxHeartbeats 8000000 in
theorem do11 (B : Nat) (w W : World) (g base : Nat) (c : Cel) (o i : Value) (x : Wnt) (xs : List Int) (a b n : Int) (ha0 : 0 ≤ a) (ha1 : a < 4) (hb0 : 0 ≤ b) (hb1 : b < 4) (hat0 : 0 ≤ c.at_) (hat1 : c.at_ ≤ 20) (hx : xs.length ≤ 16) (h : Rn B w W g base c o i x xs) :
    Calls Tryd.prog 95 #[.pointer (some ⟨g, 0, none⟩), .agg #[.int .i64 11, .int .i64 a, .int .i64 b, .int .i64 n]] W fun e W' => e = .returned (.tuple #[]) ∧ ∃ o', Rn B w W' g base { c with at_ := c.at_ + 1 } o' i x (tellL xs (c.reg a)) := by
  have hg : g < W.heap.size := h.lt
  have hg' : g ≠ W.heap.size := Nat.ne_of_lt hg
  have k0 : W.cell? ⟨g, 0, none⟩ = some (.int .i64 c.at_) := h.r.cell rfl
  have ka : W.cell? ⟨g, 1 + a.toNat, none⟩ = some (.int .i64 (c.reg a)) := h.r.cell (rcs_reg _ _ _ _ ha0 ha1)
  have H := Lib.hid h
  clear h
  go_enter Tryd.func95, Tryd.ntmps95
  go_wp2
  refine region_still (S := fun w' => w'.cell? ⟨g, 1 + a.toNat, none⟩ = some (.int .i64 (c.reg a)) ∧ w'.cell? ⟨W.heap.size, 1, none⟩ = some (.int .i64 a)) 9 (by kernel_rfl) ⟨cl_alloc _ hg ka, (Rw.new W 74 _ rfl).cell rfl⟩ (fun hHeld => ?_)
  refine Still.takeBy (i := 0) [] (v := ?v1) (by kernel_rfl) (by kernel_rfl) rfl (by kernel_rfl) (by kernel_rfl) (by kernel_rfl) (fun _ _ _ h => h) (Or.inl ⟨by rfl, ?y1⟩) hHeld ?r1
  case y1 => (intro w' hSw; (try dsimp only at hSw); go_simp; try with_reducible rfl)
  simp only [Act.put, List.getElem_toArray, List.getElem_cons_zero, List.getElem_cons_succ, List.setIfInBounds_toArray, List.set_cons_zero, List.set_cons_succ]
  refine Still.takeBy (i := 1) [8, 7, 6, 5, 4] (v := ?v2) (by kernel_rfl) (by kernel_rfl) rfl (by kernel_rfl) (by kernel_rfl) (by kernel_rfl) (fun _ _ _ h => h) (Or.inl ⟨by rfl, ?y2⟩) hHeld ?r2
  case y2 => (intro w' hSw; (try dsimp only at hSw); go_simp; try with_reducible rfl)
  simp only [Act.put, List.getElem_toArray, List.getElem_cons_zero, List.getElem_cons_succ, List.setIfInBounds_toArray, List.set_cons_zero, List.set_cons_succ]
  refine Still.takeBy (i := 2) [8, 7, 3] (v := ?v3) (by kernel_rfl) (by kernel_rfl) rfl (by kernel_rfl) (by kernel_rfl) (by kernel_rfl) (fun _ _ _ h => h) (Or.inl ⟨by rfl, ?y3⟩) hHeld ?r3
  case y3 => (intro w' hSw; (try dsimp only at hSw); go_simp; try with_reducible rfl)
  simp only [Act.put, List.getElem_toArray, List.getElem_cons_zero, List.getElem_cons_succ, List.setIfInBounds_toArray, List.set_cons_zero, List.set_cons_succ]
  refine Still.takeBy (i := 3) [8, 7] (v := ?v4) (by kernel_rfl) (by kernel_rfl) rfl (by kernel_rfl) (by kernel_rfl) (by kernel_rfl) (fun _ _ _ h => h) (Or.inl ⟨by rfl, ?y4⟩) hHeld ?r4
  case y4 => (intro w' hSw; (try dsimp only at hSw); go_simp; try with_reducible rfl)
  simp only [Act.put, List.getElem_toArray, List.getElem_cons_zero, List.getElem_cons_succ, List.setIfInBounds_toArray, List.set_cons_zero, List.set_cons_succ]
  refine Still.takeBy (i := 4) [8, 7, 6, 5] (v := ?v5) (by kernel_rfl) (by kernel_rfl) rfl (by kernel_rfl) (by kernel_rfl) (by kernel_rfl) (fun _ _ _ h => h) (Or.inl ⟨by rfl, ?y5⟩) hHeld ?r5
  case y5 => (intro w' hSw; (try dsimp only at hSw); go_simp; try with_reducible rfl)
  simp only [Act.put, List.getElem_toArray, List.getElem_cons_zero, List.getElem_cons_succ, List.setIfInBounds_toArray, List.set_cons_zero, List.set_cons_succ]
  refine Still.takeBy (i := 5) [8, 7, 6] (v := ?v6) (by kernel_rfl) (by kernel_rfl) rfl (by kernel_rfl) (by kernel_rfl) (by kernel_rfl) (fun _ _ _ h => h) (Or.inl ⟨by rfl, ?y6⟩) hHeld ?r6
  case y6 => (intro w' hSw; (try dsimp only at hSw); go_simp; try with_reducible rfl)
  simp only [Act.put, List.getElem_toArray, List.getElem_cons_zero, List.getElem_cons_succ, List.setIfInBounds_toArray, List.set_cons_zero, List.set_cons_succ]
  refine Still.takeBy (i := 6) [8, 7] (v := ?v7) (by kernel_rfl) (by kernel_rfl) rfl (by kernel_rfl) (by kernel_rfl) (by kernel_rfl) (fun _ _ _ h => h) (Or.inl ⟨by rfl, ?y7⟩) hHeld ?r7
  case y7 => (intro w' hSw; (try dsimp only at hSw); go_simp; try with_reducible rfl)
  simp only [Act.put, List.getElem_toArray, List.getElem_cons_zero, List.getElem_cons_succ, List.setIfInBounds_toArray, List.set_cons_zero, List.set_cons_succ]
  refine Still.takeBy (i := 7) [8] (v := ?v8) (by kernel_rfl) (by kernel_rfl) rfl (by kernel_rfl) (by kernel_rfl) (by kernel_rfl) (fun _ _ _ h => h) (Or.inl ⟨by rfl, ?y8⟩) hHeld ?r8
  case y8 => (intro w' hSw; (try dsimp only at hSw); go_simp; try with_reducible rfl)
  simp only [Act.put, List.getElem_toArray, List.getElem_cons_zero, List.getElem_cons_succ, List.setIfInBounds_toArray, List.set_cons_zero, List.set_cons_succ]
  refine Still.takeBy (i := 8) [] (v := ?v9) (by kernel_rfl) (by kernel_rfl) rfl (by kernel_rfl) (by kernel_rfl) (by kernel_rfl) (fun _ _ _ h => h) (Or.inl ⟨by rfl, ?y9⟩) hHeld ?r9
  case y9 => (intro w' hSw; (try dsimp only at hSw); go_simp; try with_reducible rfl)
  simp only [Act.put, List.getElem_toArray, List.getElem_cons_zero, List.getElem_cons_succ, List.setIfInBounds_toArray, List.set_cons_zero, List.set_cons_succ]
  refine Still.all (rs := [9]) (by kernel_rfl) (by simp) (Still.one (i := 9) rfl rfl (fun K hK => ?_) (by simp))
  refine wp_call 101 _ _ rfl ent_tell #[.pointer (some ⟨g, 0, none⟩), .int .i64 (c.reg a)] (by first | rfl | simp [Act.eval, Act.put]) ((tell_any B w _ g base c o i x xs (c.reg a) ((H.out.alloc (.cells #[.int .i64 11, .int .i64 a, .int .i64 b, .int .i64 n] 74)).drew) hx).mono ?_)
  rintro e V ⟨rfl, o', hR⟩
  refine ⟨_, rfl, ?_⟩
  refine hK _ _ (fun h => absurd rfl h) (fun _ => ?_)
  clear hK K
  refine Still.over (by kernel_rfl) ?_ _
  have HR := Lib.hid hR
  clear hR
  have q0 : V.cell? ⟨g, 0, none⟩ = some (.int .i64 c.at_) := HR.out.r.cell rfl
  have q1 : V.frozen? ⟨g, 0, none⟩ = false := HR.out.r.fr _
  clear hHeld H k0 ka
  go_wp2
  go_end0
  exact ⟨rfl, o', HR.out.setAt _⟩

set_option maxRecDepth 100000 in
set_option maxHeartbeats 8000000 in
theorem do12 (B : Nat) (w W : World) (g base : Nat) (c : Cel) (o i : Value) (x : Wnt) (xs : List Int) (a b n : Int) (ha0 : 0 ≤ a) (ha1 : a < 4) (hb0 : 0 ≤ b) (hb1 : b < 4) (hat0 : 0 ≤ c.at_) (hat1 : c.at_ ≤ 20) (h : Rn B w W g base c o i x xs) :
    Calls Tryd.prog 95 #[.pointer (some ⟨g, 0, none⟩), .agg #[.int .i64 12, .int .i64 a, .int .i64 b, .int .i64 n]] W fun e W' => e = .returned (.tuple #[]) ∧ Rn B w W' g base { c with at_ := c.at_ + 1 } o i ⟨12, n, a, 0, c.reg a⟩ xs := by
  have hg : g < W.heap.size := h.lt
  have hg' : g ≠ W.heap.size := Nat.ne_of_lt hg
  have k0 : W.cell? ⟨g, 0, none⟩ = some (.int .i64 c.at_) := h.r.cell rfl
  have ka : W.cell? ⟨g, 1 + a.toNat, none⟩ = some (.int .i64 (c.reg a)) := h.r.cell (rcs_reg _ _ _ _ ha0 ha1)
  have u17 : W.cell? ⟨g, 17, none⟩ = some (.int .i64 x.k) := h.r.cell rfl
  have v17 : W.frozen? ⟨g, 17, none⟩ = false := h.r.fr _
  have u18 : W.cell? ⟨g, 18, none⟩ = some (.int .i64 x.ch) := h.r.cell rfl
  have v18 : W.frozen? ⟨g, 18, none⟩ = false := h.r.fr _
  have u19 : W.cell? ⟨g, 19, none⟩ = some (.int .i64 x.reg) := h.r.cell rfl
  have v19 : W.frozen? ⟨g, 19, none⟩ = false := h.r.fr _
  have u20 : W.cell? ⟨g, 20, none⟩ = some (.int .i64 x.flag) := h.r.cell rfl
  have v20 : W.frozen? ⟨g, 20, none⟩ = false := h.r.fr _
  have u21 : W.cell? ⟨g, 21, none⟩ = some (.int .i64 x.val) := h.r.cell rfl
  have v21 : W.frozen? ⟨g, 21, none⟩ = false := h.r.fr _
  have H := Lib.hid h
  clear h
  go_enter Tryd.func95, Tryd.ntmps95
  go_wp2
  go_region
  all_goals
    have H1 := Lib.hid (((H.out.wnt 12 n a 0 (c.reg a)).alloc (.cells #[.int .i64 12, .int .i64 a, .int .i64 b, .int .i64 n] 74)).drew)
    clear H k0 ka u17 u18 u19 u20 u21 v17 v18 v19 v20 v21
    generalize World.drew _ = W1 at H1 ⊢
    have q0 : W1.cell? ⟨g, 0, none⟩ = some (.int .i64 _) := H1.out.r.cell rfl
    have q1 : W1.frozen? ⟨g, 0, none⟩ = false := H1.out.r.fr _
    go_wp2
    go_end0
    exact ⟨rfl, H1.out.setAt _⟩

set_option maxRecDepth 100000 in
set_option maxHeartbeats 8000000 in
theorem do13 (B : Nat) (w W : World) (g base : Nat) (c : Cel) (o i : Value) (x : Wnt) (xs : List Int) (a b n : Int) (ha0 : 0 ≤ a) (ha1 : a < 4) (hb0 : 0 ≤ b) (hb1 : b < 4) (hat0 : 0 ≤ c.at_) (hat1 : c.at_ ≤ 20) (h : Rn B w W g base c o i x xs) :
    Calls Tryd.prog 95 #[.pointer (some ⟨g, 0, none⟩), .agg #[.int .i64 13, .int .i64 a, .int .i64 b, .int .i64 n]] W fun e W' => e = .returned (.tuple #[]) ∧ Rn B w W' g base { c with at_ := c.at_ + 1 } o i ⟨13, n, a, b, 0⟩ xs := by
  have hg : g < W.heap.size := h.lt
  have hg' : g ≠ W.heap.size := Nat.ne_of_lt hg
  have k0 : W.cell? ⟨g, 0, none⟩ = some (.int .i64 c.at_) := h.r.cell rfl
  have u17 : W.cell? ⟨g, 17, none⟩ = some (.int .i64 x.k) := h.r.cell rfl
  have v17 : W.frozen? ⟨g, 17, none⟩ = false := h.r.fr _
  have u18 : W.cell? ⟨g, 18, none⟩ = some (.int .i64 x.ch) := h.r.cell rfl
  have v18 : W.frozen? ⟨g, 18, none⟩ = false := h.r.fr _
  have u19 : W.cell? ⟨g, 19, none⟩ = some (.int .i64 x.reg) := h.r.cell rfl
  have v19 : W.frozen? ⟨g, 19, none⟩ = false := h.r.fr _
  have u20 : W.cell? ⟨g, 20, none⟩ = some (.int .i64 x.flag) := h.r.cell rfl
  have v20 : W.frozen? ⟨g, 20, none⟩ = false := h.r.fr _
  have u21 : W.cell? ⟨g, 21, none⟩ = some (.int .i64 x.val) := h.r.cell rfl
  have v21 : W.frozen? ⟨g, 21, none⟩ = false := h.r.fr _
  have f0 : W.frozen? ⟨g, 0, none⟩ = false := h.r.fr _
  have H := Lib.hid h
  clear h
  go_enter Tryd.func95, Tryd.ntmps95
  go_wp2
  go_end0
  exact ⟨rfl, ((H.out.wnt 13 n a b 0).setAt _).alloc (.cells #[.int .i64 13, .int .i64 a, .int .i64 b, .int .i64 n] 74)⟩
end Go.Proofs.YtjhjaafoikadgaaDoor
