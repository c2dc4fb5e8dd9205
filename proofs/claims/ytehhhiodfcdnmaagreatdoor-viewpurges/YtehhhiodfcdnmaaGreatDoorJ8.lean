/- What a runner does: Jump, Zero, In, Out, Put, Get, Rest, Stop. -/
import Derived.Test.YtehhhiodfcdnmaaGreatDoorJ7
import Derived.Test.YtehhhiodfcdnmaaGreatDoorJ5
import Derived.Test.YtehhhiodfcdnmaaGreatDoorCell7
import Derived.Defers
import Derived.Recover
import Derived.Deep.MidRow
import Derived.Deep.CutRange
namespace Go.Proofs.YtehhhiodfcdnmaaGreatDoor
set_option linter.unusedSimpArgs false
set_option linter.unusedVariables false
open Go.RowKit Go.Sort
theorem ent_take : Enters 174 := enters Tryz.func174 (by kernel_rfl) (by kernel_rfl)
theorem ent_tell : Enters 175 := enters Tryz.func175 (by kernel_rfl) (by kernel_rfl)
set_option maxRecDepth 100000 in
set_option maxHeartbeats 8000000 in
theorem do8 (B : Nat) (w W : World) (g base : Nat) (c : Cel) (o i : Value) (x : Wnt) (xs : List Int) (a b n : Int) (ha0 : 0 ≤ a) (ha1 : a < 4) (hb0 : 0 ≤ b) (hb1 : b < 4) (hat0 : 0 ≤ c.at_) (hat1 : c.at_ ≤ 20) (h : Rn B w W g base c o i x xs) :
    Calls Tryz.prog 163 #[.pointer (some ⟨g, 0, none⟩), .agg #[.int .i64 8, .int .i64 a, .int .i64 b, .int .i64 n]] W fun e W' => e = .returned (.tuple #[]) ∧ Rn B w W' g base { c with at_ := n } o i x xs := by
  have hg : g < W.heap.size := h.lt
  have hg' : g ≠ W.heap.size := Nat.ne_of_lt hg
  have k0 : W.cell? ⟨g, 0, none⟩ = some (.int .i64 c.at_) := h.r.cell rfl
  have f0 : W.frozen? ⟨g, 0, none⟩ = false := h.r.fr _
  have H := Lib.hid h
  clear h
  go_enter Tryz.func163, Tryz.ntmps163
  go_wp2
  go_end0
  exact ⟨rfl, (H.out.setAt n).alloc (.cells #[.int .i64 8, .int .i64 a, .int .i64 b, .int .i64 n] 83)⟩
set_option maxRecDepth 100000 in
set_option maxHeartbeats 8000000 in
theorem do14 (B : Nat) (w W : World) (g base : Nat) (c : Cel) (o i : Value) (x : Wnt) (xs : List Int) (a b n : Int) (ha0 : 0 ≤ a) (ha1 : a < 4) (hb0 : 0 ≤ b) (hb1 : b < 4) (hat0 : 0 ≤ c.at_) (hat1 : c.at_ ≤ 20) (h : Rn B w W g base c o i x xs) :
    Calls Tryz.prog 163 #[.pointer (some ⟨g, 0, none⟩), .agg #[.int .i64 14, .int .i64 a, .int .i64 b, .int .i64 n]] W fun e W' => e = .returned (.tuple #[]) ∧ Rn B w W' g base { c with at_ := c.at_ + 1 } o i x xs := by
  have hg : g < W.heap.size := h.lt
  have hg' : g ≠ W.heap.size := Nat.ne_of_lt hg
  have k0 : W.cell? ⟨g, 0, none⟩ = some (.int .i64 c.at_) := h.r.cell rfl
  have f0 : W.frozen? ⟨g, 0, none⟩ = false := h.r.fr _
  have H := Lib.hid h
  clear h
  go_enter Tryz.func163, Tryz.ntmps163
  go_wp2
  go_end0
  exact ⟨rfl, (H.out.setAt _).alloc (.cells #[.int .i64 14, .int .i64 a, .int .i64 b, .int .i64 n] 83)⟩
set_option maxRecDepth 100000 in
set_option maxHeartbeats 8000000 in
theorem do15 (B : Nat) (w W : World) (g base : Nat) (c : Cel) (o i : Value) (x : Wnt) (xs : List Int) (a b n : Int) (ha0 : 0 ≤ a) (ha1 : a < 4) (hb0 : 0 ≤ b) (hb1 : b < 4) (hat0 : 0 ≤ c.at_) (hat1 : c.at_ ≤ 20) (h : Rn B w W g base c o i x xs) :
    Calls Tryz.prog 163 #[.pointer (some ⟨g, 0, none⟩), .agg #[.int .i64 15, .int .i64 a, .int .i64 b, .int .i64 n]] W fun e W' => e = .returned (.tuple #[]) ∧ Rn B w W' g base { c with en := 1, at_ := c.at_ } o i x xs := by
  have hg : g < W.heap.size := h.lt
  have hg' : g ≠ W.heap.size := Nat.ne_of_lt hg
  have k0 : W.cell? ⟨g, 0, none⟩ = some (.int .i64 c.at_) := h.r.cell rfl
  have f0 : W.frozen? ⟨g, 0, none⟩ = false := h.r.fr _
  have f15 : W.frozen? ⟨g, 15, none⟩ = false := h.r.fr _
  have k15 : W.cell? ⟨g, 15, none⟩ = some (.int .i64 c.en) := h.r.cell rfl
  have H := Lib.hid h
  clear h
  go_enter Tryz.func163, Tryz.ntmps163
  go_wp2
  go_end0
  exact ⟨rfl, ((H.out.setEn 1).setAt _).alloc (.cells #[.int .i64 15, .int .i64 a, .int .i64 b, .int .i64 n] 83)⟩
set_option maxRecDepth 100000 in
set_option maxHeartbeats 8000000 in
theorem do9 (B : Nat) (w W : World) (g base : Nat) (c : Cel) (o i : Value) (x : Wnt) (xs : List Int) (a b n : Int) (ha0 : 0 ≤ a) (ha1 : a < 4) (hb0 : 0 ≤ b) (hb1 : b < 4) (hat0 : 0 ≤ c.at_) (hat1 : c.at_ ≤ 20) (h : Rn B w W g base c o i x xs) :
    Calls Tryz.prog 163 #[.pointer (some ⟨g, 0, none⟩), .agg #[.int .i64 9, .int .i64 a, .int .i64 b, .int .i64 n]] W fun e W' => e = .returned (.tuple #[]) ∧ Rn B w W' g base { c with at_ := if c.reg a = 0 then n else c.at_ + 1 } o i x xs := by
  have hg : g < W.heap.size := h.lt
  have hg' : g ≠ W.heap.size := Nat.ne_of_lt hg
  have k0 : W.cell? ⟨g, 0, none⟩ = some (.int .i64 c.at_) := h.r.cell rfl
  have ka : W.cell? ⟨g, 1 + a.toNat, none⟩ = some (.int .i64 (c.reg a)) := h.r.cell (rcs_reg _ _ _ _ ha0 ha1)
  have f0 : W.frozen? ⟨g, 0, none⟩ = false := h.r.fr _
  have H := Lib.hid h
  clear h
  go_enter Tryz.func163, Tryz.ntmps163
  by_cases hq : c.reg a = 0
  · have hq' : (c.reg a == 0) = true := by simp [hq]
    rw [if_pos hq]
    clear hq
    go_wp2
    go_quiet (fail)
    go_wp2
    go_end0
    exact ⟨rfl, ((H.out.alloc (.cells #[.int .i64 9, .int .i64 a, .int .i64 b, .int .i64 n] 83)).drewN _).setAt n⟩
  · have hq' : (c.reg a == 0) = false := by simpa using hq
    rw [if_neg hq]
    clear hq
    go_wp2
    go_quiet (fail)
    go_wp2
    go_end0
    exact ⟨rfl, ((H.out.alloc (.cells #[.int .i64 9, .int .i64 a, .int .i64 b, .int .i64 n] 83)).drewN _).setAt _⟩
set_option maxRecDepth 100000 in
set_option maxHeartbeats 8000000 in
theorem do10 (B : Nat) (w W : World) (g base : Nat) (c : Cel) (o i : Value) (x : Wnt) (xs : List Int) (a b n : Int) (ha0 : 0 ≤ a) (ha1 : a < 4) (hb0 : 0 ≤ b) (hb1 : b < 4) (hat0 : 0 ≤ c.at_) (hat1 : c.at_ ≤ 20) (inn : List Int) (hS : Sl W 1 i inn.length (ints inn)) (hr0 : 0 ≤ c.read) (hr1 : c.read ≤ 12) (h : Rn B w W g base c o i x xs) :
    Calls Tryz.prog 163 #[.pointer (some ⟨g, 0, none⟩), .agg #[.int .i64 10, .int .i64 a, .int .i64 b, .int .i64 n]] W fun e W' => e = .returned (.tuple #[]) ∧ Rn B w W' g base { (takeC c inn.length).setReg a (takeI inn c.read) with at_ := c.at_ + 1 } o i x xs := by
  have hg : g < W.heap.size := h.lt
  have hg' : g ≠ W.heap.size := Nat.ne_of_lt hg
  have k0 : W.cell? ⟨g, 0, none⟩ = some (.int .i64 c.at_) := h.r.cell rfl
  have HS := Lib.hid hS
  clear hS
  have H := Lib.hid h
  clear h
  go_enter Tryz.func163, Tryz.ntmps163
  go_wp2
  refine region_still (S := fun w' => w'.cell? ⟨W.heap.size, 1, none⟩ = some (.int .i64 a)) 9 (by kernel_rfl) ((Rw.new W 83 _ rfl).cell rfl) (fun hHeld => ?_)
  refine Still.takeBy (i := 0) [] (v := ?v1) (by kernel_rfl) (by kernel_rfl) rfl (by kernel_rfl) (by kernel_rfl) (by kernel_rfl) (fun _ _ _ h => h) (Or.inl ⟨by rfl, ?y1⟩) hHeld ?r1
  case y1 => (intro w' hSw; (try dsimp only at hSw); go_simp; try with_reducible rfl)
  simp only [Act.put, List.getElem_toArray, List.getElem_cons_zero, List.getElem_cons_succ, List.setIfInBounds_toArray, List.set_cons_zero, List.set_cons_succ]
  refine Still.takeBy (i := 1) [] (v := ?v2) (by kernel_rfl) (by kernel_rfl) rfl (by kernel_rfl) (by kernel_rfl) (by kernel_rfl) (fun _ _ _ h => h) (Or.inl ⟨by rfl, ?y2⟩) hHeld ?r2
  case y2 => (intro w' hSw; (try dsimp only at hSw); go_simp; try with_reducible rfl)
  simp only [Act.put, List.getElem_toArray, List.getElem_cons_zero, List.getElem_cons_succ, List.setIfInBounds_toArray, List.set_cons_zero, List.set_cons_succ]
  refine Still.takeBy (i := 2) [] (v := ?v3) (by kernel_rfl) (by kernel_rfl) rfl (by kernel_rfl) (by kernel_rfl) (by kernel_rfl) (fun _ _ _ h => h) (Or.inl ⟨by rfl, ?y3⟩) hHeld ?r3
  case y3 => (intro w' hSw; (try dsimp only at hSw); go_simp; try with_reducible rfl)
  simp only [Act.put, List.getElem_toArray, List.getElem_cons_zero, List.getElem_cons_succ, List.setIfInBounds_toArray, List.set_cons_zero, List.set_cons_succ]
  refine Still.takeBy (i := 3) [] (v := ?v4) (by kernel_rfl) (by kernel_rfl) rfl (by kernel_rfl) (by kernel_rfl) (by kernel_rfl) (fun _ _ _ h => h) (Or.inl ⟨by rfl, ?y4⟩) hHeld ?r4
  case y4 => (intro w' hSw; (try dsimp only at hSw); go_simp; try with_reducible rfl)
  simp only [Act.put, List.getElem_toArray, List.getElem_cons_zero, List.getElem_cons_succ, List.setIfInBounds_toArray, List.set_cons_zero, List.set_cons_succ]
  refine Still.takeBy (i := 5) [8, 7, 6] (v := ?v5) (by kernel_rfl) (by kernel_rfl) rfl (by kernel_rfl) (by kernel_rfl) (by kernel_rfl) (fun _ _ _ h => h) (Or.inl ⟨by rfl, ?y5⟩) hHeld ?r5
  case y5 => (intro w' hSw; (try dsimp only at hSw); go_simp; try with_reducible rfl)
  simp only [Act.put, List.getElem_toArray, List.getElem_cons_zero, List.getElem_cons_succ, List.setIfInBounds_toArray, List.set_cons_zero, List.set_cons_succ]
  refine Still.takeBy (i := 6) [8, 7] (v := ?v6) (by kernel_rfl) (by kernel_rfl) rfl (by kernel_rfl) (by kernel_rfl) (by kernel_rfl) (fun _ _ _ h => h) (Or.inl ⟨by rfl, ?y6⟩) hHeld ?r6
  case y6 => (intro w' hSw; (try dsimp only at hSw); go_simp; try with_reducible rfl)
  simp only [Act.put, List.getElem_toArray, List.getElem_cons_zero, List.getElem_cons_succ, List.setIfInBounds_toArray, List.set_cons_zero, List.set_cons_succ]
  refine Still.takeBy (i := 7) [8] (v := ?v7) (by kernel_rfl) (by kernel_rfl) rfl (by kernel_rfl) (by kernel_rfl) (by kernel_rfl) (fun _ _ _ h => h) (Or.inl ⟨by rfl, ?y7⟩) hHeld ?r7
  case y7 => (intro w' hSw; (try dsimp only at hSw); go_simp; try with_reducible rfl)
  simp only [Act.put, List.getElem_toArray, List.getElem_cons_zero, List.getElem_cons_succ, List.setIfInBounds_toArray, List.set_cons_zero, List.set_cons_succ]
  refine Still.all (rs := [4]) (by kernel_rfl) (by simp) (Still.one (i := 4) rfl rfl (fun K hK => ?_) (by simp))
  refine wp_call 174 _ _ rfl ent_take #[.pointer (some ⟨g, 0, none⟩)] (by first | rfl | simp [Act.eval, Act.put]) ((take_any B w _ g base c o i x xs inn ((H.out.alloc (.cells #[.int .i64 10, .int .i64 a, .int .i64 b, .int .i64 n] 83)).drew) (HS.out.up (((Below.refl _ _).alloc (Nat.le_refl _) _).drew)) hr0 hr1).mono ?_)
  rintro e V ⟨rfl, hR, hB⟩
  have q1 : V.cell? ⟨W.heap.size, 1, none⟩ = some (.int .i64 a) := (World.cell?_of_block (w := (W.alloc (.cells #[.int .i64 10, .int .i64 a, .int .i64 b, .int .i64 n] 83)).drew) (a := ⟨W.heap.size, 1, none⟩) (hB W.heap.size (Ne.symm hg'))).trans ((Rw.new W 83 _ rfl).cell rfl)
  refine ⟨_, rfl, hK _ _ (fun _ => q1) (fun _ => ?_)⟩
  clear hK K
  try simp only [Act.put, List.getElem_toArray, List.getElem_cons_zero, List.getElem_cons_succ, List.setIfInBounds_toArray, List.set_cons_zero, List.set_cons_succ]
  have za : V.cell? ⟨g, 1 + a.toNat, none⟩ = some (.int .i64 ((takeC c inn.length).reg a)) := hR.r.cell (rcs_reg _ _ _ _ ha0 ha1)
  have zf : V.frozen? ⟨g, 1 + a.toNat, none⟩ = false := hR.r.fr _
  have HR := Lib.hid hR
  clear hR hB
  refine Still.takeBy (i := 8) [] (v := ?v8) (by kernel_rfl) (by kernel_rfl) rfl (by kernel_rfl) (by kernel_rfl) (by kernel_rfl) (fun _ _ _ h => h) (Or.inl ⟨by rfl, ?y8⟩) q1 ?r8
  case y8 => (intro w' hSw; (try dsimp only at hSw); go_simp; try with_reducible rfl)
  simp only [Act.put, List.getElem_toArray, List.getElem_cons_zero, List.getElem_cons_succ, List.setIfInBounds_toArray, List.set_cons_zero, List.set_cons_succ]
  refine Still.all (rs := [9]) (by kernel_rfl) (by simp) (Still.one (i := 9) rfl rfl (fun K hK => ?_) (by simp))
  go_simp
  refine hK _ _ (fun h => absurd rfl h) (fun _ => ?_)
  clear hK K
  refine Still.over (by kernel_rfl) ?_ _
  clear hHeld q1
  have H1 := Lib.hid (HR.out.reg ha0 ha1 (takeI inn c.read))
  clear H HR k0 za zf
  generalize World.setCell _ _ _ = W1 at H1 ⊢
  have q0 : W1.cell? ⟨g, 0, none⟩ = some (.int .i64 _) := H1.out.r.cell rfl
  have q1 : W1.frozen? ⟨g, 0, none⟩ = false := H1.out.r.fr _
  go_wp2
  go_end0
  exact ⟨rfl, H1.out.setAt _⟩
set_option maxRecDepth 100000 in
set_option maxHeartbeats 8000000 in
theorem do11 (B : Nat) (w W : World) (g base : Nat) (c : Cel) (o i : Value) (x : Wnt) (xs : List Int) (a b n : Int) (ha0 : 0 ≤ a) (ha1 : a < 4) (hb0 : 0 ≤ b) (hb1 : b < 4) (hat0 : 0 ≤ c.at_) (hat1 : c.at_ ≤ 20) (hx : xs.length ≤ 16) (h : Rn B w W g base c o i x xs) :
    Calls Tryz.prog 163 #[.pointer (some ⟨g, 0, none⟩), .agg #[.int .i64 11, .int .i64 a, .int .i64 b, .int .i64 n]] W fun e W' => e = .returned (.tuple #[]) ∧ ∃ o', Rn B w W' g base { c with at_ := c.at_ + 1 } o' i x (tellL xs (c.reg a)) := by
  have hg : g < W.heap.size := h.lt
  have hg' : g ≠ W.heap.size := Nat.ne_of_lt hg
  have k0 : W.cell? ⟨g, 0, none⟩ = some (.int .i64 c.at_) := h.r.cell rfl
  have ka : W.cell? ⟨g, 1 + a.toNat, none⟩ = some (.int .i64 (c.reg a)) := h.r.cell (rcs_reg _ _ _ _ ha0 ha1)
  have H := Lib.hid h
  clear h
  go_enter Tryz.func163, Tryz.ntmps163
  go_wp2
  refine region_still (S := fun w' => w'.cell? ⟨g, 1 + a.toNat, none⟩ = some (.int .i64 (c.reg a)) ∧ w'.cell? ⟨W.heap.size, 1, none⟩ = some (.int .i64 a)) 9 (by kernel_rfl) ⟨cl_alloc _ hg ka, (Rw.new W 83 _ rfl).cell rfl⟩ (fun hHeld => ?_)
  refine Still.takeBy (i := 0) [] (v := ?v1) (by kernel_rfl) (by kernel_rfl) rfl (by kernel_rfl) (by kernel_rfl) (by kernel_rfl) (fun _ _ _ h => h) (Or.inl ⟨by rfl, ?y1⟩) hHeld ?r1
  case y1 => (intro w' hSw; (try dsimp only at hSw); go_simp; try with_reducible rfl)
  simp only [Act.put, List.getElem_toArray, List.getElem_cons_zero, List.getElem_cons_succ, List.setIfInBounds_toArray, List.set_cons_zero, List.set_cons_succ]
  refine Still.takeBy (i := 1) [8, 7, 6, 5, 4] (v := ?v2) (by kernel_rfl) (by kernel_rfl) rfl (by kernel_rfl) (by kernel_rfl) (by kernel_rfl) (fun _ _ _ h => h) (Or.inl ⟨by rfl, ?y2⟩) hHeld ?r2
  case y2 => (intro w' hSw; (try dsimp only at hSw); go_simp; try with_reducible rfl)
  simp only [Act.put, List.getElem_toArray, List.getElem_cons_zero, List.getElem_cons_succ, List.setIfInBounds_toArray, List.set_cons_zero, List.set_cons_succ]
  refine Still.takeBy (i := 2) [8, 7, 3] (v := ?v3) (by kernel_rfl) (by kernel_rfl) rfl (by kernel_rfl) (by kernel_rfl) (by kernel_rfl) (fun _ _ _ h => h) (Or.inl ⟨by rfl, ?y3⟩) hHeld ?r3
  case y3 => (intro w' hSw; (try dsimp only at hSw); go_simp; try with_reducible rfl)
  simp only [Act.put, List.getElem_toArray, List.getElem_cons_zero, List.getElem_cons_succ, List.setIfInBounds_toArray, List.set_cons_zero, List.set_cons_succ]
  refine Still.takeBy (i := 3) [8, 7] (v := ?v4) (by kernel_rfl) (by kernel_rfl) rfl (by kernel_rfl) (by kernel_rfl) (by kernel_rfl) (fun _ _ _ h => h) (Or.inl ⟨by rfl, ?y4⟩) hHeld ?r4
  case y4 => (intro w' hSw; (try dsimp only at hSw); go_simp; try with_reducible rfl)
  simp only [Act.put, List.getElem_toArray, List.getElem_cons_zero, List.getElem_cons_succ, List.setIfInBounds_toArray, List.set_cons_zero, List.set_cons_succ]
  refine Still.takeBy (i := 4) [8, 7, 6, 5] (v := ?v5) (by kernel_rfl) (by kernel_rfl) rfl (by kernel_rfl) (by kernel_rfl) (by kernel_rfl) (fun _ _ _ h => h) (Or.inl ⟨by rfl, ?y5⟩) hHeld ?r5
  case y5 => (intro w' hSw; (try dsimp only at hSw); go_simp; try with_reducible rfl)
  simp only [Act.put, List.getElem_toArray, List.getElem_cons_zero, List.getElem_cons_succ, List.setIfInBounds_toArray, List.set_cons_zero, List.set_cons_succ]
  refine Still.takeBy (i := 5) [8, 7, 6] (v := ?v6) (by kernel_rfl) (by kernel_rfl) rfl (by kernel_rfl) (by kernel_rfl) (by kernel_rfl) (fun _ _ _ h => h) (Or.inl ⟨by rfl, ?y6⟩) hHeld ?r6
  case y6 => (intro w' hSw; (try dsimp only at hSw); go_simp; try with_reducible rfl)
  simp only [Act.put, List.getElem_toArray, List.getElem_cons_zero, List.getElem_cons_succ, List.setIfInBounds_toArray, List.set_cons_zero, List.set_cons_succ]
  refine Still.takeBy (i := 6) [8, 7] (v := ?v7) (by kernel_rfl) (by kernel_rfl) rfl (by kernel_rfl) (by kernel_rfl) (by kernel_rfl) (fun _ _ _ h => h) (Or.inl ⟨by rfl, ?y7⟩) hHeld ?r7
  case y7 => (intro w' hSw; (try dsimp only at hSw); go_simp; try with_reducible rfl)
  simp only [Act.put, List.getElem_toArray, List.getElem_cons_zero, List.getElem_cons_succ, List.setIfInBounds_toArray, List.set_cons_zero, List.set_cons_succ]
  refine Still.takeBy (i := 7) [8] (v := ?v8) (by kernel_rfl) (by kernel_rfl) rfl (by kernel_rfl) (by kernel_rfl) (by kernel_rfl) (fun _ _ _ h => h) (Or.inl ⟨by rfl, ?y8⟩) hHeld ?r8
  case y8 => (intro w' hSw; (try dsimp only at hSw); go_simp; try with_reducible rfl)
  simp only [Act.put, List.getElem_toArray, List.getElem_cons_zero, List.getElem_cons_succ, List.setIfInBounds_toArray, List.set_cons_zero, List.set_cons_succ]
  refine Still.takeBy (i := 8) [] (v := ?v9) (by kernel_rfl) (by kernel_rfl) rfl (by kernel_rfl) (by kernel_rfl) (by kernel_rfl) (fun _ _ _ h => h) (Or.inl ⟨by rfl, ?y9⟩) hHeld ?r9
  case y9 => (intro w' hSw; (try dsimp only at hSw); go_simp; try with_reducible rfl)
  simp only [Act.put, List.getElem_toArray, List.getElem_cons_zero, List.getElem_cons_succ, List.setIfInBounds_toArray, List.set_cons_zero, List.set_cons_succ]
  refine Still.all (rs := [9]) (by kernel_rfl) (by simp) (Still.one (i := 9) rfl rfl (fun K hK => ?_) (by simp))
  refine wp_call 175 _ _ rfl ent_tell #[.pointer (some ⟨g, 0, none⟩), .int .i64 (c.reg a)] (by first | rfl | simp [Act.eval, Act.put]) ((tell_any B w _ g base c o i x xs (c.reg a) ((H.out.alloc (.cells #[.int .i64 11, .int .i64 a, .int .i64 b, .int .i64 n] 83)).drew) hx).mono ?_)
  rintro e V ⟨rfl, o', hR⟩
  refine ⟨_, rfl, ?_⟩
  refine hK _ _ (fun h => absurd rfl h) (fun _ => ?_)
  clear hK K
  refine Still.over (by kernel_rfl) ?_ _
  have HR := Lib.hid hR
  clear hR
  have q0 : V.cell? ⟨g, 0, none⟩ = some (.int .i64 c.at_) := HR.out.r.cell rfl
  have q1 : V.frozen? ⟨g, 0, none⟩ = false := HR.out.r.fr _
  clear hHeld H k0 ka
  go_wp2
  go_end0
  exact ⟨rfl, o', HR.out.setAt _⟩
set_option maxRecDepth 100000 in
set_option maxHeartbeats 8000000 in
theorem do12 (B : Nat) (w W : World) (g base : Nat) (c : Cel) (o i : Value) (x : Wnt) (xs : List Int) (a b n : Int) (ha0 : 0 ≤ a) (ha1 : a < 4) (hb0 : 0 ≤ b) (hb1 : b < 4) (hat0 : 0 ≤ c.at_) (hat1 : c.at_ ≤ 20) (h : Rn B w W g base c o i x xs) :
    Calls Tryz.prog 163 #[.pointer (some ⟨g, 0, none⟩), .agg #[.int .i64 12, .int .i64 a, .int .i64 b, .int .i64 n]] W fun e W' => e = .returned (.tuple #[]) ∧ Rn B w W' g base { c with at_ := c.at_ + 1 } o i ⟨12, n, a, 0, c.reg a⟩ xs := by
  have hg : g < W.heap.size := h.lt
  have hg' : g ≠ W.heap.size := Nat.ne_of_lt hg
  have k0 : W.cell? ⟨g, 0, none⟩ = some (.int .i64 c.at_) := h.r.cell rfl
  have ka : W.cell? ⟨g, 1 + a.toNat, none⟩ = some (.int .i64 (c.reg a)) := h.r.cell (rcs_reg _ _ _ _ ha0 ha1)
  have u17 : W.cell? ⟨g, 17, none⟩ = some (.int .i64 x.k) := h.r.cell rfl
  have v17 : W.frozen? ⟨g, 17, none⟩ = false := h.r.fr _
  have u18 : W.cell? ⟨g, 18, none⟩ = some (.int .i64 x.ch) := h.r.cell rfl
  have v18 : W.frozen? ⟨g, 18, none⟩ = false := h.r.fr _
  have u19 : W.cell? ⟨g, 19, none⟩ = some (.int .i64 x.reg) := h.r.cell rfl
  have v19 : W.frozen? ⟨g, 19, none⟩ = false := h.r.fr _
  have u20 : W.cell? ⟨g, 20, none⟩ = some (.int .i64 x.flag) := h.r.cell rfl
  have v20 : W.frozen? ⟨g, 20, none⟩ = false := h.r.fr _
  have u21 : W.cell? ⟨g, 21, none⟩ = some (.int .i64 x.val) := h.r.cell rfl
  have v21 : W.frozen? ⟨g, 21, none⟩ = false := h.r.fr _
  have H := Lib.hid h
  clear h
  go_enter Tryz.func163, Tryz.ntmps163
  go_wp2
  go_region
  all_goals
    have H1 := Lib.hid (((H.out.wnt 12 n a 0 (c.reg a)).alloc (.cells #[.int .i64 12, .int .i64 a, .int .i64 b, .int .i64 n] 83)).drew)
    clear H k0 ka u17 u18 u19 u20 u21 v17 v18 v19 v20 v21
    generalize World.drew _ = W1 at H1 ⊢
    have q0 : W1.cell? ⟨g, 0, none⟩ = some (.int .i64 _) := H1.out.r.cell rfl
    have q1 : W1.frozen? ⟨g, 0, none⟩ = false := H1.out.r.fr _
    go_wp2
    go_end0
    exact ⟨rfl, H1.out.setAt _⟩
set_option maxRecDepth 100000 in
set_option maxHeartbeats 8000000 in
theorem do13 (B : Nat) (w W : World) (g base : Nat) (c : Cel) (o i : Value) (x : Wnt) (xs : List Int) (a b n : Int) (ha0 : 0 ≤ a) (ha1 : a < 4) (hb0 : 0 ≤ b) (hb1 : b < 4) (hat0 : 0 ≤ c.at_) (hat1 : c.at_ ≤ 20) (h : Rn B w W g base c o i x xs) :
    Calls Tryz.prog 163 #[.pointer (some ⟨g, 0, none⟩), .agg #[.int .i64 13, .int .i64 a, .int .i64 b, .int .i64 n]] W fun e W' => e = .returned (.tuple #[]) ∧ Rn B w W' g base { c with at_ := c.at_ + 1 } o i ⟨13, n, a, b, 0⟩ xs := by
  have hg : g < W.heap.size := h.lt
  have hg' : g ≠ W.heap.size := Nat.ne_of_lt hg
  have k0 : W.cell? ⟨g, 0, none⟩ = some (.int .i64 c.at_) := h.r.cell rfl
  have u17 : W.cell? ⟨g, 17, none⟩ = some (.int .i64 x.k) := h.r.cell rfl
  have v17 : W.frozen? ⟨g, 17, none⟩ = false := h.r.fr _
  have u18 : W.cell? ⟨g, 18, none⟩ = some (.int .i64 x.ch) := h.r.cell rfl
  have v18 : W.frozen? ⟨g, 18, none⟩ = false := h.r.fr _
  have u19 : W.cell? ⟨g, 19, none⟩ = some (.int .i64 x.reg) := h.r.cell rfl
  have v19 : W.frozen? ⟨g, 19, none⟩ = false := h.r.fr _
  have u20 : W.cell? ⟨g, 20, none⟩ = some (.int .i64 x.flag) := h.r.cell rfl
  have v20 : W.frozen? ⟨g, 20, none⟩ = false := h.r.fr _
  have u21 : W.cell? ⟨g, 21, none⟩ = some (.int .i64 x.val) := h.r.cell rfl
  have v21 : W.frozen? ⟨g, 21, none⟩ = false := h.r.fr _
  have f0 : W.frozen? ⟨g, 0, none⟩ = false := h.r.fr _
  have H := Lib.hid h
  clear h
  go_enter Tryz.func163, Tryz.ntmps163
  go_wp2
  go_end0
  exact ⟨rfl, ((H.out.wnt 13 n a b 0).setAt _).alloc (.cells #[.int .i64 13, .int .i64 a, .int .i64 b, .int .i64 n] 83)⟩
end Go.Proofs.YtehhhiodfcdnmaaGreatDoor

namespace Go.Proofs.YtehhhiodfcdnmaaGreatDoor
set_option linter.unusedSimpArgs false
set_option linter.unusedVariables false
open Go.RowKit Go.Sort
set_option maxRecDepth 10000 in
theorem chk0 {op a b n : Int} (h : chkI op a b n = 0) : (1 ≤ op ∧ op ≤ 15) ∧ (0 ≤ a ∧ a < 4) ∧ (0 ≤ b ∧ b < 4) ∧ ((op = 8 ∨ op = 9) → 0 ≤ n ∧ n ≤ 19) ∧ ((op = 12 ∨ op = 13) → 0 ≤ n ∧ n ≤ 5) := by
  unfold chkI at h
  split at h
  · omega
  · rename_i ho
    have hop : op = 1 ∨ op = 2 ∨ op = 3 ∨ op = 4 ∨ op = 5 ∨ op = 6 ∨ op = 7 ∨ op = 8 ∨ op = 9 ∨ op = 10 ∨ op = 11 ∨ op = 12 ∨ op = 13 ∨ op = 14 ∨ op = 15 := by omega
    rcases hop with rfl | rfl | rfl | rfl | rfl | rfl | rfl | rfl | rfl | rfl | rfl | rfl | rfl | rfl | rfl
    all_goals
      simp [chkRow, rowA, rowB, rowN, rowLo, rowHi, regB] at h
      omega
def doC (i : Ins) (inn xs : List Int) (c : Cel) (x : Wnt) : Option (Cel × List Int × Wnt) :=
  if i.op = 1 then some ({ c.setReg i.a i.n with at_ := c.at_ + 1 }, xs, x)
  else if i.op = 2 then some ({ c.setReg i.a (c.reg i.b) with at_ := c.at_ + 1 }, xs, x)
  else if i.op = 3 then some ({ c.setReg i.a (wrap64 (c.reg i.a + c.reg i.b)) with at_ := c.at_ + 1 }, xs, x)
  else if i.op = 4 then some ({ c.setReg i.a (wrap64 (c.reg i.a - c.reg i.b)) with at_ := c.at_ + 1 }, xs, x)
  else if i.op = 5 then some ({ c.setReg i.a (truthI (decide (c.reg i.a < c.reg i.b))) with at_ := c.at_ + 1 }, xs, x)
  else if i.op = 6 then (if c.reg i.b < 0 ∨ 8 ≤ c.reg i.b then none else some ({ c.setReg i.a (c.memo (c.reg i.b)) with at_ := c.at_ + 1 }, xs, x))
  else if i.op = 7 then (if c.reg i.b < 0 ∨ 8 ≤ c.reg i.b then none else some ({ c.setMem (c.reg i.b) (c.reg i.a) with at_ := c.at_ + 1 }, xs, x))
  else if i.op = 8 then some ({ c with at_ := i.n }, xs, x)
  else if i.op = 9 then some ({ c with at_ := if c.reg i.a = 0 then i.n else c.at_ + 1 }, xs, x)
  else if i.op = 10 then some ({ (takeC c inn.length).setReg i.a (takeI inn c.read) with at_ := c.at_ + 1 }, xs, x)
  else if i.op = 11 then some ({ c with at_ := c.at_ + 1 }, tellL xs (c.reg i.a), x)
  else if i.op = 12 then some ({ c with at_ := c.at_ + 1 }, xs, ⟨12, i.n, i.a, 0, c.reg i.a⟩)
  else if i.op = 13 then some ({ c with at_ := c.at_ + 1 }, xs, ⟨13, i.n, i.a, i.b, 0⟩)
  else if i.op = 14 then some ({ c with at_ := c.at_ + 1 }, xs, x)
  else some ({ c with en := 1, at_ := c.at_ }, xs, x)
theorem do_any (i : Ins) (hi : i.chk = 0) (B : Nat) (w W : World) (g base : Nat) (c : Cel) (o iv : Value) (x : Wnt) (xs inn : List Int) (hat0 : 0 ≤ c.at_) (hat1 : c.at_ ≤ 20) (hr0 : 0 ≤ c.read) (hr1 : c.read ≤ 12) (hx : xs.length ≤ 16)
    (hS : Sl W 1 iv inn.length (ints inn)) (h : Rn B w W g base c o iv x xs) :
    Calls Tryz.prog 163 #[.pointer (some ⟨g, 0, none⟩), i.v] W fun e W' =>
      (doC i inn xs c x = none ∧ e = .panicked faultE ∧ Rn B w W' g base c o iv x xs ∧ Below W.heap.size W W') ∨ (∃ c' xs' x' o', doC i inn xs c x = some (c', xs', x') ∧ e = .returned (.tuple #[]) ∧ Rn B w W' g base c' o' iv x' xs') := by
  obtain ⟨op, a, b, n⟩ := i
  obtain ⟨hop, ⟨ha0, ha1⟩, ⟨hb0, hb1⟩, hj, hc⟩ := chk0 (op := op) (a := a) (b := b) (n := n) hi
  have hop : op = 1 ∨ op = 2 ∨ op = 3 ∨ op = 4 ∨ op = 5 ∨ op = 6 ∨ op = 7 ∨ op = 8 ∨ op = 9 ∨ op = 10 ∨ op = 11 ∨ op = 12 ∨ op = 13 ∨ op = 14 ∨ op = 15 := by omega
  unfold Ins.v
  rcases hop with rfl | rfl | rfl | rfl | rfl | rfl | rfl | rfl | rfl | rfl | rfl | rfl | rfl | rfl | rfl
  · exact (do1 B w W g base c o iv x xs a b n ha0 ha1 hb0 hb1 hat0 hat1 h).mono fun e W' ⟨h1, h2⟩ => .inr ⟨_, _, _, _, by simp [doC], h1, h2⟩
  · exact (do2 B w W g base c o iv x xs a b n ha0 ha1 hb0 hb1 hat0 hat1 h).mono fun e W' ⟨h1, h2⟩ => .inr ⟨_, _, _, _, by simp [doC], h1, h2⟩
  · exact (do3 B w W g base c o iv x xs a b n ha0 ha1 hb0 hb1 hat0 hat1 h).mono fun e W' ⟨h1, h2⟩ => .inr ⟨_, _, _, _, by simp [doC], h1, h2⟩
  · exact (do4 B w W g base c o iv x xs a b n ha0 ha1 hb0 hb1 hat0 hat1 h).mono fun e W' ⟨h1, h2⟩ => .inr ⟨_, _, _, _, by simp [doC], h1, h2⟩
  · exact (do5 B w W g base c o iv x xs a b n ha0 ha1 hb0 hb1 hat0 hat1 h).mono fun e W' ⟨h1, h2⟩ => .inr ⟨_, _, _, _, by simp [doC], h1, h2⟩
  · by_cases hm : c.reg b < 0 ∨ 8 ≤ c.reg b
    · exact (do6_bad B w W g base c o iv x xs a b n ha0 ha1 hb0 hb1 hat0 hat1 hm h).mono fun e W' ⟨h1, h2⟩ => .inl ⟨by simp [doC, hm], h1, h2⟩
    · exact (do6 B w W g base c o iv x xs a b n ha0 ha1 hb0 hb1 hat0 hat1 (by omega) (by omega) h).mono fun e W' ⟨h1, h2⟩ => .inr ⟨_, _, _, _, by simp [doC, hm], h1, h2⟩
  · by_cases hm : c.reg b < 0 ∨ 8 ≤ c.reg b
    · exact (do7_bad B w W g base c o iv x xs a b n ha0 ha1 hb0 hb1 hat0 hat1 hm h).mono fun e W' ⟨h1, h2⟩ => .inl ⟨by simp [doC, hm], h1, h2⟩
    · exact (do7 B w W g base c o iv x xs a b n ha0 ha1 hb0 hb1 hat0 hat1 (by omega) (by omega) h).mono fun e W' ⟨h1, h2⟩ => .inr ⟨_, _, _, _, by simp [doC, hm], h1, h2⟩
  · exact (do8 B w W g base c o iv x xs a b n ha0 ha1 hb0 hb1 hat0 hat1 h).mono fun e W' ⟨h1, h2⟩ => .inr ⟨_, _, _, _, by simp [doC], h1, h2⟩
  · exact (do9 B w W g base c o iv x xs a b n ha0 ha1 hb0 hb1 hat0 hat1 h).mono fun e W' ⟨h1, h2⟩ => .inr ⟨_, _, _, _, by simp [doC], h1, h2⟩
  · exact (do10 B w W g base c o iv x xs a b n ha0 ha1 hb0 hb1 hat0 hat1 inn hS hr0 hr1 h).mono fun e W' ⟨h1, h2⟩ => .inr ⟨_, _, _, _, by simp [doC], h1, h2⟩
  · exact (do11 B w W g base c o iv x xs a b n ha0 ha1 hb0 hb1 hat0 hat1 hx h).mono fun e W' ⟨h1, o', h2⟩ => .inr ⟨_, _, _, o', by simp [doC], h1, h2⟩
  · exact (do12 B w W g base c o iv x xs a b n ha0 ha1 hb0 hb1 hat0 hat1 h).mono fun e W' ⟨h1, h2⟩ => .inr ⟨_, _, _, _, by simp [doC], h1, h2⟩
  · exact (do13 B w W g base c o iv x xs a b n ha0 ha1 hb0 hb1 hat0 hat1 h).mono fun e W' ⟨h1, h2⟩ => .inr ⟨_, _, _, _, by simp [doC], h1, h2⟩
  · exact (do14 B w W g base c o iv x xs a b n ha0 ha1 hb0 hb1 hat0 hat1 h).mono fun e W' ⟨h1, h2⟩ => .inr ⟨_, _, _, _, by simp [doC], h1, h2⟩
  · exact (do15 B w W g base c o iv x xs a b n ha0 ha1 hb0 hb1 hat0 hat1 h).mono fun e W' ⟨h1, h2⟩ => .inr ⟨_, _, _, _, by simp [doC], h1, h2⟩
def runC (l : List Ins) (inn xs : List Int) (c : Cel) (x : Wnt) : Cel × List Int × Wnt :=
  match l[c.at_.toNat]? with
  | none => ({ c with en := 2 }, xs, x)
  | some i => (doC i inn xs c x).getD ({ c with en := 2 }, xs, x)
end Go.Proofs.YtehhhiodfcdnmaaGreatDoor

namespace Go.Proofs.YtehhhiodfcdnmaaGreatDoor
set_option linter.unusedSimpArgs false
set_option linter.unusedVariables false
open Go.RowKit Go.Sort
theorem catch_panicking (V : World) (gb g : Nat) (v : Int) (u : TypeId) (pv : Value) (older : List PanicEntry) (hp : V.cell? ⟨gb, 0, none⟩ = some (.pointer (some ⟨g, 0, none⟩))) (hc : V.cell? ⟨g, 15, none⟩ = some (.int .i64 v)) (hz : V.frozen? ⟨g, 15, none⟩ = false) :
    CallsD Tryz.prog 162 #[.pointer (some ⟨gb, 0, none⟩)] (.panicking ({ v := .iface u pv, recovered := false } :: older)) V fun e u' V' =>
      e = .returned (.tuple #[]) ∧ u' = .panicking ({ v := .iface u pv, recovered := true } :: older) ∧ V' = V.setCell ⟨g, 15, none⟩ (.int .i64 2) := by
  refine callsD_of_wpS Tryz.func162 rfl fun c₀ cs hu => ?_
  apply wpS_seq
  apply wpS_region
  simp [wpOpsS, go_sem, recoverD, hu, Tryz.ntmps162, Exit.thenS]
  refine wpS_cond (t := true) (by simp [Act.eval, Array.replicate]) ?_
  simp only [if_true]
  apply wpS_region
  simp [wpOpsS, go_sem, hp, hc, hz, bodyPostS, results, Tryz.results162]
theorem catch_idle (V : World) (gb : Nat) :
    CallsD Tryz.prog 162 #[.pointer (some ⟨gb, 0, none⟩)] .returning V fun e u' V' => e = .returned (.tuple #[]) ∧ u' = .returning ∧ V' = V := by
  refine callsD_of_wpS Tryz.func162 rfl fun c₀ cs hu => ?_
  apply wpS_seq
  apply wpS_region
  simp [wpOpsS, go_sem, recoverD, hu, Tryz.ntmps162, Exit.thenS]
  refine wpS_cond (t := false) (by simp [Act.eval, Array.replicate]) ?_
  simp only [Bool.false_eq_true, if_false]
  refine wpS_of_wp (wp_skip ?_)
  cases c₀
  simp_all [bodyPostS, results, Tryz.results162]
end Go.Proofs.YtehhhiodfcdnmaaGreatDoor

namespace Go.Proofs.YtehhhiodfcdnmaaGreatDoor
set_option linter.unusedSimpArgs false
set_option linter.unusedVariables false
open Go.RowKit Go.Sort
theorem ent_fetch : Enters 164 := enters Tryz.func164 (by kernel_rfl) (by kernel_rfl)
theorem ent_do : Enters 163 := enters Tryz.func163 (by kernel_rfl) (by kernel_rfl)
theorem Rn.up {B : Nat} {w W W' : World} {g base : Nat} {c : Cel} {o i : Value} {x : Wnt} {xs : List Int} (h : Rn B w W g base c o i x xs) (hb : Below W.heap.size W W') : Rn B w W' g base c o i x xs :=
  ⟨h.r.up hb h.lt, h.d.trans (hb.mono (Nat.le_of_lt (Nat.lt_of_le_of_lt h.g0 h.lt))), own_up h.own hb (own_lt h.own), h.g0, h.b0, h.no, Nat.le_trans h.bs hb.size⟩
theorem leaves_tmps {P : Program} {fn : Func} {tmps tmps' : Array Value} {R : Ending → World → Prop} (h : ∀ w', (results fn tmps).run P w' = (results fn tmps').run P w') : ∀ (ds : List Deferred) (u : FrameMode) (w : World), Leaves P fn tmps R ds u w → Leaves P fn tmps' R ds u w
  | [], .returning, w, hl => by
    obtain ⟨v, h1, h2⟩ := hl
    exact ⟨v, (h w).symm.trans h1, h2⟩
  | [], .panicking _, _, hl => hl
  | [], .run, _, hl => hl
  | d :: ds, u, w, hl => by
    obtain ⟨h0, fv, cap, f, args, h1, h2, h3⟩ := hl
    refine ⟨h0, fv, cap, f, args, h1, h2, h3.mono ?_⟩
    rintro (v | ch | _) u' w' hq
    · exact leaves_tmps h ds _ _ hq
    · exact leaves_tmps h ds _ _ hq
    · exact hq
theorem step_panic {R : Ending → World → Prop} (dst : Option Tmp) (v : Value) (ch : List PanicEntry) (a : Act) (w : World) (h : bodyPostD Tryz.prog Tryz.f141 R (.panic ch) (a.put dst v) w) : bodyPostD Tryz.prog Tryz.f141 R (.panic ch) a w := by
  have hd : (a.put dst v).defers = a.defers := by cases dst <;> rfl
  change Leaves _ _ (a.put dst v).tmps R (a.put dst v).defers (.panicking ch) w at h
  change Leaves _ _ a.tmps R a.defers (.panicking ch) w
  rw [hd] at h
  refine leaves_tmps (fun w' => ?_) _ _ _ h
  simp [results, Tryz.results141]
theorem lt_of_cell {w : World} {a : Addr} {v : Value} (h : w.cell? a = some v) : a.block < w.heap.size := block_lt_of_cell h
set_option maxRecDepth 100000 in
set_option maxHeartbeats 4000000 in
theorem step_any (l : List Ins) (hl : firstE l = 0) (B : Nat) (w W : World) (g base : Nat) (c : Cel) (o iv v : Value) (x : Wnt) (xs inn : List Int) (hat0 : 0 ≤ c.at_) (hat1 : c.at_ ≤ 20) (hr0 : 0 ≤ c.read) (hr1 : c.read ≤ 12) (hx : xs.length ≤ 16)
    (hC : Sl W 4 v l.length (codeC l)) (hS : Sl W 1 iv inn.length (ints inn)) (h : Rn B w W g base c o iv x xs) :
    Calls Tryz.prog 141 #[.pointer (some ⟨g, 0, none⟩), v] W fun e W' => e = .returned (.tuple #[]) ∧ ∃ o', Rn B w W' g base (runC l inn xs c x).1 o' iv (runC l inn xs c x).2.2 (runC l inn xs c x).2.1 := by
  have hmf : ∀ (fn : Fn) (first cap : Array Value) (w : World), (Instr.makeFunc fn first cap).run Tryz.prog w = .ok (.func fn first cap) w := fun _ _ _ _ => rfl
  have hg : g < W.heap.size := h.lt
  have H := Lib.hid h
  have HC := Lib.hid hC
  have HS := Lib.hid hS
  have hB : Below W.heap.size W (W.alloc (.cells #[.pointer (some ⟨g, 0, none⟩)] 213)).drew := ((Below.refl _ _).alloc (Nat.le_refl _) _).drew
  have HB := Lib.hid hB
  obtain ⟨n, hn⟩ : ∃ n : Nat, c.at_ = n := ⟨c.at_.toNat, by omega⟩
  clear h hC hS hB
  by_cases hlt : n < l.length
  · have hck : l[n].chk = 0 := firstE_zero hl n hlt
    have hrun : runC l inn xs c x = (doC l[n] inn xs c x).getD ({ c with en := 2 }, xs, x) := by
      unfold runC
      rw [hn, Int.toNat_natCast, List.getElem?_eq_getElem hlt]
    have HR := Lib.hid hrun
    have HN := Lib.hid hn
    clear hrun hl
    go_enter_defers Tryz.func141, Tryz.ntmps141
    go_wp2
    refine region_still (S := fun w' => w'.cell? ⟨W.heap.size, 0, none⟩ = some (.pointer (some ⟨g, 0, none⟩))) 4 (by kernel_rfl) ((Rw.new W 213 _ rfl).cell rfl) (fun hHeld => ?_)
    refine Still.takeBy (i := 0) [] (v := ?v1) (by kernel_rfl) (by kernel_rfl) rfl (by kernel_rfl) (by kernel_rfl) (by kernel_rfl) (fun ch a w h => step_panic _ _ ch a w h) (Or.inl ⟨by rfl, ?y1⟩) hHeld ?r1
    case y1 => (intro w' hSw; (try dsimp only at hSw); go_simp; try with_reducible rfl)
    simp only [Act.put, List.getElem_toArray, List.getElem_cons_zero, List.getElem_cons_succ, List.setIfInBounds_toArray, List.set_cons_zero, List.set_cons_succ]
    refine Still.takeBy (i := 1) [3] (v := ?v2) (by kernel_rfl) (by kernel_rfl) rfl (by kernel_rfl) (by kernel_rfl) (by kernel_rfl) (fun ch a w h => step_panic _ _ ch a w h) (Or.inl ⟨by rfl, ?y2⟩) hHeld ?r2
    case y2 => (intro w' hSw; (try dsimp only at hSw); go_simp; try with_reducible rfl)
    simp only [Act.put, List.getElem_toArray, List.getElem_cons_zero, List.getElem_cons_succ, List.setIfInBounds_toArray, List.set_cons_zero, List.set_cons_succ]
    refine Still.takeBy (i := 2) [3] (v := ?v3) (by kernel_rfl) (by kernel_rfl) rfl (by kernel_rfl) (by kernel_rfl) (by kernel_rfl) (fun ch a w h => step_panic _ _ ch a w h) (Or.inl ⟨by rfl, ?y3⟩) hHeld ?r3
    case y3 => (intro w' hSw; (try dsimp only at hSw); go_simp; try with_reducible rfl)
    simp only [Act.put, List.getElem_toArray, List.getElem_cons_zero, List.getElem_cons_succ, List.setIfInBounds_toArray, List.set_cons_zero, List.set_cons_succ]
    refine Still.all (rs := [3]) (by kernel_rfl) (by simp) (Still.one (i := 3) rfl rfl (fun K hK => ?_) (by simp))
    refine wp_call 164 _ _ rfl ent_fetch #[.pointer (some ⟨g, 0, none⟩), v] (by first | rfl | simp [Act.eval, Act.put]) ((fetch_ok _ g l v n hlt (by rw [← HN.out]; exact (H.out.up HB.out).r.cell rfl) (H.out.up HB.out).lt (HC.out.up HB.out)).mono ?_)
    rintro e V ⟨rfl, hb⟩
    have hq : V.cell? ⟨W.heap.size, 0, none⟩ = some (.pointer (some ⟨g, 0, none⟩)) := bcl hb (by simp) ((Rw.new W 213 _ rfl).cell rfl)
    have HBB : Hid (Below W.heap.size W V) := HB.out.trans (hb.mono (by simp))
    refine ⟨_, rfl, hK _ _ (fun _ => hq) (fun _ => ?_)⟩
    clear hK K hb
    try simp only [Act.put, List.getElem_toArray, List.getElem_cons_zero, List.getElem_cons_succ, List.setIfInBounds_toArray, List.set_cons_zero, List.set_cons_succ]
    refine Still.all (rs := [4]) (by kernel_rfl) (by simp) (Still.one (i := 4) rfl rfl (fun K hK => ?_) (by simp))
    refine wp_call_or 163 _ _ rfl ent_do #[.pointer (some ⟨g, 0, none⟩), l[n].v] (by first | rfl | simp [Act.eval, Act.put]) faultE ((do_any l[n] hck B w V g base c o iv x xs inn hat0 hat1 hr0 hr1 hx (HS.out.up HBB.out) (H.out.up HBB.out)).mono ?_)
    rintro e V1 (⟨hd, rfl, hR, hb⟩ | ⟨c', xs', x', o', hd, rfl, hR⟩)
    · refine .inr ⟨rfl, ?_⟩
      clear hK K
      have hq1 := bcl hb (lt_of_cell hq) hq
      have HRR := Lib.hid hR
      have HE : Hid (runC l inn xs c x = ({ c with en := 2 }, xs, x)) := by
        show runC l inn xs c x = _
        rw [HR.out, hd]
        rfl
      clear hR hd hb HR
      refine leaves_cons (f := 162) (args := #[.pointer (some ⟨W.heap.size, 0, none⟩)]) (by simp) (by simp [go_sem]) ?_
      refine (catch_panicking V1 W.heap.size g c.en _ _ [] hq1 (HRR.out.r.cell rfl) (HRR.out.r.fr _)).mono ?_
      rintro e u' V2 ⟨rfl, rfl, rfl⟩
      refine ⟨.tuple #[], by simp [results, Tryz.results141], rfl, ?_⟩
      rw [HE.out]
      exact ⟨o, HRR.out.setEn 2⟩
    · refine .inl ⟨_, rfl, ?_⟩
      refine hK _ _ (fun h => absurd rfl h) (fun _ => ?_)
      clear hK K
      refine Still.over (by kernel_rfl) ?_ _
      have HRR := Lib.hid hR
      have HE : Hid (runC l inn xs c x = (c', xs', x')) := by
        show runC l inn xs c x = _
        rw [HR.out, hd]
        rfl
      clear hR hd HR
      go_wp2
      refine leaves_cons (f := 162) (args := #[.pointer (some ⟨W.heap.size, 0, none⟩)]) (by simp) (by simp [go_sem]) ?_
      refine (catch_idle V1 W.heap.size).mono ?_
      rintro e u' V2 ⟨rfl, rfl, rfl⟩
      refine ⟨.tuple #[], by simp [results, Tryz.results141], rfl, ?_⟩
      rw [HE.out]
      exact ⟨o', HRR.out⟩
  · have hrun : runC l inn xs c x = ({ c with en := 2 }, xs, x) := by
      unfold runC
      rw [hn, Int.toNat_natCast, List.getElem?_eq_none (by omega)]
    have HE := Lib.hid hrun
    have HN := Lib.hid hn
    obtain ⟨ao, cap, rfl⟩ := HC.out.form
    clear hrun hl
    go_enter_defers Tryz.func141, Tryz.ntmps141
    go_wp2
    refine region_still (S := fun w' => w'.cell? ⟨W.heap.size, 0, none⟩ = some (.pointer (some ⟨g, 0, none⟩))) 4 (by kernel_rfl) ((Rw.new W 213 _ rfl).cell rfl) (fun hHeld => ?_)
    refine Still.takeBy (i := 0) [] (v := ?v4) (by kernel_rfl) (by kernel_rfl) rfl (by kernel_rfl) (by kernel_rfl) (by kernel_rfl) (fun ch a w h => step_panic _ _ ch a w h) (Or.inl ⟨by rfl, ?y4⟩) hHeld ?r4
    case y4 => (intro w' hSw; (try dsimp only at hSw); go_simp; try with_reducible rfl)
    simp only [Act.put, List.getElem_toArray, List.getElem_cons_zero, List.getElem_cons_succ, List.setIfInBounds_toArray, List.set_cons_zero, List.set_cons_succ]
    refine Still.takeBy (i := 1) [3] (v := ?v5) (by kernel_rfl) (by kernel_rfl) rfl (by kernel_rfl) (by kernel_rfl) (by kernel_rfl) (fun ch a w h => step_panic _ _ ch a w h) (Or.inl ⟨by rfl, ?y5⟩) hHeld ?r5
    case y5 => (intro w' hSw; (try dsimp only at hSw); go_simp; try with_reducible rfl)
    simp only [Act.put, List.getElem_toArray, List.getElem_cons_zero, List.getElem_cons_succ, List.setIfInBounds_toArray, List.set_cons_zero, List.set_cons_succ]
    refine Still.takeBy (i := 2) [3] (v := ?v6) (by kernel_rfl) (by kernel_rfl) rfl (by kernel_rfl) (by kernel_rfl) (by kernel_rfl) (fun ch a w h => step_panic _ _ ch a w h) (Or.inl ⟨by rfl, ?y6⟩) hHeld ?r6
    case y6 => (intro w' hSw; (try dsimp only at hSw); go_simp; try with_reducible rfl)
    simp only [Act.put, List.getElem_toArray, List.getElem_cons_zero, List.getElem_cons_succ, List.setIfInBounds_toArray, List.set_cons_zero, List.set_cons_succ]
    refine Still.all (rs := [3]) (by kernel_rfl) (by simp) (Still.one (i := 3) rfl rfl (fun K hK => ?_) (by simp))
    refine wp_call_panic 164 _ _ rfl ent_fetch #[.pointer (some ⟨g, 0, none⟩), .slice ao l.length cap] (by first | rfl | simp [Act.eval, Act.put]) faultE ((fetch_bad _ g ao l.length cap n (by omega) (by rw [← HN.out]; exact (H.out.up HB.out).r.cell rfl) (H.out.up HB.out).lt).mono ?_)
    rintro e V1 ⟨rfl, hb⟩
    refine ⟨rfl, ?_⟩
    clear hK K
    have hq1 : V1.cell? ⟨W.heap.size, 0, none⟩ = some (.pointer (some ⟨g, 0, none⟩)) := bcl hb (by simp) ((Rw.new W 213 _ rfl).cell rfl)
    have HRR : Hid (Rn B w V1 g base c o iv x xs) := H.out.up (HB.out.trans (hb.mono (by simp)))
    clear hb
    refine leaves_cons (f := 162) (args := #[.pointer (some ⟨W.heap.size, 0, none⟩)]) (by simp) (by simp [go_sem]) ?_
    refine (catch_panicking V1 W.heap.size g c.en _ _ [] hq1 (HRR.out.r.cell rfl) (HRR.out.r.fr _)).mono ?_
    rintro e u' V2 ⟨rfl, rfl, rfl⟩
    refine ⟨.tuple #[], by simp [results, Tryz.results141], rfl, ?_⟩
    rw [HE.out]
    exact ⟨o, HRR.out.setEn 2⟩
end Go.Proofs.YtehhhiodfcdnmaaGreatDoor

namespace Go.Proofs.YtehhhiodfcdnmaaGreatDoor
set_option linter.unusedSimpArgs false
set_option linter.unusedVariables false
open Go.RowKit Go.Sort
theorem ent_copied : Enters 140 := enters Tryz.func140 (by kernel_rfl) (by kernel_rfl)
theorem build_runner (c : Cel) (o : Value) (a : Option Addr) (n k : Nat) (w : World) : (Instr.build 185 #[(0, .agg (c.cs o)), (1, .slice a n k)]).run Tryz.prog w = .ok (.agg (rcs c o (.slice a n k) wntZ)) w := run_build w _ _ _ (by kernel_rfl)
def Wnt.cs (x : Wnt) : Array Value := #[.int .i64 x.k, .int .i64 x.ch, .int .i64 x.reg, .int .i64 x.flag, .int .i64 x.val]
theorem Wnt.v_cs (x : Wnt) : x.v = .agg x.cs := rfl
theorem sizeRunner : (Tryz.prog.info? 185).map (·.size) = some 22 := by kernel_rfl
theorem load_cell {W : World} {g : Nat} {c : Cel} {o i : Value} {x : Wnt} (h : Rw W g 185 (rcs c o i x)) : (Instr.loadAt 35 (.pointer (some ⟨g, 0, none⟩))).run Tryz.prog W = .ok (.agg (c.cs o)) W := by
  refine run_loadAt_mid W g 0 35 (c.cs o).toList _ (fun j v hj => ?_) Tryz.underlying35 rfl sizeCell
  rw [Nat.zero_add]
  refine h.cell ?_
  have hj' : j < 16 := by have := (List.getElem?_eq_some_iff.1 hj).1; simpa [Cel.cs] using this
  have : j = 0 ∨ j = 1 ∨ j = 2 ∨ j = 3 ∨ j = 4 ∨ j = 5 ∨ j = 6 ∨ j = 7 ∨ j = 8 ∨ j = 9 ∨ j = 10 ∨ j = 11 ∨ j = 12 ∨ j = 13 ∨ j = 14 ∨ j = 15 := by omega
  rcases this with rfl | rfl | rfl | rfl | rfl | rfl | rfl | rfl | rfl | rfl | rfl | rfl | rfl | rfl | rfl | rfl <;> exact hj
theorem load_want {W : World} {g : Nat} {c : Cel} {o i : Value} {x : Wnt} (h : Rw W g 185 (rcs c o i x)) : (Instr.loadAt 124 (.pointer (some ⟨g, 17, none⟩))).run Tryz.prog W = .ok (.agg x.cs) W := by
  refine run_loadAt_mid W g 17 124 x.cs.toList _ (fun j v hj => ?_) Tryz.underlying124 rfl sizeWant
  refine h.cell ?_
  have hj' : j < 5 := by have := (List.getElem?_eq_some_iff.1 hj).1; simpa [Wnt.cs] using this
  have : j = 0 ∨ j = 1 ∨ j = 2 ∨ j = 3 ∨ j = 4 := by omega
  rcases this with rfl | rfl | rfl | rfl | rfl <;> exact hj
theorem Wnt.cs_one (x : Wnt) : x.cs.all (·.oneCell') = true := by
  simp [Wnt.cs]
  simp [Value.oneCell']
theorem rcs_one (c : Cel) (o i : Value) (x : Wnt) (h : o.oneCell' = true) (h' : i.oneCell' = true) : (rcs c o i x).all (·.oneCell') = true := by
  simp [rcs, h, h']
  simp [Value.oneCell']
def stepC (l : List Ins) (inn xs : List Int) (c : Cel) : Cel × List Int × Wnt := if c.en = 0 then runC l inn xs c wntZ else (c, xs, wntZ)
structure Sp (w W : World) (g base : Nat) (c : Cel) (o i : Value) (x : Wnt) (xs : List Int) (v : Value) : Prop where
  rn : Rn w.heap.size w W g base c o i x xs
  r0 : Rw W w.heap.size 49 #[v, i]
  r2 : Rw W (w.heap.size + 2) 35 (celZ.cs (.slice none 0 0))
  r3 : Rw W (w.heap.size + 3) 124 wntZ.cs
  g4 : w.heap.size + 4 ≤ g
  b4 : w.heap.size + 4 ≤ base
set_option maxRecDepth 100000 in
set_option maxHeartbeats 8000000 in
theorem cellStep_ok (l : List Ins) (inn xs : List Int) (v iv ov : Value) (c : Cel) (hl : chkC l = 0) (hi : inn.length ≤ 12) (hf : c.fine xs.length = true) (hr : c.read ≤ inn.length) (w : World) (he : Env w) (hC : Sl w 4 v l.length (codeC l)) (hI : Sl w 1 iv inn.length (ints inn)) (hO : Sl w 1 ov xs.length (ints xs)) :
    Calls Tryz.prog 109 #[partV v iv, c.v ov] w fun e w' => ∃ o', e = .returned (.tuple #[(stepC l inn xs c).1.v o', (stepC l inn xs c).2.2.v, .int .i64 0]) ∧ w'.ownsRow w.heap.size 3 1 o' (stepC l inn xs c).2.1.length (ints (stepC l inn xs c).2.1) ∧ Below w.heap.size w w' := by
  obtain ⟨iao, icap, rfl⟩ := hI.form
  obtain ⟨ao, cap, rfl⟩ := hO.form
  obtain ⟨cao, ccap, rfl⟩ := hC.form
  have hfi := (fine_iff c _).1 hf
  have hE : stepE (chkC l) inn.length true c.read = 0 := by
    unfold stepE
    rw [hl, if_neg (by simp), if_neg (by omega), if_neg (by simp), if_neg (by omega)]
  have hfe : firstE l = 0 := by
    unfold chkC at hl
    split at hl
    · omega
    · exact hl
  have HC := Lib.hid fun w he hS => hE ▸ checkStep_any l (.slice cao l.length ccap) iao inn.length icap c ao xs.length cap (chkC l) rfl true hf w he hS
  have HE := Lib.hid he
  have HS := Lib.hid hC
  have HI := Lib.hid hI
  have HO := Lib.hid hO
  clear hE hf hl he hC hI hO
  rw [Cel.v_cs] at HC
  rw [Cel.v_cs]
  unfold partV at HC
  unfold partV
  go_enter Tryz.func109, Tryz.ntmps109
  go_wp2_with (refine wpList_load_row rfl 35 (.tmp 3) rfl (w.heap.size + 1) rfl 35 (c.cs (.slice ao xs.length cap)) (0, 0) _ (by repeat (first | exact Rw.new _ _ _ (by first | rfl | (simp; done) | omega | (simp; omega)) | refine Rw.alloc ?_ _)) Tryz.underlying35 rfl sizeCell ?_)
  refine (HC.out _ (HE.out.up (by repeat (first | exact Below.refl _ _ | assumption | refine Below.drew ?_ | refine Below.alloc ?_ (by first | (simp; done) | (simp; omega)) _ | refine Below.setCell ?_ (by first | (simp; done) | (simp; omega)) _))) (HS.out.up (by repeat (first | exact Below.refl _ _ | assumption | refine Below.drew ?_ | refine Below.alloc ?_ (by first | (simp; done) | (simp; omega)) _ | refine Below.setCell ?_ (by first | (simp; done) | (simp; omega)) _)))).mono ?_
  rintro e W ⟨rfl, b1⟩
  have D : Below w.heap.size w W := by
    refine Below.trans ?_ (b1.mono (by first | omega | (simp; done) | (simp; omega)))
    exact (by repeat (first | exact Below.refl _ _ | assumption | refine Below.drew ?_ | refine Below.alloc ?_ (by first | (simp; done) | (simp; omega)) _ | refine Below.setCell ?_ (by first | (simp; done) | (simp; omega)) _))
  have z : w.heap.size + 4 ≤ W.heap.size := by have := b1.size; simp at this; omega
  have r0 : Rw W w.heap.size 49 #[.slice cao l.length ccap, .slice iao inn.length icap] := Rw.up (by repeat (first | exact Rw.new _ _ _ (by first | rfl | (simp; done) | omega | (simp; omega)) | refine Rw.alloc ?_ _)) b1 (by first | omega | (simp; done) | (simp; omega))
  have r1 : Rw W (w.heap.size + 1) 35 (c.cs (.slice ao xs.length cap)) := Rw.up (by repeat (first | exact Rw.new _ _ _ (by first | rfl | (simp; done) | omega | (simp; omega)) | refine Rw.alloc ?_ _)) b1 (by first | omega | (simp; done) | (simp; omega))
  have r2 : Rw W (w.heap.size + 2) 35 (celZ.cs (.slice none 0 0)) := Rw.up (by repeat (first | exact Rw.new _ _ _ (by first | rfl | (simp; done) | omega | (simp; omega)) | refine Rw.alloc ?_ _)) b1 (by first | omega | (simp; done) | (simp; omega))
  have r3 : Rw W (w.heap.size + 3) 124 wntZ.cs := Rw.up (by repeat (first | exact Rw.new _ _ _ (by first | rfl | (simp; done) | omega | (simp; omega)) | refine Rw.alloc ?_ _)) b1 (by first | omega | (simp; done) | (simp; omega))
  have R0 := Lib.hid r0
  have R1 := Lib.hid r1
  have R2 := Lib.hid r2
  have R3 := Lib.hid r3
  have HD := Lib.hid D
  clear b1 HC r0 r1 r2 r3 D
  go_wp2
  go_cut [8] from 9 (fun p wc => ∃ g base ao' cap', p = .pointer (some ⟨g, 0, none⟩) ∧ Hid (Sp w wc g base c (.slice ao' xs.length cap') (.slice iao inn.length icap) wntZ xs (.slice cao l.length ccap)))
  case first =>
    refine region_still (S := fun w' => Rw w' (w.heap.size + 1) 35 (c.cs (.slice ao xs.length cap)) ∧ Rw w' w.heap.size 49 #[.slice cao l.length ccap, .slice iao inn.length icap]) 6 (by kernel_rfl) ⟨R1.out, R0.out⟩ (fun hHeld => ?_)
    refine Still.takeBy (i := 0) [] (by kernel_rfl) (by kernel_rfl) rfl (by kernel_rfl) (by kernel_rfl) (by kernel_rfl) (fun _ _ _ h => h) (yields_load rfl _ _ rfl _ (by first | rfl | simp [Act.eval, Act.put]) _ (fun w' hSw => Rw.loadAt hSw.1 Tryz.underlying35 rfl sizeCell)) hHeld ?r1
    simp only [Act.put, List.getElem_toArray, List.getElem_cons_zero, List.getElem_cons_succ, List.setIfInBounds_toArray, List.set_cons_zero, List.set_cons_succ]
    refine Still.takeBy (i := 2) [] (v := ?v2) (by kernel_rfl) (by kernel_rfl) rfl (by kernel_rfl) (by kernel_rfl) (by kernel_rfl) (fun _ _ _ h => h) (Or.inl ⟨by rfl, ?y2⟩) hHeld ?r2
    case y2 => (intro w' hSw; (try dsimp only at hSw); have q2 := hSw.2.cell (j := 1) (v := .slice iao inn.length icap) rfl; clear hSw; go_simp; try with_reducible rfl)
    simp only [Act.put, List.getElem_toArray, List.getElem_cons_zero, List.getElem_cons_succ, List.setIfInBounds_toArray, List.set_cons_zero, List.set_cons_succ]
    refine Still.takeBy (i := 3) [] (v := ?v3) (by kernel_rfl) (by kernel_rfl) rfl (by kernel_rfl) (by kernel_rfl) (by kernel_rfl) (fun _ _ _ h => h) (Or.inl ⟨by rfl, ?y3⟩) hHeld ?r3
    case y3 => (intro w' hSw; (try dsimp only at hSw); have q2 := hSw.2.cell (j := 1) (v := .slice iao inn.length icap) rfl; clear hSw; go_simp; try with_reducible rfl)
    simp only [Act.put, List.getElem_toArray, List.getElem_cons_zero, List.getElem_cons_succ, List.setIfInBounds_toArray, List.set_cons_zero, List.set_cons_succ]
    refine Still.all (rs := [1, 5]) (by kernel_rfl) (by simp) ?_
    refine Still.one (i := 1) rfl rfl (fun K hK => ?_) (Still.one (i := 5) rfl rfl (fun K hK => ?_) (by simp))
    · refine wp_call 140 _ _ rfl ent_copied #[.agg (c.cs (.slice ao xs.length cap))] (by first | rfl | simp [Act.eval, Act.put]) ((copied_any c xs (by omega) _ _ (HO.out.up HD.out.drew)).mono ?_)
      rintro e V ⟨v', rfl, o1, b1⟩
      refine ⟨_, rfl, hK _ _ (fun _ => ⟨hHeld.1.up b1 (by simp; omega), hHeld.2.up b1 (by simp; omega)⟩) (fun hh => ?_)⟩
      have hHeld := hh (by decide)
      clear hK K hh
      rw [Cel.v_cs]
      try simp only [Act.put, List.getElem_toArray, List.getElem_cons_zero, List.getElem_cons_succ, List.setIfInBounds_toArray, List.set_cons_zero, List.set_cons_succ]
      have o1l := own_lt o1
      have o1b := own_block o1
      have z1 := b1.size
      simp at z1 o1b
      obtain ⟨ao', cap', rfl⟩ := own_form o1
      refine Still.takeBy (i := 4) [] (by kernel_rfl) (by kernel_rfl) rfl (by kernel_rfl) (by kernel_rfl) (by kernel_rfl) (fun _ _ _ h => h) (yields_build rfl _ _ rfl #[(0, .agg (c.cs (.slice ao' xs.length cap'))), (1, .slice iao inn.length icap)] (by first | rfl | simp [Act.eval, Act.put]) _ (build_runner c (.slice ao' xs.length cap') iao inn.length icap)) hHeld ?r51
      simp only [Act.put, List.getElem_toArray, List.getElem_cons_zero, List.getElem_cons_succ, List.setIfInBounds_toArray, List.set_cons_zero, List.set_cons_succ]
      refine Still.all (rs := [5]) (by kernel_rfl) (by simp) (Still.one (i := 5) rfl rfl (fun K hK => ?_) (by simp))
      go_simp
      refine hK _ _ (fun _ => ⟨hHeld.1.alloc _, hHeld.2.alloc _⟩) (fun hh => ?_)
      have hHeld := hh (by decide)
      clear hK K hh
      try simp only [Act.put, List.getElem_toArray, List.getElem_cons_zero, List.getElem_cons_succ, List.setIfInBounds_toArray, List.set_cons_zero, List.set_cons_succ]
      refine Still.all (rs := [6]) (by kernel_rfl) (by simp) (Still.one (i := 6) rfl rfl (fun K hK => ?_) (by simp))
      refine wp_store_row 185 _ _ rfl V.heap.size (rcs c (.slice ao' xs.length cap') (.slice iao inn.length icap) wntZ) (by first | rfl | simp [Act.eval, Act.put]) (by first | rfl | simp [Act.eval, Act.put]) 185 (rcs celZ (.slice none 0 0) (.slice none 0 0) wntZ) (Rw.new V 185 _ rfl) sizeRunner rfl (rcs_one _ _ _ _ rfl rfl) ?_
      refine hK _ _ (fun h => absurd rfl h) (fun _ => ?_)
      clear hK K
      refine Still.over (by kernel_rfl) ?_ _
      have b2 : Below V.heap.size V (V.alloc (.cells (rcs celZ (.slice none 0 0) (.slice none 0 0) wntZ) 185)) := (Below.refl _ _).alloc (Nat.le_refl _) _
      clear hHeld
      go_wp2
      go_meet
      exact ⟨V.heap.size, W.heap.size, ao', cap', rfl, ⟨⟨Rw.row (Rw.new V 185 (rcs celZ (.slice none 0 0) (.slice none 0 0) wntZ) rfl) _, below_row ((HD.out.drew.trans (b1.mono (B' := w.heap.size) (by simp; omega))).trans (b2.mono (by omega))) (by omega) _, own_row (own_up o1 b2 o1l) _ (fun e => by have := o1l _ e; omega), by omega, by omega, fun k e => by have := o1l k e; omega, by simp; omega⟩, Rw.row_other ((Rw.up (w := W.drew) R0.out b1 (by simp; omega)).alloc _) _ (by omega), Rw.row_other ((Rw.up (w := W.drew) R2.out b1 (by simp; omega)).alloc _) _ (by omega), Rw.row_other ((Rw.up (w := W.drew) R3.out b1 (by simp; omega)).alloc _) _ (by omega), by omega, by omega⟩⟩
    · go_simp
      refine hK _ _ (fun _ => ⟨hHeld.1.alloc _, hHeld.2.alloc _⟩) (fun hh => ?_)
      have hHeld := hh (by decide)
      clear hK K hh
      try simp only [Act.put, List.getElem_toArray, List.getElem_cons_zero, List.getElem_cons_succ, List.setIfInBounds_toArray, List.set_cons_zero, List.set_cons_succ]
      refine Still.all (rs := [1]) (by kernel_rfl) (by simp) (Still.one (i := 1) rfl rfl (fun K hK => ?_) (by simp))
      refine wp_call 140 _ _ rfl ent_copied #[.agg (c.cs (.slice ao xs.length cap))] (by first | rfl | simp [Act.eval, Act.put]) ((copied_any c xs (by omega) _ _ (HO.out.up (HD.out.drew.alloc (by simp; omega) _))).mono ?_)
      rintro e V ⟨v', rfl, o1, b1⟩
      refine ⟨_, rfl, hK _ _ (fun _ => ⟨hHeld.1.up b1 (by simp; omega), hHeld.2.up b1 (by simp; omega)⟩) (fun hh => ?_)⟩
      have hHeld := hh (by decide)
      clear hK K hh
      rw [Cel.v_cs]
      try simp only [Act.put, List.getElem_toArray, List.getElem_cons_zero, List.getElem_cons_succ, List.setIfInBounds_toArray, List.set_cons_zero, List.set_cons_succ]
      have o1l := own_lt o1
      have o1b := own_block o1
      have z1 := b1.size
      simp at z1 o1b
      obtain ⟨ao', cap', rfl⟩ := own_form o1
      refine Still.takeBy (i := 4) [] (by kernel_rfl) (by kernel_rfl) rfl (by kernel_rfl) (by kernel_rfl) (by kernel_rfl) (fun _ _ _ h => h) (yields_build rfl _ _ rfl #[(0, .agg (c.cs (.slice ao' xs.length cap'))), (1, .slice iao inn.length icap)] (by first | rfl | simp [Act.eval, Act.put]) _ (build_runner c (.slice ao' xs.length cap') iao inn.length icap)) hHeld ?r81
      simp only [Act.put, List.getElem_toArray, List.getElem_cons_zero, List.getElem_cons_succ, List.setIfInBounds_toArray, List.set_cons_zero, List.set_cons_succ]
      refine Still.all (rs := [6]) (by kernel_rfl) (by simp) (Still.one (i := 6) rfl rfl (fun K hK => ?_) (by simp))
      have rz : Rw V W.heap.size 185 (rcs celZ (.slice none 0 0) (.slice none 0 0) wntZ) := Rw.up (w := W.drew.alloc _) (Rw.new W.drew 185 _ rfl) b1 (by simp)
      refine wp_store_row 185 _ _ rfl W.heap.size (rcs c (.slice ao' xs.length cap') (.slice iao inn.length icap) wntZ) (by first | rfl | simp [Act.eval, Act.put]) (by first | rfl | simp [Act.eval, Act.put]) 185 (rcs celZ (.slice none 0 0) (.slice none 0 0) wntZ) rz sizeRunner rfl (rcs_one _ _ _ _ rfl rfl) ?_
      refine hK _ _ (fun h => absurd rfl h) (fun _ => ?_)
      clear hK K
      refine Still.over (by kernel_rfl) ?_ _
      clear hHeld
      go_wp2
      go_meet
      exact ⟨W.heap.size, (W.heap.size + 1), ao', cap', rfl, ⟨⟨Rw.row rz _, below_row ((HD.out.drew.alloc (by simp; omega) _).trans (b1.mono (by simp; omega))) (by omega) _, own_row (by simpa using o1) _ (fun e => by have := o1b _ e; omega), by omega, by omega, fun k e => by have := o1b k e; omega, by simp; omega⟩, Rw.row_other (Rw.up (w := W.drew.alloc _) (Rw.alloc (w := W.drew) R0.out _) b1 (by simp; omega)) _ (by omega), Rw.row_other (Rw.up (w := W.drew.alloc _) (Rw.alloc (w := W.drew) R2.out _) b1 (by simp; omega)) _ (by omega), Rw.row_other (Rw.up (w := W.drew.alloc _) (Rw.alloc (w := W.drew) R3.out _) b1 (by simp; omega)) _ (by omega), by omega, by omega⟩⟩
  case rest =>
    obtain ⟨g, base, ao', cap', rfl, H⟩ := hcut
    have k15 : wc.cell? ⟨g, 15, none⟩ = some (.int .i64 c.en) := H.out.rn.r.cell rfl
    have p0 : wc.cell? ⟨w.heap.size, 0, none⟩ = some (.slice cao l.length ccap) := H.out.r0.cell rfl
    obtain ⟨iv, hiv⟩ : ∃ iv, iv = Value.slice iao inn.length icap := ⟨_, rfl⟩
    rw [← hiv] at H HI
    clear R0 R1 R2 R3 HD hiv
    by_cases hen : c.en = 0
    · have HST : Hid (stepC l inn xs c = runC l inn xs c wntZ) := by
        show stepC l inn xs c = _
        unfold stepC
        rw [if_pos hen]
      rw [hen] at k15
      go_wp2_with fail
      refine (step_any l hfe (w.heap.size + 4) wc wc g base c (.slice ao' xs.length cap') iv (.slice cao l.length ccap) wntZ xs inn hfi.1 hfi.2.1 hfi.2.2.1 hfi.2.2.2.1 hfi.2.2.2.2.2.2 (HS.out.up H.out.rn.d) (HI.out.up H.out.rn.d) ⟨H.out.rn.r, Below.refl _ _, H.out.rn.own, H.out.g4, H.out.b4, H.out.rn.no, H.out.rn.bs⟩).mono ?_
      rintro e V ⟨rfl, o', hR⟩
      generalize hrun : runC l inn xs c wntZ = r at hR HST
      obtain ⟨c', xs', x'⟩ := r
      simp only at hR
      obtain ⟨ao2, cap2, rfl⟩ := own_form hR.own
      have H2 : Hid (Sp w V g base c' (.slice ao2 xs'.length cap2) iv x' xs' (.slice cao l.length ccap)) :=
        ⟨⟨hR.r, H.out.rn.d.trans (hR.d.mono (by omega)), hR.own, H.out.rn.g0, H.out.rn.b0, hR.no, hR.bs⟩, H.out.r0.up hR.d (by omega), H.out.r2.up hR.d (by omega), H.out.r3.up hR.d (by omega), H.out.g4, H.out.b4⟩
      clear hR hrun H k15 p0
      go_wp2
      have hg4 := H2.out.g4
      refine region_still (S := fun w' => Rw w' g 185 (rcs c' (.slice ao2 xs'.length cap2) iv x')) 6 (by kernel_rfl) H2.out.rn.r (fun hHeld => ?_)
      refine Still.takeBy (i := 0) [] (v := ?v201) (by kernel_rfl) (by kernel_rfl) rfl (by kernel_rfl) (by kernel_rfl) (by kernel_rfl) (fun _ _ _ h => h) (Or.inl ⟨by rfl, ?y201⟩) hHeld ?r201
      case y201 => (intro w' hSw; (try dsimp only at hSw); go_simp; try with_reducible rfl)
      simp only [Act.put, List.getElem_toArray, List.getElem_cons_zero, List.getElem_cons_succ, List.setIfInBounds_toArray, List.set_cons_zero, List.set_cons_succ]
      refine Still.takeBy (i := 1) [] (by kernel_rfl) (by kernel_rfl) rfl (by kernel_rfl) (by kernel_rfl) (by kernel_rfl) (fun _ _ _ h => h) (yields_load rfl _ _ rfl _ (by first | rfl | simp [Act.eval, Act.put]) _ (fun w' hSw => load_cell hSw)) hHeld ?r202
      simp only [Act.put, List.getElem_toArray, List.getElem_cons_zero, List.getElem_cons_succ, List.setIfInBounds_toArray, List.set_cons_zero, List.set_cons_succ]
      refine Still.takeBy (i := 2) [] (v := ?v203) (by kernel_rfl) (by kernel_rfl) rfl (by kernel_rfl) (by kernel_rfl) (by kernel_rfl) (fun _ _ _ h => h) (Or.inl ⟨by rfl, ?y203⟩) hHeld ?r203
      case y203 => (intro w' hSw; (try dsimp only at hSw); go_simp; try with_reducible rfl)
      simp only [Act.put, List.getElem_toArray, List.getElem_cons_zero, List.getElem_cons_succ, List.setIfInBounds_toArray, List.set_cons_zero, List.set_cons_succ]
      refine Still.takeBy (i := 3) [] (by kernel_rfl) (by kernel_rfl) rfl (by kernel_rfl) (by kernel_rfl) (by kernel_rfl) (fun _ _ _ h => h) (yields_load rfl _ _ rfl _ (by first | rfl | simp [Act.eval, Act.put]) _ (fun w' hSw => load_want hSw)) hHeld ?r204
      simp only [Act.put, List.getElem_toArray, List.getElem_cons_zero, List.getElem_cons_succ, List.setIfInBounds_toArray, List.set_cons_zero, List.set_cons_succ]
      refine Still.all (rs := [4]) (by kernel_rfl) (by simp) (Still.one (i := 4) rfl rfl (fun K hK => ?_) (by simp))
      refine wp_store_row 35 _ _ rfl (w.heap.size + 2) (Cel.cs c' (.slice ao2 xs'.length cap2)) (by first | rfl | simp [Act.eval, Act.put]) (by first | rfl | simp [Act.eval, Act.put]) 35 _ H2.out.r2 sizeCell rfl (Cel.cs_one _ _ rfl) ?_
      refine hK _ _ (fun _ => hHeld.row_other _ (by omega)) (fun _ => ?_)
      clear hK K hHeld
      try simp only [Act.put, List.getElem_toArray, List.getElem_cons_zero, List.getElem_cons_succ, List.setIfInBounds_toArray, List.set_cons_zero, List.set_cons_succ]
      have hHeld : Rw (World.setRow (World.drew V) (w.heap.size + 2) (Cel.cs c' (.slice ao2 xs'.length cap2))) g 185 (rcs c' (.slice ao2 xs'.length cap2) iv x') := Rw.row_other (w := World.drew V) H2.out.rn.r _ (by omega)
      refine Still.all (rs := [5]) (by kernel_rfl) (by simp) (Still.one (i := 5) rfl rfl (fun K hK => ?_) (by simp))
      refine wp_store_row 124 _ _ rfl (w.heap.size + 3) (Wnt.cs x') (by first | rfl | simp [Act.eval, Act.put]) (by first | rfl | simp [Act.eval, Act.put]) 124 _ (Rw.row_other (w := World.drew V) H2.out.r3 _ (by omega)) sizeWant rfl (Wnt.cs_one _) ?_
      refine hK _ _ (fun _ => Rw.row_other hHeld _ (by omega)) (fun _ => ?_)
      clear hK K
      try simp only [Act.put, List.getElem_toArray, List.getElem_cons_zero, List.getElem_cons_succ, List.setIfInBounds_toArray, List.set_cons_zero, List.set_cons_succ]
      refine Still.all (rs := [6]) (by kernel_rfl) (by simp) (Still.one (i := 6) rfl rfl (fun K hK => ?_) (by simp))
      go_simp
      refine hK _ _ (fun h => absurd rfl h) (fun _ => ?_)
      clear hK K
      refine Still.over (by kernel_rfl) ?_ _
      clear hHeld
      go_wp2
      refine bodyPost_ret (results_row2_tmp Tryz.results109 _ _ (w.heap.size + 2) (w.heap.size + 3) _ _ _ rfl rfl rfl (run_loadVar_row _ _ 35 _ (Cel.cs c' (.slice ao2 xs'.length cap2)) (0, 0) _ (Rw.row_other (Rw.row (w := World.drew V) H2.out.r2 _) _ (by omega)) Tryz.underlying35 rfl sizeCell) (run_loadVar_row _ _ 124 _ (Wnt.cs x') (0, 0) _ (Rw.row (Rw.row_other (w := World.drew V) H2.out.r3 _ (by omega)) _) Tryz.underlying124 rfl sizeWant)) rfl ⟨_, by rw [HST.out]; rfl, by rw [HST.out]; exact own_low (own_row (own_row (w := World.drew V) H2.out.rn.own _ (fun e => by have := own_block H2.out.rn.own _ e; have := H2.out.b4; omega)) _ (fun e => by have := own_block H2.out.rn.own _ e; have := H2.out.b4; omega)) (by have := H2.out.b4; omega), below_row (below_row H2.out.rn.d.drew (by omega) _) (by omega) _⟩
    · have hen' : (c.en == 0) = false := by simpa using hen
      have HST : Hid (stepC l inn xs c = (c, xs, wntZ)) := by
        show stepC l inn xs c = _
        unfold stepC
        rw [if_neg hen]
      clear hen p0
      go_wp2
      have hg4 := H.out.g4
      refine region_still (S := fun w' => Rw w' g 185 (rcs c (.slice ao' xs.length cap') iv wntZ)) 6 (by kernel_rfl) H.out.rn.r (fun hHeld => ?_)
      refine Still.takeBy (i := 0) [] (v := ?v301) (by kernel_rfl) (by kernel_rfl) rfl (by kernel_rfl) (by kernel_rfl) (by kernel_rfl) (fun _ _ _ h => h) (Or.inl ⟨by rfl, ?y301⟩) hHeld ?r301
      case y301 => (intro w' hSw; (try dsimp only at hSw); go_simp; try with_reducible rfl)
      simp only [Act.put, List.getElem_toArray, List.getElem_cons_zero, List.getElem_cons_succ, List.setIfInBounds_toArray, List.set_cons_zero, List.set_cons_succ]
      refine Still.takeBy (i := 1) [] (by kernel_rfl) (by kernel_rfl) rfl (by kernel_rfl) (by kernel_rfl) (by kernel_rfl) (fun _ _ _ h => h) (yields_load rfl _ _ rfl _ (by first | rfl | simp [Act.eval, Act.put]) _ (fun w' hSw => load_cell hSw)) hHeld ?r302
      simp only [Act.put, List.getElem_toArray, List.getElem_cons_zero, List.getElem_cons_succ, List.setIfInBounds_toArray, List.set_cons_zero, List.set_cons_succ]
      refine Still.takeBy (i := 2) [] (v := ?v303) (by kernel_rfl) (by kernel_rfl) rfl (by kernel_rfl) (by kernel_rfl) (by kernel_rfl) (fun _ _ _ h => h) (Or.inl ⟨by rfl, ?y303⟩) hHeld ?r303
      case y303 => (intro w' hSw; (try dsimp only at hSw); go_simp; try with_reducible rfl)
      simp only [Act.put, List.getElem_toArray, List.getElem_cons_zero, List.getElem_cons_succ, List.setIfInBounds_toArray, List.set_cons_zero, List.set_cons_succ]
      refine Still.takeBy (i := 3) [] (by kernel_rfl) (by kernel_rfl) rfl (by kernel_rfl) (by kernel_rfl) (by kernel_rfl) (fun _ _ _ h => h) (yields_load rfl _ _ rfl _ (by first | rfl | simp [Act.eval, Act.put]) _ (fun w' hSw => load_want hSw)) hHeld ?r304
      simp only [Act.put, List.getElem_toArray, List.getElem_cons_zero, List.getElem_cons_succ, List.setIfInBounds_toArray, List.set_cons_zero, List.set_cons_succ]
      refine Still.all (rs := [4]) (by kernel_rfl) (by simp) (Still.one (i := 4) rfl rfl (fun K hK => ?_) (by simp))
      refine wp_store_row 35 _ _ rfl (w.heap.size + 2) (Cel.cs c (.slice ao' xs.length cap')) (by first | rfl | simp [Act.eval, Act.put]) (by first | rfl | simp [Act.eval, Act.put]) 35 _ H.out.r2 sizeCell rfl (Cel.cs_one _ _ rfl) ?_
      refine hK _ _ (fun _ => hHeld.row_other _ (by omega)) (fun _ => ?_)
      clear hK K hHeld
      try simp only [Act.put, List.getElem_toArray, List.getElem_cons_zero, List.getElem_cons_succ, List.setIfInBounds_toArray, List.set_cons_zero, List.set_cons_succ]
      have hHeld : Rw (World.setRow (World.drew wc) (w.heap.size + 2) (Cel.cs c (.slice ao' xs.length cap'))) g 185 (rcs c (.slice ao' xs.length cap') iv wntZ) := Rw.row_other (w := World.drew wc) H.out.rn.r _ (by omega)
      refine Still.all (rs := [5]) (by kernel_rfl) (by simp) (Still.one (i := 5) rfl rfl (fun K hK => ?_) (by simp))
      refine wp_store_row 124 _ _ rfl (w.heap.size + 3) (Wnt.cs wntZ) (by first | rfl | simp [Act.eval, Act.put]) (by first | rfl | simp [Act.eval, Act.put]) 124 _ (Rw.row_other (w := World.drew wc) H.out.r3 _ (by omega)) sizeWant rfl (Wnt.cs_one _) ?_
      refine hK _ _ (fun _ => Rw.row_other hHeld _ (by omega)) (fun _ => ?_)
      clear hK K
      try simp only [Act.put, List.getElem_toArray, List.getElem_cons_zero, List.getElem_cons_succ, List.setIfInBounds_toArray, List.set_cons_zero, List.set_cons_succ]
      refine Still.all (rs := [6]) (by kernel_rfl) (by simp) (Still.one (i := 6) rfl rfl (fun K hK => ?_) (by simp))
      go_simp
      refine hK _ _ (fun h => absurd rfl h) (fun _ => ?_)
      clear hK K
      refine Still.over (by kernel_rfl) ?_ _
      clear hHeld
      go_wp2
      refine bodyPost_ret (results_row2_tmp Tryz.results109 _ _ (w.heap.size + 2) (w.heap.size + 3) _ _ _ rfl rfl rfl (run_loadVar_row _ _ 35 _ (Cel.cs c (.slice ao' xs.length cap')) (0, 0) _ (Rw.row_other (Rw.row (w := World.drew wc) H.out.r2 _) _ (by omega)) Tryz.underlying35 rfl sizeCell) (run_loadVar_row _ _ 124 _ (Wnt.cs wntZ) (0, 0) _ (Rw.row (Rw.row_other (w := World.drew wc) H.out.r3 _ (by omega)) _) Tryz.underlying124 rfl sizeWant)) rfl ⟨_, by rw [HST.out]; rfl, by rw [HST.out]; exact own_low (own_row (own_row (w := World.drew wc) H.out.rn.own _ (fun e => by have := own_block H.out.rn.own _ e; have := H.out.b4; omega)) _ (fun e => by have := own_block H.out.rn.own _ e; have := H.out.b4; omega)) (by have := H.out.b4; omega), below_row (below_row H.out.rn.d.drew (by omega) _) (by omega) _⟩
end Go.Proofs.YtehhhiodfcdnmaaGreatDoor
