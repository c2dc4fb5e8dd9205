/- What a runner does: Set, Copy, Add, Sub. -/
import Derived.Test.YtehhhiodfcdnmaaGreatDoorR11
import Derived.Test.YtehhhiodfcdnmaaGreatDoorR0
namespace Go.Proofs.YtehhhiodfcdnmaaGreatDoor
set_option linter.unusedSimpArgs false
set_option linter.unusedVariables false
set_option maxRecDepth 100000
set_option maxHeartbeats 8000000
open Go.RowKit Go.Sort
theorem do1 (B : Nat) (w W : World) (g base : Nat) (c : Cel) (o i : Value) (x : Wnt) (xs : List Int) (a b n : Int) (ha0 : 0 ≤ a) (ha1 : a < 4) (hb0 : 0 ≤ b) (hb1 : b < 4) (hat0 : 0 ≤ c.at_) (hat1 : c.at_ ≤ 20) (h : Rn B w W g base c o i x xs) :
  Calls Tryz.prog 163 #[.pointer (some ⟨g, 0, none⟩), .agg #[.int .i64 1, .int .i64 a, .int .i64 b, .int .i64 n]] W fun e W' => e = .returned (.tuple #[]) ∧ Rn B w W' g base { c.setReg a (n) with at_ := c.at_ + 1 } o i x xs := by
 have hg : g < W.heap.size := h.lt
 have hg' : g ≠ W.heap.size := Nat.ne_of_lt hg
 have k0 : W.cell? ⟨g, 0, none⟩ = some (.int .i64 c.at_) := h.r.cell rfl
 have ka : W.cell? ⟨g, 1 + a.toNat, none⟩ = some (.int .i64 (c.reg a)) := h.r.cell (rcs_reg _ _ _ _ ha0 ha1)
 have kb : W.cell? ⟨g, 1 + b.toNat, none⟩ = some (.int .i64 (c.reg b)) := h.r.cell (rcs_reg _ _ _ _ hb0 hb1)
 have fa : W.frozen? ⟨g, 1 + a.toNat, none⟩ = false := h.r.fr _
 have H := hd h
 clear h
 go_enter Tryz.func163, Tryz.ntmps163
 go_wp2
 go_region
 all_goals
  have H1 := hd (((H.out.reg ha0 ha1 (n)).alloc (.cells #[.int .i64 1, .int .i64 a, .int .i64 b, .int .i64 n] 83)).drew)
  clear H k0 ka kb fa
  generalize World.drew _ = W1 at H1 ⊢
  have q0 : W1.cell? ⟨g, 0, none⟩ = some (.int .i64 _) := H1.out.r.cell rfl
  have q1 : W1.frozen? ⟨g, 0, none⟩ = false := H1.out.r.fr _
  go_wp2
  go_end0
  exact ⟨rfl, H1.out.setAt _⟩
theorem do2 (B : Nat) (w W : World) (g base : Nat) (c : Cel) (o i : Value) (x : Wnt) (xs : List Int) (a b n : Int) (ha0 : 0 ≤ a) (ha1 : a < 4) (hb0 : 0 ≤ b) (hb1 : b < 4) (hat0 : 0 ≤ c.at_) (hat1 : c.at_ ≤ 20) (h : Rn B w W g base c o i x xs) :
  Calls Tryz.prog 163 #[.pointer (some ⟨g, 0, none⟩), .agg #[.int .i64 2, .int .i64 a, .int .i64 b, .int .i64 n]] W fun e W' => e = .returned (.tuple #[]) ∧ Rn B w W' g base { c.setReg a (c.reg b) with at_ := c.at_ + 1 } o i x xs := by
 have hg : g < W.heap.size := h.lt
 have hg' : g ≠ W.heap.size := Nat.ne_of_lt hg
 have k0 : W.cell? ⟨g, 0, none⟩ = some (.int .i64 c.at_) := h.r.cell rfl
 have ka : W.cell? ⟨g, 1 + a.toNat, none⟩ = some (.int .i64 (c.reg a)) := h.r.cell (rcs_reg _ _ _ _ ha0 ha1)
 have kb : W.cell? ⟨g, 1 + b.toNat, none⟩ = some (.int .i64 (c.reg b)) := h.r.cell (rcs_reg _ _ _ _ hb0 hb1)
 have fa : W.frozen? ⟨g, 1 + a.toNat, none⟩ = false := h.r.fr _
 have H := hd h
 clear h
 go_enter Tryz.func163, Tryz.ntmps163
 go_wp2
 go_region
 all_goals
  have H1 := hd (((H.out.reg ha0 ha1 (c.reg b)).alloc (.cells #[.int .i64 2, .int .i64 a, .int .i64 b, .int .i64 n] 83)).drew)
  clear H k0 ka kb fa
  generalize World.drew _ = W1 at H1 ⊢
  have q0 : W1.cell? ⟨g, 0, none⟩ = some (.int .i64 _) := H1.out.r.cell rfl
  have q1 : W1.frozen? ⟨g, 0, none⟩ = false := H1.out.r.fr _
  go_wp2
  go_end0
  exact ⟨rfl, H1.out.setAt _⟩
theorem do3 (B : Nat) (w W : World) (g base : Nat) (c : Cel) (o i : Value) (x : Wnt) (xs : List Int) (a b n : Int) (ha0 : 0 ≤ a) (ha1 : a < 4) (hb0 : 0 ≤ b) (hb1 : b < 4) (hat0 : 0 ≤ c.at_) (hat1 : c.at_ ≤ 20) (h : Rn B w W g base c o i x xs) :
  Calls Tryz.prog 163 #[.pointer (some ⟨g, 0, none⟩), .agg #[.int .i64 3, .int .i64 a, .int .i64 b, .int .i64 n]] W fun e W' => e = .returned (.tuple #[]) ∧ Rn B w W' g base { c.setReg a (wrap64 (c.reg a + c.reg b)) with at_ := c.at_ + 1 } o i x xs := by
 have hg : g < W.heap.size := h.lt
 have hg' : g ≠ W.heap.size := Nat.ne_of_lt hg
 have k0 : W.cell? ⟨g, 0, none⟩ = some (.int .i64 c.at_) := h.r.cell rfl
 have ka : W.cell? ⟨g, 1 + a.toNat, none⟩ = some (.int .i64 (c.reg a)) := h.r.cell (rcs_reg _ _ _ _ ha0 ha1)
 have kb : W.cell? ⟨g, 1 + b.toNat, none⟩ = some (.int .i64 (c.reg b)) := h.r.cell (rcs_reg _ _ _ _ hb0 hb1)
 have fa : W.frozen? ⟨g, 1 + a.toNat, none⟩ = false := h.r.fr _
 have H := hd h
 clear h
 go_enter Tryz.func163, Tryz.ntmps163
 go_wp2
 go_region
 all_goals
  have H1 := hd (((H.out.reg ha0 ha1 (wrap64 (c.reg a + c.reg b))).alloc (.cells #[.int .i64 3, .int .i64 a, .int .i64 b, .int .i64 n] 83)).drew)
  clear H k0 ka kb fa
  generalize World.drew _ = W1 at H1 ⊢
  have q0 : W1.cell? ⟨g, 0, none⟩ = some (.int .i64 _) := H1.out.r.cell rfl
  have q1 : W1.frozen? ⟨g, 0, none⟩ = false := H1.out.r.fr _
  go_wp2
  go_end0
  exact ⟨rfl, H1.out.setAt _⟩
theorem do4 (B : Nat) (w W : World) (g base : Nat) (c : Cel) (o i : Value) (x : Wnt) (xs : List Int) (a b n : Int) (ha0 : 0 ≤ a) (ha1 : a < 4) (hb0 : 0 ≤ b) (hb1 : b < 4) (hat0 : 0 ≤ c.at_) (hat1 : c.at_ ≤ 20) (h : Rn B w W g base c o i x xs) :
  Calls Tryz.prog 163 #[.pointer (some ⟨g, 0, none⟩), .agg #[.int .i64 4, .int .i64 a, .int .i64 b, .int .i64 n]] W fun e W' => e = .returned (.tuple #[]) ∧ Rn B w W' g base { c.setReg a (wrap64 (c.reg a - c.reg b)) with at_ := c.at_ + 1 } o i x xs := by
 have hg : g < W.heap.size := h.lt
 have hg' : g ≠ W.heap.size := Nat.ne_of_lt hg
 have k0 : W.cell? ⟨g, 0, none⟩ = some (.int .i64 c.at_) := h.r.cell rfl
 have ka : W.cell? ⟨g, 1 + a.toNat, none⟩ = some (.int .i64 (c.reg a)) := h.r.cell (rcs_reg _ _ _ _ ha0 ha1)
 have kb : W.cell? ⟨g, 1 + b.toNat, none⟩ = some (.int .i64 (c.reg b)) := h.r.cell (rcs_reg _ _ _ _ hb0 hb1)
 have fa : W.frozen? ⟨g, 1 + a.toNat, none⟩ = false := h.r.fr _
 have H := hd h
 clear h
 go_enter Tryz.func163, Tryz.ntmps163
 go_wp2
 go_region
 all_goals
  have H1 := hd (((H.out.reg ha0 ha1 (wrap64 (c.reg a - c.reg b))).alloc (.cells #[.int .i64 4, .int .i64 a, .int .i64 b, .int .i64 n] 83)).drew)
  clear H k0 ka kb fa
  generalize World.drew _ = W1 at H1 ⊢
  have q0 : W1.cell? ⟨g, 0, none⟩ = some (.int .i64 _) := H1.out.r.cell rfl
  have q1 : W1.frozen? ⟨g, 0, none⟩ = false := H1.out.r.fr _
  go_wp2
  go_end0
  exact ⟨rfl, H1.out.setAt _⟩
theorem ent_bit : Enters 145 := enters Tryz.func145 kr kr
theorem ent_word : Enters 173 := enters Tryz.func173 kr kr
theorem do5 (B : Nat) (w W : World) (g base : Nat) (c : Cel) (o i : Value) (x : Wnt) (xs : List Int) (a b n : Int) (ha0 : 0 ≤ a) (ha1 : a < 4) (hb0 : 0 ≤ b) (hb1 : b < 4) (hat0 : 0 ≤ c.at_) (hat1 : c.at_ ≤ 20) (h : Rn B w W g base c o i x xs) :
  Calls Tryz.prog 163 #[.pointer (some ⟨g, 0, none⟩), .agg #[.int .i64 5, .int .i64 a, .int .i64 b, .int .i64 n]] W fun e W' => e = .returned (.tuple #[]) ∧ Rn B w W' g base { c.setReg a (truthI (decide (c.reg a < c.reg b))) with at_ := c.at_ + 1 } o i x xs := by
 have hg : g < W.heap.size := h.lt
 have hg' : g ≠ W.heap.size := Nat.ne_of_lt hg
 have k0 : W.cell? ⟨g, 0, none⟩ = some (.int .i64 c.at_) := h.r.cell rfl
 have ka : W.cell? ⟨g, 1 + a.toNat, none⟩ = some (.int .i64 (c.reg a)) := h.r.cell (rcs_reg _ _ _ _ ha0 ha1)
 have kb : W.cell? ⟨g, 1 + b.toNat, none⟩ = some (.int .i64 (c.reg b)) := h.r.cell (rcs_reg _ _ _ _ hb0 hb1)
 have fa : W.frozen? ⟨g, 1 + a.toNat, none⟩ = false := h.r.fr _
 have H := hd h
 clear h
 go_enter Tryz.func163, Tryz.ntmps163
 go_wp2
 refine region_still (S := fun w' => w'.cell? ⟨g, 1 + a.toNat, none⟩ = some (.int .i64 (c.reg a)) ∧ w'.cell? ⟨g, 1 + b.toNat, none⟩ = some (.int .i64 (c.reg b)) ∧ w'.cell? ⟨W.heap.size, 1, none⟩ = some (.int .i64 a) ∧ w'.cell? ⟨W.heap.size, 2, none⟩ = some (.int .i64 b)) 25 kr ⟨cl_alloc _ hg ka, cl_alloc _ hg kb, (Rw.new W 83 _ rfl).cell rfl, (Rw.new W 83 _ rfl).cell rfl⟩ (fun hHeld => ?_)
 refine Still.t 0 [] hHeld ?_
 refine Still.t 1 [] hHeld ?_
 refine Still.t 2 [] hHeld ?_
 refine Still.t 3 [] hHeld ?_
 refine Still.t 4 [] hHeld ?_
 refine Still.t 5 [] hHeld ?_
 refine Still.t 6 [] hHeld ?_
 refine Still.t 7 [] hHeld ?_
 refine Still.t 8 [] hHeld ?_
 refine Still.t 9 [] hHeld ?_
 refine Still.t 10 [] hHeld ?_
 refine Still.t 11 [] hHeld ?_
 refine Still.t 12 [] hHeld ?_
 refine Still.t 13 [] hHeld ?_
 refine Still.t 14 [] hHeld ?_
 refine Still.t 15 [] hHeld ?_
 refine Still.t 16 [] hHeld ?_
 refine Still.t 17 [] hHeld ?_
 refine Still.t 18 [] hHeld ?_
 refine Still.t 19 [] hHeld ?_
 refine Still.t 21 [24, 23, 22] hHeld ?_
 refine Still.t 22 [24, 23] hHeld ?_
 refine Still.t 23 [24] hHeld ?_
 refine Still.o 20 rfl rfl (fun K hK => ?_)
 refine wp_call 145 _ _ rfl ent_bit #[.bool (decide (c.reg a < c.reg b))] ev ((bit_t _ _).mono ?_)
 rintro e w' ⟨rfl, rfl⟩
 refine ⟨_, rfl, hK _ _ (fun _ => hHeld) (fun _ => ?_)⟩
 clear hK K
 try simp only [Act.put, l1, l2, l3, l4, l5, l6]
 refine Still.t 24 [] hHeld ?_
 refine Still.o 25 rfl rfl (fun K hK => ?_)
 go_simp
 refine hK _ _ ab (fun _ => Still.vv ?_)
 clear hK K
 clear hHeld
 have H1 := hd (((H.out.reg ha0 ha1 (truthI (decide (c.reg a < c.reg b)))).alloc (.cells #[.int .i64 5, .int .i64 a, .int .i64 b, .int .i64 n] 83)).drew)
 clear H k0 ka kb fa
 generalize World.drew _ = W1 at H1 ⊢
 have q0 : W1.cell? ⟨g, 0, none⟩ = some (.int .i64 _) := H1.out.r.cell rfl
 have q1 : W1.frozen? ⟨g, 0, none⟩ = false := H1.out.r.fr _
 go_wp2
 go_end0
 exact ⟨rfl, H1.out.setAt _⟩
theorem do6 (B : Nat) (w W : World) (g base : Nat) (c : Cel) (o i : Value) (x : Wnt) (xs : List Int) (a b n : Int) (ha0 : 0 ≤ a) (ha1 : a < 4) (hb0 : 0 ≤ b) (hb1 : b < 4) (hat0 : 0 ≤ c.at_) (hat1 : c.at_ ≤ 20) (hm0 : 0 ≤ c.reg b) (hm1 : c.reg b < 8) (h : Rn B w W g base c o i x xs) :
  Calls Tryz.prog 163 #[.pointer (some ⟨g, 0, none⟩), .agg #[.int .i64 6, .int .i64 a, .int .i64 b, .int .i64 n]] W fun e W' => e = .returned (.tuple #[]) ∧ Rn B w W' g base { c.setReg a (c.memo (c.reg b)) with at_ := c.at_ + 1 } o i x xs := by
 have hg : g < W.heap.size := h.lt
 have hg' : g ≠ W.heap.size := Nat.ne_of_lt hg
 have k0 : W.cell? ⟨g, 0, none⟩ = some (.int .i64 c.at_) := h.r.cell rfl
 have ka : W.cell? ⟨g, 1 + a.toNat, none⟩ = some (.int .i64 (c.reg a)) := h.r.cell (rcs_reg _ _ _ _ ha0 ha1)
 have kb : W.cell? ⟨g, 1 + b.toNat, none⟩ = some (.int .i64 (c.reg b)) := h.r.cell (rcs_reg _ _ _ _ hb0 hb1)
 have fa : W.frozen? ⟨g, 1 + a.toNat, none⟩ = false := h.r.fr _
 have km : W.cell? ⟨g, 5 + (c.reg b).toNat, none⟩ = some (.int .i64 (c.memo (c.reg b))) := h.r.cell (rcs_mem _ _ _ _ hm0 hm1)
 have H := hd h
 clear h
 go_enter Tryz.func163, Tryz.ntmps163
 go_wp2
 refine region_still (S := fun w' => w'.cell? ⟨g, 5 + (c.reg b).toNat, none⟩ = some (.int .i64 (c.memo (c.reg b))) ∧ w'.cell? ⟨W.heap.size, 1, none⟩ = some (.int .i64 a) ∧ w'.cell? ⟨W.heap.size, 2, none⟩ = some (.int .i64 b)) 17 kr ⟨cl_alloc _ hg km, (Rw.new W 83 _ rfl).cell rfl, (Rw.new W 83 _ rfl).cell rfl⟩ (fun hHeld => ?_)
 refine Still.t 0 [] hHeld ?_
 refine Still.t 1 [] hHeld ?_
 refine Still.t 2 [] hHeld ?_
 refine Still.t 3 [] hHeld ?_
 refine Still.t 4 [] hHeld ?_
 refine Still.t 5 [] hHeld ?_
 refine Still.t 6 [] hHeld ?_
 refine Still.t 8 [] hHeld ?_
 refine Still.t 9 [] hHeld ?_
 refine Still.t 10 [] hHeld ?_
 refine Still.t 13 [16, 15, 14] hHeld ?_
 refine Still.t 14 [16, 15] hHeld ?_
 refine Still.t 15 [16] hHeld ?_
 refine Still.o 7 rfl rfl (fun K hK => ?_)
 refine wp_call 173 _ _ rfl ent_word #[.pointer (some ⟨g, 0, none⟩), .int .i64 b] ev ((word_ok _ g b (c.reg b) hb0 hb1 hm0 hm1 ((H.out.alloc (.cells #[.int .i64 6, .int .i64 a, .int .i64 b, .int .i64 n] 83)).drew.r.cell (rcs_reg _ _ _ _ hb0 hb1))).mono ?_)
 rintro e w' ⟨rfl, rfl⟩
 refine ⟨_, rfl, hK _ _ (fun _ => hHeld) (fun _ => ?_)⟩
 clear hK K
 try simp only [Act.put, l1, l2, l3, l4, l5, l6]
 refine Still.t 11 [] hHeld ?_
 refine Still.t 12 [] hHeld ?_
 refine Still.t 16 [] hHeld ?_
 refine Still.o 17 rfl rfl (fun K hK => ?_)
 go_simp
 refine hK _ _ ab (fun _ => Still.vv ?_)
 clear hK K
 clear hHeld
 have H1 := hd (((H.out.reg ha0 ha1 (c.memo (c.reg b))).alloc (.cells #[.int .i64 6, .int .i64 a, .int .i64 b, .int .i64 n] 83)).drew)
 clear H k0 ka kb fa km
 generalize World.drew _ = W1 at H1 ⊢
 have q0 : W1.cell? ⟨g, 0, none⟩ = some (.int .i64 _) := H1.out.r.cell rfl
 have q1 : W1.frozen? ⟨g, 0, none⟩ = false := H1.out.r.fr _
 go_wp2
 go_end0
 exact ⟨rfl, H1.out.setAt _⟩
theorem do6_bad (B : Nat) (w W : World) (g base : Nat) (c : Cel) (o i : Value) (x : Wnt) (xs : List Int) (a b n : Int) (ha0 : 0 ≤ a) (ha1 : a < 4) (hb0 : 0 ≤ b) (hb1 : b < 4) (hat0 : 0 ≤ c.at_) (hat1 : c.at_ ≤ 20) (hm : c.reg b < 0 ∨ 8 ≤ c.reg b) (h : Rn B w W g base c o i x xs) :
  Calls Tryz.prog 163 #[.pointer (some ⟨g, 0, none⟩), .agg #[.int .i64 6, .int .i64 a, .int .i64 b, .int .i64 n]] W fun e W' => e = .panicked faultE ∧ Rn B w W' g base c o i x xs ∧ Below W.heap.size W W' := by
 have hg : g < W.heap.size := h.lt
 have hg' : g ≠ W.heap.size := Nat.ne_of_lt hg
 have k0 : W.cell? ⟨g, 0, none⟩ = some (.int .i64 c.at_) := h.r.cell rfl
 have kb : W.cell? ⟨g, 1 + b.toNat, none⟩ = some (.int .i64 (c.reg b)) := h.r.cell (rcs_reg _ _ _ _ hb0 hb1)
 have H := hd h
 clear h
 go_enter Tryz.func163, Tryz.ntmps163
 go_wp2
 refine region_still (S := fun w' => w'.cell? ⟨W.heap.size, 1, none⟩ = some (.int .i64 a) ∧ w'.cell? ⟨W.heap.size, 2, none⟩ = some (.int .i64 b)) 17 kr ⟨(Rw.new W 83 _ rfl).cell rfl, (Rw.new W 83 _ rfl).cell rfl⟩ (fun hHeld => ?_)
 refine Still.t 0 [] hHeld ?_
 refine Still.t 1 [] hHeld ?_
 refine Still.t 2 [] hHeld ?_
 refine Still.t 3 [] hHeld ?_
 refine Still.t 4 [] hHeld ?_
 refine Still.t 5 [] hHeld ?_
 refine Still.t 6 [] hHeld ?_
 refine Still.t 8 [] hHeld ?_
 refine Still.t 9 [] hHeld ?_
 refine Still.t 10 [] hHeld ?_
 refine Still.t 13 [16, 15, 14] hHeld ?_
 refine Still.t 14 [16, 15] hHeld ?_
 refine Still.t 15 [16] hHeld ?_
 refine Still.o 7 rfl rfl (fun K hK => ?_)
 refine wp_call_panic 173 _ _ rfl ent_word #[.pointer (some ⟨g, 0, none⟩), .int .i64 b] ev faultE ((word_bad _ g b (c.reg b) hb0 hb1 hm ((H.out.alloc (.cells #[.int .i64 6, .int .i64 a, .int .i64 b, .int .i64 n] 83)).drew.r.cell (rcs_reg _ _ _ _ hb0 hb1))).mono ?_)
 rintro e w' ⟨rfl, rfl⟩
 refine ⟨rfl, ?_⟩
 clear hK K
 simp only [Exit.inBlock, Exit.then]
 exact post_panic rfl ⟨rfl, (H.out.alloc (.cells #[.int .i64 6, .int .i64 a, .int .i64 b, .int .i64 n] 83)).drew, ((Below.refl _ _).alloc (Nat.le_refl _) _).drew⟩
theorem do7 (B : Nat) (w W : World) (g base : Nat) (c : Cel) (o i : Value) (x : Wnt) (xs : List Int) (a b n : Int) (ha0 : 0 ≤ a) (ha1 : a < 4) (hb0 : 0 ≤ b) (hb1 : b < 4) (hat0 : 0 ≤ c.at_) (hat1 : c.at_ ≤ 20) (hm0 : 0 ≤ c.reg b) (hm1 : c.reg b < 8) (h : Rn B w W g base c o i x xs) :
  Calls Tryz.prog 163 #[.pointer (some ⟨g, 0, none⟩), .agg #[.int .i64 7, .int .i64 a, .int .i64 b, .int .i64 n]] W fun e W' => e = .returned (.tuple #[]) ∧ Rn B w W' g base { c.setMem (c.reg b) (c.reg a) with at_ := c.at_ + 1 } o i x xs := by
 have hg : g < W.heap.size := h.lt
 have hg' : g ≠ W.heap.size := Nat.ne_of_lt hg
 have k0 : W.cell? ⟨g, 0, none⟩ = some (.int .i64 c.at_) := h.r.cell rfl
 have ka : W.cell? ⟨g, 1 + a.toNat, none⟩ = some (.int .i64 (c.reg a)) := h.r.cell (rcs_reg _ _ _ _ ha0 ha1)
 have kb : W.cell? ⟨g, 1 + b.toNat, none⟩ = some (.int .i64 (c.reg b)) := h.r.cell (rcs_reg _ _ _ _ hb0 hb1)
 have km : W.cell? ⟨g, 5 + (c.reg b).toNat, none⟩ = some (.int .i64 (c.memo (c.reg b))) := h.r.cell (rcs_mem _ _ _ _ hm0 hm1)
 have fm : W.frozen? ⟨g, 5 + (c.reg b).toNat, none⟩ = false := h.r.fr _
 have H := hd h
 clear h
 go_enter Tryz.func163, Tryz.ntmps163
 go_wp2
 refine region_still (S := fun w' => w'.cell? ⟨g, 1 + a.toNat, none⟩ = some (.int .i64 (c.reg a)) ∧ w'.cell? ⟨W.heap.size, 1, none⟩ = some (.int .i64 a) ∧ w'.cell? ⟨W.heap.size, 2, none⟩ = some (.int .i64 b)) 17 kr ⟨cl_alloc _ hg ka, (Rw.new W 83 _ rfl).cell rfl, (Rw.new W 83 _ rfl).cell rfl⟩ (fun hHeld => ?_)
 refine Still.t 0 [] hHeld ?_
 refine Still.t 1 [] hHeld ?_
 refine Still.t 2 [] hHeld ?_
 refine Still.t 3 [] hHeld ?_
 refine Still.t 5 [] hHeld ?_
 refine Still.t 6 [] hHeld ?_
 refine Still.t 7 [] hHeld ?_
 refine Still.t 8 [] hHeld ?_
 refine Still.t 9 [] hHeld ?_
 refine Still.t 10 [] hHeld ?_
 refine Still.t 11 [] hHeld ?_
 refine Still.t 12 [] hHeld ?_
 refine Still.t 13 [16, 15, 14] hHeld ?_
 refine Still.t 14 [16, 15] hHeld ?_
 refine Still.t 15 [16] hHeld ?_
 refine Still.o 4 rfl rfl (fun K hK => ?_)
 refine wp_call 173 _ _ rfl ent_word #[.pointer (some ⟨g, 0, none⟩), .int .i64 b] ev ((word_ok _ g b (c.reg b) hb0 hb1 hm0 hm1 ((H.out.alloc (.cells #[.int .i64 7, .int .i64 a, .int .i64 b, .int .i64 n] 83)).drew.r.cell (rcs_reg _ _ _ _ hb0 hb1))).mono ?_)
 rintro e w' ⟨rfl, rfl⟩
 refine ⟨_, rfl, hK _ _ (fun _ => hHeld) (fun _ => ?_)⟩
 clear hK K
 try simp only [Act.put, l1, l2, l3, l4, l5, l6]
 refine Still.t 16 [] hHeld ?_
 refine Still.o 17 rfl rfl (fun K hK => ?_)
 go_simp
 refine hK _ _ ab (fun _ => Still.vv ?_)
 clear hK K
 clear hHeld
 have H1 := hd (((H.out.mem hm0 hm1 (c.reg a)).alloc (.cells #[.int .i64 7, .int .i64 a, .int .i64 b, .int .i64 n] 83)).drew)
 clear H k0 ka kb km fm
 generalize World.drew _ = W1 at H1 ⊢
 have q0 : W1.cell? ⟨g, 0, none⟩ = some (.int .i64 _) := H1.out.r.cell rfl
 have q1 : W1.frozen? ⟨g, 0, none⟩ = false := H1.out.r.fr _
 go_wp2
 go_end0
 exact ⟨rfl, H1.out.setAt _⟩
theorem do7_bad (B : Nat) (w W : World) (g base : Nat) (c : Cel) (o i : Value) (x : Wnt) (xs : List Int) (a b n : Int) (ha0 : 0 ≤ a) (ha1 : a < 4) (hb0 : 0 ≤ b) (hb1 : b < 4) (hat0 : 0 ≤ c.at_) (hat1 : c.at_ ≤ 20) (hm : c.reg b < 0 ∨ 8 ≤ c.reg b) (h : Rn B w W g base c o i x xs) :
  Calls Tryz.prog 163 #[.pointer (some ⟨g, 0, none⟩), .agg #[.int .i64 7, .int .i64 a, .int .i64 b, .int .i64 n]] W fun e W' => e = .panicked faultE ∧ Rn B w W' g base c o i x xs ∧ Below W.heap.size W W' := by
 have hg : g < W.heap.size := h.lt
 have hg' : g ≠ W.heap.size := Nat.ne_of_lt hg
 have k0 : W.cell? ⟨g, 0, none⟩ = some (.int .i64 c.at_) := h.r.cell rfl
 have ka : W.cell? ⟨g, 1 + a.toNat, none⟩ = some (.int .i64 (c.reg a)) := h.r.cell (rcs_reg _ _ _ _ ha0 ha1)
 have kb : W.cell? ⟨g, 1 + b.toNat, none⟩ = some (.int .i64 (c.reg b)) := h.r.cell (rcs_reg _ _ _ _ hb0 hb1)
 have H := hd h
 clear h
 go_enter Tryz.func163, Tryz.ntmps163
 go_wp2
 refine region_still (S := fun w' => w'.cell? ⟨g, 1 + a.toNat, none⟩ = some (.int .i64 (c.reg a)) ∧ w'.cell? ⟨W.heap.size, 1, none⟩ = some (.int .i64 a) ∧ w'.cell? ⟨W.heap.size, 2, none⟩ = some (.int .i64 b)) 17 kr ⟨cl_alloc _ hg ka, (Rw.new W 83 _ rfl).cell rfl, (Rw.new W 83 _ rfl).cell rfl⟩ (fun hHeld => ?_)
 refine Still.t 0 [] hHeld ?_
 refine Still.t 1 [] hHeld ?_
 refine Still.t 2 [] hHeld ?_
 refine Still.t 3 [] hHeld ?_
 refine Still.t 5 [] hHeld ?_
 refine Still.t 6 [] hHeld ?_
 refine Still.t 7 [] hHeld ?_
 refine Still.t 8 [] hHeld ?_
 refine Still.t 9 [] hHeld ?_
 refine Still.t 10 [] hHeld ?_
 refine Still.t 11 [] hHeld ?_
 refine Still.t 12 [] hHeld ?_
 refine Still.t 13 [16, 15, 14] hHeld ?_
 refine Still.t 14 [16, 15] hHeld ?_
 refine Still.t 15 [16] hHeld ?_
 refine Still.o 4 rfl rfl (fun K hK => ?_)
 refine wp_call_panic 173 _ _ rfl ent_word #[.pointer (some ⟨g, 0, none⟩), .int .i64 b] ev faultE ((word_bad _ g b (c.reg b) hb0 hb1 hm ((H.out.alloc (.cells #[.int .i64 7, .int .i64 a, .int .i64 b, .int .i64 n] 83)).drew.r.cell (rcs_reg _ _ _ _ hb0 hb1))).mono ?_)
 rintro e w' ⟨rfl, rfl⟩
 refine ⟨rfl, ?_⟩
 clear hK K
 simp only [Exit.inBlock, Exit.then]
 exact post_panic rfl ⟨rfl, (H.out.alloc (.cells #[.int .i64 7, .int .i64 a, .int .i64 b, .int .i64 n] 83)).drew, ((Below.refl _ _).alloc (Nat.le_refl _) _).drew⟩
theorem ent_take : Enters 174 := enters Tryz.func174 kr kr
theorem ent_tell : Enters 175 := enters Tryz.func175 kr kr
theorem do8 (B : Nat) (w W : World) (g base : Nat) (c : Cel) (o i : Value) (x : Wnt) (xs : List Int) (a b n : Int) (ha0 : 0 ≤ a) (ha1 : a < 4) (hb0 : 0 ≤ b) (hb1 : b < 4) (hat0 : 0 ≤ c.at_) (hat1 : c.at_ ≤ 20) (h : Rn B w W g base c o i x xs) :
  Calls Tryz.prog 163 #[.pointer (some ⟨g, 0, none⟩), .agg #[.int .i64 8, .int .i64 a, .int .i64 b, .int .i64 n]] W fun e W' => e = .returned (.tuple #[]) ∧ Rn B w W' g base { c with at_ := n } o i x xs := by
 have hg : g < W.heap.size := h.lt
 have hg' : g ≠ W.heap.size := Nat.ne_of_lt hg
 have k0 : W.cell? ⟨g, 0, none⟩ = some (.int .i64 c.at_) := h.r.cell rfl
 have f0 : W.frozen? ⟨g, 0, none⟩ = false := h.r.fr _
 have H := hd h
 clear h
 go_enter Tryz.func163, Tryz.ntmps163
 go_wp2
 go_end0
 exact ⟨rfl, (H.out.setAt n).alloc (.cells #[.int .i64 8, .int .i64 a, .int .i64 b, .int .i64 n] 83)⟩
theorem do14 (B : Nat) (w W : World) (g base : Nat) (c : Cel) (o i : Value) (x : Wnt) (xs : List Int) (a b n : Int) (ha0 : 0 ≤ a) (ha1 : a < 4) (hb0 : 0 ≤ b) (hb1 : b < 4) (hat0 : 0 ≤ c.at_) (hat1 : c.at_ ≤ 20) (h : Rn B w W g base c o i x xs) :
  Calls Tryz.prog 163 #[.pointer (some ⟨g, 0, none⟩), .agg #[.int .i64 14, .int .i64 a, .int .i64 b, .int .i64 n]] W fun e W' => e = .returned (.tuple #[]) ∧ Rn B w W' g base { c with at_ := c.at_ + 1 } o i x xs := by
 have hg : g < W.heap.size := h.lt
 have hg' : g ≠ W.heap.size := Nat.ne_of_lt hg
 have k0 : W.cell? ⟨g, 0, none⟩ = some (.int .i64 c.at_) := h.r.cell rfl
 have f0 : W.frozen? ⟨g, 0, none⟩ = false := h.r.fr _
 have H := hd h
 clear h
 go_enter Tryz.func163, Tryz.ntmps163
 go_wp2
 go_end0
 exact ⟨rfl, (H.out.setAt _).alloc (.cells #[.int .i64 14, .int .i64 a, .int .i64 b, .int .i64 n] 83)⟩
theorem do15 (B : Nat) (w W : World) (g base : Nat) (c : Cel) (o i : Value) (x : Wnt) (xs : List Int) (a b n : Int) (ha0 : 0 ≤ a) (ha1 : a < 4) (hb0 : 0 ≤ b) (hb1 : b < 4) (hat0 : 0 ≤ c.at_) (hat1 : c.at_ ≤ 20) (h : Rn B w W g base c o i x xs) :
  Calls Tryz.prog 163 #[.pointer (some ⟨g, 0, none⟩), .agg #[.int .i64 15, .int .i64 a, .int .i64 b, .int .i64 n]] W fun e W' => e = .returned (.tuple #[]) ∧ Rn B w W' g base { c with en := 1, at_ := c.at_ } o i x xs := by
 have hg : g < W.heap.size := h.lt
 have hg' : g ≠ W.heap.size := Nat.ne_of_lt hg
 have k0 : W.cell? ⟨g, 0, none⟩ = some (.int .i64 c.at_) := h.r.cell rfl
 have f0 : W.frozen? ⟨g, 0, none⟩ = false := h.r.fr _
 have f15 : W.frozen? ⟨g, 15, none⟩ = false := h.r.fr _
 have k15 : W.cell? ⟨g, 15, none⟩ = some (.int .i64 c.en) := h.r.cell rfl
 have H := hd h
 clear h
 go_enter Tryz.func163, Tryz.ntmps163
 go_wp2
 go_end0
 exact ⟨rfl, ((H.out.setEn 1).setAt _).alloc (.cells #[.int .i64 15, .int .i64 a, .int .i64 b, .int .i64 n] 83)⟩
theorem do9 (B : Nat) (w W : World) (g base : Nat) (c : Cel) (o i : Value) (x : Wnt) (xs : List Int) (a b n : Int) (ha0 : 0 ≤ a) (ha1 : a < 4) (hb0 : 0 ≤ b) (hb1 : b < 4) (hat0 : 0 ≤ c.at_) (hat1 : c.at_ ≤ 20) (h : Rn B w W g base c o i x xs) :
  Calls Tryz.prog 163 #[.pointer (some ⟨g, 0, none⟩), .agg #[.int .i64 9, .int .i64 a, .int .i64 b, .int .i64 n]] W fun e W' => e = .returned (.tuple #[]) ∧ Rn B w W' g base { c with at_ := if c.reg a = 0 then n else c.at_ + 1 } o i x xs := by
 have hg : g < W.heap.size := h.lt
 have hg' : g ≠ W.heap.size := Nat.ne_of_lt hg
 have k0 : W.cell? ⟨g, 0, none⟩ = some (.int .i64 c.at_) := h.r.cell rfl
 have ka : W.cell? ⟨g, 1 + a.toNat, none⟩ = some (.int .i64 (c.reg a)) := h.r.cell (rcs_reg _ _ _ _ ha0 ha1)
 have f0 : W.frozen? ⟨g, 0, none⟩ = false := h.r.fr _
 have H := hd h
 clear h
 go_enter Tryz.func163, Tryz.ntmps163
 by_cases hq : c.reg a = 0
 ·have hq' : (c.reg a == 0) = true := by simp [hq]
  rw [if_pos hq]
  clear hq
  go_wp2
  go_quiet (fail)
  go_wp2
  go_end0
  exact ⟨rfl, ((H.out.alloc (.cells #[.int .i64 9, .int .i64 a, .int .i64 b, .int .i64 n] 83)).drewN _).setAt n⟩
 ·have hq' : (c.reg a == 0) = false := by simpa using hq
  rw [if_neg hq]
  clear hq
  go_wp2
  go_quiet (fail)
  go_wp2
  go_end0
  exact ⟨rfl, ((H.out.alloc (.cells #[.int .i64 9, .int .i64 a, .int .i64 b, .int .i64 n] 83)).drewN _).setAt _⟩
theorem do10 (B : Nat) (w W : World) (g base : Nat) (c : Cel) (o i : Value) (x : Wnt) (xs : List Int) (a b n : Int) (ha0 : 0 ≤ a) (ha1 : a < 4) (hb0 : 0 ≤ b) (hb1 : b < 4) (hat0 : 0 ≤ c.at_) (hat1 : c.at_ ≤ 20) (inn : List Int) (hS : Sl W 1 i inn.length (ints inn)) (hr0 : 0 ≤ c.read) (hr1 : c.read ≤ 12) (h : Rn B w W g base c o i x xs) :
  Calls Tryz.prog 163 #[.pointer (some ⟨g, 0, none⟩), .agg #[.int .i64 10, .int .i64 a, .int .i64 b, .int .i64 n]] W fun e W' => e = .returned (.tuple #[]) ∧ Rn B w W' g base { (takeC c inn.length).setReg a (takeI inn c.read) with at_ := c.at_ + 1 } o i x xs := by
 have hg : g < W.heap.size := h.lt
 have hg' : g ≠ W.heap.size := Nat.ne_of_lt hg
 have k0 : W.cell? ⟨g, 0, none⟩ = some (.int .i64 c.at_) := h.r.cell rfl
 have HS := hd hS
 clear hS
 have H := hd h
 clear h
 go_enter Tryz.func163, Tryz.ntmps163
 go_wp2
 refine region_still (S := fun w' => w'.cell? ⟨W.heap.size, 1, none⟩ = some (.int .i64 a)) 9 kr ((Rw.new W 83 _ rfl).cell rfl) (fun hHeld => ?_)
 refine Still.t 0 [] hHeld ?_
 refine Still.t 1 [] hHeld ?_
 refine Still.t 2 [] hHeld ?_
 refine Still.t 3 [] hHeld ?_
 refine Still.t 5 [8, 7, 6] hHeld ?_
 refine Still.t 6 [8, 7] hHeld ?_
 refine Still.t 7 [8] hHeld ?_
 refine Still.o 4 rfl rfl (fun K hK => ?_)
 refine wp_call 174 _ _ rfl ent_take #[.pointer (some ⟨g, 0, none⟩)] ev ((take_any B w _ g base c o i x xs inn ((H.out.alloc (.cells #[.int .i64 10, .int .i64 a, .int .i64 b, .int .i64 n] 83)).drew) (HS.out.up (((Below.refl _ _).alloc (Nat.le_refl _) _).drew)) hr0 hr1).mono ?_)
 rintro e V ⟨rfl, hR, hB⟩
 have q1 : V.cell? ⟨W.heap.size, 1, none⟩ = some (.int .i64 a) := (World.cell?_of_block (w := (W.alloc (.cells #[.int .i64 10, .int .i64 a, .int .i64 b, .int .i64 n] 83)).drew) (a := ⟨W.heap.size, 1, none⟩) (hB W.heap.size (Ne.symm hg'))).trans ((Rw.new W 83 _ rfl).cell rfl)
 refine ⟨_, rfl, hK _ _ (fun _ => q1) (fun _ => ?_)⟩
 clear hK K
 try simp only [Act.put, l1, l2, l3, l4, l5, l6]
 have za : V.cell? ⟨g, 1 + a.toNat, none⟩ = some (.int .i64 ((takeC c inn.length).reg a)) := hR.r.cell (rcs_reg _ _ _ _ ha0 ha1)
 have zf : V.frozen? ⟨g, 1 + a.toNat, none⟩ = false := hR.r.fr _
 have HR := hd hR
 clear hR hB
 refine Still.t 8 [] q1 ?_
 refine Still.o 9 rfl rfl (fun K hK => ?_)
 go_simp
 refine hK _ _ ab (fun _ => Still.vv ?_)
 clear hK K
 clear hHeld q1
 have H1 := hd (HR.out.reg ha0 ha1 (takeI inn c.read))
 clear H HR k0 za zf
 generalize World.setCell _ _ _ = W1 at H1 ⊢
 have q0 : W1.cell? ⟨g, 0, none⟩ = some (.int .i64 _) := H1.out.r.cell rfl
 have q1 : W1.frozen? ⟨g, 0, none⟩ = false := H1.out.r.fr _
 go_wp2
 go_end0
 exact ⟨rfl, H1.out.setAt _⟩
theorem do11 (B : Nat) (w W : World) (g base : Nat) (c : Cel) (o i : Value) (x : Wnt) (xs : List Int) (a b n : Int) (ha0 : 0 ≤ a) (ha1 : a < 4) (hb0 : 0 ≤ b) (hb1 : b < 4) (hat0 : 0 ≤ c.at_) (hat1 : c.at_ ≤ 20) (hx : xs.length ≤ 16) (h : Rn B w W g base c o i x xs) :
  Calls Tryz.prog 163 #[.pointer (some ⟨g, 0, none⟩), .agg #[.int .i64 11, .int .i64 a, .int .i64 b, .int .i64 n]] W fun e W' => e = .returned (.tuple #[]) ∧ ∃ o', Rn B w W' g base { c with at_ := c.at_ + 1 } o' i x (tellL xs (c.reg a)) := by
 have hg : g < W.heap.size := h.lt
 have hg' : g ≠ W.heap.size := Nat.ne_of_lt hg
 have k0 : W.cell? ⟨g, 0, none⟩ = some (.int .i64 c.at_) := h.r.cell rfl
 have ka : W.cell? ⟨g, 1 + a.toNat, none⟩ = some (.int .i64 (c.reg a)) := h.r.cell (rcs_reg _ _ _ _ ha0 ha1)
 have H := hd h
 clear h
 go_enter Tryz.func163, Tryz.ntmps163
 go_wp2
 refine region_still (S := fun w' => w'.cell? ⟨g, 1 + a.toNat, none⟩ = some (.int .i64 (c.reg a)) ∧ w'.cell? ⟨W.heap.size, 1, none⟩ = some (.int .i64 a)) 9 kr ⟨cl_alloc _ hg ka, (Rw.new W 83 _ rfl).cell rfl⟩ (fun hHeld => ?_)
 refine Still.t 0 [] hHeld ?_
 refine Still.t 1 [8, 7, 6, 5, 4] hHeld ?_
 refine Still.t 2 [8, 7, 3] hHeld ?_
 refine Still.t 3 [8, 7] hHeld ?_
 refine Still.t 4 [8, 7, 6, 5] hHeld ?_
 refine Still.t 5 [8, 7, 6] hHeld ?_
 refine Still.t 6 [8, 7] hHeld ?_
 refine Still.t 7 [8] hHeld ?_
 refine Still.t 8 [] hHeld ?_
 refine Still.o 9 rfl rfl (fun K hK => ?_)
 refine wp_call 175 _ _ rfl ent_tell #[.pointer (some ⟨g, 0, none⟩), .int .i64 (c.reg a)] ev ((tell_any B w _ g base c o i x xs (c.reg a) ((H.out.alloc (.cells #[.int .i64 11, .int .i64 a, .int .i64 b, .int .i64 n] 83)).drew) hx).mono ?_)
 rintro e V ⟨rfl, o', hR⟩
 refine ⟨_, rfl, ?_⟩
 refine hK _ _ ab (fun _ => Still.vv ?_)
 clear hK K
 have HR := hd hR
 clear hR
 have q0 : V.cell? ⟨g, 0, none⟩ = some (.int .i64 c.at_) := HR.out.r.cell rfl
 have q1 : V.frozen? ⟨g, 0, none⟩ = false := HR.out.r.fr _
 clear hHeld H k0 ka
 go_wp2
 go_end0
 exact ⟨rfl, o', HR.out.setAt _⟩
theorem do12 (B : Nat) (w W : World) (g base : Nat) (c : Cel) (o i : Value) (x : Wnt) (xs : List Int) (a b n : Int) (ha0 : 0 ≤ a) (ha1 : a < 4) (hb0 : 0 ≤ b) (hb1 : b < 4) (hat0 : 0 ≤ c.at_) (hat1 : c.at_ ≤ 20) (h : Rn B w W g base c o i x xs) :
  Calls Tryz.prog 163 #[.pointer (some ⟨g, 0, none⟩), .agg #[.int .i64 12, .int .i64 a, .int .i64 b, .int .i64 n]] W fun e W' => e = .returned (.tuple #[]) ∧ Rn B w W' g base { c with at_ := c.at_ + 1 } o i ⟨12, n, a, 0, c.reg a⟩ xs := by
 have hg : g < W.heap.size := h.lt
 have hg' : g ≠ W.heap.size := Nat.ne_of_lt hg
 have k0 : W.cell? ⟨g, 0, none⟩ = some (.int .i64 c.at_) := h.r.cell rfl
 have ka : W.cell? ⟨g, 1 + a.toNat, none⟩ = some (.int .i64 (c.reg a)) := h.r.cell (rcs_reg _ _ _ _ ha0 ha1)
 have u17 : W.cell? ⟨g, 17, none⟩ = some (.int .i64 x.k) := h.r.cell rfl
 have v17 : W.frozen? ⟨g, 17, none⟩ = false := h.r.fr _
 have u18 : W.cell? ⟨g, 18, none⟩ = some (.int .i64 x.ch) := h.r.cell rfl
 have v18 : W.frozen? ⟨g, 18, none⟩ = false := h.r.fr _
 have u19 : W.cell? ⟨g, 19, none⟩ = some (.int .i64 x.reg) := h.r.cell rfl
 have v19 : W.frozen? ⟨g, 19, none⟩ = false := h.r.fr _
 have u20 : W.cell? ⟨g, 20, none⟩ = some (.int .i64 x.flag) := h.r.cell rfl
 have v20 : W.frozen? ⟨g, 20, none⟩ = false := h.r.fr _
 have u21 : W.cell? ⟨g, 21, none⟩ = some (.int .i64 x.val) := h.r.cell rfl
 have v21 : W.frozen? ⟨g, 21, none⟩ = false := h.r.fr _
 have H := hd h
 clear h
 go_enter Tryz.func163, Tryz.ntmps163
 go_wp2
 go_region
 all_goals
  have H1 := hd (((H.out.wnt 12 n a 0 (c.reg a)).alloc (.cells #[.int .i64 12, .int .i64 a, .int .i64 b, .int .i64 n] 83)).drew)
  clear H k0 ka u17 u18 u19 u20 u21 v17 v18 v19 v20 v21
  generalize World.drew _ = W1 at H1 ⊢
  have q0 : W1.cell? ⟨g, 0, none⟩ = some (.int .i64 _) := H1.out.r.cell rfl
  have q1 : W1.frozen? ⟨g, 0, none⟩ = false := H1.out.r.fr _
  go_wp2
  go_end0
  exact ⟨rfl, H1.out.setAt _⟩
theorem do13 (B : Nat) (w W : World) (g base : Nat) (c : Cel) (o i : Value) (x : Wnt) (xs : List Int) (a b n : Int) (ha0 : 0 ≤ a) (ha1 : a < 4) (hb0 : 0 ≤ b) (hb1 : b < 4) (hat0 : 0 ≤ c.at_) (hat1 : c.at_ ≤ 20) (h : Rn B w W g base c o i x xs) :
  Calls Tryz.prog 163 #[.pointer (some ⟨g, 0, none⟩), .agg #[.int .i64 13, .int .i64 a, .int .i64 b, .int .i64 n]] W fun e W' => e = .returned (.tuple #[]) ∧ Rn B w W' g base { c with at_ := c.at_ + 1 } o i ⟨13, n, a, b, 0⟩ xs := by
 have hg : g < W.heap.size := h.lt
 have hg' : g ≠ W.heap.size := Nat.ne_of_lt hg
 have k0 : W.cell? ⟨g, 0, none⟩ = some (.int .i64 c.at_) := h.r.cell rfl
 have u17 : W.cell? ⟨g, 17, none⟩ = some (.int .i64 x.k) := h.r.cell rfl
 have v17 : W.frozen? ⟨g, 17, none⟩ = false := h.r.fr _
 have u18 : W.cell? ⟨g, 18, none⟩ = some (.int .i64 x.ch) := h.r.cell rfl
 have v18 : W.frozen? ⟨g, 18, none⟩ = false := h.r.fr _
 have u19 : W.cell? ⟨g, 19, none⟩ = some (.int .i64 x.reg) := h.r.cell rfl
 have v19 : W.frozen? ⟨g, 19, none⟩ = false := h.r.fr _
 have u20 : W.cell? ⟨g, 20, none⟩ = some (.int .i64 x.flag) := h.r.cell rfl
 have v20 : W.frozen? ⟨g, 20, none⟩ = false := h.r.fr _
 have u21 : W.cell? ⟨g, 21, none⟩ = some (.int .i64 x.val) := h.r.cell rfl
 have v21 : W.frozen? ⟨g, 21, none⟩ = false := h.r.fr _
 have f0 : W.frozen? ⟨g, 0, none⟩ = false := h.r.fr _
 have H := hd h
 clear h
 go_enter Tryz.func163, Tryz.ntmps163
 go_wp2
 go_end0
 exact ⟨rfl, ((H.out.wnt 13 n a b 0).setAt _).alloc (.cells #[.int .i64 13, .int .i64 a, .int .i64 b, .int .i64 n] 83)⟩
end Go.Proofs.YtehhhiodfcdnmaaGreatDoor
