/- The reference's StepOf. -/
import Derived.Test.YtehhhiodfcdnmaaGreatDoorR14
namespace Go.Proofs.YtehhhiodfcdnmaaGreatDoor
set_option linter.unusedSimpArgs false
set_option linter.unusedVariables false
set_option maxRecDepth 100000
set_option maxHeartbeats 16000000
open Go.RowKit Go.Sort
structure So (w W : World) (base gi : Nat) (c : Cel) (o : Value) (xs : List Int) (i : Ins) (v u : Value) : Prop where
 r0 : Rw W w.heap.size 49 #[v, u]
 r1 : Rw W (w.heap.size + 1) 35 (c.cs o)
 r2 : Rw W (w.heap.size + 2) 35 (celZ.cs (.slice none 0 0))
 r3 : Rw W (w.heap.size + 3) 124 wntZ.cs
 ri : Rw W gi 83 #[.int .i64 i.op, .int .i64 i.a, .int .i64 i.b, .int .i64 i.n]
 d : Below w.heap.size w W
 own : W.ownsRow base 3 1 o xs.length (ints xs)
 ngi : w.heap.size + 4 ≤ gi
 no : ∀ k, o.ownBlock = some k → w.heap.size + 4 ≤ k ∧ k ≠ gi
 b4 : w.heap.size + 4 ≤ base
 bs : base ≤ W.heap.size
theorem So.reg {w W : World} {base gi : Nat} {c : Cel} {o : Value} {xs : List Int} {i : Ins} {v u : Value} (h : So w W base gi c o xs i v u) {k : Int} (h0 : 0 ≤ k) (h1 : k < 4) (z : Int) :
  So w (W.setCell ⟨w.heap.size + 1, 1 + k.toNat, none⟩ (.int .i64 z)) base gi (c.setReg k z) o xs i v u :=
 ⟨h.r0.set_other _ (by simp), by rw [← cs_setReg c o h0 h1 z]; exact h.r1.set _ _, h.r2.set_other _ (by simp), h.r3.set_other _ (by simp), h.ri.set_other _ (by have := h.ngi; simp <;> omega), h.d.setCell (by simp) _, own_set h.own _ (fun e => by have := (h.no _ e).1; simp at this <;> omega), h.ngi, h.no, h.b4, by rw [size_set]; exact h.bs⟩
theorem So.mem {w W : World} {base gi : Nat} {c : Cel} {o : Value} {xs : List Int} {i : Ins} {v u : Value} (h : So w W base gi c o xs i v u) {k : Int} (h0 : 0 ≤ k) (h1 : k < 8) (z : Int) :
  So w (W.setCell ⟨w.heap.size + 1, 5 + k.toNat, none⟩ (.int .i64 z)) base gi (c.setMem k z) o xs i v u :=
 ⟨h.r0.set_other _ (by simp), by rw [← cs_setMem c o h0 h1 z]; exact h.r1.set _ _, h.r2.set_other _ (by simp), h.r3.set_other _ (by simp), h.ri.set_other _ (by have := h.ngi; simp <;> omega), h.d.setCell (by simp) _, own_set h.own _ (fun e => by have := (h.no _ e).1; simp at this <;> omega), h.ngi, h.no, h.b4, by rw [size_set]; exact h.bs⟩
theorem So.setAt {w W : World} {base gi : Nat} {c : Cel} {o : Value} {xs : List Int} {i : Ins} {v u : Value} (h : So w W base gi c o xs i v u) (z : Int) :
  So w (W.setCell ⟨w.heap.size + 1, 0, none⟩ (.int .i64 z)) base gi { c with at_ := z } o xs i v u :=
 ⟨h.r0.set_other _ (by simp), h.r1.set _ _, h.r2.set_other _ (by simp), h.r3.set_other _ (by simp), h.ri.set_other _ (by have := h.ngi; simp <;> omega), h.d.setCell (by simp) _, own_set h.own _ (fun e => by have := (h.no _ e).1; simp at this <;> omega), h.ngi, h.no, h.b4, by rw [size_set]; exact h.bs⟩
theorem So.setEn {w W : World} {base gi : Nat} {c : Cel} {o : Value} {xs : List Int} {i : Ins} {v u : Value} (h : So w W base gi c o xs i v u) (z : Int) :
  So w (W.setCell ⟨w.heap.size + 1, 15, none⟩ (.int .i64 z)) base gi { c with en := z } o xs i v u :=
 ⟨h.r0.set_other _ (by simp), h.r1.set _ _, h.r2.set_other _ (by simp), h.r3.set_other _ (by simp), h.ri.set_other _ (by have := h.ngi; simp <;> omega), h.d.setCell (by simp) _, own_set h.own _ (fun e => by have := (h.no _ e).1; simp at this <;> omega), h.ngi, h.no, h.b4, by rw [size_set]; exact h.bs⟩
theorem So.setRead {w W : World} {base gi : Nat} {c : Cel} {o : Value} {xs : List Int} {i : Ins} {v u : Value} (h : So w W base gi c o xs i v u) (z : Int) :
  So w (W.setCell ⟨w.heap.size + 1, 13, none⟩ (.int .i64 z)) base gi { c with read := z } o xs i v u :=
 ⟨h.r0.set_other _ (by simp), h.r1.set _ _, h.r2.set_other _ (by simp), h.r3.set_other _ (by simp), h.ri.set_other _ (by have := h.ngi; simp <;> omega), h.d.setCell (by simp) _, own_set h.own _ (fun e => by have := (h.no _ e).1; simp at this <;> omega), h.ngi, h.no, h.b4, by rw [size_set]; exact h.bs⟩
theorem So.drewN {w W : World} {base gi : Nat} {c : Cel} {o : Value} {xs : List Int} {i : Ins} {v u : Value} (h : So w W base gi c o xs i v u) (n : Nat) : So w (W.drewN n) base gi c o xs i v u :=
 ⟨h.r0, h.r1, h.r2, h.r3, h.ri, ⟨h.d.os, h.d.tape, h.d.output, h.d.size, h.d.block⟩, h.own, h.ngi, h.no, h.b4, h.bs⟩
theorem So.drew {w W : World} {base gi : Nat} {c : Cel} {o : Value} {xs : List Int} {i : Ins} {v u : Value} (h : So w W base gi c o xs i v u) : So w W.drew base gi c o xs i v u :=
 ⟨h.r0, h.r1, h.r2, h.r3, h.ri, h.d.drew, h.own, h.ngi, h.no, h.b4, h.bs⟩
theorem So.up {w W : World} {base gi : Nat} {c : Cel} {o : Value} {xs : List Int} {i : Ins} {v u : Value} {W' : World} (h : So w W base gi c o xs i v u) (hb : Below W.heap.size W W') : So w W' base gi c o xs i v u :=
 ⟨h.r0.up hb h.r0.lt, h.r1.up hb h.r1.lt, h.r2.up hb h.r2.lt, h.r3.up hb h.r3.lt, h.ri.up hb h.ri.lt, h.d.trans (hb.mono h.d.size), own_up h.own hb (own_lt h.own), h.ngi, h.no, h.b4, Nat.le_trans h.bs hb.size⟩
theorem So.alloc {w W : World} {base gi : Nat} {c : Cel} {o : Value} {xs : List Int} {i : Ins} {v u : Value} (h : So w W base gi c o xs i v u) (ob : Obj) : So w (W.alloc ob) base gi c o xs i v u := h.up ((Below.refl _ _).alloc (Nat.le_refl _) _)
structure Se (w W : World) (gw : Nat) (c : Cel) (o : Value) (x : Wnt) (xs : List Int) : Prop where
 r1 : Rw W (w.heap.size + 1) 35 (c.cs o)
 r2 : Rw W (w.heap.size + 2) 35 (celZ.cs (.slice none 0 0))
 r3 : Rw W (w.heap.size + 3) 124 wntZ.cs
 rw : Rw W gw 124 x.cs
 d : Below w.heap.size w W
 own : W.ownsRow (w.heap.size + 4) 3 1 o xs.length (ints xs)
 ngw : w.heap.size + 4 ≤ gw
 nw : ∀ k, o.ownBlock = some k → k ≠ gw
theorem So.se {w W : World} {base gi : Nat} {c : Cel} {o : Value} {xs : List Int} {i : Ins} {v u : Value} (h : So w W base gi c o xs i v u) {g : Nat} (hg : g = W.heap.size) : Se w (W.alloc (.cells #[.int .i64 0, .int .i64 0, .int .i64 0, .int .i64 0, .int .i64 0] 124)) g c o wntZ xs :=
 ⟨h.r1.alloc _, h.r2.alloc _, h.r3.alloc _, Rw.new _ _ _ hg, (h.alloc _).d, own_low (h.alloc _).own h.b4, by have := h.b4; have := h.bs; omega, fun k e => by have := own_lt h.own k e; omega⟩
theorem Se.drew {w W : World} {gw : Nat} {c : Cel} {o : Value} {x : Wnt} {xs : List Int} (h : Se w W gw c o x xs) : Se w W.drew gw c o x xs := ⟨h.r1, h.r2, h.r3, h.rw, h.d.drew, h.own, h.ngw, h.nw⟩
theorem Se.setAt {w W : World} {gw : Nat} {c : Cel} {o : Value} {x : Wnt} {xs : List Int} (h : Se w W gw c o x xs) (z : Int) : Se w (W.setCell ⟨w.heap.size + 1, 0, none⟩ (.int .i64 z)) gw { c with at_ := z } o x xs :=
 ⟨h.r1.set _ _, h.r2.set_other _ (by simp), h.r3.set_other _ (by simp), h.rw.set_other _ (by have := h.ngw; show gw ≠ w.heap.size + 1; omega), h.d.setCell (by simp) _, own_set h.own _ (fun e => by have := own_block h.own _ e; simp at this <;> omega), h.ngw, h.nw⟩
def Cel.go (c : Cel) (z : Int) : Cel := { c with at_ := z }
theorem Cel.set_read (c : Cel) (k v z : Int) : Cel.setReg { c with read := z } k v = { c.setReg k v with read := z } := by
 unfold Cel.setReg
 by_cases h0 : k = 0
 ·simp [h0]
 ·by_cases h1 : k = 1
  ·simp [h1]
  ·by_cases h2 : k = 2 <;> simp [h0, h1, h2]
theorem Se.want {w W : World} {gw : Nat} {c : Cel} {o : Value} {x : Wnt} {xs : List Int} (h : Se w W gw c o x xs) (y : Wnt) : Se w (W.setRow gw y.cs) gw c o y xs :=
 ⟨h.r1.row_other _ (by have := h.ngw; omega), h.r2.row_other _ (by have := h.ngw; omega), h.r3.row_other _ (by have := h.ngw; omega), h.rw.row _, below_row h.d (by have := h.ngw; omega) _, own_row h.own _ (fun e => h.nw _ e rfl), h.ngw, h.nw⟩
theorem Cel.set2 (c : Cel) (k u v : Int) : (c.setReg k u).setReg k v = c.setReg k v := by
 unfold Cel.setReg
 by_cases h0 : k = 0
 ·simp [h0]
 ·by_cases h1 : k = 1
  ·simp [h1]
  ·by_cases h2 : k = 2 <;> simp [h0, h1, h2]
theorem four_one (a b c d : Int) : (#[Value.int .i64 a, .int .i64 b, .int .i64 c, .int .i64 d]).all (·.oneCell') = true := by
 simp
 simp [Value.oneCell']
theorem sizeInstr : (Tryz.prog.info? 83).map (·.size) = some 4 := by kernel_rfl
theorem stepOf_any (l : List Ins) (inn xs : List Int) (v iv ov : Value) (c : Cel) (hl : chkC l = 0) (hi : inn.length ≤ 12) (hf : c.fine xs.length = true) (hr : c.read ≤ inn.length) (w : World) (hC : Sl w 4 v l.length (codeC l)) (hI : Sl w 1 iv inn.length (ints inn)) (hO : Sl w 1 ov xs.length (ints xs)) :
  Calls Tryz.prog 69 #[partV v iv, c.v ov] w fun e w' => ∃ o', e = .returned (.tuple #[(stepC l inn xs c).1.v o', (stepC l inn xs c).2.2.v]) ∧ w'.ownsRow w.heap.size 3 1 o' (stepC l inn xs c).2.1.length (ints (stepC l inn xs c).2.1) ∧ Below w.heap.size w w' := by
 obtain ⟨iao, icap, rfl⟩ := hI.form
 obtain ⟨ao, cap, rfl⟩ := hO.form
 obtain ⟨cao, ccap, rfl⟩ := hC.form
 have hfi := (fine_iff c _).1 hf
 have hfe : firstE l = 0 := by
  unfold chkC at hl
  split at hl
  ·omega
  ·exact hl
 have HS := hd hC
 have HI := hd hI
 have HO := hd hO
 clear hf hl hC hI hO
 rw [Cel.v_cs]
 unfold partV
 go_enter Tryz.func69, Tryz.ntmps69
 go_wp2_with (refine wpList_load_row rfl 35 (.tmp 3) rfl (w.heap.size + 1) rfl 35 (c.cs (.slice ao xs.length cap)) (0, 0) _ rn0 Tryz.underlying35 rfl sizeCell ?_)
 refine (ownCell_any c xs om _ _ (HO.out.up up0)).mono ?_
 rintro e W ⟨v', rfl, o1, b1⟩
 have D : Below w.heap.size w W := by
  refine Below.trans ?_ (b1.mono o3)
  exact up0
 have z : w.heap.size + 4 ≤ W.heap.size := by have := b1.size; simp at this; omega
 have r0 : Rw W w.heap.size 49 #[.slice cao l.length ccap, .slice iao inn.length icap] := Rw.up rn0 b1 o3
 have r1 : Rw W (w.heap.size + 1) 35 (c.cs (.slice ao xs.length cap)) := Rw.up rn0 b1 o3
 have r2 : Rw W (w.heap.size + 2) 35 (celZ.cs (.slice none 0 0)) := Rw.up rn0 b1 o3
 have r3 : Rw W (w.heap.size + 3) 124 wntZ.cs := Rw.up rn0 b1 o3
 have o1b := own_block o1
 simp at o1b
 obtain ⟨ao', cap', rfl⟩ := own_form o1
 rw [Cel.v_cs]
 have R0 := hd r0
 have R1 := hd r1
 have R2 := hd r2
 have R3 := hd r3
 have HD := hd D
 have O1 := hd o1
 clear b1 r0 r1 r2 r3 D o1
 go_wp2_with (refine wpList_store_rowW rfl 35 (.tmp 3) (.tmp 12) rfl (w.heap.size + 1) (c.cs (.slice ao' xs.length cap')) rfl rfl 35 (c.cs (.slice ao xs.length cap)) R1.out sizeCell rfl (c.cs_one _ rfl) ?_)
 intro W1 HW
 have r0 : Rw W1 w.heap.size 49 #[.slice cao l.length ccap, .slice iao inn.length icap] := by rw [HW.out]; exact R0.out.row_other _ om
 have r1 : Rw W1 (w.heap.size + 1) 35 (c.cs (.slice ao' xs.length cap')) := by rw [HW.out]; exact R1.out.row _
 have r2 : Rw W1 (w.heap.size + 2) 35 (celZ.cs (.slice none 0 0)) := by rw [HW.out]; exact R2.out.row_other _ om
 have r3 : Rw W1 (w.heap.size + 3) 124 wntZ.cs := by rw [HW.out]; exact R3.out.row_other _ om
 have D : Below w.heap.size w W1 := by rw [HW.out]; exact below_row HD.out om _
 have o1 : W1.ownsRow (w.heap.size + 4) 3 1 (.slice ao' xs.length cap') xs.length (ints xs) := by
  rw [HW.out]
  exact own_row (by simpa using O1.out) _ (fun e => by have := o1b _ e; omega)
 have z1 : w.heap.size + 4 ≤ W1.heap.size := by rw [HW.out, setRow_size]; exact z
 clear R0 R1 R2 R3 HD O1 HW z
 have k0 : W1.cell? ⟨w.heap.size + 1, 0, none⟩ = some (.int .i64 c.at_) := r1.cell rfl
 have k15 : W1.cell? ⟨w.heap.size + 1, 15, none⟩ = some (.int .i64 c.en) := r1.cell rfl
 have f15 : W1.frozen? ⟨w.heap.size + 1, 15, none⟩ = false := r1.fr _
 have p0 : W1.cell? ⟨w.heap.size, 0, none⟩ = some (.slice cao l.length ccap) := r0.cell rfl
 have R0 := hd r0
 have R1 := hd r1
 have R2 := hd r2
 have R3 := hd r3
 have HD := hd D
 have O1 := hd o1
 clear r0 r1 r2 r3 D o1
 by_cases hen : c.en = 0
 ·rw [hen] at k15
  obtain ⟨n, hn⟩ : ∃ n : Nat, c.at_ = n := ⟨c.at_.toNat, by omega⟩
  by_cases hlt : n < l.length
  ·have hck : l[n].chk = 0 := firstE_zero hfe n hlt
   have HST : Hid (stepC l inn xs c = (doC l[n] inn xs c wntZ).getD ({ c with en := 2 }, xs, wntZ)) := by
    show stepC l inn xs c = _
    unfold stepC runC
    rw [if_pos hen, hn, Int.toNat_natCast, List.getElem?_eq_getElem hlt]
   obtain ⟨cb, off, cc, hce, hcb, c0, c1, c2, c3⟩ := codes_at (HS.out.up HD.out) n hlt
   injection hce with e1 _ e2
   subst e1
   subst e2
   have hlt' : (n : Int) < l.length := by omega
   rw [hn] at k0
   generalize l[n] = i at hck HST c0 c1 c2 c3
   obtain ⟨op, a, b, m⟩ := i
   simp only at c0 c1 c2 c3
   have HN := hd hn
   clear hen hn
   go_wp2_with (refine wpList_store_rowW rfl 83 (.tmp 6) (.tmp 32) rfl W1.heap.size #[.int .i64 op, .int .i64 a, .int .i64 b, .int .i64 m] rfl rfl 83 #[.int .i64 0, .int .i64 0, .int .i64 0, .int .i64 0] rn0 sizeInstr rfl (four_one _ _ _ _) ?_)
   intro W2 HW
   have bW : Below W1.heap.size W1 W2 := by rw [HW.out]; exact below_row ((Below.refl _ _).alloc (Nat.le_refl _) _) (Nat.le_refl _) _
   have HSo : Hid (So w W2 (w.heap.size + 4) W1.heap.size c (.slice ao' xs.length cap') xs ⟨op, a, b, m⟩ (.slice (some ⟨cb, off, none⟩) l.length ccap) (.slice iao inn.length icap)) :=
    ⟨R0.out.up bW R0.out.lt, R1.out.up bW R1.out.lt, R2.out.up bW R2.out.lt, R3.out.up bW R3.out.lt, by rw [HW.out]; exact Rw.row (cs := #[.int .i64 0, .int .i64 0, .int .i64 0, .int .i64 0]) rn0 _, HD.out.trans (bW.mono om), own_up O1.out bW (own_lt O1.out), z1, fun k e => by have := o1b k e; have := own_lt O1.out k e; omega, Nat.le_refl _, Nat.le_trans z1 bW.size⟩
   have hz2 : W1.heap.size < W2.heap.size := HSo.out.ri.lt
   clear R0 R1 R2 R3 HD O1 HW k0 k15 f15 p0 c0 c1 c2 c3 bW hlt'
   obtain ⟨hop, ⟨ha0, ha1⟩, ⟨hb0, hb1⟩, hj, hc⟩ := chk0 (op := op) (a := a) (b := b) (n := m) hck
   have k0 : W2.cell? ⟨w.heap.size + 1, 0, none⟩ = some (.int .i64 n) := by rw [← HN.out]; exact HSo.out.r1.cell rfl
   have f0 : W2.frozen? ⟨w.heap.size + 1, 0, none⟩ = false := HSo.out.r1.fr _
   have ka : W2.cell? ⟨w.heap.size + 1, 1 + a.toNat, none⟩ = some (.int .i64 (c.reg a)) := HSo.out.r1.cell (cs_reg _ _ ha0 ha1)
   have kb : W2.cell? ⟨w.heap.size + 1, 1 + b.toNat, none⟩ = some (.int .i64 (c.reg b)) := HSo.out.r1.cell (cs_reg _ _ hb0 hb1)
   have fa : W2.frozen? ⟨w.heap.size + 1, 1 + a.toNat, none⟩ = false := HSo.out.r1.fr _
   have j0 : W2.cell? ⟨W1.heap.size, 0, none⟩ = some (.int .i64 op) := HSo.out.ri.cell rfl
   have j1 : W2.cell? ⟨W1.heap.size, 1, none⟩ = some (.int .i64 a) := HSo.out.ri.cell rfl
   have j2 : W2.cell? ⟨W1.heap.size, 2, none⟩ = some (.int .i64 b) := HSo.out.ri.cell rfl
   have j3 : W2.cell? ⟨W1.heap.size, 3, none⟩ = some (.int .i64 m) := HSo.out.ri.cell rfl
   have hna : (n : Int) ≤ 20 := by have := HN.out; omega
   go_wp2
   go_quiet (fail)
   clear k0 f0 ka kb fa j0 j1 j2 j3 hz2
   have HSq := hd (HSo.out.drewN nq)
   clear HSo
   generalize W2.drewN nq = V at HSq ⊢
   have HSo := HSq
   clear HSq
   have hz2 : W1.heap.size < V.heap.size := HSo.out.ri.lt
   have hg1 : w.heap.size + 1 < V.heap.size := by omega
   have hg1' : w.heap.size + 1 ≠ V.heap.size := by omega
   have hgi' : W1.heap.size ≠ V.heap.size := by omega
   have hgg : W1.heap.size ≠ w.heap.size + 1 := by omega
   have hgg' : w.heap.size + 1 ≠ W1.heap.size := by omega
   have k0 : V.cell? ⟨w.heap.size + 1, 0, none⟩ = some (.int .i64 n) := by rw [← HN.out]; exact HSo.out.r1.cell rfl
   have f0 : V.frozen? ⟨w.heap.size + 1, 0, none⟩ = false := HSo.out.r1.fr _
   have ka : V.cell? ⟨w.heap.size + 1, 1 + a.toNat, none⟩ = some (.int .i64 (c.reg a)) := HSo.out.r1.cell (cs_reg _ _ ha0 ha1)
   have kb : V.cell? ⟨w.heap.size + 1, 1 + b.toNat, none⟩ = some (.int .i64 (c.reg b)) := HSo.out.r1.cell (cs_reg _ _ hb0 hb1)
   have fa : V.frozen? ⟨w.heap.size + 1, 1 + a.toNat, none⟩ = false := HSo.out.r1.fr _
   have j0 : V.cell? ⟨W1.heap.size, 0, none⟩ = some (.int .i64 op) := HSo.out.ri.cell rfl
   have j1 : V.cell? ⟨W1.heap.size, 1, none⟩ = some (.int .i64 a) := HSo.out.ri.cell rfl
   have j2 : V.cell? ⟨W1.heap.size, 2, none⟩ = some (.int .i64 b) := HSo.out.ri.cell rfl
   have j3 : V.cell? ⟨W1.heap.size, 3, none⟩ = some (.int .i64 m) := HSo.out.ri.cell rfl
   have hop : op = 1 ∨ op = 2 ∨ op = 3 ∨ op = 4 ∨ op = 5 ∨ op = 6 ∨ op = 7 ∨ op = 8 ∨ op = 9 ∨ op = 10 ∨ op = 11 ∨ op = 12 ∨ op = 13 ∨ op = 14 ∨ op = 15 := by omega
   rcases hop with rfl | rfl | rfl | rfl | rfl | rfl | rfl | rfl | rfl | rfl | rfl | rfl | rfl | rfl | rfl
   ·go_wp2
    have HSe : Hid (Se w _ V.heap.size ((c.setReg a (m)).go ((n : Int) + 1)) (.slice ao' xs.length cap') wntZ xs) := ((HSo.out.reg ha0 ha1 (m)).setAt _).se (by simp)
    have HE : Hid (doC ⟨1, a, b, m⟩ inn xs c wntZ = some (((c.setReg a (m)).go ((n : Int) + 1)), xs, wntZ)) := by
     show doC _ _ _ _ _ = _
     simp [doC, Cel.go, HN.out]
    clear k0 f0 ka kb fa j0 j1 j2 j3 HSo
    generalize World.alloc _ _ = X at HSe ⊢
    have hgw := HSe.out.ngw
    refine region_still (S := fun w' => Rw w' (w.heap.size + 1) 35 (Cel.cs ((c.setReg a (m)).go ((n : Int) + 1)) (.slice ao' xs.length cap')) ∧ Rw w' V.heap.size 124 (Wnt.cs wntZ)) 3 (by kernel_rfl) ⟨HSe.out.r1, HSe.out.rw⟩ (fun hHeld => ?_)
    refine Still.y 0 [] rfl (yields_load rfl _ _ rfl _ ev _ (fun w' hSw => Rw.loadAt hSw.1 Tryz.underlying35 rfl sizeCell)) hHeld ?_
    refine Still.y 1 [] rfl (yields_load rfl _ _ rfl _ ev _ (fun w' hSw => Rw.loadAt hSw.2 Tryz.underlying124 rfl sizeWant)) hHeld ?_
    refine Still.o 2 rfl rfl (fun K hK => ?_)
    refine wp_store_row 35 _ _ rfl (w.heap.size + 2) (Cel.cs ((c.setReg a (m)).go ((n : Int) + 1)) (.slice ao' xs.length cap')) ev ev 35 _ HSe.out.r2 sizeCell rfl (Cel.cs_one _ _ rfl) ?_
    refine hK _ _ (fun _ => ⟨hHeld.1.row_other _ om, hHeld.2.row_other _ om⟩) (fun _ => ?_)
    clear hK K hHeld
    try simp only [Act.put, l1, l2, l3, l4, l5, l6]
    refine Still.o 3 rfl rfl (fun K hK => ?_)
    refine wp_store_row 124 _ _ rfl (w.heap.size + 3) (Wnt.cs wntZ) ev ev 124 _ (Rw.row_other (w := World.drew X) HSe.out.r3 _ om) sizeWant rfl (Wnt.cs_one _) ?_
    refine hK _ _ (fun h => absurd rfl h) (fun _ => ?_)
    clear hK K
    refine Still.over (by kernel_rfl) ?_ _
    go_wp2
    refine bodyPost_ret (results_row2 Tryz.results69 _ _ (w.heap.size + 2) (w.heap.size + 3) _ _ rfl rfl (run_loadVar_row _ _ 35 _ (Cel.cs ((c.setReg a (m)).go ((n : Int) + 1)) (.slice ao' xs.length cap')) (0, 0) _ (Rw.row_other (Rw.row (w := World.drew X) HSe.out.r2 _) _ om) Tryz.underlying35 rfl sizeCell) (run_loadVar_row _ _ 124 _ (Wnt.cs wntZ) (0, 0) _ (Rw.row (Rw.row_other (w := World.drew X) HSe.out.r3 _ om) _) Tryz.underlying124 rfl sizeWant)) rfl ⟨_, by rw [HST.out, HE.out]; rfl, by rw [HST.out, HE.out]; exact own_low (own_row (own_row (w := World.drew X) HSe.out.own _ (fun e => by have := own_block HSe.out.own _ e; omega)) _ (fun e => by have := own_block HSe.out.own _ e; omega)) om, below_row (below_row HSe.out.d.drew om _) om _⟩
   ·go_wp2
    have HSe : Hid (Se w _ V.heap.size ((c.setReg a (c.reg b)).go ((n : Int) + 1)) (.slice ao' xs.length cap') wntZ xs) := ((HSo.out.reg ha0 ha1 (c.reg b)).setAt _).se (by simp)
    have HE : Hid (doC ⟨2, a, b, m⟩ inn xs c wntZ = some (((c.setReg a (c.reg b)).go ((n : Int) + 1)), xs, wntZ)) := by
     show doC _ _ _ _ _ = _
     simp [doC, Cel.go, HN.out]
    clear k0 f0 ka kb fa j0 j1 j2 j3 HSo
    generalize World.alloc _ _ = X at HSe ⊢
    have hgw := HSe.out.ngw
    refine region_still (S := fun w' => Rw w' (w.heap.size + 1) 35 (Cel.cs ((c.setReg a (c.reg b)).go ((n : Int) + 1)) (.slice ao' xs.length cap')) ∧ Rw w' V.heap.size 124 (Wnt.cs wntZ)) 3 (by kernel_rfl) ⟨HSe.out.r1, HSe.out.rw⟩ (fun hHeld => ?_)
    refine Still.y 0 [] rfl (yields_load rfl _ _ rfl _ ev _ (fun w' hSw => Rw.loadAt hSw.1 Tryz.underlying35 rfl sizeCell)) hHeld ?_
    refine Still.y 1 [] rfl (yields_load rfl _ _ rfl _ ev _ (fun w' hSw => Rw.loadAt hSw.2 Tryz.underlying124 rfl sizeWant)) hHeld ?_
    refine Still.o 2 rfl rfl (fun K hK => ?_)
    refine wp_store_row 35 _ _ rfl (w.heap.size + 2) (Cel.cs ((c.setReg a (c.reg b)).go ((n : Int) + 1)) (.slice ao' xs.length cap')) ev ev 35 _ HSe.out.r2 sizeCell rfl (Cel.cs_one _ _ rfl) ?_
    refine hK _ _ (fun _ => ⟨hHeld.1.row_other _ om, hHeld.2.row_other _ om⟩) (fun _ => ?_)
    clear hK K hHeld
    try simp only [Act.put, l1, l2, l3, l4, l5, l6]
    refine Still.o 3 rfl rfl (fun K hK => ?_)
    refine wp_store_row 124 _ _ rfl (w.heap.size + 3) (Wnt.cs wntZ) ev ev 124 _ (Rw.row_other (w := World.drew X) HSe.out.r3 _ om) sizeWant rfl (Wnt.cs_one _) ?_
    refine hK _ _ (fun h => absurd rfl h) (fun _ => ?_)
    clear hK K
    refine Still.over (by kernel_rfl) ?_ _
    go_wp2
    refine bodyPost_ret (results_row2 Tryz.results69 _ _ (w.heap.size + 2) (w.heap.size + 3) _ _ rfl rfl (run_loadVar_row _ _ 35 _ (Cel.cs ((c.setReg a (c.reg b)).go ((n : Int) + 1)) (.slice ao' xs.length cap')) (0, 0) _ (Rw.row_other (Rw.row (w := World.drew X) HSe.out.r2 _) _ om) Tryz.underlying35 rfl sizeCell) (run_loadVar_row _ _ 124 _ (Wnt.cs wntZ) (0, 0) _ (Rw.row (Rw.row_other (w := World.drew X) HSe.out.r3 _ om) _) Tryz.underlying124 rfl sizeWant)) rfl ⟨_, by rw [HST.out, HE.out]; rfl, by rw [HST.out, HE.out]; exact own_low (own_row (own_row (w := World.drew X) HSe.out.own _ (fun e => by have := own_block HSe.out.own _ e; omega)) _ (fun e => by have := own_block HSe.out.own _ e; omega)) om, below_row (below_row HSe.out.d.drew om _) om _⟩
   ·go_wp2
    have HSe : Hid (Se w _ V.heap.size ((c.setReg a (wrap64 (c.reg a + c.reg b))).go ((n : Int) + 1)) (.slice ao' xs.length cap') wntZ xs) := ((HSo.out.reg ha0 ha1 (wrap64 (c.reg a + c.reg b))).setAt _).se (by simp)
    have HE : Hid (doC ⟨3, a, b, m⟩ inn xs c wntZ = some (((c.setReg a (wrap64 (c.reg a + c.reg b))).go ((n : Int) + 1)), xs, wntZ)) := by
     show doC _ _ _ _ _ = _
     simp [doC, Cel.go, HN.out]
    clear k0 f0 ka kb fa j0 j1 j2 j3 HSo
    generalize World.alloc _ _ = X at HSe ⊢
    have hgw := HSe.out.ngw
    refine region_still (S := fun w' => Rw w' (w.heap.size + 1) 35 (Cel.cs ((c.setReg a (wrap64 (c.reg a + c.reg b))).go ((n : Int) + 1)) (.slice ao' xs.length cap')) ∧ Rw w' V.heap.size 124 (Wnt.cs wntZ)) 3 (by kernel_rfl) ⟨HSe.out.r1, HSe.out.rw⟩ (fun hHeld => ?_)
    refine Still.y 0 [] rfl (yields_load rfl _ _ rfl _ ev _ (fun w' hSw => Rw.loadAt hSw.1 Tryz.underlying35 rfl sizeCell)) hHeld ?_
    refine Still.y 1 [] rfl (yields_load rfl _ _ rfl _ ev _ (fun w' hSw => Rw.loadAt hSw.2 Tryz.underlying124 rfl sizeWant)) hHeld ?_
    refine Still.o 2 rfl rfl (fun K hK => ?_)
    refine wp_store_row 35 _ _ rfl (w.heap.size + 2) (Cel.cs ((c.setReg a (wrap64 (c.reg a + c.reg b))).go ((n : Int) + 1)) (.slice ao' xs.length cap')) ev ev 35 _ HSe.out.r2 sizeCell rfl (Cel.cs_one _ _ rfl) ?_
    refine hK _ _ (fun _ => ⟨hHeld.1.row_other _ om, hHeld.2.row_other _ om⟩) (fun _ => ?_)
    clear hK K hHeld
    try simp only [Act.put, l1, l2, l3, l4, l5, l6]
    refine Still.o 3 rfl rfl (fun K hK => ?_)
    refine wp_store_row 124 _ _ rfl (w.heap.size + 3) (Wnt.cs wntZ) ev ev 124 _ (Rw.row_other (w := World.drew X) HSe.out.r3 _ om) sizeWant rfl (Wnt.cs_one _) ?_
    refine hK _ _ (fun h => absurd rfl h) (fun _ => ?_)
    clear hK K
    refine Still.over (by kernel_rfl) ?_ _
    go_wp2
    refine bodyPost_ret (results_row2 Tryz.results69 _ _ (w.heap.size + 2) (w.heap.size + 3) _ _ rfl rfl (run_loadVar_row _ _ 35 _ (Cel.cs ((c.setReg a (wrap64 (c.reg a + c.reg b))).go ((n : Int) + 1)) (.slice ao' xs.length cap')) (0, 0) _ (Rw.row_other (Rw.row (w := World.drew X) HSe.out.r2 _) _ om) Tryz.underlying35 rfl sizeCell) (run_loadVar_row _ _ 124 _ (Wnt.cs wntZ) (0, 0) _ (Rw.row (Rw.row_other (w := World.drew X) HSe.out.r3 _ om) _) Tryz.underlying124 rfl sizeWant)) rfl ⟨_, by rw [HST.out, HE.out]; rfl, by rw [HST.out, HE.out]; exact own_low (own_row (own_row (w := World.drew X) HSe.out.own _ (fun e => by have := own_block HSe.out.own _ e; omega)) _ (fun e => by have := own_block HSe.out.own _ e; omega)) om, below_row (below_row HSe.out.d.drew om _) om _⟩
   ·go_wp2
    have HSe : Hid (Se w _ V.heap.size ((c.setReg a (wrap64 (c.reg a - c.reg b))).go ((n : Int) + 1)) (.slice ao' xs.length cap') wntZ xs) := ((HSo.out.reg ha0 ha1 (wrap64 (c.reg a - c.reg b))).setAt _).se (by simp)
    have HE : Hid (doC ⟨4, a, b, m⟩ inn xs c wntZ = some (((c.setReg a (wrap64 (c.reg a - c.reg b))).go ((n : Int) + 1)), xs, wntZ)) := by
     show doC _ _ _ _ _ = _
     simp [doC, Cel.go, HN.out]
    clear k0 f0 ka kb fa j0 j1 j2 j3 HSo
    generalize World.alloc _ _ = X at HSe ⊢
    have hgw := HSe.out.ngw
    refine region_still (S := fun w' => Rw w' (w.heap.size + 1) 35 (Cel.cs ((c.setReg a (wrap64 (c.reg a - c.reg b))).go ((n : Int) + 1)) (.slice ao' xs.length cap')) ∧ Rw w' V.heap.size 124 (Wnt.cs wntZ)) 3 (by kernel_rfl) ⟨HSe.out.r1, HSe.out.rw⟩ (fun hHeld => ?_)
    refine Still.y 0 [] rfl (yields_load rfl _ _ rfl _ ev _ (fun w' hSw => Rw.loadAt hSw.1 Tryz.underlying35 rfl sizeCell)) hHeld ?_
    refine Still.y 1 [] rfl (yields_load rfl _ _ rfl _ ev _ (fun w' hSw => Rw.loadAt hSw.2 Tryz.underlying124 rfl sizeWant)) hHeld ?_
    refine Still.o 2 rfl rfl (fun K hK => ?_)
    refine wp_store_row 35 _ _ rfl (w.heap.size + 2) (Cel.cs ((c.setReg a (wrap64 (c.reg a - c.reg b))).go ((n : Int) + 1)) (.slice ao' xs.length cap')) ev ev 35 _ HSe.out.r2 sizeCell rfl (Cel.cs_one _ _ rfl) ?_
    refine hK _ _ (fun _ => ⟨hHeld.1.row_other _ om, hHeld.2.row_other _ om⟩) (fun _ => ?_)
    clear hK K hHeld
    try simp only [Act.put, l1, l2, l3, l4, l5, l6]
    refine Still.o 3 rfl rfl (fun K hK => ?_)
    refine wp_store_row 124 _ _ rfl (w.heap.size + 3) (Wnt.cs wntZ) ev ev 124 _ (Rw.row_other (w := World.drew X) HSe.out.r3 _ om) sizeWant rfl (Wnt.cs_one _) ?_
    refine hK _ _ (fun h => absurd rfl h) (fun _ => ?_)
    clear hK K
    refine Still.over (by kernel_rfl) ?_ _
    go_wp2
    refine bodyPost_ret (results_row2 Tryz.results69 _ _ (w.heap.size + 2) (w.heap.size + 3) _ _ rfl rfl (run_loadVar_row _ _ 35 _ (Cel.cs ((c.setReg a (wrap64 (c.reg a - c.reg b))).go ((n : Int) + 1)) (.slice ao' xs.length cap')) (0, 0) _ (Rw.row_other (Rw.row (w := World.drew X) HSe.out.r2 _) _ om) Tryz.underlying35 rfl sizeCell) (run_loadVar_row _ _ 124 _ (Wnt.cs wntZ) (0, 0) _ (Rw.row (Rw.row_other (w := World.drew X) HSe.out.r3 _ om) _) Tryz.underlying124 rfl sizeWant)) rfl ⟨_, by rw [HST.out, HE.out]; rfl, by rw [HST.out, HE.out]; exact own_low (own_row (own_row (w := World.drew X) HSe.out.own _ (fun e => by have := own_block HSe.out.own _ e; omega)) _ (fun e => by have := own_block HSe.out.own _ e; omega)) om, below_row (below_row HSe.out.d.drew om _) om _⟩
   ·by_cases hab : c.reg a < c.reg b
    ·have HAB := hd hab
     go_wp2
     have HSe : Hid (Se w _ V.heap.size ((c.setReg a 1).go ((n : Int) + 1)) (.slice ao' xs.length cap') wntZ xs) := (by rw [← c.set2 a 0 1]; exact (((HSo.out.reg ha0 ha1 0).reg ha0 ha1 1).setAt _).se (by simp))
     have HE : Hid (doC ⟨5, a, b, m⟩ inn xs c wntZ = some (((c.setReg a 1).go ((n : Int) + 1)), xs, wntZ)) := by
      show doC _ _ _ _ _ = _
      simp [doC, Cel.go, HN.out, HAB.out, truthI]
     clear k0 f0 ka kb fa j0 j1 j2 j3 HSo
     generalize World.alloc _ _ = X at HSe ⊢
     have hgw := HSe.out.ngw
     refine region_still (S := fun w' => Rw w' (w.heap.size + 1) 35 (Cel.cs ((c.setReg a 1).go ((n : Int) + 1)) (.slice ao' xs.length cap')) ∧ Rw w' V.heap.size 124 (Wnt.cs wntZ)) 3 (by kernel_rfl) ⟨HSe.out.r1, HSe.out.rw⟩ (fun hHeld => ?_)
     refine Still.y 0 [] rfl (yields_load rfl _ _ rfl _ ev _ (fun w' hSw => Rw.loadAt hSw.1 Tryz.underlying35 rfl sizeCell)) hHeld ?_
     refine Still.y 1 [] rfl (yields_load rfl _ _ rfl _ ev _ (fun w' hSw => Rw.loadAt hSw.2 Tryz.underlying124 rfl sizeWant)) hHeld ?_
     refine Still.o 2 rfl rfl (fun K hK => ?_)
     refine wp_store_row 35 _ _ rfl (w.heap.size + 2) (Cel.cs ((c.setReg a 1).go ((n : Int) + 1)) (.slice ao' xs.length cap')) ev ev 35 _ HSe.out.r2 sizeCell rfl (Cel.cs_one _ _ rfl) ?_
     refine hK _ _ (fun _ => ⟨hHeld.1.row_other _ om, hHeld.2.row_other _ om⟩) (fun _ => ?_)
     clear hK K hHeld
     try simp only [Act.put, l1, l2, l3, l4, l5, l6]
     refine Still.o 3 rfl rfl (fun K hK => ?_)
     refine wp_store_row 124 _ _ rfl (w.heap.size + 3) (Wnt.cs wntZ) ev ev 124 _ (Rw.row_other (w := World.drew X) HSe.out.r3 _ om) sizeWant rfl (Wnt.cs_one _) ?_
     refine hK _ _ (fun h => absurd rfl h) (fun _ => ?_)
     clear hK K
     refine Still.over (by kernel_rfl) ?_ _
     go_wp2
     refine bodyPost_ret (results_row2 Tryz.results69 _ _ (w.heap.size + 2) (w.heap.size + 3) _ _ rfl rfl (run_loadVar_row _ _ 35 _ (Cel.cs ((c.setReg a 1).go ((n : Int) + 1)) (.slice ao' xs.length cap')) (0, 0) _ (Rw.row_other (Rw.row (w := World.drew X) HSe.out.r2 _) _ om) Tryz.underlying35 rfl sizeCell) (run_loadVar_row _ _ 124 _ (Wnt.cs wntZ) (0, 0) _ (Rw.row (Rw.row_other (w := World.drew X) HSe.out.r3 _ om) _) Tryz.underlying124 rfl sizeWant)) rfl ⟨_, by rw [HST.out, HE.out]; rfl, by rw [HST.out, HE.out]; exact own_low (own_row (own_row (w := World.drew X) HSe.out.own _ (fun e => by have := own_block HSe.out.own _ e; omega)) _ (fun e => by have := own_block HSe.out.own _ e; omega)) om, below_row (below_row HSe.out.d.drew om _) om _⟩
    ·have HAB := hd hab
     go_wp2
     have HSe : Hid (Se w _ V.heap.size ((c.setReg a 0).go ((n : Int) + 1)) (.slice ao' xs.length cap') wntZ xs) := ((HSo.out.reg ha0 ha1 0).setAt _).se (by simp)
     have HE : Hid (doC ⟨5, a, b, m⟩ inn xs c wntZ = some (((c.setReg a 0).go ((n : Int) + 1)), xs, wntZ)) := by
      show doC _ _ _ _ _ = _
      have hlt0 : ¬ c.reg a < c.reg b := by have := HAB.out; omega
      simp [doC, Cel.go, HN.out, hlt0, truthI]
     clear k0 f0 ka kb fa j0 j1 j2 j3 HSo
     generalize World.alloc _ _ = X at HSe ⊢
     have hgw := HSe.out.ngw
     refine region_still (S := fun w' => Rw w' (w.heap.size + 1) 35 (Cel.cs ((c.setReg a 0).go ((n : Int) + 1)) (.slice ao' xs.length cap')) ∧ Rw w' V.heap.size 124 (Wnt.cs wntZ)) 3 (by kernel_rfl) ⟨HSe.out.r1, HSe.out.rw⟩ (fun hHeld => ?_)
     refine Still.y 0 [] rfl (yields_load rfl _ _ rfl _ ev _ (fun w' hSw => Rw.loadAt hSw.1 Tryz.underlying35 rfl sizeCell)) hHeld ?_
     refine Still.y 1 [] rfl (yields_load rfl _ _ rfl _ ev _ (fun w' hSw => Rw.loadAt hSw.2 Tryz.underlying124 rfl sizeWant)) hHeld ?_
     refine Still.o 2 rfl rfl (fun K hK => ?_)
     refine wp_store_row 35 _ _ rfl (w.heap.size + 2) (Cel.cs ((c.setReg a 0).go ((n : Int) + 1)) (.slice ao' xs.length cap')) ev ev 35 _ HSe.out.r2 sizeCell rfl (Cel.cs_one _ _ rfl) ?_
     refine hK _ _ (fun _ => ⟨hHeld.1.row_other _ om, hHeld.2.row_other _ om⟩) (fun _ => ?_)
     clear hK K hHeld
     try simp only [Act.put, l1, l2, l3, l4, l5, l6]
     refine Still.o 3 rfl rfl (fun K hK => ?_)
     refine wp_store_row 124 _ _ rfl (w.heap.size + 3) (Wnt.cs wntZ) ev ev 124 _ (Rw.row_other (w := World.drew X) HSe.out.r3 _ om) sizeWant rfl (Wnt.cs_one _) ?_
     refine hK _ _ (fun h => absurd rfl h) (fun _ => ?_)
     clear hK K
     refine Still.over (by kernel_rfl) ?_ _
     go_wp2
     refine bodyPost_ret (results_row2 Tryz.results69 _ _ (w.heap.size + 2) (w.heap.size + 3) _ _ rfl rfl (run_loadVar_row _ _ 35 _ (Cel.cs ((c.setReg a 0).go ((n : Int) + 1)) (.slice ao' xs.length cap')) (0, 0) _ (Rw.row_other (Rw.row (w := World.drew X) HSe.out.r2 _) _ om) Tryz.underlying35 rfl sizeCell) (run_loadVar_row _ _ 124 _ (Wnt.cs wntZ) (0, 0) _ (Rw.row (Rw.row_other (w := World.drew X) HSe.out.r3 _ om) _) Tryz.underlying124 rfl sizeWant)) rfl ⟨_, by rw [HST.out, HE.out]; rfl, by rw [HST.out, HE.out]; exact own_low (own_row (own_row (w := World.drew X) HSe.out.own _ (fun e => by have := own_block HSe.out.own _ e; omega)) _ (fun e => by have := own_block HSe.out.own _ e; omega)) om, below_row (below_row HSe.out.d.drew om _) om _⟩
   ·by_cases hm : c.reg b < 0 ∨ 8 ≤ c.reg b
    ·have hw : withinB (c.reg b) 0 7 = false := by simp [withinB]; omega
     have HSTb : Hid (stepC l inn xs c = ({ c with en := 2 }, xs, wntZ)) := by
      show stepC l inn xs c = _
      rw [HST.out]
      simp [doC, hm]
     clear HST
     have HST := HSTb
     go_wp2_with (first | (go_at_call 34; refine (within_any _ _ _ _).mono ?_; rintro e w' ⟨rfl, rfl⟩) | (refine wpList_store_cellW rfl 3 (.tmp 100) (.const (.int .i64 2)) rfl (w.heap.size + 1) 15 (.int .i64 2) rfl rfl rfl 35 (c.cs (.slice ao' xs.length cap')) (HSo.out.alloc _).r1 (by simp [Cel.cs]) sizeInt ?_))
     intro X HX
     have HSx : Hid (So w X (w.heap.size + 4) W1.heap.size { c with en := 2 } (.slice ao' xs.length cap') xs ⟨6, a, b, m⟩ (.slice (some ⟨cb, off, none⟩) l.length ccap) (.slice iao inn.length icap)) := by
      rw [HX.out]
      exact (HSo.out.setEn 2).alloc _
     clear k0 f0 ka kb fa j0 j1 j2 j3 HSo HX
     go_wp2_with (first | (refine wpList_load_row rfl 35 (.tmp 3) rfl (w.heap.size + 1) rfl 35 (Cel.cs { c with en := 2 } (.slice ao' xs.length cap')) (0, 0) _ HSx.out.r1 Tryz.underlying35 rfl sizeCell ?_) | (refine wpList_store_row rfl 35 (.tmp 4) (.tmp 101) rfl (w.heap.size + 2) (Cel.cs { c with en := 2 } (.slice ao' xs.length cap')) rfl rfl 35 _ HSx.out.r2 sizeCell rfl (Cel.cs_one _ _ rfl) ?_) | (refine wpList_store_row rfl 124 (.tmp 5) (.tmp 102) rfl (w.heap.size + 3) wntZ.cs rfl rfl 124 _ (HSx.out.r3.row_other _ om) sizeWant rfl (Wnt.cs_one _) ?_))
     refine bodyPost_ret (results_row2 Tryz.results69 _ _ (w.heap.size + 2) (w.heap.size + 3) _ _ rfl rfl (run_loadVar_row _ _ 35 _ (Cel.cs { c with en := 2 } (.slice ao' xs.length cap')) (0, 0) _ (Rw.row_other (HSx.out.r2.row _) _ om) Tryz.underlying35 rfl sizeCell) (run_loadVar_row _ _ 124 _ wntZ.cs (0, 0) _ (Rw.row (HSx.out.r3.row_other _ om) _) Tryz.underlying124 rfl sizeWant)) rfl ⟨_, by rw [HST.out]; rfl, by rw [HST.out]; exact own_low (own_row (own_row HSx.out.own _ (fun e => by have := o1b _ e; omega)) _ (fun e => by have := o1b _ e; omega)) om, below_row (below_row HSx.out.d om _) om _⟩
    ·have hw : withinB (c.reg b) 0 7 = true := by simp [withinB]; omega
     have hm0 : 0 ≤ c.reg b := by omega
     have hm1 : c.reg b < 8 := by omega
     have km : V.cell? ⟨w.heap.size + 1, 5 + (c.reg b).toNat, none⟩ = some (.int .i64 (c.memo (c.reg b))) := HSo.out.r1.cell (cs_mem _ _ hm0 hm1)
     have fm : V.frozen? ⟨w.heap.size + 1, 5 + (c.reg b).toNat, none⟩ = false := HSo.out.r1.fr _
     go_wp2_with (go_at_call 34; refine (within_any _ _ _ _).mono ?_; rintro e w' ⟨rfl, rfl⟩)
     go_region
     all_goals
      go_wp2
      have HSe : Hid (Se w _ V.heap.size ((c.setReg a (c.memo (c.reg b))).go ((n : Int) + 1)) (.slice ao' xs.length cap') wntZ xs) := (((HSo.out.reg ha0 ha1 (c.memo (c.reg b))).setAt _).se (by simp)).drew
      have HE : Hid (doC ⟨6, a, b, m⟩ inn xs c wntZ = some (((c.setReg a (c.memo (c.reg b))).go ((n : Int) + 1)), xs, wntZ)) := by
       show doC _ _ _ _ _ = _
       simp [doC, Cel.go, HN.out, hm]
      clear k0 f0 ka kb fa j0 j1 j2 j3 HSo km fm
      generalize World.drew _ = X at HSe ⊢
      have hgw := HSe.out.ngw
      refine region_still (S := fun w' => Rw w' (w.heap.size + 1) 35 (Cel.cs ((c.setReg a (c.memo (c.reg b))).go ((n : Int) + 1)) (.slice ao' xs.length cap')) ∧ Rw w' V.heap.size 124 (Wnt.cs wntZ)) 3 (by kernel_rfl) ⟨HSe.out.r1, HSe.out.rw⟩ (fun hHeld => ?_)
      refine Still.y 0 [] rfl (yields_load rfl _ _ rfl _ ev _ (fun w' hSw => Rw.loadAt hSw.1 Tryz.underlying35 rfl sizeCell)) hHeld ?_
      refine Still.y 1 [] rfl (yields_load rfl _ _ rfl _ ev _ (fun w' hSw => Rw.loadAt hSw.2 Tryz.underlying124 rfl sizeWant)) hHeld ?_
      refine Still.o 2 rfl rfl (fun K hK => ?_)
      refine wp_store_row 35 _ _ rfl (w.heap.size + 2) (Cel.cs ((c.setReg a (c.memo (c.reg b))).go ((n : Int) + 1)) (.slice ao' xs.length cap')) ev ev 35 _ HSe.out.r2 sizeCell rfl (Cel.cs_one _ _ rfl) ?_
      refine hK _ _ (fun _ => ⟨hHeld.1.row_other _ om, hHeld.2.row_other _ om⟩) (fun _ => ?_)
      clear hK K hHeld
      try simp only [Act.put, l1, l2, l3, l4, l5, l6]
      refine Still.o 3 rfl rfl (fun K hK => ?_)
      refine wp_store_row 124 _ _ rfl (w.heap.size + 3) (Wnt.cs wntZ) ev ev 124 _ (Rw.row_other (w := World.drew X) HSe.out.r3 _ om) sizeWant rfl (Wnt.cs_one _) ?_
      refine hK _ _ (fun h => absurd rfl h) (fun _ => ?_)
      clear hK K
      refine Still.over (by kernel_rfl) ?_ _
      go_wp2
      refine bodyPost_ret (results_row2 Tryz.results69 _ _ (w.heap.size + 2) (w.heap.size + 3) _ _ rfl rfl (run_loadVar_row _ _ 35 _ (Cel.cs ((c.setReg a (c.memo (c.reg b))).go ((n : Int) + 1)) (.slice ao' xs.length cap')) (0, 0) _ (Rw.row_other (Rw.row (w := World.drew X) HSe.out.r2 _) _ om) Tryz.underlying35 rfl sizeCell) (run_loadVar_row _ _ 124 _ (Wnt.cs wntZ) (0, 0) _ (Rw.row (Rw.row_other (w := World.drew X) HSe.out.r3 _ om) _) Tryz.underlying124 rfl sizeWant)) rfl ⟨_, by rw [HST.out, HE.out]; rfl, by rw [HST.out, HE.out]; exact own_low (own_row (own_row (w := World.drew X) HSe.out.own _ (fun e => by have := own_block HSe.out.own _ e; omega)) _ (fun e => by have := own_block HSe.out.own _ e; omega)) om, below_row (below_row HSe.out.d.drew om _) om _⟩
   ·by_cases hm : c.reg b < 0 ∨ 8 ≤ c.reg b
    ·have hw : withinB (c.reg b) 0 7 = false := by simp [withinB]; omega
     have HSTb : Hid (stepC l inn xs c = ({ c with en := 2 }, xs, wntZ)) := by
      show stepC l inn xs c = _
      rw [HST.out]
      simp [doC, hm]
     clear HST
     have HST := HSTb
     go_wp2_with (first | (go_at_call 34; refine (within_any _ _ _ _).mono ?_; rintro e w' ⟨rfl, rfl⟩) | (refine wpList_store_cellW rfl 3 (.tmp 100) (.const (.int .i64 2)) rfl (w.heap.size + 1) 15 (.int .i64 2) rfl rfl rfl 35 (c.cs (.slice ao' xs.length cap')) (HSo.out.alloc _).r1 (by simp [Cel.cs]) sizeInt ?_))
     intro X HX
     have HSx : Hid (So w X (w.heap.size + 4) W1.heap.size { c with en := 2 } (.slice ao' xs.length cap') xs ⟨7, a, b, m⟩ (.slice (some ⟨cb, off, none⟩) l.length ccap) (.slice iao inn.length icap)) := by
      rw [HX.out]
      exact (HSo.out.setEn 2).alloc _
     clear k0 f0 ka kb fa j0 j1 j2 j3 HSo HX
     go_wp2_with (first | (refine wpList_load_row rfl 35 (.tmp 3) rfl (w.heap.size + 1) rfl 35 (Cel.cs { c with en := 2 } (.slice ao' xs.length cap')) (0, 0) _ HSx.out.r1 Tryz.underlying35 rfl sizeCell ?_) | (refine wpList_store_row rfl 35 (.tmp 4) (.tmp 101) rfl (w.heap.size + 2) (Cel.cs { c with en := 2 } (.slice ao' xs.length cap')) rfl rfl 35 _ HSx.out.r2 sizeCell rfl (Cel.cs_one _ _ rfl) ?_) | (refine wpList_store_row rfl 124 (.tmp 5) (.tmp 102) rfl (w.heap.size + 3) wntZ.cs rfl rfl 124 _ (HSx.out.r3.row_other _ om) sizeWant rfl (Wnt.cs_one _) ?_))
     refine bodyPost_ret (results_row2 Tryz.results69 _ _ (w.heap.size + 2) (w.heap.size + 3) _ _ rfl rfl (run_loadVar_row _ _ 35 _ (Cel.cs { c with en := 2 } (.slice ao' xs.length cap')) (0, 0) _ (Rw.row_other (HSx.out.r2.row _) _ om) Tryz.underlying35 rfl sizeCell) (run_loadVar_row _ _ 124 _ wntZ.cs (0, 0) _ (Rw.row (HSx.out.r3.row_other _ om) _) Tryz.underlying124 rfl sizeWant)) rfl ⟨_, by rw [HST.out]; rfl, by rw [HST.out]; exact own_low (own_row (own_row HSx.out.own _ (fun e => by have := o1b _ e; omega)) _ (fun e => by have := o1b _ e; omega)) om, below_row (below_row HSx.out.d om _) om _⟩
    ·have hw : withinB (c.reg b) 0 7 = true := by simp [withinB]; omega
     have hm0 : 0 ≤ c.reg b := by omega
     have hm1 : c.reg b < 8 := by omega
     have km : V.cell? ⟨w.heap.size + 1, 5 + (c.reg b).toNat, none⟩ = some (.int .i64 (c.memo (c.reg b))) := HSo.out.r1.cell (cs_mem _ _ hm0 hm1)
     have fm : V.frozen? ⟨w.heap.size + 1, 5 + (c.reg b).toNat, none⟩ = false := HSo.out.r1.fr _
     go_wp2_with (go_at_call 34; refine (within_any _ _ _ _).mono ?_; rintro e w' ⟨rfl, rfl⟩)
     have HSe : Hid (Se w _ V.heap.size ((c.setMem (c.reg b) (c.reg a)).go ((n : Int) + 1)) (.slice ao' xs.length cap') wntZ xs) := ((HSo.out.mem hm0 hm1 (c.reg a)).setAt _).se (by simp)
     have HE : Hid (doC ⟨7, a, b, m⟩ inn xs c wntZ = some (((c.setMem (c.reg b) (c.reg a)).go ((n : Int) + 1)), xs, wntZ)) := by
      show doC _ _ _ _ _ = _
      simp [doC, Cel.go, HN.out, hm]
     clear k0 f0 ka kb fa j0 j1 j2 j3 HSo km fm
     generalize World.alloc _ _ = X at HSe ⊢
     have hgw := HSe.out.ngw
     refine region_still (S := fun w' => Rw w' (w.heap.size + 1) 35 (Cel.cs ((c.setMem (c.reg b) (c.reg a)).go ((n : Int) + 1)) (.slice ao' xs.length cap')) ∧ Rw w' V.heap.size 124 (Wnt.cs wntZ)) 3 (by kernel_rfl) ⟨HSe.out.r1, HSe.out.rw⟩ (fun hHeld => ?_)
     refine Still.y 0 [] rfl (yields_load rfl _ _ rfl _ ev _ (fun w' hSw => Rw.loadAt hSw.1 Tryz.underlying35 rfl sizeCell)) hHeld ?_
     refine Still.y 1 [] rfl (yields_load rfl _ _ rfl _ ev _ (fun w' hSw => Rw.loadAt hSw.2 Tryz.underlying124 rfl sizeWant)) hHeld ?_
     refine Still.o 2 rfl rfl (fun K hK => ?_)
     refine wp_store_row 35 _ _ rfl (w.heap.size + 2) (Cel.cs ((c.setMem (c.reg b) (c.reg a)).go ((n : Int) + 1)) (.slice ao' xs.length cap')) ev ev 35 _ HSe.out.r2 sizeCell rfl (Cel.cs_one _ _ rfl) ?_
     refine hK _ _ (fun _ => ⟨hHeld.1.row_other _ om, hHeld.2.row_other _ om⟩) (fun _ => ?_)
     clear hK K hHeld
     try simp only [Act.put, l1, l2, l3, l4, l5, l6]
     refine Still.o 3 rfl rfl (fun K hK => ?_)
     refine wp_store_row 124 _ _ rfl (w.heap.size + 3) (Wnt.cs wntZ) ev ev 124 _ (Rw.row_other (w := World.drew X) HSe.out.r3 _ om) sizeWant rfl (Wnt.cs_one _) ?_
     refine hK _ _ (fun h => absurd rfl h) (fun _ => ?_)
     clear hK K
     refine Still.over (by kernel_rfl) ?_ _
     go_wp2
     refine bodyPost_ret (results_row2 Tryz.results69 _ _ (w.heap.size + 2) (w.heap.size + 3) _ _ rfl rfl (run_loadVar_row _ _ 35 _ (Cel.cs ((c.setMem (c.reg b) (c.reg a)).go ((n : Int) + 1)) (.slice ao' xs.length cap')) (0, 0) _ (Rw.row_other (Rw.row (w := World.drew X) HSe.out.r2 _) _ om) Tryz.underlying35 rfl sizeCell) (run_loadVar_row _ _ 124 _ (Wnt.cs wntZ) (0, 0) _ (Rw.row (Rw.row_other (w := World.drew X) HSe.out.r3 _ om) _) Tryz.underlying124 rfl sizeWant)) rfl ⟨_, by rw [HST.out, HE.out]; rfl, by rw [HST.out, HE.out]; exact own_low (own_row (own_row (w := World.drew X) HSe.out.own _ (fun e => by have := own_block HSe.out.own _ e; omega)) _ (fun e => by have := own_block HSe.out.own _ e; omega)) om, below_row (below_row HSe.out.d.drew om _) om _⟩
   ·go_wp2
    have HSe : Hid (Se w _ V.heap.size (c.go m) (.slice ao' xs.length cap') wntZ xs) := (HSo.out.setAt _).se (by simp)
    have HE : Hid (doC ⟨8, a, b, m⟩ inn xs c wntZ = some ((c.go m), xs, wntZ)) := by
     show doC _ _ _ _ _ = _
     simp [doC, Cel.go, HN.out]
    clear k0 f0 ka kb fa j0 j1 j2 j3 HSo
    generalize World.alloc _ _ = X at HSe ⊢
    have hgw := HSe.out.ngw
    refine region_still (S := fun w' => Rw w' (w.heap.size + 1) 35 (Cel.cs (c.go m) (.slice ao' xs.length cap')) ∧ Rw w' V.heap.size 124 (Wnt.cs wntZ)) 3 (by kernel_rfl) ⟨HSe.out.r1, HSe.out.rw⟩ (fun hHeld => ?_)
    refine Still.y 0 [] rfl (yields_load rfl _ _ rfl _ ev _ (fun w' hSw => Rw.loadAt hSw.1 Tryz.underlying35 rfl sizeCell)) hHeld ?_
    refine Still.y 1 [] rfl (yields_load rfl _ _ rfl _ ev _ (fun w' hSw => Rw.loadAt hSw.2 Tryz.underlying124 rfl sizeWant)) hHeld ?_
    refine Still.o 2 rfl rfl (fun K hK => ?_)
    refine wp_store_row 35 _ _ rfl (w.heap.size + 2) (Cel.cs (c.go m) (.slice ao' xs.length cap')) ev ev 35 _ HSe.out.r2 sizeCell rfl (Cel.cs_one _ _ rfl) ?_
    refine hK _ _ (fun _ => ⟨hHeld.1.row_other _ om, hHeld.2.row_other _ om⟩) (fun _ => ?_)
    clear hK K hHeld
    try simp only [Act.put, l1, l2, l3, l4, l5, l6]
    refine Still.o 3 rfl rfl (fun K hK => ?_)
    refine wp_store_row 124 _ _ rfl (w.heap.size + 3) (Wnt.cs wntZ) ev ev 124 _ (Rw.row_other (w := World.drew X) HSe.out.r3 _ om) sizeWant rfl (Wnt.cs_one _) ?_
    refine hK _ _ (fun h => absurd rfl h) (fun _ => ?_)
    clear hK K
    refine Still.over (by kernel_rfl) ?_ _
    go_wp2
    refine bodyPost_ret (results_row2 Tryz.results69 _ _ (w.heap.size + 2) (w.heap.size + 3) _ _ rfl rfl (run_loadVar_row _ _ 35 _ (Cel.cs (c.go m) (.slice ao' xs.length cap')) (0, 0) _ (Rw.row_other (Rw.row (w := World.drew X) HSe.out.r2 _) _ om) Tryz.underlying35 rfl sizeCell) (run_loadVar_row _ _ 124 _ (Wnt.cs wntZ) (0, 0) _ (Rw.row (Rw.row_other (w := World.drew X) HSe.out.r3 _ om) _) Tryz.underlying124 rfl sizeWant)) rfl ⟨_, by rw [HST.out, HE.out]; rfl, by rw [HST.out, HE.out]; exact own_low (own_row (own_row (w := World.drew X) HSe.out.own _ (fun e => by have := own_block HSe.out.own _ e; omega)) _ (fun e => by have := own_block HSe.out.own _ e; omega)) om, below_row (below_row HSe.out.d.drew om _) om _⟩
   ·by_cases hq : c.reg a = 0
    ·have hq' : (c.reg a == 0) = true := by simp [hq]
     go_wp2
     have HSe : Hid (Se w _ V.heap.size (c.go m) (.slice ao' xs.length cap') wntZ xs) := (HSo.out.setAt _).se (by simp)
     have HE : Hid (doC ⟨9, a, b, m⟩ inn xs c wntZ = some ((c.go m), xs, wntZ)) := by
      show doC _ _ _ _ _ = _
      simp [doC, Cel.go, HN.out, hq]
     clear k0 f0 ka kb fa j0 j1 j2 j3 HSo
     generalize World.alloc _ _ = X at HSe ⊢
     have hgw := HSe.out.ngw
     refine region_still (S := fun w' => Rw w' (w.heap.size + 1) 35 (Cel.cs (c.go m) (.slice ao' xs.length cap')) ∧ Rw w' V.heap.size 124 (Wnt.cs wntZ)) 3 (by kernel_rfl) ⟨HSe.out.r1, HSe.out.rw⟩ (fun hHeld => ?_)
     refine Still.y 0 [] rfl (yields_load rfl _ _ rfl _ ev _ (fun w' hSw => Rw.loadAt hSw.1 Tryz.underlying35 rfl sizeCell)) hHeld ?_
     refine Still.y 1 [] rfl (yields_load rfl _ _ rfl _ ev _ (fun w' hSw => Rw.loadAt hSw.2 Tryz.underlying124 rfl sizeWant)) hHeld ?_
     refine Still.o 2 rfl rfl (fun K hK => ?_)
     refine wp_store_row 35 _ _ rfl (w.heap.size + 2) (Cel.cs (c.go m) (.slice ao' xs.length cap')) ev ev 35 _ HSe.out.r2 sizeCell rfl (Cel.cs_one _ _ rfl) ?_
     refine hK _ _ (fun _ => ⟨hHeld.1.row_other _ om, hHeld.2.row_other _ om⟩) (fun _ => ?_)
     clear hK K hHeld
     try simp only [Act.put, l1, l2, l3, l4, l5, l6]
     refine Still.o 3 rfl rfl (fun K hK => ?_)
     refine wp_store_row 124 _ _ rfl (w.heap.size + 3) (Wnt.cs wntZ) ev ev 124 _ (Rw.row_other (w := World.drew X) HSe.out.r3 _ om) sizeWant rfl (Wnt.cs_one _) ?_
     refine hK _ _ (fun h => absurd rfl h) (fun _ => ?_)
     clear hK K
     refine Still.over (by kernel_rfl) ?_ _
     go_wp2
     refine bodyPost_ret (results_row2 Tryz.results69 _ _ (w.heap.size + 2) (w.heap.size + 3) _ _ rfl rfl (run_loadVar_row _ _ 35 _ (Cel.cs (c.go m) (.slice ao' xs.length cap')) (0, 0) _ (Rw.row_other (Rw.row (w := World.drew X) HSe.out.r2 _) _ om) Tryz.underlying35 rfl sizeCell) (run_loadVar_row _ _ 124 _ (Wnt.cs wntZ) (0, 0) _ (Rw.row (Rw.row_other (w := World.drew X) HSe.out.r3 _ om) _) Tryz.underlying124 rfl sizeWant)) rfl ⟨_, by rw [HST.out, HE.out]; rfl, by rw [HST.out, HE.out]; exact own_low (own_row (own_row (w := World.drew X) HSe.out.own _ (fun e => by have := own_block HSe.out.own _ e; omega)) _ (fun e => by have := own_block HSe.out.own _ e; omega)) om, below_row (below_row HSe.out.d.drew om _) om _⟩
    ·have hq' : (c.reg a == 0) = false := by simpa using hq
     go_wp2
     have HSe : Hid (Se w _ V.heap.size (c.go ((n : Int) + 1)) (.slice ao' xs.length cap') wntZ xs) := (HSo.out.setAt _).se (by simp)
     have HE : Hid (doC ⟨9, a, b, m⟩ inn xs c wntZ = some ((c.go ((n : Int) + 1)), xs, wntZ)) := by
      show doC _ _ _ _ _ = _
      simp [doC, Cel.go, HN.out, hq]
     clear k0 f0 ka kb fa j0 j1 j2 j3 HSo
     generalize World.alloc _ _ = X at HSe ⊢
     have hgw := HSe.out.ngw
     refine region_still (S := fun w' => Rw w' (w.heap.size + 1) 35 (Cel.cs (c.go ((n : Int) + 1)) (.slice ao' xs.length cap')) ∧ Rw w' V.heap.size 124 (Wnt.cs wntZ)) 3 (by kernel_rfl) ⟨HSe.out.r1, HSe.out.rw⟩ (fun hHeld => ?_)
     refine Still.y 0 [] rfl (yields_load rfl _ _ rfl _ ev _ (fun w' hSw => Rw.loadAt hSw.1 Tryz.underlying35 rfl sizeCell)) hHeld ?_
     refine Still.y 1 [] rfl (yields_load rfl _ _ rfl _ ev _ (fun w' hSw => Rw.loadAt hSw.2 Tryz.underlying124 rfl sizeWant)) hHeld ?_
     refine Still.o 2 rfl rfl (fun K hK => ?_)
     refine wp_store_row 35 _ _ rfl (w.heap.size + 2) (Cel.cs (c.go ((n : Int) + 1)) (.slice ao' xs.length cap')) ev ev 35 _ HSe.out.r2 sizeCell rfl (Cel.cs_one _ _ rfl) ?_
     refine hK _ _ (fun _ => ⟨hHeld.1.row_other _ om, hHeld.2.row_other _ om⟩) (fun _ => ?_)
     clear hK K hHeld
     try simp only [Act.put, l1, l2, l3, l4, l5, l6]
     refine Still.o 3 rfl rfl (fun K hK => ?_)
     refine wp_store_row 124 _ _ rfl (w.heap.size + 3) (Wnt.cs wntZ) ev ev 124 _ (Rw.row_other (w := World.drew X) HSe.out.r3 _ om) sizeWant rfl (Wnt.cs_one _) ?_
     refine hK _ _ (fun h => absurd rfl h) (fun _ => ?_)
     clear hK K
     refine Still.over (by kernel_rfl) ?_ _
     go_wp2
     refine bodyPost_ret (results_row2 Tryz.results69 _ _ (w.heap.size + 2) (w.heap.size + 3) _ _ rfl rfl (run_loadVar_row _ _ 35 _ (Cel.cs (c.go ((n : Int) + 1)) (.slice ao' xs.length cap')) (0, 0) _ (Rw.row_other (Rw.row (w := World.drew X) HSe.out.r2 _) _ om) Tryz.underlying35 rfl sizeCell) (run_loadVar_row _ _ 124 _ (Wnt.cs wntZ) (0, 0) _ (Rw.row (Rw.row_other (w := World.drew X) HSe.out.r3 _ om) _) Tryz.underlying124 rfl sizeWant)) rfl ⟨_, by rw [HST.out, HE.out]; rfl, by rw [HST.out, HE.out]; exact own_low (own_row (own_row (w := World.drew X) HSe.out.own _ (fun e => by have := own_block HSe.out.own _ e; omega)) _ (fun e => by have := own_block HSe.out.own _ e; omega)) om, below_row (below_row HSe.out.d.drew om _) om _⟩
   ·obtain ⟨r, hrr⟩ : ∃ r : Nat, c.read = r := ⟨c.read.toNat, by omega⟩
    have k13 : V.cell? ⟨w.heap.size + 1, 13, none⟩ = some (.int .i64 r) := by rw [← hrr]; exact HSo.out.r1.cell rfl
    have f13 : V.frozen? ⟨w.heap.size + 1, 13, none⟩ = false := HSo.out.r1.fr _
    have pin : V.cell? ⟨w.heap.size, 1, none⟩ = some (.slice iao inn.length icap) := HSo.out.r0.cell rfl
    have hg0 : w.heap.size < V.heap.size := by omega
    have hg0' : w.heap.size ≠ V.heap.size := by omega
    have hr12 : (r : Int) ≤ 12 := by omega
    have HRR := hd hrr
    by_cases hrl : r < inn.length
    ·have hrl' : (r : Int) < inn.length := by omega
     obtain ⟨ib, ioff, icap', hie, hicap, hib, hic⟩ := HI.out.open om
     injection hie with e1 _ e2
     subst e1
     subst e2
     have kr := bcl HSo.out.d hib (hic r _ (ints_at inn r hrl))
     have hib1 : ib ≠ w.heap.size + 1 := by omega
     have hib2 : ib < V.heap.size := by omega
     have hib3 : ib ≠ V.heap.size := by omega
     clear hic hrr
     go_wp2
     go_region
     all_goals
      go_wp2
      have HSe : Hid (Se w _ V.heap.size (({ (c.setReg a inn[r]) with read := (r : Int) + 1 } : Cel).go ((n : Int) + 1)) (.slice ao' xs.length cap') wntZ xs) := (by rw [← c.set2 a 0 inn[r]]; exact (((((HSo.out.reg ha0 ha1 0).reg ha0 ha1 inn[r]).setRead _).setAt _).se (by simp)).drew)
      have HE : Hid (doC ⟨10, a, b, m⟩ inn xs c wntZ = some ((({ (c.setReg a inn[r]) with read := (r : Int) + 1 } : Cel).go ((n : Int) + 1)), xs, wntZ)) := by
       show doC _ _ _ _ _ = _
       have e1 : takeC c inn.length = { c with read := (r : Int) + 1 } := by simp [takeC, HRR.out, hrl]
       have e2 : takeI inn c.read = inn[r] := by simp [takeI, HRR.out, hrl]
       have e3 : doC ⟨10, a, b, m⟩ inn xs c wntZ = some ({ (takeC c inn.length).setReg a (takeI inn c.read) with at_ := c.at_ + 1 }, xs, wntZ) := by simp [doC]
       rw [e3, e1, e2, Cel.set_read, HN.out]
       rfl
      clear k0 f0 ka kb fa j0 j1 j2 j3 HSo k13 f13 pin kr
      generalize World.drew _ = X at HSe ⊢
      have hgw := HSe.out.ngw
      refine region_still (S := fun w' => Rw w' (w.heap.size + 1) 35 (Cel.cs (({ (c.setReg a inn[r]) with read := (r : Int) + 1 } : Cel).go ((n : Int) + 1)) (.slice ao' xs.length cap')) ∧ Rw w' V.heap.size 124 (Wnt.cs wntZ)) 3 (by kernel_rfl) ⟨HSe.out.r1, HSe.out.rw⟩ (fun hHeld => ?_)
      refine Still.y 0 [] rfl (yields_load rfl _ _ rfl _ ev _ (fun w' hSw => Rw.loadAt hSw.1 Tryz.underlying35 rfl sizeCell)) hHeld ?_
      refine Still.y 1 [] rfl (yields_load rfl _ _ rfl _ ev _ (fun w' hSw => Rw.loadAt hSw.2 Tryz.underlying124 rfl sizeWant)) hHeld ?_
      refine Still.o 2 rfl rfl (fun K hK => ?_)
      refine wp_store_row 35 _ _ rfl (w.heap.size + 2) (Cel.cs (({ (c.setReg a inn[r]) with read := (r : Int) + 1 } : Cel).go ((n : Int) + 1)) (.slice ao' xs.length cap')) ev ev 35 _ HSe.out.r2 sizeCell rfl (Cel.cs_one _ _ rfl) ?_
      refine hK _ _ (fun _ => ⟨hHeld.1.row_other _ om, hHeld.2.row_other _ om⟩) (fun _ => ?_)
      clear hK K hHeld
      try simp only [Act.put, l1, l2, l3, l4, l5, l6]
      refine Still.o 3 rfl rfl (fun K hK => ?_)
      refine wp_store_row 124 _ _ rfl (w.heap.size + 3) (Wnt.cs wntZ) ev ev 124 _ (Rw.row_other (w := World.drew X) HSe.out.r3 _ om) sizeWant rfl (Wnt.cs_one _) ?_
      refine hK _ _ (fun h => absurd rfl h) (fun _ => ?_)
      clear hK K
      refine Still.over (by kernel_rfl) ?_ _
      go_wp2
      refine bodyPost_ret (results_row2 Tryz.results69 _ _ (w.heap.size + 2) (w.heap.size + 3) _ _ rfl rfl (run_loadVar_row _ _ 35 _ (Cel.cs (({ (c.setReg a inn[r]) with read := (r : Int) + 1 } : Cel).go ((n : Int) + 1)) (.slice ao' xs.length cap')) (0, 0) _ (Rw.row_other (Rw.row (w := World.drew X) HSe.out.r2 _) _ om) Tryz.underlying35 rfl sizeCell) (run_loadVar_row _ _ 124 _ (Wnt.cs wntZ) (0, 0) _ (Rw.row (Rw.row_other (w := World.drew X) HSe.out.r3 _ om) _) Tryz.underlying124 rfl sizeWant)) rfl ⟨_, by rw [HST.out, HE.out]; rfl, by rw [HST.out, HE.out]; exact own_low (own_row (own_row (w := World.drew X) HSe.out.own _ (fun e => by have := own_block HSe.out.own _ e; omega)) _ (fun e => by have := own_block HSe.out.own _ e; omega)) om, below_row (below_row HSe.out.d.drew om _) om _⟩
    ·have hrl' : ¬ (r : Int) < inn.length := by omega
     clear hrr
     go_wp2
     have HSe : Hid (Se w _ V.heap.size ((c.setReg a 0).go ((n : Int) + 1)) (.slice ao' xs.length cap') wntZ xs) := ((HSo.out.reg ha0 ha1 0).setAt _).se (by simp)
     have HE : Hid (doC ⟨10, a, b, m⟩ inn xs c wntZ = some (((c.setReg a 0).go ((n : Int) + 1)), xs, wntZ)) := by
      show doC _ _ _ _ _ = _
      simp [doC, Cel.go, HN.out, takeC, takeI, HRR.out, hrl]
     clear k0 f0 ka kb fa j0 j1 j2 j3 HSo k13 f13 pin
     generalize World.alloc _ _ = X at HSe ⊢
     have hgw := HSe.out.ngw
     refine region_still (S := fun w' => Rw w' (w.heap.size + 1) 35 (Cel.cs ((c.setReg a 0).go ((n : Int) + 1)) (.slice ao' xs.length cap')) ∧ Rw w' V.heap.size 124 (Wnt.cs wntZ)) 3 (by kernel_rfl) ⟨HSe.out.r1, HSe.out.rw⟩ (fun hHeld => ?_)
     refine Still.y 0 [] rfl (yields_load rfl _ _ rfl _ ev _ (fun w' hSw => Rw.loadAt hSw.1 Tryz.underlying35 rfl sizeCell)) hHeld ?_
     refine Still.y 1 [] rfl (yields_load rfl _ _ rfl _ ev _ (fun w' hSw => Rw.loadAt hSw.2 Tryz.underlying124 rfl sizeWant)) hHeld ?_
     refine Still.o 2 rfl rfl (fun K hK => ?_)
     refine wp_store_row 35 _ _ rfl (w.heap.size + 2) (Cel.cs ((c.setReg a 0).go ((n : Int) + 1)) (.slice ao' xs.length cap')) ev ev 35 _ HSe.out.r2 sizeCell rfl (Cel.cs_one _ _ rfl) ?_
     refine hK _ _ (fun _ => ⟨hHeld.1.row_other _ om, hHeld.2.row_other _ om⟩) (fun _ => ?_)
     clear hK K hHeld
     try simp only [Act.put, l1, l2, l3, l4, l5, l6]
     refine Still.o 3 rfl rfl (fun K hK => ?_)
     refine wp_store_row 124 _ _ rfl (w.heap.size + 3) (Wnt.cs wntZ) ev ev 124 _ (Rw.row_other (w := World.drew X) HSe.out.r3 _ om) sizeWant rfl (Wnt.cs_one _) ?_
     refine hK _ _ (fun h => absurd rfl h) (fun _ => ?_)
     clear hK K
     refine Still.over (by kernel_rfl) ?_ _
     go_wp2
     refine bodyPost_ret (results_row2 Tryz.results69 _ _ (w.heap.size + 2) (w.heap.size + 3) _ _ rfl rfl (run_loadVar_row _ _ 35 _ (Cel.cs ((c.setReg a 0).go ((n : Int) + 1)) (.slice ao' xs.length cap')) (0, 0) _ (Rw.row_other (Rw.row (w := World.drew X) HSe.out.r2 _) _ om) Tryz.underlying35 rfl sizeCell) (run_loadVar_row _ _ 124 _ (Wnt.cs wntZ) (0, 0) _ (Rw.row (Rw.row_other (w := World.drew X) HSe.out.r3 _ om) _) Tryz.underlying124 rfl sizeWant)) rfl ⟨_, by rw [HST.out, HE.out]; rfl, by rw [HST.out, HE.out]; exact own_low (own_row (own_row (w := World.drew X) HSe.out.own _ (fun e => by have := own_block HSe.out.own _ e; omega)) _ (fun e => by have := own_block HSe.out.own _ e; omega)) om, below_row (below_row HSe.out.d.drew om _) om _⟩
   ·have k14 : V.cell? ⟨w.heap.size + 1, 14, none⟩ = some (.slice ao' xs.length cap') := HSo.out.r1.cell rfl
    by_cases hxl : xs.length < 16
    ·have hxi : (xs.length : Int) < 16 := by omega
     obtain ⟨i0, hi0, hz0, hz1, hz2'⟩ := info_parts infoInt
     go_wp2_with (at_builtin; refine wpList_append_sl rfl (.tmp 161) (.tmp 163) 33 rfl (w.heap.size + 4) 3 i0 _ 1 8 Tryz.underlying33 hi0 hz0 hz1 hz2' rfl (by decide) _ xs.length (ints xs) rfl ((HSo.out.alloc _).alloc _).own _ 1 (ints [c.reg a]) rfl (sl_one_at _ (c.reg a) 3 1 _ (by simp) (Nat.le_refl _)) (ints_cell _) (by unfold maxLen; omega) om (by have := HSo.out.bs; simp; omega) ?_)
     intro v' X ho hgr hat
     have hno := HSo.out.no
     have hgl : V.heap.size + 2 ≤ X.heap.size := by have := hgr.size; simp at this; omega
     have hb : ∀ k, k < V.heap.size + 1 → some k ≠ (Value.slice ao' xs.length cap').ownBlock → X.heap[k]? = (V.alloc (.cells #[.int .i64 0, .int .i64 0, .int .i64 0, .int .i64 0, .int .i64 0] 124)).heap[k]? := fun k hk hne => (hgr.block k so hne).trans (Below.heap_alloc _ _ k so)
     have hne : ∀ k, k < w.heap.size + 4 → some k ≠ (Value.slice ao' xs.length cap').ownBlock := fun k hk e => by have := (hno k e.symm).1; omega
     have hgw : some V.heap.size ≠ (Value.slice ao' xs.length cap').ownBlock := fun e => by have := own_lt HSo.out.own _ e.symm; omega
     have hD : Below w.heap.size w X := ((HSo.out.alloc (.cells #[.int .i64 0, .int .i64 0, .int .i64 0, .int .i64 0, .int .i64 0] 124)).alloc (.cells #[.int .i64 (c.reg a)] 3)).d.grown hgr so (fun k hk => by have := (hno k hk).1; omega)
     have hvb : ∀ k, v'.ownBlock = some k → w.heap.size + 4 ≤ k ∧ k ≠ V.heap.size := fun k e => by
      rcases hat with h1 | h1
      ·have h2 := h1 ▸ e
       have := (hno k h2).1
       exact ⟨this, fun e3 => hgw (e3 ▸ h2.symm)⟩
      ·rw [h1] at e; simp at e; omega
     obtain ⟨ao2, cap2, rfl⟩ := own_form ho
     have HSe : Hid (Se w ((X.setCell ⟨w.heap.size + 1, 14, none⟩ (.slice ao2 (xs.length + 1) cap2)).setCell ⟨w.heap.size + 1, 0, none⟩ (.int .i64 ((n : Int) + 1))) V.heap.size (c.go ((n : Int) + 1)) (.slice ao2 (xs ++ [c.reg a]).length cap2) wntZ (xs ++ [c.reg a])) := by
      have hr1 : Rw X (w.heap.size + 1) 35 (c.cs (.slice ao' xs.length cap')) := (hb _ om (hne _ om)).trans (HSo.out.alloc _).r1
      have hr2 : Rw X (w.heap.size + 2) 35 (celZ.cs (.slice none 0 0)) := (hb _ om (hne _ om)).trans (HSo.out.alloc _).r2
      have hr3 : Rw X (w.heap.size + 3) 124 wntZ.cs := (hb _ om (hne _ om)).trans (HSo.out.alloc _).r3
      have hrw : Rw X V.heap.size 124 wntZ.cs := (hb _ om hgw).trans (Rw.new V 124 _ rfl)
      have hlen : (xs ++ [c.reg a]).length = xs.length + 1 := by simp
      rw [hlen]
      exact ⟨(hr1.set _ _).set _ _, (hr2.set_other _ (by simp)).set_other _ (by simp), (hr3.set_other _ (by simp)).set_other _ (by simp), (hrw.set_other _ (by show V.heap.size ≠ w.heap.size + 1; omega)).set_other _ (by show V.heap.size ≠ w.heap.size + 1; omega), (hD.setCell (by simp) _).setCell (by simp) _,
       own_set (own_set (by simpa [ints] using ho) _ (fun e => by have := (hvb _ e).1; simp at this <;> omega)) _ (fun e => by have := (hvb _ e).1; simp at this <;> omega), by omega, fun k e => (hvb k e).2⟩
     have x1 : X.cell? ⟨w.heap.size + 1, 14, none⟩ = some (.slice ao' xs.length cap') := (World.cell?_of_block (w := V.alloc _) (a := ⟨w.heap.size + 1, 14, none⟩) (hb (w.heap.size + 1) om (hne (w.heap.size + 1) om))).trans ((HSo.out.alloc _).r1.cell rfl)
     have x2 : X.frozen? ⟨w.heap.size + 1, 14, none⟩ = false := (World.frozen?_of_block (w := V.alloc _) (a := ⟨w.heap.size + 1, 14, none⟩) (hb (w.heap.size + 1) om (hne (w.heap.size + 1) om))).trans ((HSo.out.alloc _).r1.fr _)
     have x3 : X.cell? ⟨w.heap.size + 1, 0, none⟩ = some (.int .i64 n) := (World.cell?_of_block (w := V.alloc _) (a := ⟨w.heap.size + 1, 0, none⟩) (hb (w.heap.size + 1) om (hne (w.heap.size + 1) om))).trans (by rw [← HN.out]; exact (HSo.out.alloc _).r1.cell rfl)
     have x4 : X.frozen? ⟨w.heap.size + 1, 0, none⟩ = false := (World.frozen?_of_block (w := V.alloc _) (a := ⟨w.heap.size + 1, 0, none⟩) (hb (w.heap.size + 1) om (hne (w.heap.size + 1) om))).trans ((HSo.out.alloc _).r1.fr _)
     have HE : Hid (doC ⟨11, a, b, m⟩ inn xs c wntZ = some ((c.go ((n : Int) + 1)), xs ++ [c.reg a], wntZ)) := by
      show doC _ _ _ _ _ = _
      simp [doC, Cel.go, HN.out, tellL, hxl]
     clear ho hgr hat hno hb hne hgw hD hvb HSo k14 k0 f0 ka kb fa j0 j1 j2 j3
     go_wp2
     generalize World.setCell _ ⟨w.heap.size + 1, 0, none⟩ _ = X2 at HSe ⊢
     obtain ⟨X, hX⟩ : ∃ X, X = X2 := ⟨_, rfl⟩
     subst hX
     have hgw := HSe.out.ngw
     refine region_still (S := fun w' => Rw w' (w.heap.size + 1) 35 (Cel.cs (c.go ((n : Int) + 1)) (.slice ao2 (xs ++ [c.reg a]).length cap2)) ∧ Rw w' V.heap.size 124 (Wnt.cs wntZ)) 3 (by kernel_rfl) ⟨HSe.out.r1, HSe.out.rw⟩ (fun hHeld => ?_)
     refine Still.y 0 [] rfl (yields_load rfl _ _ rfl _ ev _ (fun w' hSw => Rw.loadAt hSw.1 Tryz.underlying35 rfl sizeCell)) hHeld ?_
     refine Still.y 1 [] rfl (yields_load rfl _ _ rfl _ ev _ (fun w' hSw => Rw.loadAt hSw.2 Tryz.underlying124 rfl sizeWant)) hHeld ?_
     refine Still.o 2 rfl rfl (fun K hK => ?_)
     refine wp_store_row 35 _ _ rfl (w.heap.size + 2) (Cel.cs (c.go ((n : Int) + 1)) (.slice ao2 (xs ++ [c.reg a]).length cap2)) ev ev 35 _ HSe.out.r2 sizeCell rfl (Cel.cs_one _ _ rfl) ?_
     refine hK _ _ (fun _ => ⟨hHeld.1.row_other _ om, hHeld.2.row_other _ om⟩) (fun _ => ?_)
     clear hK K hHeld
     try simp only [Act.put, l1, l2, l3, l4, l5, l6]
     refine Still.o 3 rfl rfl (fun K hK => ?_)
     refine wp_store_row 124 _ _ rfl (w.heap.size + 3) (Wnt.cs wntZ) ev ev 124 _ (Rw.row_other (w := World.drew X) HSe.out.r3 _ om) sizeWant rfl (Wnt.cs_one _) ?_
     refine hK _ _ (fun h => absurd rfl h) (fun _ => ?_)
     clear hK K
     refine Still.over (by kernel_rfl) ?_ _
     go_wp2
     refine bodyPost_ret (results_row2 Tryz.results69 _ _ (w.heap.size + 2) (w.heap.size + 3) _ _ rfl rfl (run_loadVar_row _ _ 35 _ (Cel.cs (c.go ((n : Int) + 1)) (.slice ao2 (xs ++ [c.reg a]).length cap2)) (0, 0) _ (Rw.row_other (Rw.row (w := World.drew X) HSe.out.r2 _) _ om) Tryz.underlying35 rfl sizeCell) (run_loadVar_row _ _ 124 _ (Wnt.cs wntZ) (0, 0) _ (Rw.row (Rw.row_other (w := World.drew X) HSe.out.r3 _ om) _) Tryz.underlying124 rfl sizeWant)) rfl ⟨_, by rw [HST.out, HE.out]; rfl, by rw [HST.out, HE.out]; exact own_low (own_row (own_row (w := World.drew X) HSe.out.own _ (fun e => by have := own_block HSe.out.own _ e; omega)) _ (fun e => by have := own_block HSe.out.own _ e; omega)) om, below_row (below_row HSe.out.d.drew om _) om _⟩
    ·have hxi : ¬ (xs.length : Int) < 16 := by omega
     go_wp2
     have HSe : Hid (Se w _ V.heap.size (c.go ((n : Int) + 1)) (.slice ao' xs.length cap') wntZ xs) := (HSo.out.setAt _).se (by simp)
     have HE : Hid (doC ⟨11, a, b, m⟩ inn xs c wntZ = some ((c.go ((n : Int) + 1)), xs, wntZ)) := by
      show doC _ _ _ _ _ = _
      simp [doC, Cel.go, HN.out, tellL, hxl]
     clear k0 f0 ka kb fa j0 j1 j2 j3 HSo k14
     generalize World.alloc _ _ = X at HSe ⊢
     have hgw := HSe.out.ngw
     refine region_still (S := fun w' => Rw w' (w.heap.size + 1) 35 (Cel.cs (c.go ((n : Int) + 1)) (.slice ao' xs.length cap')) ∧ Rw w' V.heap.size 124 (Wnt.cs wntZ)) 3 (by kernel_rfl) ⟨HSe.out.r1, HSe.out.rw⟩ (fun hHeld => ?_)
     refine Still.y 0 [] rfl (yields_load rfl _ _ rfl _ ev _ (fun w' hSw => Rw.loadAt hSw.1 Tryz.underlying35 rfl sizeCell)) hHeld ?_
     refine Still.y 1 [] rfl (yields_load rfl _ _ rfl _ ev _ (fun w' hSw => Rw.loadAt hSw.2 Tryz.underlying124 rfl sizeWant)) hHeld ?_
     refine Still.o 2 rfl rfl (fun K hK => ?_)
     refine wp_store_row 35 _ _ rfl (w.heap.size + 2) (Cel.cs (c.go ((n : Int) + 1)) (.slice ao' xs.length cap')) ev ev 35 _ HSe.out.r2 sizeCell rfl (Cel.cs_one _ _ rfl) ?_
     refine hK _ _ (fun _ => ⟨hHeld.1.row_other _ om, hHeld.2.row_other _ om⟩) (fun _ => ?_)
     clear hK K hHeld
     try simp only [Act.put, l1, l2, l3, l4, l5, l6]
     refine Still.o 3 rfl rfl (fun K hK => ?_)
     refine wp_store_row 124 _ _ rfl (w.heap.size + 3) (Wnt.cs wntZ) ev ev 124 _ (Rw.row_other (w := World.drew X) HSe.out.r3 _ om) sizeWant rfl (Wnt.cs_one _) ?_
     refine hK _ _ (fun h => absurd rfl h) (fun _ => ?_)
     clear hK K
     refine Still.over (by kernel_rfl) ?_ _
     go_wp2
     refine bodyPost_ret (results_row2 Tryz.results69 _ _ (w.heap.size + 2) (w.heap.size + 3) _ _ rfl rfl (run_loadVar_row _ _ 35 _ (Cel.cs (c.go ((n : Int) + 1)) (.slice ao' xs.length cap')) (0, 0) _ (Rw.row_other (Rw.row (w := World.drew X) HSe.out.r2 _) _ om) Tryz.underlying35 rfl sizeCell) (run_loadVar_row _ _ 124 _ (Wnt.cs wntZ) (0, 0) _ (Rw.row (Rw.row_other (w := World.drew X) HSe.out.r3 _ om) _) Tryz.underlying124 rfl sizeWant)) rfl ⟨_, by rw [HST.out, HE.out]; rfl, by rw [HST.out, HE.out]; exact own_low (own_row (own_row (w := World.drew X) HSe.out.own _ (fun e => by have := own_block HSe.out.own _ e; omega)) _ (fun e => by have := own_block HSe.out.own _ e; omega)) om, below_row (below_row HSe.out.d.drew om _) om _⟩
   ·go_wp2_with (refine wpList_store_rowW rfl 124 (.tmp 10) (.tmp 173) rfl V.heap.size (Wnt.cs ⟨12, m, a, 0, c.reg a⟩) rfl rfl 124 #[.int .i64 0, .int .i64 0, .int .i64 0, .int .i64 0, .int .i64 0] rn0 sizeWant rfl (Wnt.cs_one _) ?_)
    intro Y HY
    have HSy : Hid (Se w Y V.heap.size c (.slice ao' xs.length cap') ⟨12, m, a, 0, c.reg a⟩ xs) := by
     rw [HY.out]
     exact (HSo.out.se rfl).want _
    have y0 : Y.cell? ⟨w.heap.size + 1, 0, none⟩ = some (.int .i64 n) := by rw [← HN.out]; exact HSy.out.r1.cell rfl
    have y1 : Y.frozen? ⟨w.heap.size + 1, 0, none⟩ = false := HSy.out.r1.fr _
    clear HY
    go_wp2
    have HSe : Hid (Se w _ V.heap.size (c.go ((n : Int) + 1)) (.slice ao' xs.length cap') ⟨12, m, a, 0, c.reg a⟩ xs) := HSy.out.setAt _
    have HE : Hid (doC ⟨12, a, b, m⟩ inn xs c wntZ = some ((c.go ((n : Int) + 1)), xs, ⟨12, m, a, 0, c.reg a⟩)) := by
     show doC _ _ _ _ _ = _
     simp [doC, Cel.go, HN.out]
    clear k0 f0 ka kb fa j0 j1 j2 j3 HSo HSy y0 y1
    generalize World.setCell _ _ _ = X at HSe ⊢
    have hgw := HSe.out.ngw
    refine region_still (S := fun w' => Rw w' (w.heap.size + 1) 35 (Cel.cs (c.go ((n : Int) + 1)) (.slice ao' xs.length cap')) ∧ Rw w' V.heap.size 124 (Wnt.cs ⟨12, m, a, 0, c.reg a⟩)) 3 (by kernel_rfl) ⟨HSe.out.r1, HSe.out.rw⟩ (fun hHeld => ?_)
    refine Still.y 0 [] rfl (yields_load rfl _ _ rfl _ ev _ (fun w' hSw => Rw.loadAt hSw.1 Tryz.underlying35 rfl sizeCell)) hHeld ?_
    refine Still.y 1 [] rfl (yields_load rfl _ _ rfl _ ev _ (fun w' hSw => Rw.loadAt hSw.2 Tryz.underlying124 rfl sizeWant)) hHeld ?_
    refine Still.o 2 rfl rfl (fun K hK => ?_)
    refine wp_store_row 35 _ _ rfl (w.heap.size + 2) (Cel.cs (c.go ((n : Int) + 1)) (.slice ao' xs.length cap')) ev ev 35 _ HSe.out.r2 sizeCell rfl (Cel.cs_one _ _ rfl) ?_
    refine hK _ _ (fun _ => ⟨hHeld.1.row_other _ om, hHeld.2.row_other _ om⟩) (fun _ => ?_)
    clear hK K hHeld
    try simp only [Act.put, l1, l2, l3, l4, l5, l6]
    refine Still.o 3 rfl rfl (fun K hK => ?_)
    refine wp_store_row 124 _ _ rfl (w.heap.size + 3) (Wnt.cs ⟨12, m, a, 0, c.reg a⟩) ev ev 124 _ (Rw.row_other (w := World.drew X) HSe.out.r3 _ om) sizeWant rfl (Wnt.cs_one _) ?_
    refine hK _ _ (fun h => absurd rfl h) (fun _ => ?_)
    clear hK K
    refine Still.over (by kernel_rfl) ?_ _
    go_wp2
    refine bodyPost_ret (results_row2 Tryz.results69 _ _ (w.heap.size + 2) (w.heap.size + 3) _ _ rfl rfl (run_loadVar_row _ _ 35 _ (Cel.cs (c.go ((n : Int) + 1)) (.slice ao' xs.length cap')) (0, 0) _ (Rw.row_other (Rw.row (w := World.drew X) HSe.out.r2 _) _ om) Tryz.underlying35 rfl sizeCell) (run_loadVar_row _ _ 124 _ (Wnt.cs ⟨12, m, a, 0, c.reg a⟩) (0, 0) _ (Rw.row (Rw.row_other (w := World.drew X) HSe.out.r3 _ om) _) Tryz.underlying124 rfl sizeWant)) rfl ⟨_, by rw [HST.out, HE.out]; rfl, by rw [HST.out, HE.out]; exact own_low (own_row (own_row (w := World.drew X) HSe.out.own _ (fun e => by have := own_block HSe.out.own _ e; omega)) _ (fun e => by have := own_block HSe.out.own _ e; omega)) om, below_row (below_row HSe.out.d.drew om _) om _⟩
   ·go_wp2_with (refine wpList_store_rowW rfl 124 (.tmp 10) (.tmp 182) rfl V.heap.size (Wnt.cs ⟨13, m, a, b, 0⟩) rfl rfl 124 #[.int .i64 0, .int .i64 0, .int .i64 0, .int .i64 0, .int .i64 0] rn0 sizeWant rfl (Wnt.cs_one _) ?_)
    intro Y HY
    have HSy : Hid (Se w Y V.heap.size c (.slice ao' xs.length cap') ⟨13, m, a, b, 0⟩ xs) := by
     rw [HY.out]
     exact (HSo.out.se rfl).want _
    have y0 : Y.cell? ⟨w.heap.size + 1, 0, none⟩ = some (.int .i64 n) := by rw [← HN.out]; exact HSy.out.r1.cell rfl
    have y1 : Y.frozen? ⟨w.heap.size + 1, 0, none⟩ = false := HSy.out.r1.fr _
    clear HY
    go_wp2
    have HSe : Hid (Se w _ V.heap.size (c.go ((n : Int) + 1)) (.slice ao' xs.length cap') ⟨13, m, a, b, 0⟩ xs) := HSy.out.setAt _
    have HE : Hid (doC ⟨13, a, b, m⟩ inn xs c wntZ = some ((c.go ((n : Int) + 1)), xs, ⟨13, m, a, b, 0⟩)) := by
     show doC _ _ _ _ _ = _
     simp [doC, Cel.go, HN.out]
    clear k0 f0 ka kb fa j0 j1 j2 j3 HSo HSy y0 y1
    generalize World.setCell _ _ _ = X at HSe ⊢
    have hgw := HSe.out.ngw
    refine region_still (S := fun w' => Rw w' (w.heap.size + 1) 35 (Cel.cs (c.go ((n : Int) + 1)) (.slice ao' xs.length cap')) ∧ Rw w' V.heap.size 124 (Wnt.cs ⟨13, m, a, b, 0⟩)) 3 (by kernel_rfl) ⟨HSe.out.r1, HSe.out.rw⟩ (fun hHeld => ?_)
    refine Still.y 0 [] rfl (yields_load rfl _ _ rfl _ ev _ (fun w' hSw => Rw.loadAt hSw.1 Tryz.underlying35 rfl sizeCell)) hHeld ?_
    refine Still.y 1 [] rfl (yields_load rfl _ _ rfl _ ev _ (fun w' hSw => Rw.loadAt hSw.2 Tryz.underlying124 rfl sizeWant)) hHeld ?_
    refine Still.o 2 rfl rfl (fun K hK => ?_)
    refine wp_store_row 35 _ _ rfl (w.heap.size + 2) (Cel.cs (c.go ((n : Int) + 1)) (.slice ao' xs.length cap')) ev ev 35 _ HSe.out.r2 sizeCell rfl (Cel.cs_one _ _ rfl) ?_
    refine hK _ _ (fun _ => ⟨hHeld.1.row_other _ om, hHeld.2.row_other _ om⟩) (fun _ => ?_)
    clear hK K hHeld
    try simp only [Act.put, l1, l2, l3, l4, l5, l6]
    refine Still.o 3 rfl rfl (fun K hK => ?_)
    refine wp_store_row 124 _ _ rfl (w.heap.size + 3) (Wnt.cs ⟨13, m, a, b, 0⟩) ev ev 124 _ (Rw.row_other (w := World.drew X) HSe.out.r3 _ om) sizeWant rfl (Wnt.cs_one _) ?_
    refine hK _ _ (fun h => absurd rfl h) (fun _ => ?_)
    clear hK K
    refine Still.over (by kernel_rfl) ?_ _
    go_wp2
    refine bodyPost_ret (results_row2 Tryz.results69 _ _ (w.heap.size + 2) (w.heap.size + 3) _ _ rfl rfl (run_loadVar_row _ _ 35 _ (Cel.cs (c.go ((n : Int) + 1)) (.slice ao' xs.length cap')) (0, 0) _ (Rw.row_other (Rw.row (w := World.drew X) HSe.out.r2 _) _ om) Tryz.underlying35 rfl sizeCell) (run_loadVar_row _ _ 124 _ (Wnt.cs ⟨13, m, a, b, 0⟩) (0, 0) _ (Rw.row (Rw.row_other (w := World.drew X) HSe.out.r3 _ om) _) Tryz.underlying124 rfl sizeWant)) rfl ⟨_, by rw [HST.out, HE.out]; rfl, by rw [HST.out, HE.out]; exact own_low (own_row (own_row (w := World.drew X) HSe.out.own _ (fun e => by have := own_block HSe.out.own _ e; omega)) _ (fun e => by have := own_block HSe.out.own _ e; omega)) om, below_row (below_row HSe.out.d.drew om _) om _⟩
   ·go_wp2
    have HSe : Hid (Se w _ V.heap.size (c.go ((n : Int) + 1)) (.slice ao' xs.length cap') wntZ xs) := (HSo.out.setAt _).se (by simp)
    have HE : Hid (doC ⟨14, a, b, m⟩ inn xs c wntZ = some ((c.go ((n : Int) + 1)), xs, wntZ)) := by
     show doC _ _ _ _ _ = _
     simp [doC, Cel.go, HN.out]
    clear k0 f0 ka kb fa j0 j1 j2 j3 HSo
    generalize World.alloc _ _ = X at HSe ⊢
    have hgw := HSe.out.ngw
    refine region_still (S := fun w' => Rw w' (w.heap.size + 1) 35 (Cel.cs (c.go ((n : Int) + 1)) (.slice ao' xs.length cap')) ∧ Rw w' V.heap.size 124 (Wnt.cs wntZ)) 3 (by kernel_rfl) ⟨HSe.out.r1, HSe.out.rw⟩ (fun hHeld => ?_)
    refine Still.y 0 [] rfl (yields_load rfl _ _ rfl _ ev _ (fun w' hSw => Rw.loadAt hSw.1 Tryz.underlying35 rfl sizeCell)) hHeld ?_
    refine Still.y 1 [] rfl (yields_load rfl _ _ rfl _ ev _ (fun w' hSw => Rw.loadAt hSw.2 Tryz.underlying124 rfl sizeWant)) hHeld ?_
    refine Still.o 2 rfl rfl (fun K hK => ?_)
    refine wp_store_row 35 _ _ rfl (w.heap.size + 2) (Cel.cs (c.go ((n : Int) + 1)) (.slice ao' xs.length cap')) ev ev 35 _ HSe.out.r2 sizeCell rfl (Cel.cs_one _ _ rfl) ?_
    refine hK _ _ (fun _ => ⟨hHeld.1.row_other _ om, hHeld.2.row_other _ om⟩) (fun _ => ?_)
    clear hK K hHeld
    try simp only [Act.put, l1, l2, l3, l4, l5, l6]
    refine Still.o 3 rfl rfl (fun K hK => ?_)
    refine wp_store_row 124 _ _ rfl (w.heap.size + 3) (Wnt.cs wntZ) ev ev 124 _ (Rw.row_other (w := World.drew X) HSe.out.r3 _ om) sizeWant rfl (Wnt.cs_one _) ?_
    refine hK _ _ (fun h => absurd rfl h) (fun _ => ?_)
    clear hK K
    refine Still.over (by kernel_rfl) ?_ _
    go_wp2
    refine bodyPost_ret (results_row2 Tryz.results69 _ _ (w.heap.size + 2) (w.heap.size + 3) _ _ rfl rfl (run_loadVar_row _ _ 35 _ (Cel.cs (c.go ((n : Int) + 1)) (.slice ao' xs.length cap')) (0, 0) _ (Rw.row_other (Rw.row (w := World.drew X) HSe.out.r2 _) _ om) Tryz.underlying35 rfl sizeCell) (run_loadVar_row _ _ 124 _ (Wnt.cs wntZ) (0, 0) _ (Rw.row (Rw.row_other (w := World.drew X) HSe.out.r3 _ om) _) Tryz.underlying124 rfl sizeWant)) rfl ⟨_, by rw [HST.out, HE.out]; rfl, by rw [HST.out, HE.out]; exact own_low (own_row (own_row (w := World.drew X) HSe.out.own _ (fun e => by have := own_block HSe.out.own _ e; omega)) _ (fun e => by have := own_block HSe.out.own _ e; omega)) om, below_row (below_row HSe.out.d.drew om _) om _⟩
   ·have k15 : V.cell? ⟨w.heap.size + 1, 15, none⟩ = some (.int .i64 c.en) := HSo.out.r1.cell rfl
    have f15 : V.frozen? ⟨w.heap.size + 1, 15, none⟩ = false := HSo.out.r1.fr _
    go_wp2
    have HSe : Hid (Se w _ V.heap.size (({ c with en := 1 } : Cel).go (n : Int)) (.slice ao' xs.length cap') wntZ xs) := ((HSo.out.setEn 1).setAt _).se (by simp)
    have HE : Hid (doC ⟨15, a, b, m⟩ inn xs c wntZ = some ((({ c with en := 1 } : Cel).go (n : Int)), xs, wntZ)) := by
     show doC _ _ _ _ _ = _
     simp [doC, Cel.go, HN.out]
    clear k0 f0 ka kb fa j0 j1 j2 j3 HSo k15 f15
    generalize World.alloc _ _ = X at HSe ⊢
    have hgw := HSe.out.ngw
    refine region_still (S := fun w' => Rw w' (w.heap.size + 1) 35 (Cel.cs (({ c with en := 1 } : Cel).go (n : Int)) (.slice ao' xs.length cap')) ∧ Rw w' V.heap.size 124 (Wnt.cs wntZ)) 3 (by kernel_rfl) ⟨HSe.out.r1, HSe.out.rw⟩ (fun hHeld => ?_)
    refine Still.y 0 [] rfl (yields_load rfl _ _ rfl _ ev _ (fun w' hSw => Rw.loadAt hSw.1 Tryz.underlying35 rfl sizeCell)) hHeld ?_
    refine Still.y 1 [] rfl (yields_load rfl _ _ rfl _ ev _ (fun w' hSw => Rw.loadAt hSw.2 Tryz.underlying124 rfl sizeWant)) hHeld ?_
    refine Still.o 2 rfl rfl (fun K hK => ?_)
    refine wp_store_row 35 _ _ rfl (w.heap.size + 2) (Cel.cs (({ c with en := 1 } : Cel).go (n : Int)) (.slice ao' xs.length cap')) ev ev 35 _ HSe.out.r2 sizeCell rfl (Cel.cs_one _ _ rfl) ?_
    refine hK _ _ (fun _ => ⟨hHeld.1.row_other _ om, hHeld.2.row_other _ om⟩) (fun _ => ?_)
    clear hK K hHeld
    try simp only [Act.put, l1, l2, l3, l4, l5, l6]
    refine Still.o 3 rfl rfl (fun K hK => ?_)
    refine wp_store_row 124 _ _ rfl (w.heap.size + 3) (Wnt.cs wntZ) ev ev 124 _ (Rw.row_other (w := World.drew X) HSe.out.r3 _ om) sizeWant rfl (Wnt.cs_one _) ?_
    refine hK _ _ (fun h => absurd rfl h) (fun _ => ?_)
    clear hK K
    refine Still.over (by kernel_rfl) ?_ _
    go_wp2
    refine bodyPost_ret (results_row2 Tryz.results69 _ _ (w.heap.size + 2) (w.heap.size + 3) _ _ rfl rfl (run_loadVar_row _ _ 35 _ (Cel.cs (({ c with en := 1 } : Cel).go (n : Int)) (.slice ao' xs.length cap')) (0, 0) _ (Rw.row_other (Rw.row (w := World.drew X) HSe.out.r2 _) _ om) Tryz.underlying35 rfl sizeCell) (run_loadVar_row _ _ 124 _ (Wnt.cs wntZ) (0, 0) _ (Rw.row (Rw.row_other (w := World.drew X) HSe.out.r3 _ om) _) Tryz.underlying124 rfl sizeWant)) rfl ⟨_, by rw [HST.out, HE.out]; rfl, by rw [HST.out, HE.out]; exact own_low (own_row (own_row (w := World.drew X) HSe.out.own _ (fun e => by have := own_block HSe.out.own _ e; omega)) _ (fun e => by have := own_block HSe.out.own _ e; omega)) om, below_row (below_row HSe.out.d.drew om _) om _⟩
  ·have HST : Hid (stepC l inn xs c = ({ c with en := 2 }, xs, wntZ)) := by
    show stepC l inn xs c = _
    unfold stepC runC
    rw [if_pos hen, hn, Int.toNat_natCast, List.getElem?_eq_none om]
   rw [hn] at k0
   have hle : ¬ (n : Int) < l.length := by omega
   clear hen hn
   go_wp2_with (refine wpList_store_cellW rfl 3 (.tmp 24) (.const (.int .i64 2)) rfl (w.heap.size + 1) 15 (.int .i64 2) rfl rfl rfl 35 (c.cs (.slice ao' xs.length cap')) R1.out (by simp [Cel.cs]) sizeInt ?_)
   intro W2 HW
   have R1a : Hid (Rw W2 (w.heap.size + 1) 35 (Cel.cs { c with en := 2 } (.slice ao' xs.length cap'))) := by rw [HW.out]; exact R1.out.set _ _
   have R2a : Hid (Rw W2 (w.heap.size + 2) 35 (celZ.cs (.slice none 0 0))) := by rw [HW.out]; exact R2.out.set_other _ (by simp)
   have R3a : Hid (Rw W2 (w.heap.size + 3) 124 wntZ.cs) := by rw [HW.out]; exact R3.out.set_other _ (by simp)
   have HDa : Hid (Below w.heap.size w W2) := by rw [HW.out]; exact HD.out.setCell (by simp) _
   have O1a : Hid (W2.ownsRow (w.heap.size + 4) 3 1 (.slice ao' xs.length cap') xs.length (ints xs)) := by rw [HW.out]; exact own_set O1.out _ (fun e => by have := o1b _ e; simp at this; omega)
   clear R0 R1 R2 R3 HD O1 HW k0 k15 f15 p0
   go_wp2_with (first | (refine wpList_load_row rfl 35 (.tmp 3) rfl (w.heap.size + 1) rfl 35 (Cel.cs { c with en := 2 } (.slice ao' xs.length cap')) (0, 0) _ R1a.out Tryz.underlying35 rfl sizeCell ?_) | (refine wpList_store_row rfl 35 (.tmp 4) (.tmp 25) rfl (w.heap.size + 2) (Cel.cs { c with en := 2 } (.slice ao' xs.length cap')) rfl rfl 35 _ R2a.out sizeCell rfl (Cel.cs_one _ _ rfl) ?_) | (refine wpList_store_row rfl 124 (.tmp 5) (.tmp 26) rfl (w.heap.size + 3) wntZ.cs rfl rfl 124 _ (R3a.out.row_other _ om) sizeWant rfl (Wnt.cs_one _) ?_))
   refine bodyPost_ret (results_row2 Tryz.results69 _ _ (w.heap.size + 2) (w.heap.size + 3) _ _ rfl rfl (run_loadVar_row _ _ 35 _ (Cel.cs { c with en := 2 } (.slice ao' xs.length cap')) (0, 0) _ (Rw.row_other (R2a.out.row _) _ om) Tryz.underlying35 rfl sizeCell) (run_loadVar_row _ _ 124 _ wntZ.cs (0, 0) _ (Rw.row (R3a.out.row_other _ om) _) Tryz.underlying124 rfl sizeWant)) rfl ⟨_, by rw [HST.out]; rfl, by rw [HST.out]; exact own_low (own_row (own_row O1a.out _ (fun e => by have := o1b _ e; omega)) _ (fun e => by have := o1b _ e; omega)) om, below_row (below_row HDa.out om _) om _⟩
 ·have hen' : (c.en == 0) = false := by simpa using hen
  have hen2 : (c.en != 0) = true := by simpa using hen
  have HST : Hid (stepC l inn xs c = (c, xs, wntZ)) := by
   show stepC l inn xs c = _
   unfold stepC
   rw [if_neg hen]
  clear hen
  go_wp2_with (first | (refine wpList_load_row rfl 35 (.tmp 3) rfl (w.heap.size + 1) rfl 35 (c.cs (.slice ao' xs.length cap')) (0, 0) _ R1.out Tryz.underlying35 rfl sizeCell ?_) | (refine wpList_store_row rfl 35 (.tmp 4) (.tmp 16) rfl (w.heap.size + 2) (c.cs (.slice ao' xs.length cap')) rfl rfl 35 _ R2.out sizeCell rfl (Cel.cs_one _ _ rfl) ?_) | (refine wpList_store_row rfl 124 (.tmp 5) (.tmp 17) rfl (w.heap.size + 3) wntZ.cs rfl rfl 124 _ (R3.out.row_other _ om) sizeWant rfl (Wnt.cs_one _) ?_))
  refine bodyPost_ret (results_row2 Tryz.results69 _ _ (w.heap.size + 2) (w.heap.size + 3) _ _ rfl rfl (run_loadVar_row _ _ 35 _ (c.cs (.slice ao' xs.length cap')) (0, 0) _ (Rw.row_other (R2.out.row _) _ om) Tryz.underlying35 rfl sizeCell) (run_loadVar_row _ _ 124 _ wntZ.cs (0, 0) _ (Rw.row (R3.out.row_other _ om) _) Tryz.underlying124 rfl sizeWant)) rfl ⟨_, by rw [HST.out]; rfl, by rw [HST.out]; exact own_low (own_row (own_row O1.out _ (fun e => by have := o1b _ e; omega)) _ (fun e => by have := o1b _ e; omega)) om, below_row (below_row HD.out om _) om _⟩
end Go.Proofs.YtehhhiodfcdnmaaGreatDoor
