/- The reference's listed, PolicyText and SamePolicies. -/
import Derived.Test.YtbkdoohhdkahiaaGreatDoorK28
import Derived.Test.YtbkdoohhdkahiaaGreatDoorK24
import Derived.Test.YtbkdoohhdkahiaaGreatDoorK20
import Derived.Deep.RegionWith
import Derived.Test.YtbkdoohhdkahiaaGreatDoorK26
import Derived.Test.YtbkdoohhdkahiaaGreatDoorK11
import Derived.Test.YtbkdoohhdkahiaaGreatDoorK16
import Derived.Test.YtbkdoohhdkahiaaGreatDoorK27
import Derived.Test.YtbkdoohhdkahiaaGreatDoorK14
namespace Go.Proofs.YtbkdoohhdkahiaaGreatDoor
set_option linter.unusedSimpArgs false
set_option linter.unusedVariables false
open Go.RowKit Go.Sort
set_option maxRecDepth 100000 in
set_option maxHeartbeats 8000000 in
theorem samePolicies_yes (L : List Edg) (v u : Value) (w : World) (hL : Sl w 2 v L.length (rowC Edg.cells L)) (hM : Sl w 2 u L.length (rowC Edg.cells L)) (hl : L.length ≤ 1000) :
    Calls Tryz.prog 10 #[.agg #[v], .agg #[u]] w fun e w' => e = .returned (.bool true) ∧ Below w.heap.size w w' := by
  obtain ⟨la, lc, rfl⟩ := hL.form
  obtain ⟨ma, mc, rfl⟩ := hM.form
  have HL := Lib.hid hL
  have HM := Lib.hid hM
  have B0 : Hid (Below w.heap.size w ((w.alloc (.cells #[.slice la L.length lc] 27)).alloc (.cells #[.slice ma L.length mc] 27))) := Lib.hid (by exact up0)
  clear hL hM
  go_enter Tryz.func10, Tryz.ntmps10
  go_wp2
  go_loopw [5] (fun i wr => ∃ k : Nat, i = .int .i64 k ∧ k ≤ L.length ∧ wr.cell? ⟨w.heap.size, 0, none⟩ = some (.slice la L.length lc) ∧ wr.cell? ⟨w.heap.size + 1, 0, none⟩ = some (.slice ma L.length mc) ∧ w.heap.size + 1 < wr.heap.size ∧ Hid (Below w.heap.size w wr)) (fun i _ => L.length - (intOf i).toNat)
  case atStart => exact ⟨0, rfl, Nat.zero_le _, by simp, by simp, by simp, B0⟩
  case round =>
    obtain ⟨k, rfl, hk, hb1, hb2, hwz, WD⟩ := hrel
    by_cases hlt : k < L.length
    · have hli : (k : Int) < L.length := by omega
      obtain ⟨pb, po, pc', e1, hpc, hpb, hpx⟩ := HL.out.open (by omega)
      cases e1
      obtain ⟨qb, qo, qc', e1, hqc, hqb, hqx⟩ := HM.out.open (by omega)
      cases e1
      obtain ⟨c0, c1⟩ := edge_cells hpx k hlt
      have c0 := bcl WD.out hpb c0
      have c1 := bcl WD.out hpb c1
      obtain ⟨d0, d1⟩ := edge_cells hqx k hlt
      have d0 := bcl WD.out hqb d0
      have d1 := bcl WD.out hqb d1
      generalize L[k] = ed at c0 c1 d0 d1
      obtain ⟨ef, et⟩ := ed
      simp only at c0 c1 d0 d1
      clear hpx hqx hpb hqb
      go_wp2
      refine region_still (S := fun w' => w'.cell? ⟨w.heap.size, 0, none⟩ = some (.slice (some ⟨pb, po, none⟩) L.length lc) ∧ w'.cell? ⟨pb, po + k * 2, none⟩ = some (.int .i64 ef) ∧ w'.cell? ⟨pb, po + k * 2 + 1, none⟩ = some (.int .i64 et) ∧ w'.cell? ⟨w.heap.size + 1, 0, none⟩ = some (.slice (some ⟨qb, qo, none⟩) L.length mc) ∧ w'.cell? ⟨qb, qo + k * 2, none⟩ = some (.int .i64 ef) ∧ w'.cell? ⟨qb, qo + k * 2 + 1, none⟩ = some (.int .i64 et)) 10 (by kernel_rfl) ⟨hb1, c0, c1, hb2, d0, d1⟩ (fun hHeld => ?_)
      refine Still.t 0 [4, 3, 1] hHeld ?_
      refine Still.t 1 [4, 3] hHeld ?_
      refine Still.t 2 [4, 3] hHeld ?_
      refine Still.t 3 [4] hHeld ?_
      refine Still.t 4 [] hHeld ?_
      refine Still.t 5 [9, 8, 6] hHeld ?_
      refine Still.t 6 [9, 8] hHeld ?_
      refine Still.t 7 [9, 8] hHeld ?_
      refine Still.t 8 [9] hHeld ?_
      refine Still.t 9 [] hHeld ?_
      refine Still.o 10 rfl rfl (fun K hK => ?_)
      go_simp
      refine hK _ _ (fun h => absurd rfl h) (fun _ => ?_)
      clear hK K
      refine Still.over (by kernel_rfl) ?_ _
      clear hHeld
      go_wp2
      go_roundw
      case rel => exact ⟨k + 1, by go_num, by omega, hb1, hb2, hwz, Lib.hid (WD.out.trans (Below.refl _ _).drew)⟩
      case measure => simp [intOf]; omega
    · obtain rfl : k = L.length := by omega
      have hli : ¬ ((L.length : Int) < L.length) := by omega
      go_wp2
      go_ret
      exact ⟨rfl, WD.out⟩
end Go.Proofs.YtbkdoohhdkahiaaGreatDoor
namespace Go.Proofs.YtbkdoohhdkahiaaGreatDoor
set_option linter.unusedSimpArgs false
set_option linter.unusedVariables false
open Go.RowKit Go.Sort
structure Rq (w wr : World) (vw v : Value) (ws : List (List UInt8)) (L : List Edg) : Prop where
  r : Rw wr w.heap.size 27 #[.slice none 0 0]
  p : Rw wr (w.heap.size + 1) 27 #[v]
  q : wr.ownsRow (w.heap.size + 2) 9 1 vw ws.length (strs ws)
  o : wr.ownsRow (w.heap.size + 2) 53 2 v L.length (rowC Edg.cells L)
  b : Below w.heap.size w wr
section
variable {w wr wr' : World} {vw v : Value} {ws : List (List UInt8)} {L : List Edg}
theorem Rq.z (h : Rq w wr vw v ws L) : w.heap.size + 2 ≤ wr.heap.size := h.p.lt
theorem Rq.up (h : Rq w wr vw v ws L) (hb : Below wr.heap.size wr wr') : Rq w wr' vw v ws L :=
  ⟨h.r.up hb h.r.lt, h.p.up hb h.p.lt, own_up h.q hb (own_lt h.q), own_up h.o hb (own_lt h.o), h.b.trans (hb.mono h.b.size)⟩
theorem Rq.alloc (h : Rq w wr vw v ws L) (o : Obj) : Rq w (wr.alloc o) vw v ws L := h.up ((Below.refl _ _).alloc (Nat.le_refl _) _)
theorem Rq.grow (h : Rq w wr vw v ws L) {v' : Value} {e : Edg} (hg : wr.grownBy wr' v.ownBlock) (ho : wr'.ownsRow (w.heap.size + 2) 53 2 v' (L ++ [e]).length (rowC Edg.cells (L ++ [e]))) :
    Rq w (wr'.setCell ⟨w.heap.size + 1, 0, none⟩ v') vw v' ws (L ++ [e]) ∧ Rw wr' (w.heap.size + 1) 27 #[v] := by
  have hb : ∀ k, v.ownBlock = some k → w.heap.size + 2 ≤ k := own_block h.o
  have k : ∀ {c t cs}, Rw wr c t cs → c < w.heap.size + 2 → Rw wr' c t cs := fun hr hc => (hg.block _ hr.lt (fun e => by have := hb _ e.symm; omega)).trans hr
  have k1 := k h.p (by omega)
  refine ⟨⟨(k h.r (by omega)).set_other _ (by simp), k1.set 0 v', own_set (own_growT h.q hg h.o rfl (by decide)) _ (fun e => by have := own_block h.q _ e; simp at this), own_set ho _ (fun e => by have := own_block ho _ e; simp at this), ?_⟩, k1⟩
  exact (h.b.grown hg h.b.size (fun q e => by have := hb q e; omega)).setCell (by simp) _
end
end Go.Proofs.YtbkdoohhdkahiaaGreatDoor
namespace Go.Proofs.YtbkdoohhdkahiaaGreatDoor
set_option linter.unusedSimpArgs false
set_option linter.unusedVariables false
open Go.RowKit Go.Sort
end Go.Proofs.YtbkdoohhdkahiaaGreatDoor
namespace Go.Proofs.YtbkdoohhdkahiaaGreatDoor
set_option linter.unusedSimpArgs false
set_option linter.unusedVariables false
open Go.RowKit Go.Sort
structure So (w W : World) (base gi : Nat) (c : Cel) (o : Value) (xs : List Int) (i : Ins) (v u : Value) : Prop where
  r0 : Rw W w.heap.size 43 #[v, u]
  r1 : Rw W (w.heap.size + 1) 77 (c.cs o)
  r2 : Rw W (w.heap.size + 2) 77 (celZ.cs (.slice none 0 0))
  r3 : Rw W (w.heap.size + 3) 167 wntZ.cs
  ri : Rw W gi 124 #[.int .i64 i.op, .int .i64 i.a, .int .i64 i.b, .int .i64 i.n]
  d : Below w.heap.size w W
  own : W.ownsRow base 3 1 o xs.length (ints xs)
  ngi : w.heap.size + 4 ≤ gi
  no : ∀ k, o.ownBlock = some k → w.heap.size + 4 ≤ k ∧ k ≠ gi
  b4 : w.heap.size + 4 ≤ base
  bs : base ≤ W.heap.size
theorem So.reg {w W : World} {base gi : Nat} {c : Cel} {o : Value} {xs : List Int} {i : Ins} {v u : Value} (h : So w W base gi c o xs i v u) {k : Int} (h0 : 0 ≤ k) (h1 : k < 4) (z : Int) :
    So w (W.setCell ⟨w.heap.size + 1, 1 + k.toNat, none⟩ (.int .i64 z)) base gi (c.setReg k z) o xs i v u :=
  ⟨h.r0.set_other _ (by simp), by rw [← cs_setReg c o h0 h1 z]; exact h.r1.set _ _, h.r2.set_other _ (by simp), h.r3.set_other _ (by simp), h.ri.set_other _ (by have := h.ngi; simp <;> omega), h.d.setCell (by simp) _, own_set h.own _ (fun e => by have := (h.no _ e).1; simp at this <;> omega), h.ngi, h.no, h.b4, by rw [size_set]; exact h.bs⟩
theorem So.mem {w W : World} {base gi : Nat} {c : Cel} {o : Value} {xs : List Int} {i : Ins} {v u : Value} (h : So w W base gi c o xs i v u) {k : Int} (h0 : 0 ≤ k) (h1 : k < 8) (z : Int) :
    So w (W.setCell ⟨w.heap.size + 1, 5 + k.toNat, none⟩ (.int .i64 z)) base gi (c.setMem k z) o xs i v u :=
  ⟨h.r0.set_other _ (by simp), by rw [← cs_setMem c o h0 h1 z]; exact h.r1.set _ _, h.r2.set_other _ (by simp), h.r3.set_other _ (by simp), h.ri.set_other _ (by have := h.ngi; simp <;> omega), h.d.setCell (by simp) _, own_set h.own _ (fun e => by have := (h.no _ e).1; simp at this <;> omega), h.ngi, h.no, h.b4, by rw [size_set]; exact h.bs⟩
theorem So.setAt {w W : World} {base gi : Nat} {c : Cel} {o : Value} {xs : List Int} {i : Ins} {v u : Value} (h : So w W base gi c o xs i v u) (z : Int) :
    So w (W.setCell ⟨w.heap.size + 1, 0, none⟩ (.int .i64 z)) base gi { c with at_ := z } o xs i v u :=
  ⟨h.r0.set_other _ (by simp), h.r1.set _ _, h.r2.set_other _ (by simp), h.r3.set_other _ (by simp), h.ri.set_other _ (by have := h.ngi; simp <;> omega), h.d.setCell (by simp) _, own_set h.own _ (fun e => by have := (h.no _ e).1; simp at this <;> omega), h.ngi, h.no, h.b4, by rw [size_set]; exact h.bs⟩
theorem So.setEn {w W : World} {base gi : Nat} {c : Cel} {o : Value} {xs : List Int} {i : Ins} {v u : Value} (h : So w W base gi c o xs i v u) (z : Int) :
    So w (W.setCell ⟨w.heap.size + 1, 15, none⟩ (.int .i64 z)) base gi { c with en := z } o xs i v u :=
  ⟨h.r0.set_other _ (by simp), h.r1.set _ _, h.r2.set_other _ (by simp), h.r3.set_other _ (by simp), h.ri.set_other _ (by have := h.ngi; simp <;> omega), h.d.setCell (by simp) _, own_set h.own _ (fun e => by have := (h.no _ e).1; simp at this <;> omega), h.ngi, h.no, h.b4, by rw [size_set]; exact h.bs⟩
theorem So.setRead {w W : World} {base gi : Nat} {c : Cel} {o : Value} {xs : List Int} {i : Ins} {v u : Value} (h : So w W base gi c o xs i v u) (z : Int) :
    So w (W.setCell ⟨w.heap.size + 1, 13, none⟩ (.int .i64 z)) base gi { c with read := z } o xs i v u :=
  ⟨h.r0.set_other _ (by simp), h.r1.set _ _, h.r2.set_other _ (by simp), h.r3.set_other _ (by simp), h.ri.set_other _ (by have := h.ngi; simp <;> omega), h.d.setCell (by simp) _, own_set h.own _ (fun e => by have := (h.no _ e).1; simp at this <;> omega), h.ngi, h.no, h.b4, by rw [size_set]; exact h.bs⟩
theorem So.drewN {w W : World} {base gi : Nat} {c : Cel} {o : Value} {xs : List Int} {i : Ins} {v u : Value} (h : So w W base gi c o xs i v u) (n : Nat) : So w (W.drewN n) base gi c o xs i v u :=
  ⟨h.r0, h.r1, h.r2, h.r3, h.ri, ⟨h.d.os, h.d.tape, h.d.output, h.d.size, h.d.block⟩, h.own, h.ngi, h.no, h.b4, h.bs⟩
theorem So.drew {w W : World} {base gi : Nat} {c : Cel} {o : Value} {xs : List Int} {i : Ins} {v u : Value} (h : So w W base gi c o xs i v u) : So w W.drew base gi c o xs i v u :=
  ⟨h.r0, h.r1, h.r2, h.r3, h.ri, h.d.drew, h.own, h.ngi, h.no, h.b4, h.bs⟩
theorem So.up {w W : World} {base gi : Nat} {c : Cel} {o : Value} {xs : List Int} {i : Ins} {v u : Value} {W' : World} (h : So w W base gi c o xs i v u) (hb : Below W.heap.size W W') : So w W' base gi c o xs i v u :=
  ⟨h.r0.up hb h.r0.lt, h.r1.up hb h.r1.lt, h.r2.up hb h.r2.lt, h.r3.up hb h.r3.lt, h.ri.up hb h.ri.lt, h.d.trans (hb.mono h.d.size), own_up h.own hb (own_lt h.own), h.ngi, h.no, h.b4, Nat.le_trans h.bs hb.size⟩
theorem So.alloc {w W : World} {base gi : Nat} {c : Cel} {o : Value} {xs : List Int} {i : Ins} {v u : Value} (h : So w W base gi c o xs i v u) (ob : Obj) : So w (W.alloc ob) base gi c o xs i v u := h.up ((Below.refl _ _).alloc (Nat.le_refl _) _)
structure Se (w W : World) (gw : Nat) (c : Cel) (o : Value) (x : Wnt) (xs : List Int) : Prop where
  r1 : Rw W (w.heap.size + 1) 77 (c.cs o)
  r2 : Rw W (w.heap.size + 2) 77 (celZ.cs (.slice none 0 0))
  r3 : Rw W (w.heap.size + 3) 167 wntZ.cs
  rw : Rw W gw 167 x.cs
  d : Below w.heap.size w W
  own : W.ownsRow (w.heap.size + 4) 3 1 o xs.length (ints xs)
  ngw : w.heap.size + 4 ≤ gw
  nw : ∀ k, o.ownBlock = some k → k ≠ gw
theorem Se.drew {w W : World} {gw : Nat} {c : Cel} {o : Value} {x : Wnt} {xs : List Int} (h : Se w W gw c o x xs) : Se w W.drew gw c o x xs := ⟨h.r1, h.r2, h.r3, h.rw, h.d.drew, h.own, h.ngw, h.nw⟩
theorem Se.setAt {w W : World} {gw : Nat} {c : Cel} {o : Value} {x : Wnt} {xs : List Int} (h : Se w W gw c o x xs) (z : Int) : Se w (W.setCell ⟨w.heap.size + 1, 0, none⟩ (.int .i64 z)) gw { c with at_ := z } o x xs :=
  ⟨h.r1.set _ _, h.r2.set_other _ (by simp), h.r3.set_other _ (by simp), h.rw.set_other _ (by have := h.ngw; show gw ≠ w.heap.size + 1; omega), h.d.setCell (by simp) _, own_set h.own _ (fun e => by have := own_block h.own _ e; simp at this <;> omega), h.ngw, h.nw⟩
def Cel.go (c : Cel) (z : Int) : Cel := { c with at_ := z }
theorem Se.want {w W : World} {gw : Nat} {c : Cel} {o : Value} {x : Wnt} {xs : List Int} (h : Se w W gw c o x xs) (y : Wnt) : Se w (W.setRow gw y.cs) gw c o y xs :=
  ⟨h.r1.row_other _ (by have := h.ngw; omega), h.r2.row_other _ (by have := h.ngw; omega), h.r3.row_other _ (by have := h.ngw; omega), h.rw.row _, below_row h.d (by have := h.ngw; omega) _, own_row h.own _ (fun e => h.nw _ e rfl), h.ngw, h.nw⟩
end Go.Proofs.YtbkdoohhdkahiaaGreatDoor
namespace Go.Proofs.YtbkdoohhdkahiaaGreatDoor
set_option linter.unusedSimpArgs false
set_option linter.unusedVariables false
open Go.RowKit Go.Sort
structure Kr (w' : World) (g g9 gw lb lp : Nat) (r3 r9 rw : Array Value) (lv : Value) : Prop where
  a : Rw w' g 61 r3
  b : Rw w' g9 167 r9
  c : Rw w' gw 61 rw
  d : w'.cell? ⟨lb, lp, none⟩ = some lv
theorem Kr.up {w w' : World} {g g9 gw lb lp : Nat} {r3 r9 rw : Array Value} {lv : Value} (h : Kr w g g9 gw lb lp r3 r9 rw lv) (hl : lb < w.heap.size) (hb : Below w.heap.size w w') : Kr w' g g9 gw lb lp r3 r9 rw lv :=
  ⟨h.a.up hb h.a.lt, h.b.up hb h.b.lt, h.c.up hb h.c.lt, bcl hb hl h.d⟩
theorem Kr.set {w : World} {g g9 gw lb lp : Nat} {r3 r9 rw : Array Value} {lv : Value} (h : Kr w g g9 gw lb lp r3 r9 rw lv) {x i : Nat} (u : Value) (h1 : g ≠ x) (h2 : g9 ≠ x) (h3 : gw ≠ x) (h4 : lb ≠ x) : Kr (w.setCell ⟨x, i, none⟩ u) g g9 gw lb lp r3 r9 rw lv :=
  ⟨h.a.set_other _ h1, h.b.set_other _ h2, h.c.set_other _ h3, cl_set (Or.inl h4) h.d⟩
def NE (x : Nat) (o : Value) : Prop := o.ownBlock ≠ some x
structure NewVX (x B G : Nat) (w : World) (vc vl : Value) (cs : List CelD) (ls : List (List Int)) : Prop where
  c : ∃ ps : List (Cel × Value), ps.length = cs.length ∧ w.ownsRow B 77 16 vc cs.length (rowC celC ps) ∧ ∀ k (hk : k < cs.length) (hk' : k < ps.length), ps[k].1 = cs[k].c ∧ Sl w 1 ps[k].2 cs[k].out.length (ints cs[k].out) ∧ In B G w vc vl ps[k].2 ∧ NE x ps[k].2
  l : ∃ vs : List Value, vs.length = ls.length ∧ w.ownsRow B 171 1 vl ls.length vs ∧ ∀ k (hk : k < ls.length) (hk' : k < vs.length), Sl w 1 vs[k] ls[k].length (ints ls[k]) ∧ In B G w vc vl vs[k] ∧ NE x vs[k]
  a : ∀ b, vc.ownBlock = some b → vl.ownBlock ≠ some b
  xc : NE x vc
  xl : NE x vl
structure NewX (x B G : Nat) (w : World) (vc vl : Value) (cs : List CelD) (ls : List (List Int)) : Prop where
  c : ∃ ps : List (Cel × Value), ps.length = cs.length ∧ w.ownsRow B 77 16 vc cs.length (rowC celC ps) ∧ ∀ k (hk : k < cs.length) (hk' : k < ps.length), ps[k].1 = cs[k].c ∧ Sl w 1 ps[k].2 cs[k].out.length (ints cs[k].out) ∧ In2 B G vc ps[k].2 ∧ NE x ps[k].2
  l : ∃ vs : List Value, vs.length = ls.length ∧ Sl w 1 vl ls.length vs ∧ ∀ k (hk : k < ls.length) (hk' : k < vs.length), Sl w 1 vs[k] ls[k].length (ints ls[k]) ∧ In2 B G vc vs[k] ∧ NE x vs[k]
  bl : In2 B G vc vl
  xc : NE x vc
  xl : NE x vl
section
variable {x B G : Nat} {w W : World} {vc vl : Value} {cs : List CelD} {ls : List (List Int)}
theorem NewX.newP (h : NewX x B G w vc vl cs ls) : NewP B G w vc vl cs ls := by
  obtain ⟨⟨ps, p1, p2, p3⟩, ⟨vs, q1, q2, q3⟩, bl, _, _⟩ := h
  exact ⟨⟨ps, p1, p2, fun k hk hk' => ⟨(p3 k hk hk').1, (p3 k hk hk').2.1, (p3 k hk hk').2.2.1⟩⟩, ⟨vs, q1, q2, fun k hk hk' => ⟨(q3 k hk hk').1, (q3 k hk hk').2.1⟩⟩, bl⟩
theorem NewX.up (h : NewX x B G w vc vl cs ls) (hb : Below w.heap.size w W) : NewX x B G W vc vl cs ls := by
  obtain ⟨⟨ps, p1, p2, p3⟩, ⟨vs, q1, q2, q3⟩, bl, xc, xl⟩ := h
  exact ⟨⟨ps, p1, own_up p2 hb (own_lt p2), fun k hk hk' => ⟨(p3 k hk hk').1, (p3 k hk hk').2.1.up hb, (p3 k hk hk').2.2⟩⟩, ⟨vs, q1, q2.up hb, fun k hk hk' => ⟨(q3 k hk hk').1.up hb, (q3 k hk hk').2⟩⟩, bl, xc, xl⟩
theorem NewX.row (h : NewX x B G w vc vl cs ls) (u : Array Value) : NewX x B G (w.setRow x u) vc vl cs ls := by
  obtain ⟨⟨ps, p1, p2, p3⟩, ⟨vs, q1, q2, q3⟩, bl, xc, xl⟩ := h
  exact ⟨⟨ps, p1, own_row p2 u xc, fun k hk hk' => ⟨(p3 k hk hk').1, (p3 k hk hk').2.1.row u (p3 k hk hk').2.2.2, (p3 k hk hk').2.2⟩⟩, ⟨vs, q1, q2.row u xl, fun k hk hk' => ⟨(q3 k hk hk').1.row u (q3 k hk hk').2.2, (q3 k hk hk').2⟩⟩, bl, xc, xl⟩
theorem NewVX.putL (h : NewVX x B G w vc vl cs ls) {kn : Nat} (hk : kn < ls.length) (d : List Int) (o : Value) (ho : Sl w 1 o d.length (ints d)) (hi : In2 B G vc o) (hi2 : ∀ b, o.ownBlock = some b → vl.ownBlock ≠ some b) (gl : vl.ownBlock ≠ some G) (hox : NE x o) :
    ∃ g cap, vl = .slice (some ⟨g, 0, none⟩) ls.length cap ∧ B ≤ g ∧ g < w.heap.size ∧ ls.length ≤ cap ∧ (∃ u, w.cell? ⟨g, kn, none⟩ = some u) ∧ w.frozen? ⟨g, kn, none⟩ = false ∧ NewX x B G (w.setCell ⟨g, kn, none⟩ o) vc vl cs (ls.set kn d) := by
  obtain ⟨⟨ps, p1, p2, p3⟩, ⟨vs, q1, q2, q3⟩, a, xc, xl⟩ := h
  obtain ⟨hlen, hor⟩ := q2
  have q2' : w.ownsRow B 171 1 vl ls.length vs := ⟨hlen, hor⟩
  rcases hor with ⟨-, h0⟩ | ⟨g, cap, cur, rfl, hg, hh, hcap, hmax, hsz, htk⟩
  · omega
  have hgl := own_lt q2' g rfl
  have hne : ∀ y, In B G w vc (.slice (some ⟨g, 0, none⟩) ls.length cap) y → y.ownBlock ≠ some g := fun y hy e => (hy g e).2.2.2 rfl
  refine ⟨g, cap, rfl, hg, hgl, hcap, ?_, frozen_of_row w g _ cur _ hh, ⟨ps, p1, own_set (a := ⟨g, kn, none⟩) p2 o (fun e => a g e rfl), fun k hk hk' => ⟨(p3 k hk hk').1, (p3 k hk hk').2.1.set o (hne _ (p3 k hk hk').2.2.1), (p3 k hk hk').2.2.1.in2, (p3 k hk hk').2.2.2⟩⟩, ⟨vs.set kn o, by simp [q1], ?_, fun k hk2 hk' => ?_⟩, fun b e => ⟨⟨own_block q2' b e, fun e' => gl (e' ▸ e)⟩, fun e' => a b e' e⟩, xc, xl⟩
  · rw [cell_of_row w g _ cur _ _ hh]
    exact ⟨_, Array.getElem?_eq_getElem (by omega)⟩
  · refine own_sl (base := B) (e := 171) ⟨by simpa using hlen, .inr ⟨g, cap, cur.setIfInBounds kn o, by simp, hg, heap_setCell_same w g kn cur _ o hh, by simpa using hcap, hmax, by simpa using hsz, ?_⟩⟩
    rw [Array.toList_setIfInBounds, List.length_set, List.take_set, htk]
  · have hk3 : k < ls.length := by simpa using hk2
    have hk3' : k < vs.length := by omega
    by_cases he : kn = k
    · subst he
      simp only [List.getElem_set_self]
      exact ⟨ho.set o (fun e => hi2 g e rfl), hi, hox⟩
    · simp only [List.getElem_set_ne he]
      exact ⟨(q3 k hk3 hk3').1.set o (hne _ (q3 k hk3 hk3').2.1), (q3 k hk3 hk3').2.1.in2, (q3 k hk3 hk3').2.2⟩
end
end Go.Proofs.YtbkdoohhdkahiaaGreatDoor
namespace Go.Proofs.YtbkdoohhdkahiaaGreatDoor
set_option linter.unusedSimpArgs false
set_option linter.unusedVariables false
open Go.RowKit Go.Sort
end Go.Proofs.YtbkdoohhdkahiaaGreatDoor
namespace Go.Proofs.YtbkdoohhdkahiaaGreatDoor
set_option linter.unusedSimpArgs false
set_option linter.unusedVariables false
open Go.RowKit Go.Sort
end Go.Proofs.YtbkdoohhdkahiaaGreatDoor
namespace Go.Proofs.YtbkdoohhdkahiaaGreatDoor
set_option linter.unusedSimpArgs false
set_option linter.unusedVariables false
open Go.RowKit Go.Sort
end Go.Proofs.YtbkdoohhdkahiaaGreatDoor
namespace Go.Proofs.YtbkdoohhdkahiaaGreatDoor
set_option linter.unusedSimpArgs false
set_option linter.unusedVariables false
open Go.RowKit Go.Sort
def wB : WldD := ⟨0, [⟨⟨0, 0, 0, 0, 0, 0, 0, 0, 0, 0, 0, 0, 0, 0, 0⟩, []⟩, ⟨⟨0, 0, 0, 0, 0, 0, 0, 0, 0, 0, 0, 0, 0, 0, 0⟩, []⟩, ⟨⟨0, 0, 0, 0, 0, 0, 0, 0, 0, 0, 0, 0, 0, 0, 0⟩, []⟩, ⟨⟨0, 0, 0, 0, 0, 0, 0, 0, 0, 0, 0, 0, 0, 0, 0⟩, []⟩], [[], []]⟩
def w12 : WldD := ⟨12, [⟨⟨2, 1, 0, 0, 0, 0, 0, 0, 0, 0, 0, 0, 0, 1, 1⟩, []⟩, ⟨⟨4, 6, 1, 0, 0, 0, 0, 0, 0, 0, 0, 0, 0, 0, 0⟩, [6]⟩, ⟨⟨3, 6, 1, 0, 0, 0, 0, 0, 0, 0, 0, 0, 0, 0, 1⟩, [6]⟩, ⟨⟨1, 0, 0, 0, 0, 0, 0, 0, 0, 0, 0, 0, 0, 0, 0⟩, [0]⟩], [[], [6]]⟩
theorem relay12 : runR relayS 12 = w12 := by kernel_rfl
theorem relayE12 : runE relayS 12 = 0 := by kernel_rfl
theorem relay_s (w : World) : Calls Tryz.prog 32 #[] w fun e w' => ∃ vp vc vs, e = .returned (.agg #[vp, vc, vs]) ∧ Sys w' vp vc vs relayS ∧ Below w.heap.size w w' := by
  refine (relay_any w).mono ?_
  rintro e w' ⟨vp, vc, vs, h1, h2, h3⟩
  exact ⟨vp, vc, vs, h1, h2.sys, h3⟩
end Go.Proofs.YtbkdoohhdkahiaaGreatDoor
namespace Go.Proofs.YtbkdoohhdkahiaaGreatDoor
set_option linter.unusedSimpArgs false
set_option linter.unusedVariables false
open Go.RowKit Go.Sort
def rT1 : List UInt8 := [48, 62, 49, 32, 48, 62, 50, 32, 49, 62, 48, 32, 49, 62, 50]
def rT2 : List UInt8 := [48, 62, 49]
def rT3 : List UInt8 := [49, 62, 48, 32, 48, 62, 49]
def oneL : List Edg := [⟨0, 1⟩]
def jW1 : List UInt8 := [115, 111, 117, 110, 100, 10, 115, 116, 111, 112, 112, 101, 100, 10, 114, 117, 110, 115, 32, 54, 10, 115, 116, 111, 112, 112, 101, 100, 32, 54, 10, 114, 117, 110, 115, 32, 48, 10]
def jW2 : List UInt8 := [108, 101, 97, 107, 32, 48, 32, 49, 32, 50, 10, 114, 117, 110, 115, 10, 114, 117, 110, 115, 10, 114, 117, 110, 115, 10, 114, 117, 110, 115, 10]
theorem rules_1 : rulesD rT1 = some wideL := by kernel_rfl
theorem rules_2 : rulesD rT2 = some oneL := by kernel_rfl
theorem rules_3 : rulesD rT3 = none := by kernel_rfl
theorem rulesE_some {l : List UInt8} {L : List Edg} (h : rulesD l = some L) : rulesE l = 0 ∧ rulesL l = L := by unfold rulesE rulesL; rw [h]; exact ⟨rfl, rfl⟩
theorem rulesE_none {l : List UInt8} (h : rulesD l = none) : rulesE l = 1 ∧ rulesL l = [] := by unfold rulesE rulesL; rw [h]; exact ⟨rfl, rfl⟩
theorem pol_o : polE relayS oneL = 0 := polE_zero relay_chk (polB_true (polC_up (by decide +kernel)))
theorem leak_o : leakL relayS oneL = [⟨0, 2⟩, ⟨1, 0⟩, ⟨1, 2⟩] := by decide +kernel
theorem cert_o : certO relayS oneL = ⟨[], [0, 1, 2], false⟩ := by
  unfold certO certG
  rw [if_pos pol_o, leak_o]
  have : pathL relayS 0 2 = [0, 1, 2] := by decide +kernel
  show (⟨[], pathL relayS 0 2, false⟩ : CertOut) = _
  rw [this]
theorem relay0 : runR relayS 0 = wB := by kernel_rfl
theorem relayE0 : runE relayS 0 = 0 := by kernel_rfl
theorem judge_1 : judgeE (cS.enc relayS) rT1 12 = 0 ∧ judgeW (cS.enc relayS) rT1 12 = jW1 := by
  have h : judgeE (cS.enc relayS) rT1 12 = 0 := by
    unfold judgeE
    rw [relay_rd.2, (rulesE_some rules_1).1, relay_rd.1, (rulesE_some rules_1).2, pol_w, relayE12]
    rfl
  refine ⟨h, ?_⟩
  unfold judgeW
  rw [h, if_pos rfl, relay_rd.1, (rulesE_some rules_1).2, cert_w, relay12]
  show writtenW true [] w12.cells = jW1
  decide +kernel
theorem judge_2 : judgeE (cS.enc relayS) rT2 0 = 0 ∧ judgeW (cS.enc relayS) rT2 0 = jW2 := by
  have h : judgeE (cS.enc relayS) rT2 0 = 0 := by
    unfold judgeE
    rw [relay_rd.2, (rulesE_some rules_2).1, relay_rd.1, (rulesE_some rules_2).2, pol_o, relayE0]
    rfl
  refine ⟨h, ?_⟩
  unfold judgeW
  rw [h, if_pos rfl, relay_rd.1, (rulesE_some rules_2).2, cert_o, relay0]
  show writtenW false [0, 1, 2] wB.cells = jW2
  decide +kernel
theorem ent_samePol : Enters 10 := enters Tryz.func10 (by kernel_rfl) (by kernel_rfl)
set_option maxRecDepth 100000 in
set_option maxHeartbeats 8000000 in
theorem deskBegun_any (w : World) (he : Env w) : Calls Tryz.prog 9 #[] w fun e w' => e = .returned (.bool true) ∧ Below w.heap.size w w' := by
  have HE := Lib.hid he
  obtain ⟨bb, HBB⟩ : ∃ bb, Hid (cS.enc relayS = bb) := ⟨_, Lib.hid rfl⟩
  have HIM : Hid (imgB relayS = bb) := Lib.hid (by unfold imgB; rw [if_pos relay_chk]; exact HBB.out)
  have HJ1 := Lib.hid (fun w he => judge_any bb rT1 12 w he (by decide))
  have HJ2 := Lib.hid (fun w he => judge_any bb rT2 0 w he (by decide))
  rw [← HBB.out, judge_1.1, judge_1.2] at HJ1
  rw [← HBB.out, judge_2.1, judge_2.2] at HJ2
  rw [HBB.out] at HJ1 HJ2
  have HR1 := Lib.hid (fun w he => rules_any rT1 w he (by decide))
  have HR3 := Lib.hid (fun w he => rules_any rT3 w he (by decide))
  rw [(rulesE_some rules_1).1, (rulesE_some rules_1).2] at HR1
  rw [(rulesE_none rules_3).1, (rulesE_none rules_3).2] at HR3
  dsimp only [jW1, rT1] at HJ1
  dsimp only [jW2, rT2] at HJ2
  dsimp only [rT1] at HR1
  dsimp only [rT3] at HR3
  clear he HBB
  go_enter Tryz.func9, Tryz.ntmps9
  go_wp2_with fail
  refine (relay_s _).mono ?_
  rintro e w1 ⟨vp, vc, vs, rfl, s1, b1⟩
  have S1 := Lib.hid s1
  have B1 := Lib.hid b1
  clear s1 b1
  go_wp2_with fail
  refine (imageWrite_any relayS _ _ _ _ (HE.out.up B1.out) S1.out).mono ?_
  rw [HIM.out, relay_chk]
  rintro e w2 ⟨rfl, b2⟩
  have B2 := Lib.hid (B1.out.trans (b2.mono B1.out.size))
  clear b2 B1 S1
  go_wp2_with fail
  refine (HJ1.out _ (HE.out.up B2.out)).mono ?_
  rintro e w3 ⟨rfl, b3⟩
  have B3 := Lib.hid (B2.out.trans (b3.mono B2.out.size))
  clear b3 B2
  go_wp2_with fail
  refine (HJ2.out _ (HE.out.up B3.out)).mono ?_
  rintro e w4 ⟨rfl, b4⟩
  have B4 := Lib.hid (B3.out.trans (b4.mono B3.out.size))
  clear b4 B3
  go_wp2_with fail
  refine (HR1.out _ (HE.out.up B4.out)).mono ?_
  rintro e w5 ⟨v5, rfl, o5, b5⟩
  obtain ⟨la, lc, rfl⟩ := (own_sl o5).form
  have B5 := Lib.hid (B4.out.trans (b5.mono B4.out.size))
  have L5 := Lib.hid (own_sl o5)
  clear b5 B4 o5
  have X5 : Hid (Below w5.heap.size w5 (w5.alloc (.cells #[.slice la wideL.length lc] 27))) := Lib.hid ((Below.refl _ _).alloc (Nat.le_refl _) _)
  have R5 := Lib.hid (Rw.new w5 27 #[.slice la wideL.length lc] rfl)
  have B5 := Lib.hid (B5.out.trans (X5.out.mono B5.out.size))
  have L5 := Lib.hid (L5.out.up X5.out)
  go_wp2_with fail
  refine (HR3.out _ (HE.out.up B5.out)).mono ?_
  rintro e w6 ⟨v6, rfl, o6, b6⟩
  obtain ⟨ma, mc, rfl⟩ := (own_sl o6).form
  have B6 := Lib.hid (B5.out.trans (b6.mono B5.out.size))
  have L6 := Lib.hid (L5.out.up b6)
  have R6 := Lib.hid ((R5.out.up b6 R5.out.lt).alloc (.cells #[.slice ma 0 mc] 27))
  have X6 : Hid (Below w6.heap.size w6 (w6.alloc (.cells #[.slice ma 0 mc] 27))) := Lib.hid ((Below.refl _ _).alloc (Nat.le_refl _) _)
  clear b6 o6 B5 L5 R5 X5
  have p0 := R6.out.cell (j := 0) (v := .slice la wideL.length lc) rfl
  have BY : Hid (Below w.heap.size w (w6.alloc (.cells #[.slice ma 0 mc] 27)).drew) := Lib.hid ((B6.out.trans (X6.out.mono B6.out.size)).drew)
  have LY := Lib.hid ((L6.out.up X6.out).up (Below.refl _ _).drew)
  have hY : w5.heap.size < (w6.alloc (.cells #[.slice ma 0 mc] 27)).drew.heap.size := R6.out.lt
  clear B6 L6 R6 X6
  go_wp2_with fail
  refine region_still (S := fun w' => w'.cell? ⟨w5.heap.size, 0, none⟩ = some (.slice la wideL.length lc)) 31 (by kernel_rfl) p0 (fun hHeld => ?_)
  have hq := fun (w' : World) (hSw : (fun w' => w'.cell? ⟨w5.heap.size, 0, none⟩ = some (.slice la wideL.length lc) : World → Prop) w') => hSw
  refine Still.u 0 [] hHeld hq ?_
  refine Still.u 1 [] hHeld hq ?_
  refine Still.u 2 [] hHeld hq ?_
  refine Still.u 3 [] hHeld hq ?_
  refine Still.u 4 [] hHeld hq ?_
  refine Still.u 5 [] hHeld hq ?_
  refine Still.u 6 [] hHeld hq ?_
  refine Still.u 7 [] hHeld hq ?_
  refine Still.u 8 [] hHeld hq ?_
  refine Still.u 9 [] hHeld hq ?_
  refine Still.u 10 [] hHeld hq ?_
  refine Still.u 11 [] hHeld hq ?_
  refine Still.u 12 [] hHeld hq ?_
  refine Still.u 13 [] hHeld hq ?_
  refine Still.u 14 [] hHeld hq ?_
  refine Still.u 15 [] hHeld hq ?_
  refine Still.u 16 [] hHeld hq ?_
  refine Still.u 17 [] hHeld hq ?_
  refine Still.u 18 [] hHeld hq ?_
  refine Still.u 19 [] hHeld hq ?_
  refine Still.u 20 [] hHeld hq ?_
  refine Still.u 21 [] hHeld hq ?_
  refine Still.u 22 [] hHeld hq ?_
  refine Still.u 23 [] hHeld hq ?_
  refine Still.u 24 [] hHeld hq ?_
  refine Still.u 25 [] hHeld hq ?_
  refine Still.u 26 [] hHeld hq ?_
  refine Still.u 27 [] hHeld hq ?_
  generalize World.drew _ = Y at BY LY p0 hY hHeld ⊢
  refine Still.all (rs := [28]) (by kernel_rfl) (by simp) (Still.oneG (i := 28) rfl (by rfl) (fun K hK => ?_) (by simp))
  refine wp_call 33 _ _ rfl ent_wide #[] (by first | rfl | simp [Act.eval, Act.put]) ((wide_any _).mono ?_)
  rintro e V1 ⟨vw, rfl, sw, bw⟩
  obtain ⟨wa, wq, rfl⟩ := sw.form
  have BV := Lib.hid (BY.out.trans (bw.mono BY.out.size))
  have LV := Lib.hid (LY.out.up bw)
  have WV := Lib.hid sw
  have HYV : w5.heap.size < V1.heap.size := Nat.lt_of_lt_of_le hY bw.size
  refine ⟨_, rfl, hK _ _ (fun _ => bcl bw hY hHeld) (fun hh => ?_)⟩
  have hHeld := hh (by decide)
  clear hK K hh sw bw
  try simp only [Act.put, List.getElem_toArray, List.getElem_cons_zero, List.getElem_cons_succ, List.setIfInBounds_toArray, List.set_cons_zero, List.set_cons_succ]
  refine Still.all (rs := [29]) (by kernel_rfl) (by simp) (Still.oneG (i := 29) rfl (by rfl) (fun K hK => ?_) (by simp))
  refine wp_call 10 _ _ rfl ent_samePol #[.agg #[.slice la wideL.length lc], .agg #[.slice wa wideL.length wq]] (by first | rfl | simp [Act.eval, Act.put]) ((samePolicies_yes wideL _ _ _ LV.out WV.out (by decide)).mono ?_)
  rintro e V2 ⟨rfl, bw⟩
  have BV2 := Lib.hid (BV.out.trans (bw.mono BV.out.size))
  refine ⟨_, rfl, hK _ _ (fun _ => bcl bw (by have := BV.out.size; have := LV.out; exact HYV) hHeld) (fun hh => ?_)⟩
  have hHeld := hh (by decide)
  clear hK K hh bw
  try simp only [Act.put, List.getElem_toArray, List.getElem_cons_zero, List.getElem_cons_succ, List.setIfInBounds_toArray, List.set_cons_zero, List.set_cons_succ]
  refine Still.t 30 [] hHeld ?_
  refine Still.o 31 rfl rfl (fun K hK => ?_)
  go_simp
  refine hK _ _ (fun h => absurd rfl h) (fun _ => ?_)
  clear hK K
  refine Still.over (by kernel_rfl) ?_ _
  clear hHeld
  go_wp2
  go_ret
  exact ⟨rfl, BV2.out⟩
end Go.Proofs.YtbkdoohhdkahiaaGreatDoor
