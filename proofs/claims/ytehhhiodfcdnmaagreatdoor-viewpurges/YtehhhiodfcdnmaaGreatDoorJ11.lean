/- view.whole. -/
import Derived.Test.YtehhhiodfcdnmaaGreatDoorJ10
import Derived.Test.YtehhhiodfcdnmaaGreatDoorJ2
import Derived.Test.YtehhhiodfcdnmaaGreatDoorJ5
import Derived.Test.YtehhhiodfcdnmaaGreatDoorJ0
import Derived.Test.YtehhhiodfcdnmaaGreatDoorJ3
import Derived.Sort.Grow
import Derived.Deep.CutRange
import Derived.Shelf.Small.Bits
import Derived.Shelf.Slices.Reverse
import Derived.Shelf.SlSortCmp.SmallK
import Derived.Ground.SlsfProg
import Derived.Ground.NamesProg
import Derived.Test.YtehhhiodfcdnmaaGreatDoorProg
import Derived.Lib.SliceRun
import Derived.Deep.MidRow
namespace Go.Proofs.YtehhhiodfcdnmaaGreatDoor
set_option linter.unusedSimpArgs false
set_option linter.unusedVariables false
open Go.RowKit Go.Sort
structure SysF (n : Nat) (w : World) (vp vc vs : Value) (S : SysD) : Prop where
  p : PartsF n w vp S.parts
  np : NewB n vp
  c : Sl w 3 vc S.chans.length (rowC chC S.chans)
  s : Sl w 2 vs S.slots.length (rowC slC S.slots)
  nc : NewB n vc
  ns : NewB n vs
theorem SysF.sys {n : Nat} {w : World} {vp vc vs : Value} {S : SysD} (h : SysF n w vp vc vs S) : Sys w vp vc vs S := ⟨h.p.r, h.c, h.s⟩
theorem PartsF.up {n : Nat} {w w' : World} {v : Value} {ps : List Prt} (h : PartsF n w v ps) (hb : Below w.heap.size w w') : PartsF n w' v ps := by
  obtain ⟨l, h1, h2, h3⟩ := h
  exact ⟨l, h1, h2.up hb, fun k hk hk' => ⟨(h3 k hk hk').1.up hb, (h3 k hk hk').2⟩⟩
theorem SysF.up {n : Nat} {w w' : World} {vp vc vs : Value} {S : SysD} (h : SysF n w vp vc vs S) (hb : Below w.heap.size w w') : SysF n w' vp vc vs S := ⟨h.p.up hb, h.np, h.c.up hb, h.s.up hb, h.nc, h.ns⟩
theorem PartsF.row {n : Nat} {w : World} {v : Value} {ps : List Prt} (h : PartsF n w v ps) (hv : NewB n v) {x : Nat} (hx : x < n) (cs : Array Value) : PartsF n (w.setRow x cs) v ps := by
  obtain ⟨l, h1, h2, h3⟩ := h
  exact ⟨l, h1, h2.row cs (fun e => by have := hv _ e; omega), fun k hk hk' => ⟨⟨(h3 k hk hk').1.code.row cs (fun e => by have := (h3 k hk hk').2.1.1 _ e; omega), (h3 k hk hk').1.inn.row cs (fun e => by have := (h3 k hk hk').2.1.2 _ e; omega)⟩, (h3 k hk hk').2⟩⟩
theorem SysF.row {n : Nat} {w : World} {vp vc vs : Value} {S : SysD} (h : SysF n w vp vc vs S) {x : Nat} (hx : x < n) (cs : Array Value) : SysF n (w.setRow x cs) vp vc vs S :=
  ⟨h.p.row h.np hx cs, h.np, h.c.row cs (fun e => by have := h.nc _ e; omega), h.s.row cs (fun e => by have := h.ns _ e; omega), h.nc, h.ns⟩
theorem PartsF.set {n : Nat} {w : World} {v : Value} {ps : List Prt} (h : PartsF n w v ps) (hv : NewB n v) {x : Nat} (hx : x < n) (j : Nat) (u : Value) : PartsF n (w.setCell ⟨x, j, none⟩ u) v ps := by
  obtain ⟨l, h1, h2, h3⟩ := h
  exact ⟨l, h1, h2.set u (fun e => by have := hv _ e; omega), fun k hk hk' => ⟨⟨(h3 k hk hk').1.code.set u (fun e => by have := (h3 k hk hk').2.1.1 _ e; omega), (h3 k hk hk').1.inn.set u (fun e => by have := (h3 k hk hk').2.1.2 _ e; omega)⟩, (h3 k hk hk').2⟩⟩
theorem PartsF.low {n m : Nat} {w : World} {v : Value} {ps : List Prt} (h : PartsF n w v ps) (hm : m ≤ n) : PartsF m w v ps := by
  obtain ⟨l, h1, h2, h3⟩ := h
  exact ⟨l, h1, h2, fun k hk hk' => ⟨(h3 k hk hk').1, ⟨(h3 k hk hk').2.1.1.mono hm, (h3 k hk hk').2.1.2.mono hm⟩, (h3 k hk hk').2.2⟩⟩
theorem SysF.low {n m : Nat} {w : World} {vp vc vs : Value} {S : SysD} (h : SysF n w vp vc vs S) (hm : m ≤ n) : SysF m w vp vc vs S := ⟨h.p.low hm, h.np.mono hm, h.c, h.s, h.nc.mono hm, h.ns.mono hm⟩
theorem PartsF.fresh {n : Nat} {w : World} {v : Value} {ps : List Prt} (h : PartsF n w v ps) (o : Obj) (u : Array Value) : PartsF n ((w.alloc o).setRow w.heap.size u) v ps := by
  obtain ⟨l, h1, h2, h3⟩ := h
  exact ⟨l, h1, sl_fresh h2 o u, fun k hk hk' => ⟨⟨sl_fresh (h3 k hk hk').1.code o u, sl_fresh (h3 k hk hk').1.inn o u⟩, (h3 k hk hk').2⟩⟩
theorem SysF.fresh {n : Nat} {w : World} {vp vc vs : Value} {S : SysD} (h : SysF n w vp vc vs S) (o : Obj) (u : Array Value) : SysF n ((w.alloc o).setRow w.heap.size u) vp vc vs S := ⟨h.p.fresh o u, h.np, sl_fresh h.c o u, sl_fresh h.s o u, h.nc, h.ns⟩
theorem entWhole1 : Enters 84 := enters Tryz.func84 (by kernel_rfl) (by kernel_rfl)
set_option maxRecDepth 100000 in
set_option maxHeartbeats 4000000 in
theorem whole1_any (k : Int) (p : Prt) (h1 : p.code.length ≤ 1000) (h2 : p.inn.length ≤ 1000) (c i : Value) (W : World) (hp : PrtR W c i p) :
    Calls Tryz.prog 84 #[.int .i64 k, .agg #[c, i]] W fun e W' => ∃ c' i', e = .returned (.agg #[c', i']) ∧ PrtR W' c' i' p ∧ (NewB W.heap.size c' ∧ NewB W.heap.size i') ∧ Below W.heap.size W W' := by
  obtain ⟨ca, cc, rfl⟩ := hp.code.form
  obtain ⟨ia, ic, rfl⟩ := hp.inn.form
  have HP := Lib.hid hp
  clear hp
  go_enter Tryz.func84, Tryz.ntmps84
  go_upto_region 1 with fail
  generalize hX : World.alloc _ _ = X
  have hXX : X = (W.alloc (.cells #[.slice ca p.code.length cc, .slice ia p.inn.length ic] 49)).alloc (.cells #[.slice none 0 0, .slice none 0 0] 49) := by rw [← hX]
  have hzX : X.heap.size = W.heap.size + 2 := by rw [hXX]; simp
  have D0 : Hid (Below W.heap.size W X) := Lib.hid (by rw [hXX]; exact (by repeat (first | exact Below.refl _ _ | assumption | refine Below.drew ?_ | refine Below.alloc ?_ (by first | (simp; done) | (simp; omega)) _ | refine Below.setCell ?_ (by first | (simp; done) | (simp; omega)) _)))
  have R0 : Hid (Rw X W.heap.size 49 #[.slice ca p.code.length cc, .slice ia p.inn.length ic]) := Lib.hid (by rw [hXX]; exact (by repeat (first | exact Rw.new _ _ _ (by first | rfl | (simp; done) | omega | (simp; omega)) | refine Rw.alloc ?_ _)))
  have R1 : Hid (Rw X (W.heap.size + 1) 49 #[.slice none 0 0, .slice none 0 0]) := Lib.hid (by rw [hXX]; exact (by repeat (first | exact Rw.new _ _ _ (by first | rfl | (simp; done) | omega | (simp; omega)) | refine Rw.alloc ?_ _)))
  clear hX hXX
  go_wp2
  refine region_still (S := fun w' => Below X.heap.size X w') 7 (by kernel_rfl) (Below.refl _ _).drew (fun hHeld => ?_)
  refine Still.takeBy (i := 0) [] (v := ?v1) (by kernel_rfl) (by kernel_rfl) rfl (by kernel_rfl) (by kernel_rfl) (by kernel_rfl) (fun _ _ _ h => h) (Or.inl ⟨by rfl, ?y1⟩) hHeld ?r1
  case y1 => (intro w' hSw; (try dsimp only at hSw); have q1 := (R0.out.up hSw (by omega)).cell (j := 0) (v := .slice ca p.code.length cc) rfl; have q2 := (R0.out.up hSw (by omega)).cell (j := 1) (v := .slice ia p.inn.length ic) rfl; clear hSw; go_simp; try with_reducible rfl)
  simp only [Act.put, List.getElem_toArray, List.getElem_cons_zero, List.getElem_cons_succ, List.setIfInBounds_toArray, List.set_cons_zero, List.set_cons_succ]
  refine Still.takeBy (i := 1) [] (v := ?v2) (by kernel_rfl) (by kernel_rfl) rfl (by kernel_rfl) (by kernel_rfl) (by kernel_rfl) (fun _ _ _ h => h) (Or.inl ⟨by rfl, ?y2⟩) hHeld ?r2
  case y2 => (intro w' hSw; (try dsimp only at hSw); have q1 := (R0.out.up hSw (by omega)).cell (j := 0) (v := .slice ca p.code.length cc) rfl; have q2 := (R0.out.up hSw (by omega)).cell (j := 1) (v := .slice ia p.inn.length ic) rfl; clear hSw; go_simp; try with_reducible rfl)
  simp only [Act.put, List.getElem_toArray, List.getElem_cons_zero, List.getElem_cons_succ, List.setIfInBounds_toArray, List.set_cons_zero, List.set_cons_succ]
  refine Still.takeBy (i := 3) [] (v := ?v3) (by kernel_rfl) (by kernel_rfl) rfl (by kernel_rfl) (by kernel_rfl) (by kernel_rfl) (fun _ _ _ h => h) (Or.inl ⟨by rfl, ?y3⟩) hHeld ?r3
  case y3 => (intro w' hSw; (try dsimp only at hSw); have q1 := (R0.out.up hSw (by omega)).cell (j := 0) (v := .slice ca p.code.length cc) rfl; have q2 := (R0.out.up hSw (by omega)).cell (j := 1) (v := .slice ia p.inn.length ic) rfl; clear hSw; go_simp; try with_reducible rfl)
  simp only [Act.put, List.getElem_toArray, List.getElem_cons_zero, List.getElem_cons_succ, List.setIfInBounds_toArray, List.set_cons_zero, List.set_cons_succ]
  refine Still.takeBy (i := 4) [] (v := ?v4) (by kernel_rfl) (by kernel_rfl) rfl (by kernel_rfl) (by kernel_rfl) (by kernel_rfl) (fun _ _ _ h => h) (Or.inl ⟨by rfl, ?y4⟩) hHeld ?r4
  case y4 => (intro w' hSw; (try dsimp only at hSw); have q1 := (R0.out.up hSw (by omega)).cell (j := 0) (v := .slice ca p.code.length cc) rfl; have q2 := (R0.out.up hSw (by omega)).cell (j := 1) (v := .slice ia p.inn.length ic) rfl; clear hSw; go_simp; try with_reducible rfl)
  simp only [Act.put, List.getElem_toArray, List.getElem_cons_zero, List.getElem_cons_succ, List.setIfInBounds_toArray, List.set_cons_zero, List.set_cons_succ]
  refine Still.all (rs := [2]) (by kernel_rfl) (by simp) (Still.one (i := 2) rfl rfl (fun K hK => ?_) (by simp))
  refine wp_call 85 _ _ rfl enVcopIns #[.slice ca p.code.length cc] (by first | rfl | simp [Act.eval, Act.put]) ((vcopIns_any p.code h1 _ _ (HP.out.code.up (D0.out.trans (Below.refl _ _).drew))).mono ?_)
  rintro e W2 ⟨v2, rfl, ho2, bb⟩
  obtain ⟨a2, c2, rfl⟩ := own_form ho2
  have B2 : Hid (Below X.heap.size X W2) := Lib.hid ((Below.refl _ _).drew.trans bb)
  have hob := own_block ho2
  have S2 := Lib.hid (own_sl ho2)
  have z2 := B2.out.size
  refine ⟨_, rfl, hK _ _ (fun _ => B2.out) (fun hh => ?_)⟩
  have hHeld := hh (by decide)
  clear hK K hh
  try simp only [Act.put, List.getElem_toArray, List.getElem_cons_zero, List.getElem_cons_succ, List.setIfInBounds_toArray, List.set_cons_zero, List.set_cons_succ]
  clear bb ho2
  refine Still.all (rs := [5]) (by kernel_rfl) (by simp) (Still.one (i := 5) rfl rfl (fun K hK => ?_) (by simp))
  refine wp_call 32 _ _ rfl enVcopInt #[.slice ia p.inn.length ic] (by first | rfl | simp [Act.eval, Act.put]) ((vcopInt_any p.inn h2 _ _ (HP.out.inn.up (D0.out.trans (B2.out.mono (by omega))))).mono ?_)
  rintro e W3 ⟨v3, rfl, ho3, bb⟩
  obtain ⟨a3, c3, rfl⟩ := own_form ho3
  have B3 : Hid (Below X.heap.size X W3) := Lib.hid (B2.out.trans (bb.mono (by omega)))
  have hob3 := own_block ho3
  have S3 := Lib.hid (own_sl ho3)
  have S23 := Lib.hid (S2.out.up bb)
  have z3 := B3.out.size
  refine ⟨_, rfl, hK _ _ (fun _ => B3.out) (fun hh => ?_)⟩
  have hHeld := hh (by decide)
  clear hK K hh
  try simp only [Act.put, List.getElem_toArray, List.getElem_cons_zero, List.getElem_cons_succ, List.setIfInBounds_toArray, List.set_cons_zero, List.set_cons_succ]
  clear bb ho3 S2
  refine Still.takeBy (i := 6) [] (v := ?v5) (by kernel_rfl) (by kernel_rfl) rfl (by kernel_rfl) (by kernel_rfl) (by kernel_rfl) (fun _ _ _ h => h) (Or.inl ⟨by rfl, ?y5⟩) hHeld ?r5
  case y5 => (intro w' hSw; (try dsimp only at hSw); clear hSw; go_simp; try with_reducible rfl)
  simp only [Act.put, List.getElem_toArray, List.getElem_cons_zero, List.getElem_cons_succ, List.setIfInBounds_toArray, List.set_cons_zero, List.set_cons_succ]
  refine Still.all (rs := [7]) (by kernel_rfl) (by simp) (Still.one (i := 7) rfl rfl (fun K hK => ?_) (by simp))
  refine wp_store_row 49 _ _ rfl (W.heap.size + 1) #[.slice a2 p.code.length c2, .slice a3 p.inn.length c3] (by first | rfl | simp [Act.eval, Act.put]) (by first | rfl | simp [Act.eval, Act.put]) 49 #[.slice none 0 0, .slice none 0 0] (R1.out.up B3.out (by omega)) sizePart rfl (by simp [Value.oneCell']) ?_
  refine hK _ _ (fun h => absurd rfl h) (fun _ => ?_)
  clear hK K
  refine Still.over (by kernel_rfl) ?_ _
  have RR := Lib.hid ((R1.out.up B3.out (by omega)).row #[.slice a2 p.code.length c2, .slice a3 p.inn.length c3])
  go_wp2
  refine bodyPost_ret (results_cell_row Tryz.results84 _ _ (W.heap.size + 1) 49 _ (0, 0) _ rfl RR.out Tryz.underlying49 rfl sizePart) rfl ⟨_, _, rfl, ⟨S23.out.row _ (fun e => ?_), S3.out.row _ (fun e => ?_)⟩, ⟨fun b e => ?_, fun b e => ?_⟩, below_row (D0.out.trans (B3.out.mono (by omega))) (by omega) _⟩
  · have h := hob _ e
    have h' : X.heap.size ≤ W.heap.size + 1 := h
    omega
  · have h := hob3 _ e
    omega
  · have h : X.heap.size ≤ b := hob _ e
    omega
  · have h := hob3 _ e
    omega
structure SmallS (S : SysD) : Prop where
  p : S.parts.length ≤ 4
  c : S.chans.length ≤ 1000
  s : S.slots.length ≤ 1000
  q : ∀ k (h : k < S.parts.length), S.parts[k].code.length ≤ 1000 ∧ S.parts[k].inn.length ≤ 1000
set_option maxRecDepth 100000 in
set_option maxHeartbeats 4000000 in
theorem whole_any (S : SysD) (hm : SmallS S) (vp vc vs : Value) (w : World) (hS : Sys w vp vc vs S) :
    Calls Tryz.prog 48 #[.agg #[vp, vc, vs]] w fun e w' => ∃ xp xc xs, e = .returned (.agg #[xp, xc, xs]) ∧ SysF w.heap.size w' xp xc xs S ∧ Below w.heap.size w w' := by
  obtain ⟨pa, pc, rfl⟩ := hS.p.form
  obtain ⟨ka, kc, rfl⟩ := hS.c.form
  obtain ⟨sa, sc, rfl⟩ := hS.s.form
  have HS := Lib.hid hS
  have HM := Lib.hid hm
  clear hS hm
  go_enter Tryz.func48, Tryz.ntmps48
  go_upto_region 1 with fail
  generalize hX : World.alloc _ _ = X
  have hXX : X = (w.alloc (.cells #[.slice pa S.parts.length pc, .slice ka S.chans.length kc, .slice sa S.slots.length sc] 26)).alloc (.cells #[.slice none 0 0, .slice none 0 0, .slice none 0 0] 26) := by rw [← hX]
  have hzX : X.heap.size = w.heap.size + 2 := by rw [hXX]; simp
  have D0 : Hid (Below w.heap.size w X) := Lib.hid (by rw [hXX]; exact (by repeat (first | exact Below.refl _ _ | assumption | refine Below.drew ?_ | refine Below.alloc ?_ (by first | (simp; done) | (simp; omega)) _ | refine Below.setCell ?_ (by first | (simp; done) | (simp; omega)) _)))
  have R0 : Hid (Rw X w.heap.size 26 #[.slice pa S.parts.length pc, .slice ka S.chans.length kc, .slice sa S.slots.length sc]) := Lib.hid (by rw [hXX]; exact (by repeat (first | exact Rw.new _ _ _ (by first | rfl | (simp; done) | omega | (simp; omega)) | refine Rw.alloc ?_ _)))
  have R1 : Hid (Rw X (w.heap.size + 1) 26 #[.slice none 0 0, .slice none 0 0, .slice none 0 0]) := Lib.hid (by rw [hXX]; exact (by repeat (first | exact Rw.new _ _ _ (by first | rfl | (simp; done) | omega | (simp; omega)) | refine Rw.alloc ?_ _)))
  clear hX hXX
  have s0 := R0.out.cell (j := 0) (v := .slice pa S.parts.length pc) rfl
  have s1 := R0.out.cell (j := 1) (v := .slice ka S.chans.length kc) rfl
  have s2 := R0.out.cell (j := 2) (v := .slice sa S.slots.length sc) rfl
  go_wp2_with fail
  refine (turned_any S S.parts rfl HM.out.p X.heap.size 84 entWhole1 #[] _ _ _ X (HS.out.up D0.out) (fun k hk hk' c i W h1 h2 h3 => by
    refine (whole1_any k S.parts[k] (HM.out.q k hk).1 (HM.out.q k hk).2 c i W (h3.up h1)).mono ?_
    rintro e W' ⟨c', i', rfl, hq, ⟨n1, n2⟩, hb⟩
    exact ⟨c', i', rfl, hq, ⟨n1.mono (by omega), n2.mono (by omega)⟩, fun _ b e => .inr (n1 b e), fun _ b e => .inr (n2 b e), hb⟩)).mono ?_
  rintro e w1 ⟨xp, rfl, hPF, hNP, b1⟩
  obtain ⟨xa, xb, rfl⟩ := hPF.r.form
  have z1 := b1.size
  have R01 := Lib.hid (R0.out.up b1 (by omega))
  have R11 := Lib.hid (R1.out.up b1 (by omega))
  have D1 := Lib.hid (D0.out.trans (b1.mono (by omega)))
  have HPF := Lib.hid hPF
  have HNP := Lib.hid hNP
  clear b1 hPF hNP s0 s1 s2 R0 R1 D0
  go_wp2_with (refine wpList_store_rowW rfl 26 (.tmp 3) (.tmp 5) rfl w1.heap.size #[.slice xa S.parts.length xb, .slice ka S.chans.length kc, .slice sa S.slots.length sc] rfl rfl 26 #[.slice none 0 0, .slice none 0 0, .slice none 0 0] (by repeat (first | exact Rw.new _ _ _ (by first | rfl | (simp; done) | omega | (simp; omega)) | refine Rw.alloc ?_ _)) sizeSys rfl (by simp [Value.oneCell']) ?_)
  intro W2 HW2
  have b2 : Below w1.heap.size w1 W2 := by rw [HW2.out]; exact below_row ((Below.refl _ _).alloc (Nat.le_refl _) _) (Nat.le_refl _) _
  have R3 : Hid (Rw W2 w1.heap.size 26 #[.slice xa S.parts.length xb, .slice ka S.chans.length kc, .slice sa S.slots.length sc]) := by
    show Rw _ _ _ _
    rw [HW2.out]
    exact Rw.row (cs := #[.slice none 0 0, .slice none 0 0, .slice none 0 0]) (by repeat (first | exact Rw.new _ _ _ (by first | rfl | (simp; done) | omega | (simp; omega)) | refine Rw.alloc ?_ _)) _
  have B2 := Lib.hid b2
  have R02 := Lib.hid (R01.out.up b2 (by omega))
  have R12 := Lib.hid (R11.out.up b2 (by omega))
  have D2 := Lib.hid (D1.out.trans (b2.mono (by omega)))
  have z2 := R3.out.lt
  clear HW2 b2 R01 R11 D1
  go_wp2
  refine region_still (S := fun w' => Rw w' w.heap.size 26 #[.slice pa S.parts.length pc, .slice ka S.chans.length kc, .slice sa S.slots.length sc]) 9 (by kernel_rfl) R02.out.drew (fun hHeld => ?_)
  refine Still.takeBy (i := 0) [] (v := ?v51) (by kernel_rfl) (by kernel_rfl) rfl (by kernel_rfl) (by kernel_rfl) (by kernel_rfl) (fun _ _ _ h => h) (Or.inl ⟨by rfl, ?y51⟩) hHeld ?r51
  case y51 => (intro w' hSw; (try dsimp only at hSw); have q1 := hSw.cell (j := 1) (v := .slice ka S.chans.length kc) rfl; have q2 := hSw.cell (j := 2) (v := .slice sa S.slots.length sc) rfl; clear hSw; go_simp; try with_reducible rfl)
  simp only [Act.put, List.getElem_toArray, List.getElem_cons_zero, List.getElem_cons_succ, List.setIfInBounds_toArray, List.set_cons_zero, List.set_cons_succ]
  refine Still.takeBy (i := 1) [] (v := ?v52) (by kernel_rfl) (by kernel_rfl) rfl (by kernel_rfl) (by kernel_rfl) (by kernel_rfl) (fun _ _ _ h => h) (Or.inl ⟨by rfl, ?y52⟩) hHeld ?r52
  case y52 => (intro w' hSw; (try dsimp only at hSw); have q1 := hSw.cell (j := 1) (v := .slice ka S.chans.length kc) rfl; have q2 := hSw.cell (j := 2) (v := .slice sa S.slots.length sc) rfl; clear hSw; go_simp; try with_reducible rfl)
  simp only [Act.put, List.getElem_toArray, List.getElem_cons_zero, List.getElem_cons_succ, List.setIfInBounds_toArray, List.set_cons_zero, List.set_cons_succ]
  refine Still.takeBy (i := 3) [] (v := ?v53) (by kernel_rfl) (by kernel_rfl) rfl (by kernel_rfl) (by kernel_rfl) (by kernel_rfl) (fun _ _ _ h => h) (Or.inl ⟨by rfl, ?y53⟩) hHeld ?r53
  case y53 => (intro w' hSw; (try dsimp only at hSw); have q1 := hSw.cell (j := 1) (v := .slice ka S.chans.length kc) rfl; have q2 := hSw.cell (j := 2) (v := .slice sa S.slots.length sc) rfl; clear hSw; go_simp; try with_reducible rfl)
  simp only [Act.put, List.getElem_toArray, List.getElem_cons_zero, List.getElem_cons_succ, List.setIfInBounds_toArray, List.set_cons_zero, List.set_cons_succ]
  refine Still.takeBy (i := 4) [] (v := ?v54) (by kernel_rfl) (by kernel_rfl) rfl (by kernel_rfl) (by kernel_rfl) (by kernel_rfl) (fun _ _ _ h => h) (Or.inl ⟨by rfl, ?y54⟩) hHeld ?r54
  case y54 => (intro w' hSw; (try dsimp only at hSw); have q1 := hSw.cell (j := 1) (v := .slice ka S.chans.length kc) rfl; have q2 := hSw.cell (j := 2) (v := .slice sa S.slots.length sc) rfl; clear hSw; go_simp; try with_reducible rfl)
  simp only [Act.put, List.getElem_toArray, List.getElem_cons_zero, List.getElem_cons_succ, List.setIfInBounds_toArray, List.set_cons_zero, List.set_cons_succ]
  refine Still.all (rs := [2]) (by kernel_rfl) (by simp) (Still.one (i := 2) rfl rfl (fun K hK => ?_) (by simp))
  refine wp_call 86 _ _ rfl enVcopChan #[.slice ka S.chans.length kc] (by first | rfl | simp [Act.eval, Act.put]) ((vcopChan_any S.chans HM.out.c _ _ (HS.out.c.up (D2.out.trans (Below.refl _ _).drew))).mono ?_)
  rintro e W3 ⟨v3, rfl, ho3, bb⟩
  obtain ⟨a3, c3, rfl⟩ := own_form ho3
  have B3 : Hid (Below W2.heap.size W2 W3) := Lib.hid ((Below.refl _ _).drew.trans bb)
  have hob3 : ∀ k, (Value.slice a3 S.chans.length c3).ownBlock = some k → W2.heap.size ≤ k := own_block ho3
  have S3 := Lib.hid (own_sl ho3)
  have z3 := B3.out.size
  refine ⟨_, rfl, hK _ _ (fun _ => R02.out.up B3.out (by omega)) (fun hh => ?_)⟩
  have hHeld := hh (by decide)
  clear hK K hh
  try simp only [Act.put, List.getElem_toArray, List.getElem_cons_zero, List.getElem_cons_succ, List.setIfInBounds_toArray, List.set_cons_zero, List.set_cons_succ]
  clear bb ho3
  refine Still.takeBy (i := 6) [] (v := ?v55) (by kernel_rfl) (by kernel_rfl) rfl (by kernel_rfl) (by kernel_rfl) (by kernel_rfl) (fun _ _ _ h => h) (Or.inl ⟨by rfl, ?y55⟩) hHeld ?r55
  case y55 => (intro w' hSw; (try dsimp only at hSw); clear hSw; go_simp; try with_reducible rfl)
  simp only [Act.put, List.getElem_toArray, List.getElem_cons_zero, List.getElem_cons_succ, List.setIfInBounds_toArray, List.set_cons_zero, List.set_cons_succ]
  refine Still.all (rs := [5]) (by kernel_rfl) (by simp) (Still.one (i := 5) rfl rfl (fun K hK => ?_) (by simp))
  refine wp_call 87 _ _ rfl enVcopSlot #[.slice sa S.slots.length sc] (by first | rfl | simp [Act.eval, Act.put]) ((vcopSlot_any S.slots HM.out.s _ _ (HS.out.s.up (D2.out.trans (B3.out.mono (by have := D2.out.size; omega))))).mono ?_)
  rintro e W4 ⟨v4, rfl, ho4, bb⟩
  obtain ⟨a4, c4, rfl⟩ := own_form ho4
  have B4 : Hid (Below W2.heap.size W2 W4) := Lib.hid (B3.out.trans (bb.mono (by omega)))
  have hob4 := own_block ho4
  have S4 := Lib.hid (own_sl ho4)
  have S34 := Lib.hid (S3.out.up bb)
  have z4 := B4.out.size
  have R34 := Lib.hid (R3.out.up B4.out (by omega))
  have k1 := R34.out.cell (j := 1) (v := .slice ka S.chans.length kc) rfl
  have f1 := R34.out.fr 1
  have R35 := Lib.hid (R34.out.set 1 (.slice a3 S.chans.length c3))
  have k2 := R35.out.cell (j := 2) (v := .slice sa S.slots.length sc) rfl
  have f2 := R35.out.fr 2
  have K2 := Lib.hid k2
  have F2 := Lib.hid f2
  refine ⟨_, rfl, hK _ _ (fun _ => R02.out.up B4.out (by omega)) (fun hh => ?_)⟩
  have hHeld := hh (by decide)
  clear hK K hh
  try simp only [Act.put, List.getElem_toArray, List.getElem_cons_zero, List.getElem_cons_succ, List.setIfInBounds_toArray, List.set_cons_zero, List.set_cons_succ]
  clear bb ho4 S3 k2 f2
  refine Still.all (rs := [7]) (by kernel_rfl) (by simp) (Still.one (i := 7) rfl rfl (fun K hK => ?_) (by simp))
  clear hHeld
  go_simp
  refine hK _ _ (fun _ => (R02.out.up B4.out (by omega)).set_other _ (by simp; omega)) (fun hh => ?_)
  have hHeld := hh (by decide)
  clear hK K hh
  try simp only [Act.put, List.getElem_toArray, List.getElem_cons_zero, List.getElem_cons_succ, List.setIfInBounds_toArray, List.set_cons_zero, List.set_cons_succ]
  clear k1 f1
  have k2 := K2.out
  have f2 := F2.out
  refine Still.takeBy (i := 8) [] (v := ?v56) (by kernel_rfl) (by kernel_rfl) rfl (by kernel_rfl) (by kernel_rfl) (by kernel_rfl) (fun _ _ _ h => h) (Or.inl ⟨by rfl, ?y56⟩) hHeld ?r56
  case y56 => (intro w' hSw; (try dsimp only at hSw); clear hSw; go_simp; try with_reducible rfl)
  simp only [Act.put, List.getElem_toArray, List.getElem_cons_zero, List.getElem_cons_succ, List.setIfInBounds_toArray, List.set_cons_zero, List.set_cons_succ]
  refine Still.all (rs := [9]) (by kernel_rfl) (by simp) (Still.one (i := 9) rfl rfl (fun K hK => ?_) (by simp))
  clear hHeld
  go_simp
  refine hK _ _ (fun h => absurd rfl h) (fun _ => ?_)
  clear hK K
  refine Still.over (by kernel_rfl) ?_ _
  have R36 := Lib.hid (R35.out.set 2 (.slice a4 S.slots.length c4))
  have R16 := Lib.hid (((R12.out.up B4.out (by omega)).set_other (a := ⟨w1.heap.size, 1, none⟩) (.slice a3 S.chans.length c3) (by simp; omega)).set_other (a := ⟨w1.heap.size, 2, none⟩) (.slice a4 S.slots.length c4) (by simp; omega))
  have D6 := Lib.hid (((D2.out.trans (B4.out.mono (by have := D2.out.size; omega))).setCell (p := ⟨w1.heap.size, 1, none⟩) (by simp; omega) (.slice a3 S.chans.length c3)).setCell (p := ⟨w1.heap.size, 2, none⟩) (by simp; omega) (.slice a4 S.slots.length c4))
  have SF : Hid (SysF (w.heap.size + 2) ((W4.setCell ⟨w1.heap.size, 1, none⟩ (.slice a3 S.chans.length c3)).setCell ⟨w1.heap.size, 2, none⟩ (.slice a4 S.slots.length c4)) (.slice xa S.parts.length xb) (.slice a3 S.chans.length c3) (.slice a4 S.slots.length c4) S) := Lib.hid (by
    have hnp : NewB (w.heap.size + 2) (.slice xa S.parts.length xb) := HNP.out.mono (by omega)
    refine ⟨?_, hnp, (S34.out.set _ (fun e => by have := hob3 _ e; omega)).set _ (fun e => by have := hob3 _ e; omega), (S4.out.set _ (fun e => by have := hob4 _ e; omega)).set _ (fun e => by have := hob4 _ e; omega), fun b e => by have := hob3 b e; omega, fun b e => by have := hob4 b e; omega⟩
    exact (HPF.out.low (by omega)).up (((B2.out.trans (B4.out.mono (by omega))).setCell (p := ⟨w1.heap.size, 1, none⟩) (Nat.le_refl _) _).setCell (p := ⟨w1.heap.size, 2, none⟩) (Nat.le_refl _) _))
  generalize (W4.setCell ⟨w1.heap.size, 1, none⟩ (.slice a3 S.chans.length c3)).setCell ⟨w1.heap.size, 2, none⟩ (.slice a4 S.slots.length c4) = W6 at R36 R16 D6 SF ⊢
  have q0 := R36.out.cell (j := 0) (v := .slice xa S.parts.length xb) rfl
  have q1 := R36.out.cell (j := 1) (v := .slice a3 S.chans.length c3) rfl
  have q2 := R36.out.cell (j := 2) (v := .slice a4 S.slots.length c4) rfl
  clear R34 R35 K2 F2 k2 f2 B2 B3 B4 HPF R3 R02 R12 D2 S34 S4
  go_wp2_with (refine wpList_store_row rfl 26 (.tmp 2) (.tmp 14) rfl (w.heap.size + 1) #[.slice xa S.parts.length xb, .slice a3 S.chans.length c3, .slice a4 S.slots.length c4] rfl rfl 26 _ R16.out sizeSys rfl (by simp [Value.oneCell']) ?_)
  exact bodyPost_ret (results_cell_row Tryz.results48 _ _ (w.heap.size + 1) 26 _ (0, 0) _ rfl (R16.out.row _) Tryz.underlying26 rfl sizeSys) rfl ⟨_, _, _, rfl, (SF.out.row (by omega) _).low (by omega), below_row D6.out (by omega) _⟩
end Go.Proofs.YtehhhiodfcdnmaaGreatDoor

namespace Go.Proofs.YtehhhiodfcdnmaaGreatDoor
set_option linter.unusedSimpArgs false
set_option linter.unusedVariables false
open Go.RowKit Go.Sort
def cmpI (x y : Int) : Int := if x < y then -1 else if y < x then 1 else 0
def orI (a b : Int) : Int := if a ≠ 0 then a else b
structure Edg where
  fr : Int
  tt : Int
  deriving DecidableEq
def Edg.cells (e : Edg) : List Value := [.int .i64 e.fr, .int .i64 e.tt]
def cmpE (a b : Edg) : Int := orI (cmpI a.fr b.fr) (cmpI a.tt b.tt)
theorem isNaN_any (x : Int) (w : World) : Calls Tryz.prog 133 #[.int .i64 x] w fun e w' => e = .returned (.bool false) ∧ w' = w := by
  have h : (x != x) = false := by simp
  go_enter Tryz.func133, Tryz.ntmps133
  go_wp2
  go_ret
  exact ⟨rfl, rfl⟩
set_option maxRecDepth 100000 in
theorem compare_any (x y : Int) (w : World) (r : Int) (hr : cmpI x y = r) : Calls Tryz.prog 98 #[.int .i64 x, .int .i64 y] w fun e w' => e = .returned (.int .i64 r) ∧ w' = w := by
  subst hr
  unfold cmpI
  by_cases h1 : x < y
  · rw [if_pos h1]
    go_enter Tryz.func98, Tryz.ntmps98
    go_wp2_with (go_at_call 133; refine (isNaN_any _ _).mono ?_; rintro e w2 ⟨rfl, rfl⟩)
    go_ret
    exact ⟨rfl, rfl⟩
  · rw [if_neg h1]
    by_cases h2 : y < x
    · rw [if_pos h2]
      go_enter Tryz.func98, Tryz.ntmps98
      go_wp2_with (go_at_call 133; refine (isNaN_any _ _).mono ?_; rintro e w2 ⟨rfl, rfl⟩)
      go_ret
      exact ⟨rfl, rfl⟩
    · rw [if_neg h2]
      go_enter Tryz.func98, Tryz.ntmps98
      go_wp2_with (go_at_call 133; refine (isNaN_any _ _).mono ?_; rintro e w2 ⟨rfl, rfl⟩)
      go_ret
      exact ⟨rfl, rfl⟩
set_option maxRecDepth 100000 in
theorem or_any (a b : Int) (g : Nat) (w : World) (h0 : w.cell? ⟨g, 0, none⟩ = some (.int .i64 a)) (h1 : w.cell? ⟨g, 1, none⟩ = some (.int .i64 b)) (r : Int) (hr : orI a b = r) : Calls Tryz.prog 97 #[.slice (some ⟨g, 0, none⟩) 2 2] w fun e w' => e = .returned (.int .i64 r) ∧ w' = w := by
  have H0 := Lib.hid h0
  have H1 := Lib.hid h1
  clear h0 h1
  go_enter Tryz.func97, Tryz.ntmps97
  go_wp2
  go_loopw [8] (fun i wr => ∃ k : Nat, i = .int .i64 k ∧ k ≤ 2 ∧ Hid (1 ≤ k → a = 0) ∧ Hid (2 ≤ k → b = 0) ∧ wr = w) (fun i _ => 2 - (intOf i).toNat)
  case atStart => exact ⟨0, rfl, by omega, Lib.hid (by omega), Lib.hid (by omega), rfl⟩
  case round =>
    obtain ⟨k, rfl, hk, HA, HB, rfl⟩ := hrel
    have hk3 : k = 0 ∨ k = 1 ∨ k = 2 := by omega
    rcases hk3 with rfl | rfl | rfl
    · have c0 := H0.out
      by_cases ha : a = 0
      · have ha' : (a != 0) = false := by simpa using ha
        have HZ := Lib.hid ha
        clear ha
        go_wp2
        go_roundw
        case rel => exact ⟨1, by go_num, by omega, Lib.hid (fun _ => HZ.out), Lib.hid (by omega), by first | rfl | trivial⟩
        case measure => simp [intOf]
      · have ha' : (a != 0) = true := by simpa using ha
        have HR : Hid (a = r) := by
          show _ = _
          rw [← hr, orI, if_pos ha]
        clear ha hr
        go_wp2
        go_ret
        exact ⟨ret_int HR.out, rfl⟩
    · have c1 := H1.out
      by_cases hb : b = 0
      · have hb' : (b != 0) = false := by simpa using hb
        have HZ := Lib.hid hb
        clear hb
        go_wp2
        go_roundw
        case rel => exact ⟨2, by go_num, by omega, Lib.hid (fun _ => HA.out (by omega)), Lib.hid (fun _ => HZ.out), by first | rfl | trivial⟩
        case measure => simp [intOf]
      · have hb' : (b != 0) = true := by simpa using hb
        have HR : Hid (b = r) := by
          show _ = _
          rw [← hr, orI, if_neg (by simpa using HA.out (by omega))]
        clear hb hr
        go_wp2
        go_ret
        exact ⟨ret_int HR.out, rfl⟩
    · have HR : Hid ((0 : Int) = r) := by
        show _ = _
        rw [← hr, orI, if_neg (by simpa using HA.out (by omega)), HB.out (by omega)]
      go_wp2
      go_ret
      exact ⟨ret_int HR.out, rfl⟩
theorem ent_compare : Enters 98 := enters Tryz.func98 (by kernel_rfl) (by kernel_rfl)
theorem ent_or : Enters 97 := enters Tryz.func97 (by kernel_rfl) (by kernel_rfl)
set_option maxRecDepth 100000 in
set_option maxHeartbeats 2000000 in
theorem edges1_any (x y : Edg) (w : World) : Calls Tryz.prog 96 #[.agg #[.int .i64 x.fr, .int .i64 x.tt], .agg #[.int .i64 y.fr, .int .i64 y.tt]] w fun e w' => e = .returned (.int .i64 (cmpE x y)) ∧ ∃ q os, w' = grow (w.drewN q) os := by
  obtain ⟨a, b⟩ := x
  obtain ⟨c, d⟩ := y
  obtain ⟨r1, h1⟩ : ∃ r, cmpI a c = r := ⟨_, rfl⟩
  obtain ⟨r2, h2⟩ : ∃ r, cmpI b d = r := ⟨_, rfl⟩
  obtain ⟨r3, h3⟩ : ∃ r, orI r1 r2 = r := ⟨_, rfl⟩
  have HR : Hid (cmpE ⟨a, b⟩ ⟨c, d⟩ = r3) := by
    show _ = _
    unfold cmpE
    rw [h1, h2, h3]
  have C1 := Lib.hid fun V => compare_any a c V r1 h1
  have C2 := Lib.hid fun V => compare_any b d V r2 h2
  have C3 := Lib.hid fun g V k0 k1 => or_any r1 r2 g V k0 k1 r3 h3
  rw [HR.out]
  simp only
  clear h1 h2 h3 HR
  go_enter Tryz.func96, Tryz.ntmps96
  go_upto_region 1 with fail
  generalize hW : World.alloc _ _ = W
  have RA : Hid (Rw W w.heap.size 74 #[.int .i64 a, .int .i64 b]) := by
    show Rw _ _ _ _
    rw [← hW]
    exact (by repeat (first | exact Rw.new _ _ _ (by first | rfl | (simp; done) | omega | (simp; omega)) | refine Rw.alloc ?_ _))
  have RB : Hid (Rw W (w.heap.size + 1) 74 #[.int .i64 c, .int .i64 d]) := by
    show Rw _ _ _ _
    rw [← hW]
    exact (by repeat (first | exact Rw.new _ _ _ (by first | rfl | (simp; done) | omega | (simp; omega)) | refine Rw.alloc ?_ _))
  have HW : Hid (W = grow w #[.cells #[.int .i64 a, .int .i64 b] 74, .cells #[.int .i64 c, .int .i64 d] 74]) := by
    show _ = _
    rw [← hW, alloc_eq_grow, alloc_eq_grow, grow_grow]
    rfl
  clear hW
  refine region_still (S := fun w' => Below W.heap.size W w') 12 (by kernel_rfl) (Below.refl _ _).drew (fun hHeld => ?_)
  refine Still.takeBy (i := 0) [] (v := ?v11) (by kernel_rfl) (by kernel_rfl) rfl (by kernel_rfl) (by kernel_rfl) (by kernel_rfl) (fun _ _ _ h => h) (Or.inl ⟨by rfl, ?y11⟩) hHeld ?r11
  case y11 => (intro w' hSw; (try dsimp only at hSw); have q0 := (RA.out.up hSw RA.out.lt).cell (j := 0) (v := .int .i64 a) rfl; have q1 := (RA.out.up hSw RA.out.lt).cell (j := 1) (v := .int .i64 b) rfl; have q2 := (RB.out.up hSw RB.out.lt).cell (j := 0) (v := .int .i64 c) rfl; have q3 := (RB.out.up hSw RB.out.lt).cell (j := 1) (v := .int .i64 d) rfl; clear hSw; go_simp; try with_reducible rfl)
  simp only [Act.put, List.getElem_toArray, List.getElem_cons_zero, List.getElem_cons_succ, List.setIfInBounds_toArray, List.set_cons_zero, List.set_cons_succ]
  refine Still.takeBy (i := 1) [] (v := ?v12) (by kernel_rfl) (by kernel_rfl) rfl (by kernel_rfl) (by kernel_rfl) (by kernel_rfl) (fun _ _ _ h => h) (Or.inl ⟨by rfl, ?y12⟩) hHeld ?r12
  case y12 => (intro w' hSw; (try dsimp only at hSw); have q0 := (RA.out.up hSw RA.out.lt).cell (j := 0) (v := .int .i64 a) rfl; have q1 := (RA.out.up hSw RA.out.lt).cell (j := 1) (v := .int .i64 b) rfl; have q2 := (RB.out.up hSw RB.out.lt).cell (j := 0) (v := .int .i64 c) rfl; have q3 := (RB.out.up hSw RB.out.lt).cell (j := 1) (v := .int .i64 d) rfl; clear hSw; go_simp; try with_reducible rfl)
  simp only [Act.put, List.getElem_toArray, List.getElem_cons_zero, List.getElem_cons_succ, List.setIfInBounds_toArray, List.set_cons_zero, List.set_cons_succ]
  refine Still.takeBy (i := 2) [] (v := ?v13) (by kernel_rfl) (by kernel_rfl) rfl (by kernel_rfl) (by kernel_rfl) (by kernel_rfl) (fun _ _ _ h => h) (Or.inl ⟨by rfl, ?y13⟩) hHeld ?r13
  case y13 => (intro w' hSw; (try dsimp only at hSw); have q0 := (RA.out.up hSw RA.out.lt).cell (j := 0) (v := .int .i64 a) rfl; have q1 := (RA.out.up hSw RA.out.lt).cell (j := 1) (v := .int .i64 b) rfl; have q2 := (RB.out.up hSw RB.out.lt).cell (j := 0) (v := .int .i64 c) rfl; have q3 := (RB.out.up hSw RB.out.lt).cell (j := 1) (v := .int .i64 d) rfl; clear hSw; go_simp; try with_reducible rfl)
  simp only [Act.put, List.getElem_toArray, List.getElem_cons_zero, List.getElem_cons_succ, List.setIfInBounds_toArray, List.set_cons_zero, List.set_cons_succ]
  refine Still.takeBy (i := 3) [] (v := ?v14) (by kernel_rfl) (by kernel_rfl) rfl (by kernel_rfl) (by kernel_rfl) (by kernel_rfl) (fun _ _ _ h => h) (Or.inl ⟨by rfl, ?y14⟩) hHeld ?r14
  case y14 => (intro w' hSw; (try dsimp only at hSw); have q0 := (RA.out.up hSw RA.out.lt).cell (j := 0) (v := .int .i64 a) rfl; have q1 := (RA.out.up hSw RA.out.lt).cell (j := 1) (v := .int .i64 b) rfl; have q2 := (RB.out.up hSw RB.out.lt).cell (j := 0) (v := .int .i64 c) rfl; have q3 := (RB.out.up hSw RB.out.lt).cell (j := 1) (v := .int .i64 d) rfl; clear hSw; go_simp; try with_reducible rfl)
  simp only [Act.put, List.getElem_toArray, List.getElem_cons_zero, List.getElem_cons_succ, List.setIfInBounds_toArray, List.set_cons_zero, List.set_cons_succ]
  refine Still.takeBy (i := 5) [] (v := ?v15) (by kernel_rfl) (by kernel_rfl) rfl (by kernel_rfl) (by kernel_rfl) (by kernel_rfl) (fun _ _ _ h => h) (Or.inl ⟨by rfl, ?y15⟩) hHeld ?r15
  case y15 => (intro w' hSw; (try dsimp only at hSw); have q0 := (RA.out.up hSw RA.out.lt).cell (j := 0) (v := .int .i64 a) rfl; have q1 := (RA.out.up hSw RA.out.lt).cell (j := 1) (v := .int .i64 b) rfl; have q2 := (RB.out.up hSw RB.out.lt).cell (j := 0) (v := .int .i64 c) rfl; have q3 := (RB.out.up hSw RB.out.lt).cell (j := 1) (v := .int .i64 d) rfl; clear hSw; go_simp; try with_reducible rfl)
  simp only [Act.put, List.getElem_toArray, List.getElem_cons_zero, List.getElem_cons_succ, List.setIfInBounds_toArray, List.set_cons_zero, List.set_cons_succ]
  refine Still.takeBy (i := 6) [] (v := ?v16) (by kernel_rfl) (by kernel_rfl) rfl (by kernel_rfl) (by kernel_rfl) (by kernel_rfl) (fun _ _ _ h => h) (Or.inl ⟨by rfl, ?y16⟩) hHeld ?r16
  case y16 => (intro w' hSw; (try dsimp only at hSw); have q0 := (RA.out.up hSw RA.out.lt).cell (j := 0) (v := .int .i64 a) rfl; have q1 := (RA.out.up hSw RA.out.lt).cell (j := 1) (v := .int .i64 b) rfl; have q2 := (RB.out.up hSw RB.out.lt).cell (j := 0) (v := .int .i64 c) rfl; have q3 := (RB.out.up hSw RB.out.lt).cell (j := 1) (v := .int .i64 d) rfl; clear hSw; go_simp; try with_reducible rfl)
  simp only [Act.put, List.getElem_toArray, List.getElem_cons_zero, List.getElem_cons_succ, List.setIfInBounds_toArray, List.set_cons_zero, List.set_cons_succ]
  refine Still.takeBy (i := 7) [] (v := ?v17) (by kernel_rfl) (by kernel_rfl) rfl (by kernel_rfl) (by kernel_rfl) (by kernel_rfl) (fun _ _ _ h => h) (Or.inl ⟨by rfl, ?y17⟩) hHeld ?r17
  case y17 => (intro w' hSw; (try dsimp only at hSw); have q0 := (RA.out.up hSw RA.out.lt).cell (j := 0) (v := .int .i64 a) rfl; have q1 := (RA.out.up hSw RA.out.lt).cell (j := 1) (v := .int .i64 b) rfl; have q2 := (RB.out.up hSw RB.out.lt).cell (j := 0) (v := .int .i64 c) rfl; have q3 := (RB.out.up hSw RB.out.lt).cell (j := 1) (v := .int .i64 d) rfl; clear hSw; go_simp; try with_reducible rfl)
  simp only [Act.put, List.getElem_toArray, List.getElem_cons_zero, List.getElem_cons_succ, List.setIfInBounds_toArray, List.set_cons_zero, List.set_cons_succ]
  refine Still.takeBy (i := 8) [] (v := ?v18) (by kernel_rfl) (by kernel_rfl) rfl (by kernel_rfl) (by kernel_rfl) (by kernel_rfl) (fun _ _ _ h => h) (Or.inl ⟨by rfl, ?y18⟩) hHeld ?r18
  case y18 => (intro w' hSw; (try dsimp only at hSw); have q0 := (RA.out.up hSw RA.out.lt).cell (j := 0) (v := .int .i64 a) rfl; have q1 := (RA.out.up hSw RA.out.lt).cell (j := 1) (v := .int .i64 b) rfl; have q2 := (RB.out.up hSw RB.out.lt).cell (j := 0) (v := .int .i64 c) rfl; have q3 := (RB.out.up hSw RB.out.lt).cell (j := 1) (v := .int .i64 d) rfl; clear hSw; go_simp; try with_reducible rfl)
  simp only [Act.put, List.getElem_toArray, List.getElem_cons_zero, List.getElem_cons_succ, List.setIfInBounds_toArray, List.set_cons_zero, List.set_cons_succ]
  refine Still.all (rs := [4]) (by kernel_rfl) (by simp) (Still.one (i := 4) rfl rfl (fun K hK => ?_) (by simp))
  refine wp_call 98 _ _ rfl ent_compare #[.int .i64 a, .int .i64 c] (by first | rfl | simp [Act.eval, Act.put]) ((C1.out _).mono ?_)
  rintro e V1 ⟨rfl, rfl⟩
  refine ⟨_, rfl, hK _ _ (fun _ => hHeld) (fun hh => ?_)⟩
  clear hK K hh
  try simp only [Act.put, List.getElem_toArray, List.getElem_cons_zero, List.getElem_cons_succ, List.setIfInBounds_toArray, List.set_cons_zero, List.set_cons_succ]
  refine Still.all (rs := [9]) (by kernel_rfl) (by simp) (Still.one (i := 9) rfl rfl (fun K hK => ?_) (by simp))
  refine wp_call 98 _ _ rfl ent_compare #[.int .i64 b, .int .i64 d] (by first | rfl | simp [Act.eval, Act.put]) ((C2.out _).mono ?_)
  rintro e V1 ⟨rfl, rfl⟩
  refine ⟨_, rfl, hK _ _ (fun _ => hHeld) (fun hh => ?_)⟩
  clear hK K hh
  try simp only [Act.put, List.getElem_toArray, List.getElem_cons_zero, List.getElem_cons_succ, List.setIfInBounds_toArray, List.set_cons_zero, List.set_cons_succ]
  refine Still.all (rs := [10]) (by kernel_rfl) (by simp) (Still.one (i := 10) rfl rfl (fun K hK => ?_) (by simp))
  go_simp
  refine hK _ _ (fun _ => Below.alloc hHeld hHeld.size _) (fun hh => ?_)
  have hHeld2 := hh (by decide)
  clear hK K hh hHeld
  try simp only [Act.put, List.getElem_toArray, List.getElem_cons_zero, List.getElem_cons_succ, List.setIfInBounds_toArray, List.set_cons_zero, List.set_cons_succ]
  refine Still.all (rs := [11]) (by kernel_rfl) (by simp) (Still.one (i := 11) rfl rfl (fun K hK => ?_) (by simp))
  refine wp_call 97 _ _ rfl ent_or #[.slice (some ⟨W.heap.size, 0, none⟩) 2 2] (by first | rfl | simp [Act.eval, Act.put]) ((C3.out W.heap.size _ (Rw.cell (j := 0) (Rw.drew (Rw.new W 3 #[.int .i64 r1, .int .i64 r2] rfl)) rfl) (Rw.cell (j := 1) (Rw.drew (Rw.new W 3 #[.int .i64 r1, .int .i64 r2] rfl)) rfl)).mono ?_)
  rintro e V1 ⟨rfl, rfl⟩
  refine ⟨_, rfl, hK _ _ (fun _ => hHeld2) (fun hh => ?_)⟩
  clear hK K hh
  try simp only [Act.put, List.getElem_toArray, List.getElem_cons_zero, List.getElem_cons_succ, List.setIfInBounds_toArray, List.set_cons_zero, List.set_cons_succ]
  refine Still.all (rs := [12]) (by kernel_rfl) (by simp) (Still.one (i := 12) rfl rfl (fun K hK => ?_) (by simp))
  go_simp
  refine hK _ _ (fun h => absurd rfl h) (fun _ => ?_)
  clear hK K
  refine Still.over (by kernel_rfl) ?_ _
  go_wp2
  go_ret
  refine ⟨rfl, 1, #[.cells #[.int .i64 a, .int .i64 b] 74, .cells #[.int .i64 c, .int .i64 d] 74, .cells #[.int .i64 r1, .int .i64 r2] 3], ?_⟩
  rw [alloc_eq_grow, HW.out, grow_grow]
  rfl
end Go.Proofs.YtehhhiodfcdnmaaGreatDoor

namespace Go.Proofs
set_option linter.unusedSimpArgs false
set_option linter.unusedVariables false
open Go.Shelf
def Tryz.lays125_ren : Go.Shelf.Ren := ⟨fun | 125 => 132 | 128 => 159 | 129 => 160 | n => n, fun | 46 => 177 | 3 => 3 | 51 => 207 | 53 => 209 | 4 => 4 | 5 => 5 | 9 => 9 | n => n, fun | n => n⟩
theorem Tryz.lays125 : Go.Proofs.Lays.n125 Tryz.prog Tryz.lays125_ren := {
  mixed := by kernel_rfl
  f125 := Tryz.func132.trans (congrArg some (by kernel_rfl))
  f128 := Tryz.func159.trans (congrArg some (by kernel_rfl))
  f129 := Tryz.func160.trans (congrArg some (by kernel_rfl))
  t3 := Tryz.underlying3
  a3 := Tryz.isAgg3
  z3 := Tryz.sizeOf3
  v3 := Tryz.zeroValue3
  t4 := Tryz.underlying4
  a4 := Tryz.isAgg4
  z4 := Tryz.sizeOf4
  v4 := Tryz.zeroValue4
  t5 := Tryz.underlying5
  a5 := Tryz.isAgg5
  z5 := Tryz.sizeOf5
  v5 := Tryz.zeroValue5
  t9 := Tryz.underlying9
  a9 := Tryz.isAgg9
  z9 := Tryz.sizeOf9
  v9 := Tryz.zeroValue9
  t46 := Tryz.underlying177
  a46 := Tryz.isAgg177
  z46 := Tryz.sizeOf177
  v46 := Tryz.zeroValue177
  t51 := Tryz.underlying207
  a51 := Tryz.isAgg207
  z51 := Tryz.sizeOf207
  v51 := Tryz.zeroValue207
  t53 := Tryz.underlying209
  a53 := Tryz.isAgg209
  z53 := Tryz.sizeOf209
  v53 := Tryz.zeroValue209 }
theorem Tryz.bits_Len (x : Int) (w : World) (h0 : 0 ≤ x) (h1 : x ≤ 18446744073709551615) :
    Calls Tryz.prog 132 #[.int .u64 x] w fun e w' => e = .returned (.int .i64 (Lib.bitLen x.toNat)) ∧ w' = w := Any.bits_Len Tryz.lays125 x w h0 h1
def Tryz.sortE_ren : Go.Shelf.Ren := ⟨fun | 6 => 95 | 15 => 132 | 14 => 131 | 28 => 159 | 29 => 160 | 20 => 151 | 21 => 152 | 22 => 153 | 23 => 154 | 24 => 155 | 25 => 156 | 26 => 157 | 27 => 158 | 46 => 167 | 47 => 168 | 48 => 169 | 49 => 170 | 50 => 171 | 57 => 176 | n => n, fun | 22 => 65 | 24 => 74 | 25 => 145 | 3 => 3 | 39 => 177 | 0 => 0 | 53 => 207 | 55 => 209 | 4 => 4 | 46 => 201 | 45 => 200 | 50 => 149 | 5 => 5 | 9 => 9 | 66 => 218 | 70 => 222 | 76 => 226 | 77 => 227 | n => n, fun | n => n⟩
theorem Tryz.sortE : Go.Proofs.SlLaysF0.n6 Tryz.prog Tryz.sortE_ren := {
  mixed := by kernel_rfl
  f6 := ⟨Tryz.f95.name, by decide, Tryz.func95.trans (congrArg some (by kernel_rfl))⟩
  f14 := ⟨Tryz.f131.name, by decide, Tryz.func131.trans (congrArg some (by kernel_rfl))⟩
  f15 := Tryz.func132.trans (congrArg some (by kernel_rfl))
  f20 := ⟨Tryz.f151.name, by decide, Tryz.func151.trans (congrArg some (by kernel_rfl))⟩
  f21 := ⟨Tryz.f152.name, by decide, Tryz.func152.trans (congrArg some (by kernel_rfl))⟩
  f22 := ⟨Tryz.f153.name, by decide, Tryz.func153.trans (congrArg some (by kernel_rfl))⟩
  f23 := ⟨Tryz.f154.name, by decide, Tryz.func154.trans (congrArg some (by kernel_rfl))⟩
  f24 := ⟨Tryz.f155.name, by decide, Tryz.func155.trans (congrArg some (by kernel_rfl))⟩
  f25 := ⟨Tryz.f156.name, by decide, Tryz.func156.trans (congrArg some (by kernel_rfl))⟩
  f26 := ⟨Tryz.f157.name, by decide, Tryz.func157.trans (congrArg some (by kernel_rfl))⟩
  f27 := ⟨Tryz.f158.name, by decide, Tryz.func158.trans (congrArg some (by kernel_rfl))⟩
  f28 := Tryz.func159.trans (congrArg some (by kernel_rfl))
  f29 := Tryz.func160.trans (congrArg some (by kernel_rfl))
  f46 := ⟨Tryz.f167.name, by decide, Tryz.func167.trans (congrArg some (by kernel_rfl))⟩
  f47 := Tryz.func168.trans (congrArg some (by kernel_rfl))
  f48 := Tryz.func169.trans (congrArg some (by kernel_rfl))
  f49 := ⟨Tryz.f170.name, by decide, Tryz.func170.trans (congrArg some (by kernel_rfl))⟩
  f50 := ⟨Tryz.f171.name, by decide, Tryz.func171.trans (congrArg some (by kernel_rfl))⟩
  f57 := ⟨Tryz.f176.name, by decide, Tryz.func176.trans (congrArg some (by kernel_rfl))⟩
  t0 := Tryz.underlying0
  a0 := Tryz.isAgg0
  z0 := Tryz.sizeOf0
  v0 := Tryz.zeroValue0
  t3 := Tryz.underlying3
  a3 := Tryz.isAgg3
  z3 := Tryz.sizeOf3
  v3 := Tryz.zeroValue3
  t4 := Tryz.underlying4
  a4 := Tryz.isAgg4
  z4 := Tryz.sizeOf4
  v4 := Tryz.zeroValue4
  t5 := Tryz.underlying5
  a5 := Tryz.isAgg5
  z5 := Tryz.sizeOf5
  v5 := Tryz.zeroValue5
  t9 := Tryz.underlying9
  a9 := Tryz.isAgg9
  z9 := Tryz.sizeOf9
  v9 := Tryz.zeroValue9
  t22 := Tryz.underlying65
  a22 := Tryz.isAgg65
  z22 := Tryz.sizeOf65
  v22 := Tryz.zeroValue65
  t25 := Tryz.underlying145
  a25 := Tryz.isAgg145
  z25 := Tryz.sizeOf145
  v25 := Tryz.zeroValue145
  t39 := Tryz.underlying177
  a39 := Tryz.isAgg177
  z39 := Tryz.sizeOf177
  v39 := Tryz.zeroValue177
  t45 := Tryz.underlying200
  a45 := Tryz.isAgg200
  z45 := Tryz.sizeOf200
  v45 := Tryz.zeroValue200
  t46 := Tryz.underlying201
  a46 := Tryz.isAgg201
  z46 := Tryz.sizeOf201
  v46 := Tryz.zeroValue201
  t50 := Tryz.underlying149
  a50 := Tryz.isAgg149
  z50 := Tryz.sizeOf149
  v50 := Tryz.zeroValue149
  t53 := Tryz.underlying207
  a53 := Tryz.isAgg207
  z53 := Tryz.sizeOf207
  v53 := Tryz.zeroValue207
  t55 := Tryz.underlying209
  a55 := Tryz.isAgg209
  z55 := Tryz.sizeOf209
  v55 := Tryz.zeroValue209
  t66 := Tryz.underlying218
  a66 := Tryz.isAgg218
  z66 := Tryz.sizeOf218
  v66 := Tryz.zeroValue218
  t70 := Tryz.underlying222
  a70 := Tryz.isAgg222
  z70 := Tryz.sizeOf222
  v70 := Tryz.zeroValue222
  t76 := Tryz.underlying226
  a76 := Tryz.isAgg226
  z76 := Tryz.sizeOf226
  v76 := Tryz.zeroValue226
  t77 := Tryz.underlying227
  a77 := Tryz.isAgg227
  z77 := Tryz.sizeOf227
  v77 := Tryz.zeroValue227 }
def Tryz.lays112_ren : Go.Shelf.Ren := ⟨fun | 112 => 134 | n => n, fun | 28 => 33 | 3 => 3 | 4 => 4 | 0 => 0 | n => n, fun | n => n⟩
theorem Tryz.lays112 : Go.Proofs.Lays.n112 Tryz.prog Tryz.lays112_ren := {
  mixed := by kernel_rfl
  f112 := Tryz.func134.trans (congrArg some (by kernel_rfl))
  t0 := Tryz.underlying0
  a0 := Tryz.isAgg0
  z0 := Tryz.sizeOf0
  v0 := Tryz.zeroValue0
  t3 := Tryz.underlying3
  a3 := Tryz.isAgg3
  z3 := Tryz.sizeOf3
  v3 := Tryz.zeroValue3
  t4 := Tryz.underlying4
  a4 := Tryz.isAgg4
  z4 := Tryz.sizeOf4
  v4 := Tryz.zeroValue4
  t28 := Tryz.underlying33
  a28 := Tryz.isAgg33
  z28 := Tryz.sizeOf33
  v28 := Tryz.zeroValue33 }
open Go.RowKit Go.Lib Go.Sort in
theorem Tryz.slices_Reverse_int (blk off cap : Nat) (zs : List Int) (w : World) (hH : Holds (Value.int .i64) w blk off zs.toArray) (hsz : zs.length ≤ 9223372036854775807) :
    Calls Tryz.prog 134 #[.slice (some ⟨blk, off, none⟩) zs.length cap] w fun e w' => e = .returned (.tuple #[]) ∧ ∃ n, w' = putRow (Value.int .i64) (Sort.ahead w n) blk off zs.reverse.toArray := Any.slices_Reverse_int Tryz.lays112 blk off cap zs w hH hsz
end Go.Proofs

namespace Go.Proofs.YtehhhiodfcdnmaaGreatDoor
set_option linter.unusedSimpArgs false
set_option linter.unusedVariables false
open Go.RowKit Go.Sort Go.Shelf Go.Lib
instance : Inhabited Edg := ⟨⟨0, 0⟩⟩
theorem edg_len (e : Edg) : e.cells.length = 2 := rfl
theorem edg_one (e : Edg) : ∀ v ∈ e.cells, v.oneCell' = true := fun v hv => by
  simp [Edg.cells] at hv
  rcases hv with rfl | rfl <;> rfl
theorem isAggE : ∀ w, (isAgg 74).run Tryz.prog w = .ok true w := Tryz.isAgg74
theorem sizeOfE : ∀ w, (Go.sizeOf 74).run Tryz.prog w = .ok 2 w := Tryz.sizeOf74
theorem cmpLaysE (blk off size : Nat) (w : World) : CmpLays Tryz.prog 96 #[] Edg.cells 2 cmpE blk off size w :=
  fun _ _ _ _ x y => edges1_any x y _
theorem hlenE (n : Nat) (W : World) (h : n ≤ 12) : Calls Tryz.prog 132 #[.int .u64 n] W fun e w' => (∃ l : Int, e = .returned (.int .i64 l)) ∧ w' = W :=
  (Tryz.bits_Len n W (by omega) (by omega)).mono fun _ _ ⟨he, hw⟩ => ⟨⟨_, he⟩, hw⟩
def sortE (l : List Edg) : List Edg := (Sort.insertionSort (ltOf cmpE) l.toArray 0 l.length).toList
theorem sortFunc_raw (l : List Edg) (blk off cap : Nat) (w : World) (hH : HoldsK Edg.cells 2 w blk off l.toArray) (hblk : blk < w.heap.size) (h12 : l.length ≤ 12) :
    Calls Tryz.prog 95 #[.slice (some ⟨blk, off, none⟩) l.length cap, .func (.func 96) #[] #[]] w fun e w' => e = .returned (.tuple #[]) ∧ ∃ n os, w' = sortWorldK Edg.cells 2 w blk off n (Sort.insertionSort (ltOf cmpE) l.toArray 0 l.length) os := by
  have eg : ∀ args w, (callFunc 96 args).run Tryz.prog w = .ok (.enter 96 args) w := enters_of Tryz.func96 (by kernel_rfl) rfl
  have h := AnyQ.slices_SortFunc_small Tryz.sortE 2 isAggE sizeOfE Edg.cells edg_len edg_one cmpE 96 #[] blk off cap l.toArray w eg (cmpLaysE blk off l.toArray.size w) hH hblk (by simpa using h12) hlenE
  exact h
end Go.Proofs.YtehhhiodfcdnmaaGreatDoor

namespace Go.Proofs.YtehhhiodfcdnmaaGreatDoor
set_option linter.unusedSimpArgs false
set_option linter.unusedVariables false
open Go.RowKit Go.Sort Go.Shelf Go.Lib
def EdM (w : World) (g off : Nat) (d : List Edg) : Prop := (∃ cur, Rw w g 74 cur) ∧ ∀ k (hk : k < d.length), w.cell? ⟨g, off + k * 2, none⟩ = some (.int .i64 d[k].fr) ∧ w.cell? ⟨g, off + k * 2 + 1, none⟩ = some (.int .i64 d[k].tt)
theorem EdM.up {B : Nat} {w w' : World} {g off : Nat} {d : List Edg} (h : EdM w g off d) (hb : RowKit.Below B w w') (hg : g < B) : EdM w' g off d :=
  ⟨let ⟨c, hc⟩ := h.1; ⟨c, hc.up hb hg⟩, fun k hk => ⟨bcl hb hg (h.2 k hk).1, bcl hb hg (h.2 k hk).2⟩⟩
theorem EdM.lt {w : World} {g off : Nat} {d : List Edg} (h : EdM w g off d) : g < w.heap.size := let ⟨_, hc⟩ := h.1; hc.lt
theorem EdM.holds {w : World} {g off : Nat} {d : List Edg} (h : EdM w g off d) : HoldsK Edg.cells 2 w g off d.toArray := by
  obtain ⟨⟨cur, hc⟩, hd⟩ := h
  intro j hj
  simp at hj
  have hk : j / 2 < d.length := by omega
  have hj2 : j = j / 2 * 2 + j % 2 := by omega
  refine ⟨?_, hc.fr _⟩
  rw [get_flatK _ _ _ _ (by simpa using hj)]
  simp only [id, List.getElem!_toArray]
  rw [getElem!_pos d (j / 2) hk]
  have h2 : j % 2 = 0 ∨ j % 2 = 1 := by omega
  rcases h2 with h2 | h2
  · have := (hd (j / 2) hk).1
    rw [show off + j = off + j / 2 * 2 by omega, this, h2]
    rfl
  · have := (hd (j / 2) hk).2
    rw [show off + j = off + j / 2 * 2 + 1 by omega, this, h2]
    rfl
theorem ltE_iff (x y : Edg) : ltOf cmpE x y = decide (x.fr < y.fr ∨ (x.fr = y.fr ∧ x.tt < y.tt)) := by
  unfold ltOf cmpE orI cmpI
  by_cases h1 : x.fr < y.fr
  · simp [h1]
  · by_cases h2 : y.fr < x.fr
    · simp [h1, h2]
      omega
    · have : x.fr = y.fr := by omega
      by_cases h3 : x.tt < y.tt
      · simp [this, h3]
      · by_cases h4 : y.tt < x.tt <;> simp [this, h3, h4]
theorem swoE : SWO (ltOf cmpE) where
  irrefl x := by rw [ltE_iff]; simp
  trans x y z h1 h2 := by rw [ltE_iff] at *; simp at *; omega
  ntrans x y z h1 h2 := by rw [ltE_iff] at *; simp at *; omega
def RiseE (l : List Edg) : Prop := ∀ i j (hi : i < j) (hj : j < l.length), ltOf cmpE l[j] (l[i]'(by omega)) = false
theorem sortW_rw {w : World} {g off m : Nat} {d : Array Edg} {os : Array Obj} {cur : Array Value} (h : Rw w g 74 cur) : ∃ cur', Rw (sortWorldK Edg.cells 2 w g off m d os) g 74 cur' := by
  have hl := h.lt
  refine ⟨putCells id off (flatK Edg.cells 2 d) cur, ?_⟩
  show ((mapBlock (Sort.ahead w m) g (putCells id off (flatK Edg.cells 2 d))).heap ++ os)[g]? = _
  have hs : g < (mapBlock (Sort.ahead w m) g (putCells id off (flatK Edg.cells 2 d))).heap.size := by
    show g < (w.heap.modify g _).size
    simpa using hl
  rw [Array.getElem?_append_left hs]
  show (w.heap.modify g _)[g]? = _
  rw [Array.getElem?_modify, if_pos rfl, show w.heap[g]? = some _ from h]
  rfl
theorem sortW_below {w : World} {g off m B : Nat} {d : Array Edg} {os : Array Obj} (hB : B ≤ g) (hg : g < w.heap.size) : RowKit.Below B w (sortWorldK Edg.cells 2 w g off m d os) := by
  refine ⟨rfl, rfl, rfl, ?_, fun k hk => ?_⟩
  · show _ ≤ ((w.heap.modify g _) ++ os).size
    simp
  · show ((w.heap.modify g _) ++ os)[k]? = _
    have hs : k < (w.heap.modify g (onCells (putCells id off (flatK Edg.cells 2 d)))).size := by simp; omega
    rw [Array.getElem?_append_left hs, Array.getElem?_modify, if_neg (by omega)]
theorem sortFunc_any (l : List Edg) (g off cap : Nat) (w : World) (hE : EdM w g off l) (h12 : l.length ≤ 12) :
    Calls Tryz.prog 95 #[.slice (some ⟨g, off, none⟩) l.length cap, .func (.func 96) #[] #[]] w fun e w' => e = .returned (.tuple #[]) ∧ ∃ r : List Edg, r.Perm l ∧ RiseE r ∧ EdM w' g off r ∧ ∀ B, B ≤ g → RowKit.Below B w w' := by
  have hg := hE.lt
  refine (sortFunc_raw l g off cap w hE.holds hg h12).mono ?_
  rintro e w' ⟨rfl, n, os, rfl⟩
  obtain ⟨⟨hsz, -, hperm⟩, hsort⟩ := insertionSort_holds (lt := ltOf cmpE) swoE l.toArray 0 l.length (Nat.zero_le _) (by simp)
  generalize Sort.insertionSort (ltOf cmpE) l.toArray 0 l.length = a at hsz hperm hsort
  have hsz' : a.size = l.length := by simpa using hsz
  refine ⟨rfl, a.toList, ?_, ?_, ⟨sortW_rw hE.1.choose_spec, fun k hk => ?_⟩, fun B hB => sortW_below hB hg⟩
  · have e1 : (a.extract 0 l.length).toList = a.toList := by rw [← hsz']; simp
    have e2 : (l.toArray.extract 0 l.length).toList = l := by simp
    rw [e1, e2] at hperm
    exact hperm
  · intro i j hi hj
    have hj' : j < a.size := by simpa using hj
    have := hsort i j (Nat.zero_le _) hi (by omega)
    rw [getElem!_pos _ j hj', getElem!_pos _ i (by omega)] at this
    simpa using this
  · have hk' : k < a.size := by simpa using hk
    have hH : HoldsK Edg.cells 2 (sortWorldK Edg.cells 2 w g off n a os) g off a :=
      holdsK_grow _ _ _ _ _ _ _ (by show g < (w.heap.modify g _).size; simpa using hg) (holdsK_putRowK _ _ _ _ _ _ _ (holdsK_ahead _ _ _ _ _ _ _ hE.holds) (by simpa using hsz))
    have c0 := (hH.cell (i := k) (c := 0) hk' (by decide)).1
    have c1 := (hH.cell (i := k) (c := 1) hk' (by decide)).1
    rw [getElem!_pos _ k hk'] at c0 c1
    exact ⟨c0, c1⟩
end Go.Proofs.YtehhhiodfcdnmaaGreatDoor

namespace Go.Proofs.YtehhhiodfcdnmaaGreatDoor
set_option linter.unusedSimpArgs false
set_option linter.unusedVariables false
open Go.RowKit Go.Sort Go.Shelf Go.Lib
def uniqE : List Edg → List Edg
  | [] => []
  | [a] => [a]
  | a :: b :: r => if a = b then uniqE (b :: r) else a :: uniqE (b :: r)
theorem uniq_snoc : ∀ (l : List Edg) (x y : Edg), uniqE (l ++ [x, y]) = if x = y then uniqE (l ++ [x]) else uniqE (l ++ [x]) ++ [y]
  | [], x, y => by
    by_cases h : x = y <;> simp [uniqE, h]
  | [a], x, y => by
    by_cases h : x = y <;> by_cases h2 : a = x <;> simp [uniqE, h, h2]
    all_goals (subst h; simp_all [uniqE])
  | a :: b :: r, x, y => by
    have h := uniq_snoc (b :: r) x y
    simp only [List.cons_append] at h ⊢
    by_cases e : a = b
    · rw [uniqE, if_pos e, h, uniqE, if_pos e]
    · rw [uniqE, if_neg e, h, uniqE, if_neg e]
      by_cases e2 : x = y <;> simp [e2]
theorem uniq_take (l : List Edg) (k : Nat) (h0 : 1 ≤ k) (hk : k < l.length) : uniqE (l.take (k + 1)) = if l[k - 1] = l[k] then uniqE (l.take k) else uniqE (l.take k) ++ [l[k]] := by
  have e1 : l.take k = l.take (k - 1) ++ [l[k - 1]] := by
    have := List.take_succ_eq_append_getElem (i := k - 1) (l := l) (by omega)
    rw [show k - 1 + 1 = k by omega] at this
    exact this
  have e2 : l.take (k + 1) = l.take (k - 1) ++ [l[k - 1], l[k]] := by
    rw [List.take_succ_eq_append_getElem hk, e1, List.append_assoc]
    rfl
  rw [e2, uniq_snoc, ← e1]
theorem uniq_same (l : List Edg) : ∀ k, k ≤ l.length → (∀ j (h : j < k) (h' : j < l.length), 1 ≤ j → l[j - 1] ≠ l[j]) → uniqE (l.take k) = l.take k
  | 0, _, _ => by simp [uniqE]
  | 1, h1, _ => by
    have : l.take 1 = [l[0]] := by
      rw [List.take_succ_eq_append_getElem (by omega)]
      simp
    rw [this]
    rfl
  | k + 2, hk, h => by
    rw [uniq_take l (k + 1) (by omega) (by omega), if_neg (h (k + 1) (by omega) (by omega) (by omega)), uniq_same l (k + 1) (by omega) (fun j a b c => h j (by omega) b c), List.take_succ_eq_append_getElem (i := k + 1) (by omega)]
theorem eqE (a b c d : Int) (w : World) : (Op.equalIn 10000 74 (.agg #[.int .i64 a, .int .i64 b]) (.agg #[.int .i64 c, .int .i64 d])).run Tryz.prog w = .ok (a == c && b == d) w := by
  have u3 := Tryz.underlying3
  have a3 := Tryz.isAgg3
  have z3 := Tryz.sizeOf3
  rw [show (10000 : Nat) = 9999 + 1 from rfl, Op.equalIn]
  simp only [Sem.run_bind, run_underlying Tryz.underlying74, Result.andThen_ok]
  by_cases h1 : a = c <;> by_cases h2 : b = d
  all_goals (try go_simp)
theorem run_clear2 {P : Program} (w : World) (t e ty : TypeId) (z : Value) (ht : P.underlying t = some (.slice e)) (hv : ∀ w, (zeroValue e).run P w = .ok z w) (b o n c : Nat) (hn : 0 < n) (us : List Value) (hus : (Builtin.zeroCells z.cells n).toList = us)
    (hc : ∀ j, j < us.length → (w.cell? ⟨b, o + j, none⟩).isSome = true) (hf : ∀ j, j < us.length → w.frozen? ⟨b, o + j, none⟩ = false) (h1 : ∀ v ∈ us, v.oneCell' = true) :
    (Builtin.clear_ #[t] ty #[.slice (some ⟨b, o, none⟩) n c]).run P w = .ok (.tuple #[]) (w.setCells b o us) := by
  have hst := run_storeCells_cells (P := P) b o us 0 w (by simpa using hc) (by simpa using hf) h1
  simp only [Nat.add_zero] at hst
  obtain ⟨m, rfl⟩ : ∃ m, n = m + 1 := ⟨n - 1, by omega⟩
  simp [Builtin.clear_, run_underlying ht, hv, hus, hst]
theorem wpList_clear {P : Program} {ops : Array Oper} {rest : List Oper} {o : Oper} {a : Act} {w : World} {Q : Exit → Act → World → Prop} (hg : o.guard = none) (x : Operand) (t : TypeId) (ho : o.op = .call { callee := .builtin .clear, args := #[x], argTypes := #[t] })
    (e : TypeId) (z : Value) (ht : P.underlying t = some (.slice e)) (hv : ∀ w, (zeroValue e).run P w = .ok z w) (b off n c : Nat) (hx : a.eval x = .slice (some ⟨b, off, none⟩) n c) (hn : 0 < n) (us : List Value) (hus : (Builtin.zeroCells z.cells n).toList = us)
    (hc : ∀ j, j < us.length → (w.cell? ⟨b, off + j, none⟩).isSome = true) (hf : ∀ j, j < us.length → w.frozen? ⟨b, off + j, none⟩ = false) (h1 : ∀ v ∈ us, v.oneCell' = true)
    (h : ∀ W, Hid (W = w.setCells b off us) → wpList P ops Q rest (a.put o.dst (.tuple #[])) W) : wpList P ops Q (o :: rest) a w := by
  refine wpList_plain hg fun K hK' => ?_
  have hrun := run_clear2 (P := P) w t e o.type z ht hv b off n c hn us hus hc hf h1
  unfold Oper.wp
  simp [execOp, ho, resolve, invoke, builtin, hx, hrun, Result.andThen]
  exact hK' _ _ (h _ (Lib.hid rfl))
end Go.Proofs.YtehhhiodfcdnmaaGreatDoor
