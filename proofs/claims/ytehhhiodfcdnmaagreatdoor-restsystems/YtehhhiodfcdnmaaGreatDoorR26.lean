/- view.whole. -/
import Derived.Test.YtehhhiodfcdnmaaGreatDoorR25
import Derived.Test.YtehhhiodfcdnmaaGreatDoorR19
import Derived.Test.YtehhhiodfcdnmaaGreatDoorR0
import Derived.Sort.Grow
import Derived.Deep.CutRange
namespace Go.Proofs.YtehhhiodfcdnmaaGreatDoor
set_option linter.unusedSimpArgs false
set_option linter.unusedVariables false
set_option maxRecDepth 100000
set_option maxHeartbeats 4000000
open Go.RowKit Go.Sort
structure SysF (n : Nat) (w : World) (vp vc vs : Value) (S : SysD) : Prop where
 p : PartsF n w vp S.parts
 np : NewB n vp
 c : Sl w 3 vc S.chans.length (rowC chC S.chans)
 s : Sl w 2 vs S.slots.length (rowC slC S.slots)
 nc : NewB n vc
 ns : NewB n vs
theorem SysF.sys {n : Nat} {w : World} {vp vc vs : Value} {S : SysD} (h : SysF n w vp vc vs S) : Sys w vp vc vs S := ⟨h.p.r, h.c, h.s⟩
theorem PartsF.up {n : Nat} {w w' : World} {v : Value} {ps : List Prt} (h : PartsF n w v ps) (hb : Below w.heap.size w w') : PartsF n w' v ps := by
 obtain ⟨l, h1, h2, h3⟩ := h
 exact ⟨l, h1, h2.up hb, fun k hk hk' => ⟨(h3 k hk hk').1.up hb, (h3 k hk hk').2⟩⟩
theorem SysF.up {n : Nat} {w w' : World} {vp vc vs : Value} {S : SysD} (h : SysF n w vp vc vs S) (hb : Below w.heap.size w w') : SysF n w' vp vc vs S := ⟨h.p.up hb, h.np, h.c.up hb, h.s.up hb, h.nc, h.ns⟩
theorem PartsF.row {n : Nat} {w : World} {v : Value} {ps : List Prt} (h : PartsF n w v ps) (hv : NewB n v) {x : Nat} (hx : x < n) (cs : Array Value) : PartsF n (w.setRow x cs) v ps := by
 obtain ⟨l, h1, h2, h3⟩ := h
 exact ⟨l, h1, h2.row cs (fun e => by have := hv _ e; omega), fun k hk hk' => ⟨⟨(h3 k hk hk').1.code.row cs (fun e => by have := (h3 k hk hk').2.1.1 _ e; omega), (h3 k hk hk').1.inn.row cs (fun e => by have := (h3 k hk hk').2.1.2 _ e; omega)⟩, (h3 k hk hk').2⟩⟩
theorem SysF.row {n : Nat} {w : World} {vp vc vs : Value} {S : SysD} (h : SysF n w vp vc vs S) {x : Nat} (hx : x < n) (cs : Array Value) : SysF n (w.setRow x cs) vp vc vs S :=
 ⟨h.p.row h.np hx cs, h.np, h.c.row cs (fun e => by have := h.nc _ e; omega), h.s.row cs (fun e => by have := h.ns _ e; omega), h.nc, h.ns⟩
theorem PartsF.set {n : Nat} {w : World} {v : Value} {ps : List Prt} (h : PartsF n w v ps) (hv : NewB n v) {x : Nat} (hx : x < n) (j : Nat) (u : Value) : PartsF n (w.setCell ⟨x, j, none⟩ u) v ps := by
 obtain ⟨l, h1, h2, h3⟩ := h
 exact ⟨l, h1, h2.set u (fun e => by have := hv _ e; omega), fun k hk hk' => ⟨⟨(h3 k hk hk').1.code.set u (fun e => by have := (h3 k hk hk').2.1.1 _ e; omega), (h3 k hk hk').1.inn.set u (fun e => by have := (h3 k hk hk').2.1.2 _ e; omega)⟩, (h3 k hk hk').2⟩⟩
theorem PartsF.low {n m : Nat} {w : World} {v : Value} {ps : List Prt} (h : PartsF n w v ps) (hm : m ≤ n) : PartsF m w v ps := by
 obtain ⟨l, h1, h2, h3⟩ := h
 exact ⟨l, h1, h2, fun k hk hk' => ⟨(h3 k hk hk').1, ⟨(h3 k hk hk').2.1.1.mono hm, (h3 k hk hk').2.1.2.mono hm⟩, (h3 k hk hk').2.2⟩⟩
theorem SysF.low {n m : Nat} {w : World} {vp vc vs : Value} {S : SysD} (h : SysF n w vp vc vs S) (hm : m ≤ n) : SysF m w vp vc vs S := ⟨h.p.low hm, h.np.mono hm, h.c, h.s, h.nc.mono hm, h.ns.mono hm⟩
theorem PartsF.fresh {n : Nat} {w : World} {v : Value} {ps : List Prt} (h : PartsF n w v ps) (o : Obj) (u : Array Value) : PartsF n ((w.alloc o).setRow w.heap.size u) v ps := by
 obtain ⟨l, h1, h2, h3⟩ := h
 exact ⟨l, h1, sl_fresh h2 o u, fun k hk hk' => ⟨⟨sl_fresh (h3 k hk hk').1.code o u, sl_fresh (h3 k hk hk').1.inn o u⟩, (h3 k hk hk').2⟩⟩
theorem SysF.fresh {n : Nat} {w : World} {vp vc vs : Value} {S : SysD} (h : SysF n w vp vc vs S) (o : Obj) (u : Array Value) : SysF n ((w.alloc o).setRow w.heap.size u) vp vc vs S := ⟨h.p.fresh o u, h.np, sl_fresh h.c o u, sl_fresh h.s o u, h.nc, h.ns⟩
theorem entWhole1 : Enters 84 := enters Tryz.func84 kr kr
theorem whole1_any (k : Int) (p : Prt) (h1 : p.code.length ≤ 1000) (h2 : p.inn.length ≤ 1000) (c i : Value) (W : World) (hp : PrtR W c i p) :
  Calls Tryz.prog 84 #[.int .i64 k, .agg #[c, i]] W fun e W' => ∃ c' i', e = .returned (.agg #[c', i']) ∧ PrtR W' c' i' p ∧ (NewB W.heap.size c' ∧ NewB W.heap.size i') ∧ Below W.heap.size W W' := by
 obtain ⟨ca, cc, rfl⟩ := hp.code.form
 obtain ⟨ia, ic, rfl⟩ := hp.inn.form
 have HP := hd hp
 clear hp
 go_enter Tryz.func84, Tryz.ntmps84
 go_upto_region 1 with fail
 generalize hX : World.alloc _ _ = X
 have hXX : X = (W.alloc (.cells #[.slice ca p.code.length cc, .slice ia p.inn.length ic] 49)).alloc (.cells #[.slice none 0 0, .slice none 0 0] 49) := by rw [← hX]
 have hzX : X.heap.size = W.heap.size + 2 := by rw [hXX]; simp
 have D0 : Hid (Below W.heap.size W X) := hd (by rw [hXX]; exact up0)
 have R0 : Hid (Rw X W.heap.size 49 #[.slice ca p.code.length cc, .slice ia p.inn.length ic]) := hd (by rw [hXX]; exact rn0)
 have R1 : Hid (Rw X (W.heap.size + 1) 49 #[.slice none 0 0, .slice none 0 0]) := hd (by rw [hXX]; exact rn0)
 clear hX hXX
 go_wp2
 refine region_still (S := fun w' => Below X.heap.size X w') 7 kr (Below.refl _ _).drew (fun hHeld => ?_)
 have hq := fun w' (hSw : (fun w' => Below X.heap.size X w') w') => And.intro ((R0.out.up hSw om).cell (j := 0) (v := .slice ca p.code.length cc) rfl) ((R0.out.up hSw om).cell (j := 1) (v := .slice ia p.inn.length ic) rfl)
 refine Still.u 0 [] hHeld hq ?_
 refine Still.u 1 [] hHeld hq ?_
 refine Still.u 3 [] hHeld hq ?_
 refine Still.u 4 [] hHeld hq ?_
 refine Still.o 2 rfl rfl (fun K hK => ?_)
 refine wp_call 85 _ _ rfl enVcopIns #[.slice ca p.code.length cc] ev ((vcopIns_any p.code h1 _ _ (HP.out.code.up (D0.out.trans (Below.refl _ _).drew))).mono ?_)
 rintro e W2 ⟨v2, rfl, ho2, bb⟩
 obtain ⟨a2, c2, rfl⟩ := own_form ho2
 have B2 : Hid (Below X.heap.size X W2) := hd ((Below.refl _ _).drew.trans bb)
 have hob := own_block ho2
 have S2 := hd (own_sl ho2)
 have z2 := B2.out.size
 refine ⟨_, rfl, hK _ _ (fun _ => B2.out) (fun hh => ?_)⟩
 have hHeld := hh (by decide)
 clear hK K hh
 try simp only [Act.put, l1, l2, l3, l4, l5, l6]
 clear bb ho2
 refine Still.o 5 rfl rfl (fun K hK => ?_)
 refine wp_call 32 _ _ rfl enVcopInt #[.slice ia p.inn.length ic] ev ((vcopInt_any p.inn h2 _ _ (HP.out.inn.up (D0.out.trans (B2.out.mono om)))).mono ?_)
 rintro e W3 ⟨v3, rfl, ho3, bb⟩
 obtain ⟨a3, c3, rfl⟩ := own_form ho3
 have B3 : Hid (Below X.heap.size X W3) := hd (B2.out.trans (bb.mono om))
 have hob3 := own_block ho3
 have S3 := hd (own_sl ho3)
 have S23 := hd (S2.out.up bb)
 have z3 := B3.out.size
 refine ⟨_, rfl, hK _ _ (fun _ => B3.out) (fun hh => ?_)⟩
 have hHeld := hh (by decide)
 clear hK K hh
 try simp only [Act.put, l1, l2, l3, l4, l5, l6]
 clear bb ho3 S2
 refine Still.t 6 [] hHeld ?_
 refine Still.o 7 rfl rfl (fun K hK => ?_)
 refine wp_store_row 49 _ _ rfl (W.heap.size + 1) #[.slice a2 p.code.length c2, .slice a3 p.inn.length c3] ev ev 49 #[.slice none 0 0, .slice none 0 0] (R1.out.up B3.out om) sizePart rfl (by simp [Value.oneCell']) ?_
 refine hK _ _ ab (fun _ => Still.vv ?_)
 clear hK K
 have RR := hd ((R1.out.up B3.out om).row #[.slice a2 p.code.length c2, .slice a3 p.inn.length c3])
 go_wp2
 refine bodyPost_ret (results_cell_row Tryz.results84 _ _ (W.heap.size + 1) 49 _ (0, 0) _ rfl RR.out Tryz.underlying49 rfl sizePart) rfl ⟨_, _, rfl, ⟨S23.out.row _ (fun e => ?_), S3.out.row _ (fun e => ?_)⟩, ⟨fun b e => ?_, fun b e => ?_⟩, below_row (D0.out.trans (B3.out.mono om)) om _⟩
 ·have h := hob _ e
  have h' : X.heap.size ≤ W.heap.size + 1 := h
  omega
 ·have h := hob3 _ e
  omega
 ·have h : X.heap.size ≤ b := hob _ e
  omega
 ·have h := hob3 _ e
  omega
structure SmallS (S : SysD) : Prop where
 p : S.parts.length ≤ 4
 c : S.chans.length ≤ 1000
 s : S.slots.length ≤ 1000
 q : ∀ k (h : k < S.parts.length), S.parts[k].code.length ≤ 1000 ∧ S.parts[k].inn.length ≤ 1000
theorem whole_any (S : SysD) (hm : SmallS S) (vp vc vs : Value) (w : World) (hS : Sys w vp vc vs S) :
  Calls Tryz.prog 48 #[.agg #[vp, vc, vs]] w fun e w' => ∃ xp xc xs, e = .returned (.agg #[xp, xc, xs]) ∧ SysF w.heap.size w' xp xc xs S ∧ Below w.heap.size w w' := by
 obtain ⟨pa, pc, rfl⟩ := hS.p.form
 obtain ⟨ka, kc, rfl⟩ := hS.c.form
 obtain ⟨sa, sc, rfl⟩ := hS.s.form
 have HS := hd hS
 have HM := hd hm
 clear hS hm
 go_enter Tryz.func48, Tryz.ntmps48
 go_upto_region 1 with fail
 generalize hX : World.alloc _ _ = X
 have hXX : X = (w.alloc (.cells #[.slice pa S.parts.length pc, .slice ka S.chans.length kc, .slice sa S.slots.length sc] 26)).alloc (.cells #[.slice none 0 0, .slice none 0 0, .slice none 0 0] 26) := by rw [← hX]
 have hzX : X.heap.size = w.heap.size + 2 := by rw [hXX]; simp
 have D0 : Hid (Below w.heap.size w X) := hd (by rw [hXX]; exact up0)
 have R0 : Hid (Rw X w.heap.size 26 #[.slice pa S.parts.length pc, .slice ka S.chans.length kc, .slice sa S.slots.length sc]) := hd (by rw [hXX]; exact rn0)
 have R1 : Hid (Rw X (w.heap.size + 1) 26 #[.slice none 0 0, .slice none 0 0, .slice none 0 0]) := hd (by rw [hXX]; exact rn0)
 clear hX hXX
 have s0 := R0.out.cell (j := 0) (v := .slice pa S.parts.length pc) rfl
 have s1 := R0.out.cell (j := 1) (v := .slice ka S.chans.length kc) rfl
 have s2 := R0.out.cell (j := 2) (v := .slice sa S.slots.length sc) rfl
 go_wp2_with fail
 refine (turned_any S S.parts rfl HM.out.p X.heap.size 84 entWhole1 #[] _ _ _ X (HS.out.up D0.out) (fun k hk hk' c i W h1 h2 h3 => by
  refine (whole1_any k S.parts[k] (HM.out.q k hk).1 (HM.out.q k hk).2 c i W (h3.up h1)).mono ?_
  rintro e W' ⟨c', i', rfl, hq, ⟨n1, n2⟩, hb⟩
  exact ⟨c', i', rfl, hq, ⟨n1.mono om, n2.mono om⟩, fun _ b e => .inr (n1 b e), fun _ b e => .inr (n2 b e), hb⟩)).mono ?_
 rintro e w1 ⟨xp, rfl, hPF, hNP, b1⟩
 obtain ⟨xa, xb, rfl⟩ := hPF.r.form
 have z1 := b1.size
 have R01 := hd (R0.out.up b1 om)
 have R11 := hd (R1.out.up b1 om)
 have D1 := hd (D0.out.trans (b1.mono om))
 have HPF := hd hPF
 have HNP := hd hNP
 clear b1 hPF hNP s0 s1 s2 R0 R1 D0
 go_wp2_with (refine wpList_store_rowW rfl 26 (.tmp 3) (.tmp 5) rfl w1.heap.size #[.slice xa S.parts.length xb, .slice ka S.chans.length kc, .slice sa S.slots.length sc] rfl rfl 26 #[.slice none 0 0, .slice none 0 0, .slice none 0 0] rn0 sizeSys rfl (by simp [Value.oneCell']) ?_)
 intro W2 HW2
 have b2 : Below w1.heap.size w1 W2 := by rw [HW2.out]; exact below_row ((Below.refl _ _).alloc (Nat.le_refl _) _) (Nat.le_refl _) _
 have R3 : Hid (Rw W2 w1.heap.size 26 #[.slice xa S.parts.length xb, .slice ka S.chans.length kc, .slice sa S.slots.length sc]) := by
  show Rw _ _ _ _
  rw [HW2.out]
  exact Rw.row (cs := #[.slice none 0 0, .slice none 0 0, .slice none 0 0]) rn0 _
 have B2 := hd b2
 have R02 := hd (R01.out.up b2 om)
 have R12 := hd (R11.out.up b2 om)
 have D2 := hd (D1.out.trans (b2.mono om))
 have z2 := R3.out.lt
 clear HW2 b2 R01 R11 D1
 go_wp2
 refine region_still (S := fun w' => Rw w' w.heap.size 26 #[.slice pa S.parts.length pc, .slice ka S.chans.length kc, .slice sa S.slots.length sc]) 9 kr R02.out.drew (fun hHeld => ?_)
 have hq := fun w' (hSw : (fun w' => Rw w' w.heap.size 26 #[.slice pa S.parts.length pc, .slice ka S.chans.length kc, .slice sa S.slots.length sc]) w') => And.intro (hSw.cell (j := 1) (v := .slice ka S.chans.length kc) rfl) (hSw.cell (j := 2) (v := .slice sa S.slots.length sc) rfl)
 refine Still.u 0 [] hHeld hq ?_
 refine Still.u 1 [] hHeld hq ?_
 refine Still.u 3 [] hHeld hq ?_
 refine Still.u 4 [] hHeld hq ?_
 refine Still.o 2 rfl rfl (fun K hK => ?_)
 refine wp_call 86 _ _ rfl enVcopChan #[.slice ka S.chans.length kc] ev ((vcopChan_any S.chans HM.out.c _ _ (HS.out.c.up (D2.out.trans (Below.refl _ _).drew))).mono ?_)
 rintro e W3 ⟨v3, rfl, ho3, bb⟩
 obtain ⟨a3, c3, rfl⟩ := own_form ho3
 have B3 : Hid (Below W2.heap.size W2 W3) := hd ((Below.refl _ _).drew.trans bb)
 have hob3 : ∀ k, (Value.slice a3 S.chans.length c3).ownBlock = some k → W2.heap.size ≤ k := own_block ho3
 have S3 := hd (own_sl ho3)
 have z3 := B3.out.size
 refine ⟨_, rfl, hK _ _ (fun _ => R02.out.up B3.out om) (fun hh => ?_)⟩
 have hHeld := hh (by decide)
 clear hK K hh
 try simp only [Act.put, l1, l2, l3, l4, l5, l6]
 clear bb ho3
 refine Still.t 6 [] hHeld ?_
 refine Still.o 5 rfl rfl (fun K hK => ?_)
 refine wp_call 87 _ _ rfl enVcopSlot #[.slice sa S.slots.length sc] ev ((vcopSlot_any S.slots HM.out.s _ _ (HS.out.s.up (D2.out.trans (B3.out.mono (by have := D2.out.size; omega))))).mono ?_)
 rintro e W4 ⟨v4, rfl, ho4, bb⟩
 obtain ⟨a4, c4, rfl⟩ := own_form ho4
 have B4 : Hid (Below W2.heap.size W2 W4) := hd (B3.out.trans (bb.mono om))
 have hob4 := own_block ho4
 have S4 := hd (own_sl ho4)
 have S34 := hd (S3.out.up bb)
 have z4 := B4.out.size
 have R34 := hd (R3.out.up B4.out om)
 have k1 := R34.out.cell (j := 1) (v := .slice ka S.chans.length kc) rfl
 have f1 := R34.out.fr 1
 have R35 := hd (R34.out.set 1 (.slice a3 S.chans.length c3))
 have k2 := R35.out.cell (j := 2) (v := .slice sa S.slots.length sc) rfl
 have f2 := R35.out.fr 2
 have K2 := hd k2
 have F2 := hd f2
 refine ⟨_, rfl, hK _ _ (fun _ => R02.out.up B4.out om) (fun hh => ?_)⟩
 have hHeld := hh (by decide)
 clear hK K hh
 try simp only [Act.put, l1, l2, l3, l4, l5, l6]
 clear bb ho4 S3 k2 f2
 refine Still.o 7 rfl rfl (fun K hK => ?_)
 clear hHeld
 go_simp
 refine hK _ _ (fun _ => (R02.out.up B4.out om).set_other _ so) (fun hh => ?_)
 have hHeld := hh (by decide)
 clear hK K hh
 try simp only [Act.put, l1, l2, l3, l4, l5, l6]
 clear k1 f1
 have k2 := K2.out
 have f2 := F2.out
 refine Still.t 8 [] hHeld ?_
 refine Still.o 9 rfl rfl (fun K hK => ?_)
 clear hHeld
 go_simp
 refine hK _ _ ab (fun _ => Still.vv ?_)
 clear hK K
 have R36 := hd (R35.out.set 2 (.slice a4 S.slots.length c4))
 have R16 := hd (((R12.out.up B4.out om).set_other (a := ⟨w1.heap.size, 1, none⟩) (.slice a3 S.chans.length c3) so).set_other (a := ⟨w1.heap.size, 2, none⟩) (.slice a4 S.slots.length c4) so)
 have D6 := hd (((D2.out.trans (B4.out.mono (by have := D2.out.size; omega))).setCell (p := ⟨w1.heap.size, 1, none⟩) so (.slice a3 S.chans.length c3)).setCell (p := ⟨w1.heap.size, 2, none⟩) so (.slice a4 S.slots.length c4))
 have SF : Hid (SysF (w.heap.size + 2) ((W4.setCell ⟨w1.heap.size, 1, none⟩ (.slice a3 S.chans.length c3)).setCell ⟨w1.heap.size, 2, none⟩ (.slice a4 S.slots.length c4)) (.slice xa S.parts.length xb) (.slice a3 S.chans.length c3) (.slice a4 S.slots.length c4) S) := hd (by
  have hnp : NewB (w.heap.size + 2) (.slice xa S.parts.length xb) := HNP.out.mono om
  refine ⟨?_, hnp, (S34.out.set _ (fun e => by have := hob3 _ e; omega)).set _ (fun e => by have := hob3 _ e; omega), (S4.out.set _ (fun e => by have := hob4 _ e; omega)).set _ (fun e => by have := hob4 _ e; omega), fun b e => by have := hob3 b e; omega, fun b e => by have := hob4 b e; omega⟩
  exact (HPF.out.low om).up (((B2.out.trans (B4.out.mono om)).setCell (p := ⟨w1.heap.size, 1, none⟩) (Nat.le_refl _) _).setCell (p := ⟨w1.heap.size, 2, none⟩) (Nat.le_refl _) _))
 generalize (W4.setCell ⟨w1.heap.size, 1, none⟩ (.slice a3 S.chans.length c3)).setCell ⟨w1.heap.size, 2, none⟩ (.slice a4 S.slots.length c4) = W6 at R36 R16 D6 SF ⊢
 have q0 := R36.out.cell (j := 0) (v := .slice xa S.parts.length xb) rfl
 have q1 := R36.out.cell (j := 1) (v := .slice a3 S.chans.length c3) rfl
 have q2 := R36.out.cell (j := 2) (v := .slice a4 S.slots.length c4) rfl
 clear R34 R35 K2 F2 k2 f2 B2 B3 B4 HPF R3 R02 R12 D2 S34 S4
 go_wp2_with (refine wpList_store_row rfl 26 (.tmp 2) (.tmp 14) rfl (w.heap.size + 1) #[.slice xa S.parts.length xb, .slice a3 S.chans.length c3, .slice a4 S.slots.length c4] rfl rfl 26 _ R16.out sizeSys rfl (by simp [Value.oneCell']) ?_)
 exact bodyPost_ret (results_cell_row Tryz.results48 _ _ (w.heap.size + 1) 26 _ (0, 0) _ rfl (R16.out.row _) Tryz.underlying26 rfl sizeSys) rfl ⟨_, _, _, rfl, (SF.out.row om _).low om, below_row D6.out om _⟩
def cmpI (x y : Int) : Int := if x < y then -1 else if y < x then 1 else 0
def orI (a b : Int) : Int := if a ≠ 0 then a else b
structure Edg where
 fr : Int
 tt : Int
 deriving DecidableEq
def Edg.cells (e : Edg) : List Value := [.int .i64 e.fr, .int .i64 e.tt]
def cmpE (a b : Edg) : Int := orI (cmpI a.fr b.fr) (cmpI a.tt b.tt)
theorem isNaN_any (x : Int) (w : World) : Calls Tryz.prog 133 #[.int .i64 x] w fun e w' => e = .returned (.bool false) ∧ w' = w := by
 have h : (x != x) = false := by simp
 go_enter Tryz.func133, Tryz.ntmps133
 go_wp2
 go_ret
 exact ⟨rfl, rfl⟩
theorem compare_any (x y : Int) (w : World) (r : Int) (hr : cmpI x y = r) : Calls Tryz.prog 98 #[.int .i64 x, .int .i64 y] w fun e w' => e = .returned (.int .i64 r) ∧ w' = w := by
 subst hr
 unfold cmpI
 by_cases h1 : x < y
 ·rw [if_pos h1]
  go_enter Tryz.func98, Tryz.ntmps98
  go_wp2_with (go_at_call 133; refine (isNaN_any _ _).mono ?_; rintro e w2 ⟨rfl, rfl⟩)
  go_ret
  exact ⟨rfl, rfl⟩
 ·rw [if_neg h1]
  by_cases h2 : y < x
  ·rw [if_pos h2]
   go_enter Tryz.func98, Tryz.ntmps98
   go_wp2_with (go_at_call 133; refine (isNaN_any _ _).mono ?_; rintro e w2 ⟨rfl, rfl⟩)
   go_ret
   exact ⟨rfl, rfl⟩
  ·rw [if_neg h2]
   go_enter Tryz.func98, Tryz.ntmps98
   go_wp2_with (go_at_call 133; refine (isNaN_any _ _).mono ?_; rintro e w2 ⟨rfl, rfl⟩)
   go_ret
   exact ⟨rfl, rfl⟩
theorem or_any (a b : Int) (g : Nat) (w : World) (h0 : w.cell? ⟨g, 0, none⟩ = some (.int .i64 a)) (h1 : w.cell? ⟨g, 1, none⟩ = some (.int .i64 b)) (r : Int) (hr : orI a b = r) : Calls Tryz.prog 97 #[.slice (some ⟨g, 0, none⟩) 2 2] w fun e w' => e = .returned (.int .i64 r) ∧ w' = w := by
 have H0 := hd h0
 have H1 := hd h1
 clear h0 h1
 go_enter Tryz.func97, Tryz.ntmps97
 go_wp2
 go_loopw [8] (fun i wr => ∃ k : Nat, i = .int .i64 k ∧ k ≤ 2 ∧ Hid (1 ≤ k → a = 0) ∧ Hid (2 ≤ k → b = 0) ∧ wr = w) (fun i _ => 2 - (intOf i).toNat)
 case atStart => exact ⟨0, rfl, by omega, hd om, hd om, rfl⟩
 case round =>
  obtain ⟨k, rfl, hk, HA, HB, rfl⟩ := hrel
  have hk3 : k = 0 ∨ k = 1 ∨ k = 2 := by omega
  rcases hk3 with rfl | rfl | rfl
  ·have c0 := H0.out
   by_cases ha : a = 0
   ·have ha' : (a != 0) = false := by simpa using ha
    have HZ := hd ha
    clear ha
    go_wp2
    go_roundw
    case rel => exact ⟨1, by go_num, by omega, hd (fun _ => HZ.out), hd om, by first | rfl | trivial⟩
    case measure => simp [intOf]
   ·have ha' : (a != 0) = true := by simpa using ha
    have HR : Hid (a = r) := by
     show _ = _
     rw [← hr, orI, if_pos ha]
    clear ha hr
    go_wp2
    go_ret
    exact ⟨ret_int HR.out, rfl⟩
  ·have c1 := H1.out
   by_cases hb : b = 0
   ·have hb' : (b != 0) = false := by simpa using hb
    have HZ := hd hb
    clear hb
    go_wp2
    go_roundw
    case rel => exact ⟨2, by go_num, by omega, hd (fun _ => HA.out om), hd (fun _ => HZ.out), by first | rfl | trivial⟩
    case measure => simp [intOf]
   ·have hb' : (b != 0) = true := by simpa using hb
    have HR : Hid (b = r) := by
     show _ = _
     rw [← hr, orI, if_neg (by simpa using HA.out om)]
    clear hb hr
    go_wp2
    go_ret
    exact ⟨ret_int HR.out, rfl⟩
  ·have HR : Hid ((0 : Int) = r) := by
    show _ = _
    rw [← hr, orI, if_neg (by simpa using HA.out om), HB.out om]
   go_wp2
   go_ret
   exact ⟨ret_int HR.out, rfl⟩
theorem ent_compare : Enters 98 := enters Tryz.func98 kr kr
theorem ent_or : Enters 97 := enters Tryz.func97 kr kr
theorem edges1_any (x y : Edg) (w : World) : Calls Tryz.prog 96 #[.agg #[.int .i64 x.fr, .int .i64 x.tt], .agg #[.int .i64 y.fr, .int .i64 y.tt]] w fun e w' => e = .returned (.int .i64 (cmpE x y)) ∧ ∃ q os, w' = grow (w.drewN q) os := by
 obtain ⟨a, b⟩ := x
 obtain ⟨c, d⟩ := y
 obtain ⟨r1, h1⟩ : ∃ r, cmpI a c = r := ⟨_, rfl⟩
 obtain ⟨r2, h2⟩ : ∃ r, cmpI b d = r := ⟨_, rfl⟩
 obtain ⟨r3, h3⟩ : ∃ r, orI r1 r2 = r := ⟨_, rfl⟩
 have HR : Hid (cmpE ⟨a, b⟩ ⟨c, d⟩ = r3) := by
  show _ = _
  unfold cmpE
  rw [h1, h2, h3]
 have C1 := hd fun V => compare_any a c V r1 h1
 have C2 := hd fun V => compare_any b d V r2 h2
 have C3 := hd fun g V k0 k1 => or_any r1 r2 g V k0 k1 r3 h3
 rw [HR.out]
 simp only
 clear h1 h2 h3 HR
 go_enter Tryz.func96, Tryz.ntmps96
 go_upto_region 1 with fail
 generalize hW : World.alloc _ _ = W
 have RA : Hid (Rw W w.heap.size 74 #[.int .i64 a, .int .i64 b]) := by
  show Rw _ _ _ _
  rw [← hW]
  exact rn0
 have RB : Hid (Rw W (w.heap.size + 1) 74 #[.int .i64 c, .int .i64 d]) := by
  show Rw _ _ _ _
  rw [← hW]
  exact rn0
 have HW : Hid (W = grow w #[.cells #[.int .i64 a, .int .i64 b] 74, .cells #[.int .i64 c, .int .i64 d] 74]) := by
  show _ = _
  rw [← hW, alloc_eq_grow, alloc_eq_grow, grow_grow]
  rfl
 clear hW
 refine region_still (S := fun w' => Below W.heap.size W w') 12 kr (Below.refl _ _).drew (fun hHeld => ?_)
 have hq := fun w' (hSw : (fun w' => Below W.heap.size W w') w') => And.intro ((RA.out.up hSw RA.out.lt).cell (j := 0) (v := .int .i64 a) rfl) (And.intro ((RA.out.up hSw RA.out.lt).cell (j := 1) (v := .int .i64 b) rfl) (And.intro ((RB.out.up hSw RB.out.lt).cell (j := 0) (v := .int .i64 c) rfl) ((RB.out.up hSw RB.out.lt).cell (j := 1) (v := .int .i64 d) rfl)))
 refine Still.u 0 [] hHeld hq ?_
 refine Still.u 1 [] hHeld hq ?_
 refine Still.u 2 [] hHeld hq ?_
 refine Still.u 3 [] hHeld hq ?_
 refine Still.u 5 [] hHeld hq ?_
 refine Still.u 6 [] hHeld hq ?_
 refine Still.u 7 [] hHeld hq ?_
 refine Still.u 8 [] hHeld hq ?_
 refine Still.o 4 rfl rfl (fun K hK => ?_)
 refine wp_call 98 _ _ rfl ent_compare #[.int .i64 a, .int .i64 c] ev ((C1.out _).mono ?_)
 rintro e V1 ⟨rfl, rfl⟩
 refine ⟨_, rfl, hK _ _ (fun _ => hHeld) (fun hh => ?_)⟩
 clear hK K hh
 try simp only [Act.put, l1, l2, l3, l4, l5, l6]
 refine Still.o 9 rfl rfl (fun K hK => ?_)
 refine wp_call 98 _ _ rfl ent_compare #[.int .i64 b, .int .i64 d] ev ((C2.out _).mono ?_)
 rintro e V1 ⟨rfl, rfl⟩
 refine ⟨_, rfl, hK _ _ (fun _ => hHeld) (fun hh => ?_)⟩
 clear hK K hh
 try simp only [Act.put, l1, l2, l3, l4, l5, l6]
 refine Still.o 10 rfl rfl (fun K hK => ?_)
 go_simp
 refine hK _ _ (fun _ => Below.alloc hHeld hHeld.size _) (fun hh => ?_)
 have hHeld2 := hh (by decide)
 clear hK K hh hHeld
 try simp only [Act.put, l1, l2, l3, l4, l5, l6]
 refine Still.o 11 rfl rfl (fun K hK => ?_)
 refine wp_call 97 _ _ rfl ent_or #[.slice (some ⟨W.heap.size, 0, none⟩) 2 2] ev ((C3.out W.heap.size _ (Rw.cell (j := 0) (Rw.drew (Rw.new W 3 #[.int .i64 r1, .int .i64 r2] rfl)) rfl) (Rw.cell (j := 1) (Rw.drew (Rw.new W 3 #[.int .i64 r1, .int .i64 r2] rfl)) rfl)).mono ?_)
 rintro e V1 ⟨rfl, rfl⟩
 refine ⟨_, rfl, hK _ _ (fun _ => hHeld2) (fun hh => ?_)⟩
 clear hK K hh
 try simp only [Act.put, l1, l2, l3, l4, l5, l6]
 refine Still.o 12 rfl rfl (fun K hK => ?_)
 go_simp
 refine hK _ _ ab (fun _ => Still.vv ?_)
 clear hK K
 go_wp2
 go_ret
 refine ⟨rfl, 1, #[.cells #[.int .i64 a, .int .i64 b] 74, .cells #[.int .i64 c, .int .i64 d] 74, .cells #[.int .i64 r1, .int .i64 r2] 3], ?_⟩
 rw [alloc_eq_grow, HW.out, grow_grow]
 rfl
end Go.Proofs.YtehhhiodfcdnmaaGreatDoor
