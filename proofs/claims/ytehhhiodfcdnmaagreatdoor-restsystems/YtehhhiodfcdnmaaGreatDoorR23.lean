/- ref.OwnSystem: the walk. -/
import Derived.Test.YtehhhiodfcdnmaaGreatDoorR22
import Derived.Test.YtehhhiodfcdnmaaGreatDoorR0
import Derived.Test.YtehhhiodfcdnmaaGreatDoorR6
namespace Go.Proofs.YtehhhiodfcdnmaaGreatDoor
set_option linter.unusedSimpArgs false
set_option linter.unusedVariables false
set_option maxRecDepth 100000
set_option maxHeartbeats 8000000
open Go.RowKit Go.Sort
attribute [local go_sem ↓] Go.wp_at_zero Go.wp_at_succ
theorem ownSystem_any (S : SysD) (vp vc vs : Value) (w : World) (hS : Sys w vp vc vs S) (hn1 : S.parts.length ≤ 1000) (hn2 : S.chans.length ≤ 1000) (hn3 : S.slots.length ≤ 1000) (hq : ∀ j (hj : j < S.parts.length), S.parts[j].code.length ≤ 1000 ∧ S.parts[j].inn.length ≤ 1000) :
  Calls Tryz.prog 25 #[.agg #[vp, vc, vs]] w fun e w' => ∃ xp xc xs, e = .returned (.agg #[xp, xc, xs]) ∧ (∃ base g, Bld (w.heap.size + 2) base w' g xp xc xs S.parts S.chans S.slots) ∧ Below w.heap.size w w' := by
 obtain ⟨ca, cc, rfl⟩ := hS.c.form
 obtain ⟨sa, sc, rfl⟩ := hS.s.form
 obtain ⟨i1, hi, hz0, hz1, hz2⟩ := info_parts infoChan
 obtain ⟨i2, ki, kz0, kz1, kz2⟩ := info_parts infoSlot
 have HS := hd hS
 have HQ := hd hq
 clear hS hq
 go_enter Tryz.func25, Tryz.ntmps25
 go_wp2_with fail
 have hB := (box_new w vp (.slice ca S.chans.length cc) (.slice sa S.slots.length sc) 26 _ rfl).up (w' := (w.alloc (.cells #[vp, .slice ca S.chans.length cc, .slice sa S.slots.length sc] 26)).alloc (.cells #[.slice none 0 0, .slice none 0 0, .slice none 0 0] 26)) ((Below.refl _ _).alloc (Nat.le_refl _) _)
 have hV := var3_new (w.alloc (.cells #[vp, .slice ca S.chans.length cc, .slice sa S.slots.length sc] 26)) (.slice none 0 0) (.slice none 0 0) (.slice none 0 0) 26 (w.heap.size + 1) (by simp)
 have D : Below w.heap.size w ((w.alloc (.cells #[vp, .slice ca S.chans.length cc, .slice sa S.slots.length sc] 26)).alloc (.cells #[.slice none 0 0, .slice none 0 0, .slice none 0 0] 26)) := up0
 have hz : ((w.alloc (.cells #[vp, .slice ca S.chans.length cc, .slice sa S.slots.length sc] 26)).alloc (.cells #[.slice none 0 0, .slice none 0 0, .slice none 0 0] 26)).heap.size = w.heap.size + 2 := by simp
 generalize (w.alloc (.cells #[vp, .slice ca S.chans.length cc, .slice sa S.slots.length sc] 26)).alloc (.cells #[.slice none 0 0, .slice none 0 0, .slice none 0 0] 26) = W1 at hB hV D hz ⊢
 have HB := hd hB
 have HV := hd hV
 have HD := hd D
 have hS1 := HS.out.up D
 have HS1 := hd hS1
 clear hB hV D hS1
 go_wp2
 go_cut [3] from 5 (fun d wc => ∃ g xc xs, d = .pointer (some ⟨g, 0, none⟩) ∧ Hid (Bld (w.heap.size + 2) wc.heap.size wc g (.slice none 0 0) xc xs [] S.chans S.slots) ∧ Hid (Below W1.heap.size W1 wc))
 case first =>
  go_region_held3 (fun w' => w'.cell? ⟨w.heap.size, 1, none⟩ = some (.slice ca S.chans.length cc) ∧ w'.cell? ⟨w.heap.size, 2, none⟩ = some (.slice sa S.slots.length sc)) (exact keepB HB.out (by repeat (first | exact Below.refl _ _ | assumption | refine Below.drew ?_ | refine Below.alloc ?_ o3 _ | refine Below.setCell ?_ o3 _)))
   (first
    | (refine step_append_lit (by rfl) (.tmp 5) (.tmp 7) 23 (by rfl) W1.heap.size 89 i1 _ 3 24 Tryz.underlying23 hi hz0 hz1 hz2 rfl (by decide) _ ev (by repeat (first | exact em_new _ _ _ o3 | refine em_alloc ?_)) o3 (.slice ca S.chans.length cc) S.chans.length (rowC chC S.chans) ev (HS1.out.c.up (by repeat (first | exact Below.refl _ _ | assumption | refine Below.drew ?_ | refine Below.alloc ?_ o3 _ | refine Below.setCell ?_ o3 _))) (rowC_one chC_one _) (by unfold maxLen; omega) om ?_; intro v1 w3 o1 b1 h1; obtain ⟨a1, c1, rfl⟩ := own_form o1; have O1 := hd o1; have H1 := hd h1; have D3 : Below W1.heap.size W1 w3 := Below.trans (by repeat (first | exact Below.refl _ _ | assumption | refine Below.drew ?_ | refine Below.alloc ?_ o3 _ | refine Below.setCell ?_ o3 _)) (b1.mono o3); have z3 := D3.size; have y3 := b1.size; (try have VV := hd (Var3.up (g := _) (a := .slice none 0 0) (b := .slice none 0 0) (c := .slice none 0 0) (by first | exact v3_drew (var3_new _ _ _ _ _ _ rfl) | exact v3_drew (v3_alloc (var3_new _ _ _ _ _ _ rfl)) | exact v3_drew (v3_alloc (v3_alloc (var3_new _ _ _ _ _ _ rfl))) | exact var3_new _ _ _ _ _ _ rfl | exact v3_alloc (var3_new _ _ _ _ _ _ rfl) | exact v3_alloc (v3_alloc (var3_new _ _ _ _ _ _ rfl))) b1)); clear o1 h1)
    | (refine step_append_lit (by rfl) (.tmp 9) (.tmp 11) 24 (by rfl) W1.heap.size 105 i2 _ 2 16 Tryz.underlying24 ki kz0 kz1 kz2 rfl (by decide) _ ev (by repeat (first | exact em_new _ _ _ o3 | refine em_alloc ?_ | refine em_up b1 ?_)) o3 (.slice sa S.slots.length sc) S.slots.length (rowC slC S.slots) ev (HS1.out.s.up (by repeat (first | exact Below.refl _ _ | assumption | refine Below.drew ?_ | refine Below.alloc ?_ o3 _ | refine Below.setCell ?_ o3 _))) (rowC_one slC_one _) (by unfold maxLen; omega) om ?_; intro v2 w4 o2 b2 h2; obtain ⟨a2, c2, rfl⟩ := own_form o2; have O2 := hd o2; have H2 := hd h2; have D34 : Below w3.heap.size w3 w4 := Below.trans (by repeat (first | exact Below.refl _ _ | assumption | refine Below.drew ?_ | refine Below.alloc ?_ o3 _ | refine Below.setCell ?_ o3 _)) (b2.mono o3); have D4 : Below W1.heap.size W1 w4 := Below.trans (by repeat (first | exact Below.refl _ _ | assumption | refine Below.drew ?_ | refine Below.alloc ?_ o3 _ | refine Below.setCell ?_ o3 _)) (b2.mono o3); have z4 := D4.size; have y4 := b2.size; (try have V4 := hd (Var3.up (g := _) (a := .slice none 0 0) (b := .slice none 0 0) (c := .slice none 0 0) (by first | exact VV.out | exact v3_alloc VV.out | exact var3_new _ _ _ _ _ _ rfl | exact v3_alloc (var3_new _ _ _ _ _ _ rfl)) b2)); (try have x0 := V4.out.x); (try have x1 := V4.out.y); (try have x2 := V4.out.z); (try have x3 := V4.out.fx); (try have x4 := V4.out.fy); (try have x5 := V4.out.fz); (try simp only [sz_alloc, sz_drew, hz] at x0 x1 x2 x3 x4 x5); clear o2 h2))
  all_goals go_wp2
  all_goals go_meet
  all_goals have y34 := D34.size
  all_goals try simp only [sz_alloc, sz_drew, hz] at y3
  all_goals try simp only [sz_alloc, sz_drew, hz] at y4
  all_goals first
   | exact ⟨_, _, _, rfl, bldD ((own_sl O1.out).up D34) (own_sl O2.out) o3 ⟨fun k e => by have := own_block O1.out k e; omega, fun k e => by have := own_ltB O1.out k e; omega⟩ ⟨fun k e => by have := own_block O2.out k e; omega, fun k e => by have := own_ltB O2.out k e; omega⟩, (by repeat (first | exact Below.refl _ _ | assumption | refine Below.drew ?_ | refine Below.alloc ?_ o3 _ | refine Below.setCell ?_ o3 _))⟩
   | exact ⟨_, _, _, rfl, bldC (Var3.mk x0 x1 x2 x3 x4 x5 (by have h := V4.out.lt; (try simp only [sz_alloc, sz_drew, hz] at h); omega)) ((own_sl O1.out).up D34) (own_sl O2.out) o3 ⟨fun k e => by have := own_block O1.out k e; omega, fun k e => by have h := H1.out k e; have := own_ltB O1.out k e; (try simp only [sz_alloc, sz_drew, hz] at h); omega⟩ ⟨fun k e => by have := own_block O2.out k e; omega, fun k e => by have h := H2.out k e; have := own_ltB O2.out k e; (try simp only [sz_alloc, sz_drew, hz] at h); omega⟩, (by repeat (first | exact Below.refl _ _ | assumption | refine Below.drew ?_ | refine Below.alloc ?_ o3 _ | refine Below.setCell ?_ o3 _))⟩
 case rest =>
  obtain ⟨g, xc, xs, rfl, HBL, D2c⟩ := hcut
  obtain ⟨W0, hW0⟩ : ∃ W0, W0 = wc := ⟨_, rfl⟩
  subst hW0
  have D0 := hd (HD.out.trans (D2c.out.mono om))
  have HV := hd (HV.out.up D2c.out)
  have HB := hd (HB.out.up D2c.out)
  obtain ⟨pa, pc, rfl⟩ := HS.out.p.form
  have k0 := HB.out.p
  obtain ⟨xca, xcc, rfl⟩ := HBL.out.c.form
  obtain ⟨xsa, xsc, rfl⟩ := HBL.out.s.form
  have hgn := HBL.out.gn
  have hgl := HBL.out.gl
  have hW02 : w.heap.size + 2 ≤ W0.heap.size := by omega
  clear D2c HD HS1 hi hz0 hz1 hz2 ki kz0 kz1 kz2
  obtain ⟨j1, ji, jz0, jz1, jz2⟩ := info_parts infoIns
  obtain ⟨j2, ki, kz0, kz1, kz2⟩ := info_parts infoIntC
  obtain ⟨j3, hi, hz0, hz1, hz2⟩ := info_parts infoPart
  go_wp2
  go_loopw [4] (fun i wr => ∃ (k : Nat) (v : Value), i = .int .i64 k ∧ k ≤ S.parts.length ∧ Hid (Bld (w.heap.size + 2) W0.heap.size wr g v (.slice xca S.chans.length xcc) (.slice xsa S.slots.length xsc) (S.parts.take k) S.chans S.slots) ∧ Hid (Below (w.heap.size + 2) W0 wr)) (fun i _ => S.parts.length - (intOf i).toNat)
  case atStart => exact ⟨0, _, rfl, Nat.zero_le _, HBL, Below.refl _ _⟩
  case round =>
   obtain ⟨k, v, rfl, hk, HBL, HT⟩ := hrel
   have HD := hd (D0.out.trans (HT.out.mono om))
   obtain ⟨va, vcap, hvp⟩ := HBL.out.form
   have hkl : (S.parts.take k).length = k := by rw [List.length_take]; omega
   rw [hkl] at hvp
   subst hvp
   have hbs := HBL.out.bs
   have q0 := bcl HT.out om k0
   by_cases hlt : k < S.parts.length
   ·have hli : (k : Int) < S.parts.length := by omega
    obtain ⟨pb, po, pc', hpe, hpc, hpb, hpp⟩ := HS.out.p.open om
    injection hpe with e1 _ e2
    subst e1
    subst e2
    obtain ⟨c, i, c0, c1, hpr⟩ := hpp k hlt
    obtain ⟨a1, b1, rfl⟩ := hpr.code.form
    obtain ⟨a2, b2, rfl⟩ := hpr.inn.form
    have c0 := bcl HD.out hpb c0
    have c1 := bcl HD.out hpb c1
    have HPR := hd (hpr.up HD.out)
    have hpw : pb < wr.heap.size := Nat.lt_of_lt_of_le hpb HD.out.size
    clear hpr hpp hpc
    have g0 := HBL.out.cp
    have g1 := HBL.out.fp
    go_wp2
    refine region_still (S := fun w' => w'.cell? ⟨g, 0, none⟩ = some (.slice va k vcap) ∧ w'.cell? ⟨w.heap.size, 0, none⟩ = some (.slice (some ⟨pb, po, none⟩) S.parts.length pc) ∧ w'.cell? ⟨pb, po + k * 2, none⟩ = some (.slice a1 S.parts[k].code.length b1) ∧ w'.cell? ⟨pb, po + k * 2 + 1, none⟩ = some (.slice a2 S.parts[k].inn.length b2)) 22 kr ⟨g0, q0, c0, c1⟩ (fun hHeld => ?_)
    refine Still.take (i := 0) (oi := { dst := some 21, op := Go.Op.fieldAddr 26 (Go.Operand.tmp 3) 0, type := 0, pos := "conf.go:52", after := #[], guard := none }) (v := ?v1) kr rfl kr kr kr (fun _ _ _ h => h) (Or.inl ⟨by rfl, ?y1⟩) hHeld ?r1
    case y1 => (intro w' hSw; (try dsimp only at hSw); go_simp; try with_reducible rfl)
    simp only [Act.put, List.setIfInBounds_toArray, List.set_cons_zero, List.set_cons_succ]
    refine Still.take (i := 1) (oi := { dst := some 22, op := Go.Op.load 22 (Go.Operand.tmp 21), type := 22, pos := "conf.go:52", after := #[{ on := 0, ground := Go.Ground.data }], guard := none }) (v := ?v2) kr rfl kr kr kr (fun _ _ _ h => h) (Or.inl ⟨by rfl, ?y2⟩) hHeld ?r2
    case y2 => (intro w' hSw; (try dsimp only at hSw); go_simp; try with_reducible rfl)
    simp only [Act.put, List.setIfInBounds_toArray, List.set_cons_zero, List.set_cons_succ]
    refine Still.take (i := 3) (oi := { dst := some 24, op := Go.Op.fieldAddr 26 (Go.Operand.tmp 1) 0, type := 0, pos := "conf.go:52", after := #[], guard := none }) (v := ?v3) kr rfl kr kr kr (fun _ _ _ h => h) (Or.inl ⟨by rfl, ?y3⟩) hHeld ?r3
    case y3 => (intro w' hSw; (try dsimp only at hSw); go_simp; try with_reducible rfl)
    simp only [Act.put, List.setIfInBounds_toArray, List.set_cons_zero, List.set_cons_succ]
    refine Still.take (i := 4) (oi := { dst := some 25, op := Go.Op.load 22 (Go.Operand.tmp 24), type := 22, pos := "conf.go:52", after := #[{ on := 3, ground := Go.Ground.data }], guard := none }) (v := ?v4) kr rfl kr kr kr (fun _ _ _ h => h) (Or.inl ⟨by rfl, ?y4⟩) hHeld ?r4
    case y4 => (intro w' hSw; (try dsimp only at hSw); go_simp; try with_reducible rfl)
    simp only [Act.put, List.setIfInBounds_toArray, List.set_cons_zero, List.set_cons_succ]
    refine Still.take (i := 5) (oi := { dst := some 26, op := Go.Op.move (Go.Operand.tmp 4), type := 3, pos := "conf.go:52", after := #[], guard := none }) (v := ?v5) kr rfl kr kr kr (fun _ _ _ h => h) (Or.inl ⟨by rfl, ?y5⟩) hHeld ?r5
    case y5 => (intro w' hSw; (try dsimp only at hSw); go_simp; try with_reducible rfl)
    simp only [Act.put, List.setIfInBounds_toArray, List.set_cons_zero, List.set_cons_succ]
    refine Still.take (i := 6) (oi := { dst := some 27, op := Go.Op.indexAddr 22 (Go.Operand.tmp 25) (Go.Operand.tmp 26), type := 0, pos := "conf.go:52", after := #[{ on := 4, ground := Go.Ground.data }, { on := 5, ground := Go.Ground.data }], guard := none }) (v := ?v6) kr rfl kr kr kr (fun _ _ _ h => h) (Or.inl ⟨by rfl, ?y6⟩) hHeld ?r6
    case y6 => (intro w' hSw; (try dsimp only at hSw); go_simp; try with_reducible rfl)
    simp only [Act.put, List.setIfInBounds_toArray, List.set_cons_zero, List.set_cons_succ]
    refine Still.take (i := 7) (oi := { dst := some 28, op := Go.Op.fieldAddr 49 (Go.Operand.tmp 27) 0, type := 0, pos := "conf.go:52", after := #[{ on := 6, ground := Go.Ground.data }], guard := none }) (v := ?v7) kr rfl kr kr kr (fun _ _ _ h => h) (Or.inl ⟨by rfl, ?y7⟩) hHeld ?r7
    case y7 => (intro w' hSw; (try dsimp only at hSw); go_simp; try with_reducible rfl)
    simp only [Act.put, List.setIfInBounds_toArray, List.set_cons_zero, List.set_cons_succ]
    refine Still.take (i := 8) (oi := { dst := some 29, op := Go.Op.load 47 (Go.Operand.tmp 28), type := 47, pos := "conf.go:52", after := #[{ on := 7, ground := Go.Ground.data }], guard := none }) (v := ?v8) kr rfl kr kr kr (fun _ _ _ h => h) (Or.inl ⟨by rfl, ?y8⟩) hHeld ?r8
    case y8 => (intro w' hSw; (try dsimp only at hSw); go_simp; try with_reducible rfl)
    simp only [Act.put, List.setIfInBounds_toArray, List.set_cons_zero, List.set_cons_succ]
    refine Still.take (i := 11) (oi := { dst := some 32, op := Go.Op.fieldAddr 26 (Go.Operand.tmp 1) 0, type := 0, pos := "conf.go:52", after := #[], guard := none }) (v := ?v9) kr rfl kr kr kr (fun _ _ _ h => h) (Or.inl ⟨by rfl, ?y9⟩) hHeld ?r9
    case y9 => (intro w' hSw; (try dsimp only at hSw); go_simp; try with_reducible rfl)
    simp only [Act.put, List.setIfInBounds_toArray, List.set_cons_zero, List.set_cons_succ]
    refine Still.take (i := 12) (oi := { dst := some 33, op := Go.Op.load 22 (Go.Operand.tmp 32), type := 22, pos := "conf.go:52", after := #[{ on := 11, ground := Go.Ground.data }], guard := none }) (v := ?v10) kr rfl kr kr kr (fun _ _ _ h => h) (Or.inl ⟨by rfl, ?y10⟩) hHeld ?r10
    case y10 => (intro w' hSw; (try dsimp only at hSw); go_simp; try with_reducible rfl)
    simp only [Act.put, List.setIfInBounds_toArray, List.set_cons_zero, List.set_cons_succ]
    refine Still.take (i := 13) (oi := { dst := some 34, op := Go.Op.move (Go.Operand.tmp 4), type := 3, pos := "conf.go:52", after := #[], guard := none }) (v := ?v11) kr rfl kr kr kr (fun _ _ _ h => h) (Or.inl ⟨by rfl, ?y11⟩) hHeld ?r11
    case y11 => (intro w' hSw; (try dsimp only at hSw); go_simp; try with_reducible rfl)
    simp only [Act.put, List.setIfInBounds_toArray, List.set_cons_zero, List.set_cons_succ]
    refine Still.take (i := 14) (oi := { dst := some 35, op := Go.Op.indexAddr 22 (Go.Operand.tmp 33) (Go.Operand.tmp 34), type := 0, pos := "conf.go:52", after := #[{ on := 12, ground := Go.Ground.data }, { on := 13, ground := Go.Ground.data }], guard := none }) (v := ?v12) kr rfl kr kr kr (fun _ _ _ h => h) (Or.inl ⟨by rfl, ?y12⟩) hHeld ?r12
    case y12 => (intro w' hSw; (try dsimp only at hSw); go_simp; try with_reducible rfl)
    simp only [Act.put, List.setIfInBounds_toArray, List.set_cons_zero, List.set_cons_succ]
    refine Still.take (i := 15) (oi := { dst := some 36, op := Go.Op.fieldAddr 49 (Go.Operand.tmp 35) 1, type := 0, pos := "conf.go:52", after := #[{ on := 14, ground := Go.Ground.data }], guard := none }) (v := ?v13) kr rfl kr kr kr (fun _ _ _ h => h) (Or.inl ⟨by rfl, ?y13⟩) hHeld ?r13
    case y13 => (intro w' hSw; (try dsimp only at hSw); go_simp; try with_reducible rfl)
    simp only [Act.put, List.setIfInBounds_toArray, List.set_cons_zero, List.set_cons_succ]
    refine Still.take (i := 16) (oi := { dst := some 37, op := Go.Op.load 33 (Go.Operand.tmp 36), type := 33, pos := "conf.go:52", after := #[{ on := 15, ground := Go.Ground.data }], guard := none }) (v := ?v14) kr rfl kr kr kr (fun _ _ _ h => h) (Or.inl ⟨by rfl, ?y14⟩) hHeld ?r14
    case y14 => (intro w' hSw; (try dsimp only at hSw); go_simp; try with_reducible rfl)
    simp only [Act.put, List.setIfInBounds_toArray, List.set_cons_zero, List.set_cons_succ]
    have HK := hd (And.intro g0 (And.intro q0 (And.intro c0 c1)))
    have hgw : g < wr.heap.size := by omega
    have hww : w.heap.size < wr.heap.size := by omega
    have hq1 := (HQ.out k hlt).1
    have hq2 := (HQ.out k hlt).2
    obtain ⟨l0, hl0⟩ := HBL.out.row
    have hrow := hl0.2.1
    rw [hkl] at hrow
    have HROW := hd hrow
    have hgv : some g ≠ Value.ownBlock (.slice va k vcap) := fun e => by have := own_block hrow g e.symm; omega
    have hpv : some pb ≠ Value.ownBlock (.slice va k vcap) := fun e => by have := own_block hrow pb e.symm; omega
    have hwv : some w.heap.size ≠ Value.ownBlock (.slice va k vcap) := fun e => by have := own_block hrow _ e.symm; omega
    have HGV := hd hgv
    have HPV := hd hpv
    have HWV := hd hwv
    have HL0 := hd hl0
    have HPS : Hid (S.parts.take (k + 1) = S.parts.take k ++ [S.parts[k]]) := List.take_succ_eq_append_getElem hlt
    clear hrow hl0 hgv hpv hwv g0 q0 c0 c1
    refine Still.all (rs := [2, 10]) kr (by simp) ?_
    refine Still.one (i := 2) (o := { dst := some 23, op := Go.Op.buildSlice 47 0 #[], type := 47, pos := "conf.go:52", after := #[], guard := none }) rfl rfl (fun K hK => ?_) (Still.one (i := 10) (o := { dst := some 31, op := Go.Op.buildSlice 33 0 #[], type := 33, pos := "conf.go:52", after := #[], guard := none }) rfl rfl (fun K hK => ?_) (by simp))
    ·go_simp
     refine hK _ _ (fun _ => keep4 (by repeat (first | exact Below.refl _ _ | assumption | refine Below.drew ?_ | refine Below.alloc ?_ o3 _ | refine Below.setCell ?_ o3 _)) HK.out hgw hww hpw hpw) (fun hh => ?_)
     have hHeld := hh (by decide)
     clear hh hK K
     try simp only [Act.put, List.setIfInBounds_toArray, List.set_cons_zero, List.set_cons_succ]
     refine Still.all (rs := [9, 10]) kr (by simp) ?_
     refine Still.one (i := 9) (o := { dst := some 30, op := Go.Op.call { callee := Go.Callee.builtin Go.Builtin.append, args := #[Go.Operand.tmp 23, Go.Operand.tmp 29], argTypes := #[47, 47] }, type := 47, pos := "conf.go:52", after := #[{ on := 2, ground := Go.Ground.data }, { on := 8, ground := Go.Ground.data }], guard := none }) rfl rfl (fun K hK => ?_) (Still.one (i := 10) (o := { dst := some 31, op := Go.Op.buildSlice 33 0 #[], type := 33, pos := "conf.go:52", after := #[], guard := none }) rfl rfl (fun K hK => ?_) (by simp))
     ·refine wp_append_lit (.tmp 23) (.tmp 29) 47 (by rfl) wr.heap.size 83 j1 _ 4 32 Tryz.underlying47 ji jz0 jz1 jz2 rfl (by decide) _ ev (by repeat (first | exact em_new _ _ _ o3 | refine em_alloc ?_)) o3 (.slice a1 S.parts[k].code.length b1) S.parts[k].code.length (codeC S.parts[k].code) ev (HPR.out.code.up (by repeat (first | exact Below.refl _ _ | assumption | refine Below.drew ?_ | refine Below.alloc ?_ o3 _ | refine Below.setCell ?_ o3 _))) (codeC_one _) (by unfold maxLen; omega) om ?_
      intro v1 w3 o1 f1 h1
      obtain ⟨a3, b3, rfl⟩ := own_form o1
      have O1 := hd o1
      have D3 : Below wr.heap.size wr w3 := Below.trans (by repeat (first | exact Below.refl _ _ | assumption | refine Below.drew ?_ | refine Below.alloc ?_ o3 _ | refine Below.setCell ?_ o3 _)) (f1.mono o3)
      have z3 := D3.size
      refine hK _ _ (fun _ => keep4 (by repeat (first | exact Below.refl _ _ | assumption | refine Below.drew ?_ | refine Below.alloc ?_ o3 _ | refine Below.setCell ?_ o3 _)) HK.out hgw hww hpw hpw) (fun hh => ?_)
      have hHeld := hh (by decide)
      clear hh hK K
      try simp only [Act.put, List.setIfInBounds_toArray, List.set_cons_zero, List.set_cons_succ]
      refine Still.all (rs := [10]) kr (by simp) (Still.one (i := 10) (o := { dst := some 31, op := Go.Op.buildSlice 33 0 #[], type := 33, pos := "conf.go:52", after := #[], guard := none }) rfl rfl (fun K hK => ?_) (by simp))
      go_simp
      refine hK _ _ (fun _ => keep4 (by repeat (first | exact Below.refl _ _ | assumption | refine Below.drew ?_ | refine Below.alloc ?_ o3 _ | refine Below.setCell ?_ o3 _)) HK.out hgw hww hpw hpw) (fun hh => ?_)
      have hHeld := hh (by decide)
      clear hh hK K
      try simp only [Act.put, List.setIfInBounds_toArray, List.set_cons_zero, List.set_cons_succ]
      refine Still.all (rs := [17]) kr (by simp) (Still.one (i := 17) (o := { dst := some 38, op := Go.Op.call { callee := Go.Callee.builtin Go.Builtin.append, args := #[Go.Operand.tmp 31, Go.Operand.tmp 37], argTypes := #[33, 33] }, type := 33, pos := "conf.go:52", after := #[{ on := 10, ground := Go.Ground.data }, { on := 16, ground := Go.Ground.data }, { on := 9, ground := Go.Ground.chain }], guard := none }) rfl rfl (fun K hK => ?_) (by simp))
      refine wp_append_lit (.tmp 31) (.tmp 37) 33 (by rfl) wr.heap.size 3 j2 _ 1 8 Tryz.underlying33 ki kz0 kz1 kz2 rfl (by decide) _ ev (by repeat (first | exact em_new _ _ _ o3 | refine em_alloc ?_ | refine em_up f1 ?_)) o3 (.slice a2 S.parts[k].inn.length b2) S.parts[k].inn.length (ints S.parts[k].inn) ev (HPR.out.inn.up (by repeat (first | exact Below.refl _ _ | assumption | refine Below.drew ?_ | refine Below.alloc ?_ o3 _ | refine Below.setCell ?_ o3 _))) (ints_cell _) (by unfold maxLen; omega) om ?_
      intro v2 w4 o2 f2 h2
      obtain ⟨a4, b4, rfl⟩ := own_form o2
      have O2 := hd o2
      have D34 : Below w3.heap.size w3 w4 := Below.trans (by repeat (first | exact Below.refl _ _ | assumption | refine Below.drew ?_ | refine Below.alloc ?_ o3 _ | refine Below.setCell ?_ o3 _)) (f2.mono o3)
      have D4 : Below wr.heap.size wr w4 := D3.trans (D34.mono D3.size)
      have z4 := D4.size
      refine hK _ _ (fun _ => keep4 (by repeat (first | exact Below.refl _ _ | assumption | refine Below.drew ?_ | refine Below.alloc ?_ o3 _ | refine Below.setCell ?_ o3 _)) HK.out hgw hww hpw hpw) (fun hh => ?_)
      have hHeld := hh (by decide)
      clear hh hK K
      try simp only [Act.put, List.setIfInBounds_toArray, List.set_cons_zero, List.set_cons_succ]
      refine Still.take (i := 18) (oi := { dst := some 39, op := Go.Op.build 49 #[(0, Go.Operand.tmp 30), (1, Go.Operand.tmp 38)], type := 49, pos := "conf.go:52", after := #[{ on := 9, ground := Go.Ground.data }, { on := 17, ground := Go.Ground.data }], guard := none }) (v := ?v15) kr rfl kr kr kr (fun _ _ _ h => h) (Or.inl ⟨by rfl, ?y15⟩) hHeld ?r15
      case y15 => (intro w' hSw; (try dsimp only at hSw); go_simp; try with_reducible rfl)
      simp only [Act.put, List.setIfInBounds_toArray, List.set_cons_zero, List.set_cons_succ]
      refine Still.all (rs := [19]) kr (by simp) (Still.one (i := 19) (o := { dst := some 40, op := Go.Op.buildSlice 22 1 #[(0, Go.Operand.tmp 39)], type := 22, pos := "conf.go:52", after := #[{ on := 18, ground := Go.Ground.data }], guard := none }) rfl rfl (fun K hK => ?_) (by simp))
      go_simp
      refine hK _ _ (fun _ => keep4 (by repeat (first | exact Below.refl _ _ | assumption | refine Below.drew ?_ | refine Below.alloc ?_ o3 _ | refine Below.setCell ?_ o3 _)) HK.out hgw hww hpw hpw) (fun hh => ?_)
      have hHeld := hh (by decide)
      clear hh hK K
      try simp only [Act.put, List.setIfInBounds_toArray, List.set_cons_zero, List.set_cons_succ]
      refine Still.all (rs := [20]) kr (by simp) (Still.one (i := 20) (o := { dst := some 41, op := Go.Op.call { callee := Go.Callee.builtin Go.Builtin.append, args := #[Go.Operand.tmp 22, Go.Operand.tmp 40], argTypes := #[22, 22] }, type := 22, pos := "conf.go:52", after := #[{ on := 1, ground := Go.Ground.data }, { on := 19, ground := Go.Ground.data }, { on := 17, ground := Go.Ground.chain }], guard := none }) rfl rfl (fun K hK => ?_) (by simp))
      refine wp_append_lies _ (.tmp 22) (.tmp 40) 22 (by rfl) W0.heap.size 49 j3 (.agg #[.slice none 0 0, .slice none 0 0]) 2 48 Tryz.underlying22 hi hz0 hz1 hz2 rfl (by decide) (.slice va k vcap) k (rowC prC l0) ev ((own_upC HROW.out D4).alloc _) ⟨w4.heap.size, 0, none⟩ 1 1 [.slice a3 S.parts[k].code.length b3, .slice a4 S.parts[k].inn.length b4] ev rfl (two_at _ _ _ _ _ rfl) (two_cell _ _ _ _ _ _) (by decide) (by unfold maxLen; omega) om o3 _ rfl ?_
      intro g' cap5 w5 hown hgrow hat hglt
      have s4 := keep4 (w' := w4.alloc (.cells #[.slice a3 S.parts[k].code.length b3, .slice a4 S.parts[k].inn.length b4] 49)) (by repeat (first | exact Below.refl _ _ | assumption | refine Below.drew ?_ | refine Below.alloc ?_ o3 _ | refine Below.setCell ?_ o3 _)) HK.out hgw hww hpw hpw
      have f0x := (hgrow.frozen_far ⟨g, 0, none⟩ so HGV.out).trans (fr_alloc _ om (bfr D4 hgw g1))
      have s5 := And.intro ((hgrow.cell_far ⟨g, 0, none⟩ so HGV.out).trans s4.1) (And.intro ((hgrow.cell_far ⟨w.heap.size, 0, none⟩ so HWV.out).trans s4.2.1) (And.intro ((hgrow.cell_far ⟨pb, po + k * 2, none⟩ so HPV.out).trans s4.2.2.1) ((hgrow.cell_far ⟨pb, po + k * 2 + 1, none⟩ so HPV.out).trans s4.2.2.2)))
      have s0x := s5.1
      have HST := hd (Bld.grow HBL.out hkl HL0.out D3 D34 O1.out O2.out (Nat.le_refl _) (Nat.le_refl _) hgrow hown (hat.imp id (fun e => by rw [e]; simp)) HT.out (Nat.le_refl _) om om)
      clear hown hgrow hat
      refine hK _ _ (fun _ => s5) (fun hh => ?_)
      have hHeld := hh (by decide)
      clear hh hK K
      try simp only [Act.put, List.setIfInBounds_toArray, List.set_cons_zero, List.set_cons_succ]
      refine Still.take (i := 21) (oi := { dst := some 42, op := Go.Op.fieldAddr 26 (Go.Operand.tmp 3) 0, type := 0, pos := "conf.go:52", after := #[{ on := 0, ground := Go.Ground.phase }, { on := 1, ground := Go.Ground.phase }, { on := 2, ground := Go.Ground.phase }, { on := 3, ground := Go.Ground.phase }, { on := 4, ground := Go.Ground.phase }, { on := 5, ground := Go.Ground.phase }, { on := 6, ground := Go.Ground.phase }, { on := 7, ground := Go.Ground.phase }, { on := 8, ground := Go.Ground.phase }, { on := 9, ground := Go.Ground.phase }, { on := 10, ground := Go.Ground.phase }, { on := 11, ground := Go.Ground.phase }, { on := 12, ground := Go.Ground.phase }, { on := 13, ground := Go.Ground.phase }, { on := 14, ground := Go.Ground.phase }, { on := 15, ground := Go.Ground.phase }, { on := 16, ground := Go.Ground.phase }, { on := 17, ground := Go.Ground.phase }, { on := 18, ground := Go.Ground.phase }, { on := 19, ground := Go.Ground.phase }, { on := 20, ground := Go.Ground.phase }], guard := none }) (v := ?v16) kr rfl kr kr kr (fun _ _ _ h => h) (Or.inl ⟨by rfl, ?y16⟩) hHeld ?r16
      case y16 => (intro w' hSw; (try dsimp only at hSw); go_simp; try with_reducible rfl)
      simp only [Act.put, List.setIfInBounds_toArray, List.set_cons_zero, List.set_cons_succ]
      refine Still.all (rs := [22]) kr (by simp) (Still.one (i := 22) (o := { dst := none, op := Go.Op.store 22 (Go.Operand.tmp 42) (Go.Operand.tmp 41), type := 0, pos := "conf.go:52", after := #[{ on := 21, ground := Go.Ground.data }, { on := 20, ground := Go.Ground.data }, { on := 20, ground := Go.Ground.chain }, { on := 0, ground := Go.Ground.phase }, { on := 1, ground := Go.Ground.phase }, { on := 2, ground := Go.Ground.phase }, { on := 3, ground := Go.Ground.phase }, { on := 4, ground := Go.Ground.phase }, { on := 5, ground := Go.Ground.phase }, { on := 6, ground := Go.Ground.phase }, { on := 7, ground := Go.Ground.phase }, { on := 8, ground := Go.Ground.phase }, { on := 9, ground := Go.Ground.phase }, { on := 10, ground := Go.Ground.phase }, { on := 11, ground := Go.Ground.phase }, { on := 12, ground := Go.Ground.phase }, { on := 13, ground := Go.Ground.phase }, { on := 14, ground := Go.Ground.phase }, { on := 15, ground := Go.Ground.phase }, { on := 16, ground := Go.Ground.phase }, { on := 17, ground := Go.Ground.phase }, { on := 18, ground := Go.Ground.phase }, { on := 19, ground := Go.Ground.phase }, { on := 20, ground := Go.Ground.phase }], guard := none }) rfl rfl (fun K hK => ?_) (by simp))
      clear s4 s5 hHeld
      go_simp
      refine hK _ _ ab (fun _ => Still.vv ?_)
      clear hK K
      go_wp2
      go_roundw
      case rel => exact ⟨k + 1, _, by go_num, by omega, by rw [HPS.out]; exact HST.out.1, HST.out.2⟩
      case measure => simp [intOf]; omega
     ·go_simp
      refine hK _ _ (fun _ => keep4 (by repeat (first | exact Below.refl _ _ | assumption | refine Below.drew ?_ | refine Below.alloc ?_ o3 _ | refine Below.setCell ?_ o3 _)) HK.out hgw hww hpw hpw) (fun hh => ?_)
      have hHeld := hh (by decide)
      clear hh hK K
      try simp only [Act.put, List.setIfInBounds_toArray, List.set_cons_zero, List.set_cons_succ]
      refine Still.all (rs := [9]) kr (by simp) (Still.one (i := 9) (o := { dst := some 30, op := Go.Op.call { callee := Go.Callee.builtin Go.Builtin.append, args := #[Go.Operand.tmp 23, Go.Operand.tmp 29], argTypes := #[47, 47] }, type := 47, pos := "conf.go:52", after := #[{ on := 2, ground := Go.Ground.data }, { on := 8, ground := Go.Ground.data }], guard := none }) rfl rfl (fun K hK => ?_) (by simp))
      refine wp_append_lit (.tmp 23) (.tmp 29) 47 (by rfl) wr.heap.size 83 j1 _ 4 32 Tryz.underlying47 ji jz0 jz1 jz2 rfl (by decide) _ ev (by repeat (first | exact em_new _ _ _ o3 | refine em_alloc ?_)) o3 (.slice a1 S.parts[k].code.length b1) S.parts[k].code.length (codeC S.parts[k].code) ev (HPR.out.code.up (by repeat (first | exact Below.refl _ _ | assumption | refine Below.drew ?_ | refine Below.alloc ?_ o3 _ | refine Below.setCell ?_ o3 _))) (codeC_one _) (by unfold maxLen; omega) om ?_
      intro v1 w3 o1 f1 h1
      obtain ⟨a3, b3, rfl⟩ := own_form o1
      have O1 := hd o1
      have D3 : Below wr.heap.size wr w3 := Below.trans (by repeat (first | exact Below.refl _ _ | assumption | refine Below.drew ?_ | refine Below.alloc ?_ o3 _ | refine Below.setCell ?_ o3 _)) (f1.mono o3)
      have z3 := D3.size
      refine hK _ _ (fun _ => keep4 (by repeat (first | exact Below.refl _ _ | assumption | refine Below.drew ?_ | refine Below.alloc ?_ o3 _ | refine Below.setCell ?_ o3 _)) HK.out hgw hww hpw hpw) (fun hh => ?_)
      have hHeld := hh (by decide)
      clear hh hK K
      try simp only [Act.put, List.setIfInBounds_toArray, List.set_cons_zero, List.set_cons_succ]
      refine Still.all (rs := [17]) kr (by simp) (Still.one (i := 17) (o := { dst := some 38, op := Go.Op.call { callee := Go.Callee.builtin Go.Builtin.append, args := #[Go.Operand.tmp 31, Go.Operand.tmp 37], argTypes := #[33, 33] }, type := 33, pos := "conf.go:52", after := #[{ on := 10, ground := Go.Ground.data }, { on := 16, ground := Go.Ground.data }, { on := 9, ground := Go.Ground.chain }], guard := none }) rfl rfl (fun K hK => ?_) (by simp))
      refine wp_append_lit (.tmp 31) (.tmp 37) 33 (by rfl) wr.heap.size 3 j2 _ 1 8 Tryz.underlying33 ki kz0 kz1 kz2 rfl (by decide) _ ev (by repeat (first | exact em_new _ _ _ o3 | refine em_alloc ?_ | refine em_up f1 ?_)) o3 (.slice a2 S.parts[k].inn.length b2) S.parts[k].inn.length (ints S.parts[k].inn) ev (HPR.out.inn.up (by repeat (first | exact Below.refl _ _ | assumption | refine Below.drew ?_ | refine Below.alloc ?_ o3 _ | refine Below.setCell ?_ o3 _))) (ints_cell _) (by unfold maxLen; omega) om ?_
      intro v2 w4 o2 f2 h2
      obtain ⟨a4, b4, rfl⟩ := own_form o2
      have O2 := hd o2
      have D34 : Below w3.heap.size w3 w4 := Below.trans (by repeat (first | exact Below.refl _ _ | assumption | refine Below.drew ?_ | refine Below.alloc ?_ o3 _ | refine Below.setCell ?_ o3 _)) (f2.mono o3)
      have D4 : Below wr.heap.size wr w4 := D3.trans (D34.mono D3.size)
      have z4 := D4.size
      refine hK _ _ (fun _ => keep4 (by repeat (first | exact Below.refl _ _ | assumption | refine Below.drew ?_ | refine Below.alloc ?_ o3 _ | refine Below.setCell ?_ o3 _)) HK.out hgw hww hpw hpw) (fun hh => ?_)
      have hHeld := hh (by decide)
      clear hh hK K
      try simp only [Act.put, List.setIfInBounds_toArray, List.set_cons_zero, List.set_cons_succ]
      refine Still.take (i := 18) (oi := { dst := some 39, op := Go.Op.build 49 #[(0, Go.Operand.tmp 30), (1, Go.Operand.tmp 38)], type := 49, pos := "conf.go:52", after := #[{ on := 9, ground := Go.Ground.data }, { on := 17, ground := Go.Ground.data }], guard := none }) (v := ?v17) kr rfl kr kr kr (fun _ _ _ h => h) (Or.inl ⟨by rfl, ?y17⟩) hHeld ?r17
      case y17 => (intro w' hSw; (try dsimp only at hSw); go_simp; try with_reducible rfl)
      simp only [Act.put, List.setIfInBounds_toArray, List.set_cons_zero, List.set_cons_succ]
      refine Still.all (rs := [19]) kr (by simp) (Still.one (i := 19) (o := { dst := some 40, op := Go.Op.buildSlice 22 1 #[(0, Go.Operand.tmp 39)], type := 22, pos := "conf.go:52", after := #[{ on := 18, ground := Go.Ground.data }], guard := none }) rfl rfl (fun K hK => ?_) (by simp))
      go_simp
      refine hK _ _ (fun _ => keep4 (by repeat (first | exact Below.refl _ _ | assumption | refine Below.drew ?_ | refine Below.alloc ?_ o3 _ | refine Below.setCell ?_ o3 _)) HK.out hgw hww hpw hpw) (fun hh => ?_)
      have hHeld := hh (by decide)
      clear hh hK K
      try simp only [Act.put, List.setIfInBounds_toArray, List.set_cons_zero, List.set_cons_succ]
      refine Still.all (rs := [20]) kr (by simp) (Still.one (i := 20) (o := { dst := some 41, op := Go.Op.call { callee := Go.Callee.builtin Go.Builtin.append, args := #[Go.Operand.tmp 22, Go.Operand.tmp 40], argTypes := #[22, 22] }, type := 22, pos := "conf.go:52", after := #[{ on := 1, ground := Go.Ground.data }, { on := 19, ground := Go.Ground.data }, { on := 17, ground := Go.Ground.chain }], guard := none }) rfl rfl (fun K hK => ?_) (by simp))
      refine wp_append_lies _ (.tmp 22) (.tmp 40) 22 (by rfl) W0.heap.size 49 j3 (.agg #[.slice none 0 0, .slice none 0 0]) 2 48 Tryz.underlying22 hi hz0 hz1 hz2 rfl (by decide) (.slice va k vcap) k (rowC prC l0) ev ((own_upC HROW.out D4).alloc _) ⟨w4.heap.size, 0, none⟩ 1 1 [.slice a3 S.parts[k].code.length b3, .slice a4 S.parts[k].inn.length b4] ev rfl (two_at _ _ _ _ _ rfl) (two_cell _ _ _ _ _ _) (by decide) (by unfold maxLen; omega) om o3 _ rfl ?_
      intro g' cap5 w5 hown hgrow hat hglt
      have s4 := keep4 (w' := w4.alloc (.cells #[.slice a3 S.parts[k].code.length b3, .slice a4 S.parts[k].inn.length b4] 49)) (by repeat (first | exact Below.refl _ _ | assumption | refine Below.drew ?_ | refine Below.alloc ?_ o3 _ | refine Below.setCell ?_ o3 _)) HK.out hgw hww hpw hpw
      have f0x := (hgrow.frozen_far ⟨g, 0, none⟩ so HGV.out).trans (fr_alloc _ om (bfr D4 hgw g1))
      have s5 := And.intro ((hgrow.cell_far ⟨g, 0, none⟩ so HGV.out).trans s4.1) (And.intro ((hgrow.cell_far ⟨w.heap.size, 0, none⟩ so HWV.out).trans s4.2.1) (And.intro ((hgrow.cell_far ⟨pb, po + k * 2, none⟩ so HPV.out).trans s4.2.2.1) ((hgrow.cell_far ⟨pb, po + k * 2 + 1, none⟩ so HPV.out).trans s4.2.2.2)))
      have s0x := s5.1
      have HST := hd (Bld.grow HBL.out hkl HL0.out D3 D34 O1.out O2.out (Nat.le_refl _) (Nat.le_refl _) hgrow hown (hat.imp id (fun e => by rw [e]; simp)) HT.out (Nat.le_refl _) om om)
      clear hown hgrow hat
      refine hK _ _ (fun _ => s5) (fun hh => ?_)
      have hHeld := hh (by decide)
      clear hh hK K
      try simp only [Act.put, List.setIfInBounds_toArray, List.set_cons_zero, List.set_cons_succ]
      refine Still.take (i := 21) (oi := { dst := some 42, op := Go.Op.fieldAddr 26 (Go.Operand.tmp 3) 0, type := 0, pos := "conf.go:52", after := #[{ on := 0, ground := Go.Ground.phase }, { on := 1, ground := Go.Ground.phase }, { on := 2, ground := Go.Ground.phase }, { on := 3, ground := Go.Ground.phase }, { on := 4, ground := Go.Ground.phase }, { on := 5, ground := Go.Ground.phase }, { on := 6, ground := Go.Ground.phase }, { on := 7, ground := Go.Ground.phase }, { on := 8, ground := Go.Ground.phase }, { on := 9, ground := Go.Ground.phase }, { on := 10, ground := Go.Ground.phase }, { on := 11, ground := Go.Ground.phase }, { on := 12, ground := Go.Ground.phase }, { on := 13, ground := Go.Ground.phase }, { on := 14, ground := Go.Ground.phase }, { on := 15, ground := Go.Ground.phase }, { on := 16, ground := Go.Ground.phase }, { on := 17, ground := Go.Ground.phase }, { on := 18, ground := Go.Ground.phase }, { on := 19, ground := Go.Ground.phase }, { on := 20, ground := Go.Ground.phase }], guard := none }) (v := ?v18) kr rfl kr kr kr (fun _ _ _ h => h) (Or.inl ⟨by rfl, ?y18⟩) hHeld ?r18
      case y18 => (intro w' hSw; (try dsimp only at hSw); go_simp; try with_reducible rfl)
      simp only [Act.put, List.setIfInBounds_toArray, List.set_cons_zero, List.set_cons_succ]
      refine Still.all (rs := [22]) kr (by simp) (Still.one (i := 22) (o := { dst := none, op := Go.Op.store 22 (Go.Operand.tmp 42) (Go.Operand.tmp 41), type := 0, pos := "conf.go:52", after := #[{ on := 21, ground := Go.Ground.data }, { on := 20, ground := Go.Ground.data }, { on := 20, ground := Go.Ground.chain }, { on := 0, ground := Go.Ground.phase }, { on := 1, ground := Go.Ground.phase }, { on := 2, ground := Go.Ground.phase }, { on := 3, ground := Go.Ground.phase }, { on := 4, ground := Go.Ground.phase }, { on := 5, ground := Go.Ground.phase }, { on := 6, ground := Go.Ground.phase }, { on := 7, ground := Go.Ground.phase }, { on := 8, ground := Go.Ground.phase }, { on := 9, ground := Go.Ground.phase }, { on := 10, ground := Go.Ground.phase }, { on := 11, ground := Go.Ground.phase }, { on := 12, ground := Go.Ground.phase }, { on := 13, ground := Go.Ground.phase }, { on := 14, ground := Go.Ground.phase }, { on := 15, ground := Go.Ground.phase }, { on := 16, ground := Go.Ground.phase }, { on := 17, ground := Go.Ground.phase }, { on := 18, ground := Go.Ground.phase }, { on := 19, ground := Go.Ground.phase }, { on := 20, ground := Go.Ground.phase }], guard := none }) rfl rfl (fun K hK => ?_) (by simp))
      clear s4 s5 hHeld
      go_simp
      refine hK _ _ ab (fun _ => Still.vv ?_)
      clear hK K
      go_wp2
      go_roundw
      case rel => exact ⟨k + 1, _, by go_num, by omega, by rw [HPS.out]; exact HST.out.1, HST.out.2⟩
      case measure => simp [intOf]; omega
    ·go_simp
     refine hK _ _ (fun _ => keep4 (by repeat (first | exact Below.refl _ _ | assumption | refine Below.drew ?_ | refine Below.alloc ?_ o3 _ | refine Below.setCell ?_ o3 _)) HK.out hgw hww hpw hpw) (fun hh => ?_)
     have hHeld := hh (by decide)
     clear hh hK K
     try simp only [Act.put, List.setIfInBounds_toArray, List.set_cons_zero, List.set_cons_succ]
     refine Still.all (rs := [2]) kr (by simp) (Still.one (i := 2) (o := { dst := some 23, op := Go.Op.buildSlice 47 0 #[], type := 47, pos := "conf.go:52", after := #[], guard := none }) rfl rfl (fun K hK => ?_) (by simp))
     go_simp
     refine hK _ _ (fun _ => keep4 (by repeat (first | exact Below.refl _ _ | assumption | refine Below.drew ?_ | refine Below.alloc ?_ o3 _ | refine Below.setCell ?_ o3 _)) HK.out hgw hww hpw hpw) (fun hh => ?_)
     have hHeld := hh (by decide)
     clear hh hK K
     try simp only [Act.put, List.setIfInBounds_toArray, List.set_cons_zero, List.set_cons_succ]
     refine Still.all (rs := [9]) kr (by simp) (Still.one (i := 9) (o := { dst := some 30, op := Go.Op.call { callee := Go.Callee.builtin Go.Builtin.append, args := #[Go.Operand.tmp 23, Go.Operand.tmp 29], argTypes := #[47, 47] }, type := 47, pos := "conf.go:52", after := #[{ on := 2, ground := Go.Ground.data }, { on := 8, ground := Go.Ground.data }], guard := none }) rfl rfl (fun K hK => ?_) (by simp))
     refine wp_append_lit (.tmp 23) (.tmp 29) 47 (by rfl) wr.heap.size 83 j1 _ 4 32 Tryz.underlying47 ji jz0 jz1 jz2 rfl (by decide) _ ev (by repeat (first | exact em_new _ _ _ o3 | refine em_alloc ?_)) o3 (.slice a1 S.parts[k].code.length b1) S.parts[k].code.length (codeC S.parts[k].code) ev (HPR.out.code.up (by repeat (first | exact Below.refl _ _ | assumption | refine Below.drew ?_ | refine Below.alloc ?_ o3 _ | refine Below.setCell ?_ o3 _))) (codeC_one _) (by unfold maxLen; omega) om ?_
     intro v1 w3 o1 f1 h1
     obtain ⟨a3, b3, rfl⟩ := own_form o1
     have O1 := hd o1
     have D3 : Below wr.heap.size wr w3 := Below.trans (by repeat (first | exact Below.refl _ _ | assumption | refine Below.drew ?_ | refine Below.alloc ?_ o3 _ | refine Below.setCell ?_ o3 _)) (f1.mono o3)
     have z3 := D3.size
     refine hK _ _ (fun _ => keep4 (by repeat (first | exact Below.refl _ _ | assumption | refine Below.drew ?_ | refine Below.alloc ?_ o3 _ | refine Below.setCell ?_ o3 _)) HK.out hgw hww hpw hpw) (fun hh => ?_)
     have hHeld := hh (by decide)
     clear hh hK K
     try simp only [Act.put, List.setIfInBounds_toArray, List.set_cons_zero, List.set_cons_succ]
     refine Still.all (rs := [17]) kr (by simp) (Still.one (i := 17) (o := { dst := some 38, op := Go.Op.call { callee := Go.Callee.builtin Go.Builtin.append, args := #[Go.Operand.tmp 31, Go.Operand.tmp 37], argTypes := #[33, 33] }, type := 33, pos := "conf.go:52", after := #[{ on := 10, ground := Go.Ground.data }, { on := 16, ground := Go.Ground.data }, { on := 9, ground := Go.Ground.chain }], guard := none }) rfl rfl (fun K hK => ?_) (by simp))
     refine wp_append_lit (.tmp 31) (.tmp 37) 33 (by rfl) wr.heap.size 3 j2 _ 1 8 Tryz.underlying33 ki kz0 kz1 kz2 rfl (by decide) _ ev (by repeat (first | exact em_new _ _ _ o3 | refine em_alloc ?_ | refine em_up f1 ?_)) o3 (.slice a2 S.parts[k].inn.length b2) S.parts[k].inn.length (ints S.parts[k].inn) ev (HPR.out.inn.up (by repeat (first | exact Below.refl _ _ | assumption | refine Below.drew ?_ | refine Below.alloc ?_ o3 _ | refine Below.setCell ?_ o3 _))) (ints_cell _) (by unfold maxLen; omega) om ?_
     intro v2 w4 o2 f2 h2
     obtain ⟨a4, b4, rfl⟩ := own_form o2
     have O2 := hd o2
     have D34 : Below w3.heap.size w3 w4 := Below.trans (by repeat (first | exact Below.refl _ _ | assumption | refine Below.drew ?_ | refine Below.alloc ?_ o3 _ | refine Below.setCell ?_ o3 _)) (f2.mono o3)
     have D4 : Below wr.heap.size wr w4 := D3.trans (D34.mono D3.size)
     have z4 := D4.size
     refine hK _ _ (fun _ => keep4 (by repeat (first | exact Below.refl _ _ | assumption | refine Below.drew ?_ | refine Below.alloc ?_ o3 _ | refine Below.setCell ?_ o3 _)) HK.out hgw hww hpw hpw) (fun hh => ?_)
     have hHeld := hh (by decide)
     clear hh hK K
     try simp only [Act.put, List.setIfInBounds_toArray, List.set_cons_zero, List.set_cons_succ]
     refine Still.take (i := 18) (oi := { dst := some 39, op := Go.Op.build 49 #[(0, Go.Operand.tmp 30), (1, Go.Operand.tmp 38)], type := 49, pos := "conf.go:52", after := #[{ on := 9, ground := Go.Ground.data }, { on := 17, ground := Go.Ground.data }], guard := none }) (v := ?v19) kr rfl kr kr kr (fun _ _ _ h => h) (Or.inl ⟨by rfl, ?y19⟩) hHeld ?r19
     case y19 => (intro w' hSw; (try dsimp only at hSw); go_simp; try with_reducible rfl)
     simp only [Act.put, List.setIfInBounds_toArray, List.set_cons_zero, List.set_cons_succ]
     refine Still.all (rs := [19]) kr (by simp) (Still.one (i := 19) (o := { dst := some 40, op := Go.Op.buildSlice 22 1 #[(0, Go.Operand.tmp 39)], type := 22, pos := "conf.go:52", after := #[{ on := 18, ground := Go.Ground.data }], guard := none }) rfl rfl (fun K hK => ?_) (by simp))
     go_simp
     refine hK _ _ (fun _ => keep4 (by repeat (first | exact Below.refl _ _ | assumption | refine Below.drew ?_ | refine Below.alloc ?_ o3 _ | refine Below.setCell ?_ o3 _)) HK.out hgw hww hpw hpw) (fun hh => ?_)
     have hHeld := hh (by decide)
     clear hh hK K
     try simp only [Act.put, List.setIfInBounds_toArray, List.set_cons_zero, List.set_cons_succ]
     refine Still.all (rs := [20]) kr (by simp) (Still.one (i := 20) (o := { dst := some 41, op := Go.Op.call { callee := Go.Callee.builtin Go.Builtin.append, args := #[Go.Operand.tmp 22, Go.Operand.tmp 40], argTypes := #[22, 22] }, type := 22, pos := "conf.go:52", after := #[{ on := 1, ground := Go.Ground.data }, { on := 19, ground := Go.Ground.data }, { on := 17, ground := Go.Ground.chain }], guard := none }) rfl rfl (fun K hK => ?_) (by simp))
     refine wp_append_lies _ (.tmp 22) (.tmp 40) 22 (by rfl) W0.heap.size 49 j3 (.agg #[.slice none 0 0, .slice none 0 0]) 2 48 Tryz.underlying22 hi hz0 hz1 hz2 rfl (by decide) (.slice va k vcap) k (rowC prC l0) ev ((own_upC HROW.out D4).alloc _) ⟨w4.heap.size, 0, none⟩ 1 1 [.slice a3 S.parts[k].code.length b3, .slice a4 S.parts[k].inn.length b4] ev rfl (two_at _ _ _ _ _ rfl) (two_cell _ _ _ _ _ _) (by decide) (by unfold maxLen; omega) om o3 _ rfl ?_
     intro g' cap5 w5 hown hgrow hat hglt
     have s4 := keep4 (w' := w4.alloc (.cells #[.slice a3 S.parts[k].code.length b3, .slice a4 S.parts[k].inn.length b4] 49)) (by repeat (first | exact Below.refl _ _ | assumption | refine Below.drew ?_ | refine Below.alloc ?_ o3 _ | refine Below.setCell ?_ o3 _)) HK.out hgw hww hpw hpw
     have f0x := (hgrow.frozen_far ⟨g, 0, none⟩ so HGV.out).trans (fr_alloc _ om (bfr D4 hgw g1))
     have s5 := And.intro ((hgrow.cell_far ⟨g, 0, none⟩ so HGV.out).trans s4.1) (And.intro ((hgrow.cell_far ⟨w.heap.size, 0, none⟩ so HWV.out).trans s4.2.1) (And.intro ((hgrow.cell_far ⟨pb, po + k * 2, none⟩ so HPV.out).trans s4.2.2.1) ((hgrow.cell_far ⟨pb, po + k * 2 + 1, none⟩ so HPV.out).trans s4.2.2.2)))
     have s0x := s5.1
     have HST := hd (Bld.grow HBL.out hkl HL0.out D3 D34 O1.out O2.out (Nat.le_refl _) (Nat.le_refl _) hgrow hown (hat.imp id (fun e => by rw [e]; simp)) HT.out (Nat.le_refl _) om om)
     clear hown hgrow hat
     refine hK _ _ (fun _ => s5) (fun hh => ?_)
     have hHeld := hh (by decide)
     clear hh hK K
     try simp only [Act.put, List.setIfInBounds_toArray, List.set_cons_zero, List.set_cons_succ]
     refine Still.take (i := 21) (oi := { dst := some 42, op := Go.Op.fieldAddr 26 (Go.Operand.tmp 3) 0, type := 0, pos := "conf.go:52", after := #[{ on := 0, ground := Go.Ground.phase }, { on := 1, ground := Go.Ground.phase }, { on := 2, ground := Go.Ground.phase }, { on := 3, ground := Go.Ground.phase }, { on := 4, ground := Go.Ground.phase }, { on := 5, ground := Go.Ground.phase }, { on := 6, ground := Go.Ground.phase }, { on := 7, ground := Go.Ground.phase }, { on := 8, ground := Go.Ground.phase }, { on := 9, ground := Go.Ground.phase }, { on := 10, ground := Go.Ground.phase }, { on := 11, ground := Go.Ground.phase }, { on := 12, ground := Go.Ground.phase }, { on := 13, ground := Go.Ground.phase }, { on := 14, ground := Go.Ground.phase }, { on := 15, ground := Go.Ground.phase }, { on := 16, ground := Go.Ground.phase }, { on := 17, ground := Go.Ground.phase }, { on := 18, ground := Go.Ground.phase }, { on := 19, ground := Go.Ground.phase }, { on := 20, ground := Go.Ground.phase }], guard := none }) (v := ?v20) kr rfl kr kr kr (fun _ _ _ h => h) (Or.inl ⟨by rfl, ?y20⟩) hHeld ?r20
     case y20 => (intro w' hSw; (try dsimp only at hSw); go_simp; try with_reducible rfl)
     simp only [Act.put, List.setIfInBounds_toArray, List.set_cons_zero, List.set_cons_succ]
     refine Still.all (rs := [22]) kr (by simp) (Still.one (i := 22) (o := { dst := none, op := Go.Op.store 22 (Go.Operand.tmp 42) (Go.Operand.tmp 41), type := 0, pos := "conf.go:52", after := #[{ on := 21, ground := Go.Ground.data }, { on := 20, ground := Go.Ground.data }, { on := 20, ground := Go.Ground.chain }, { on := 0, ground := Go.Ground.phase }, { on := 1, ground := Go.Ground.phase }, { on := 2, ground := Go.Ground.phase }, { on := 3, ground := Go.Ground.phase }, { on := 4, ground := Go.Ground.phase }, { on := 5, ground := Go.Ground.phase }, { on := 6, ground := Go.Ground.phase }, { on := 7, ground := Go.Ground.phase }, { on := 8, ground := Go.Ground.phase }, { on := 9, ground := Go.Ground.phase }, { on := 10, ground := Go.Ground.phase }, { on := 11, ground := Go.Ground.phase }, { on := 12, ground := Go.Ground.phase }, { on := 13, ground := Go.Ground.phase }, { on := 14, ground := Go.Ground.phase }, { on := 15, ground := Go.Ground.phase }, { on := 16, ground := Go.Ground.phase }, { on := 17, ground := Go.Ground.phase }, { on := 18, ground := Go.Ground.phase }, { on := 19, ground := Go.Ground.phase }, { on := 20, ground := Go.Ground.phase }], guard := none }) rfl rfl (fun K hK => ?_) (by simp))
     clear s4 s5 hHeld
     go_simp
     refine hK _ _ ab (fun _ => Still.vv ?_)
     clear hK K
     go_wp2
     go_roundw
     case rel => exact ⟨k + 1, _, by go_num, by omega, by rw [HPS.out]; exact HST.out.1, HST.out.2⟩
     case measure => simp [intOf]; omega
   ·have hli : ¬ (k : Int) < S.parts.length := by omega
    obtain rfl : k = S.parts.length := by omega
    have HBD : Hid (Bld (w.heap.size + 2) W0.heap.size wr g (.slice va S.parts.length vcap) (.slice xca S.chans.length xcc) (.slice xsa S.slots.length xsc) S.parts S.chans S.slots) := by
     have h := HBL.out
     rw [List.take_length] at h
     exact h
    have v0 := bcl HT.out om HV.out.x
    have v1 := bcl HT.out om HV.out.y
    have v2 := bcl HT.out om HV.out.z
    have y0 := bfr HT.out om HV.out.fx
    have y1 := bfr HT.out om HV.out.fy
    have y2 := bfr HT.out om HV.out.fz
    have g0 := HBL.out.cp
    have g1 := HBL.out.cc
    have g2 := HBL.out.ct
    have hwr : w.heap.size + 1 < wr.heap.size := by omega
    have V3 := (Var3.mk v0 v1 v2 y0 y1 y2 hwr).sets (a' := .slice va S.parts.length vcap) (b' := .slice xca S.chans.length xcc) (c' := .slice xsa S.slots.length xsc)
    have t0 := V3.x
    have t1 := V3.y
    have t2 := V3.z
    clear V3
    go_wp2
    refine bodyPost_ret (v := .agg #[.slice va S.parts.length vcap, .slice xca S.chans.length xcc, .slice xsa S.slots.length xsc]) (by simp [results, Tryz.f25, go_sem, t0, t1, t2]) rfl ⟨_, _, _, rfl, ⟨_, _, ((HBD.out.set om _).set om _).set om _⟩, ?_⟩
    exact ((HD.out.setCell (by simp) _).setCell (by simp) _).setCell (by simp) _
end Go.Proofs.YtehhhiodfcdnmaaGreatDoor
