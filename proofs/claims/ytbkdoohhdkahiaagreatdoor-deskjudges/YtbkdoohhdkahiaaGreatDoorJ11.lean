/- The reference's CheckPolicy. -/
import Derived.Test.YtbkdoohhdkahiaaGreatDoorJ10
import Derived.Test.YtbkdoohhdkahiaaGreatDoorJ5
import Derived.Test.YtbkdoohhdkahiaaGreatDoorJ0
import Derived.Lib.ConvBytes
namespace Go.Proofs.YtbkdoohhdkahiaaGreatDoor
set_option linter.unusedSimpArgs false
set_option linter.unusedVariables false
set_option maxRecDepth 100000
set_option maxHeartbeats 8000000
open Go.RowKit Go.Sort Go.Shelf Go.Lib Go.Maps
variable {S : SysD} {L : List Edg} {fn : Func} {w w' : World} {g : Nat}
theorem xa5 : xav 21 := xa8 Tryz.func21 kr kr
theorem xgr : xav 30 := xa8 Tryz.func30 kr kr
theorem xj0 (h0 : xb3 S = 0) (h : xsy S.parts.length L = false) : xiq S L = 1 := by unfold xiq; rw [if_pos h0, h]; rfl
theorem xky (h0 : xb3 S = 0) (h : xsy S.parts.length L = true) : xiq S L = 0 := by unfold xiq; rw [if_pos h0, h]; rfl
theorem x1n (h0 : xb3 S ≠ 0) : xiq S L = xb3 S := by unfold xiq; rw [if_neg h0]
theorem xkg (S : SysD) (hok : S.ok) (L : List Edg) (vp vc vs vL : Value) (w : World) (hS : Sys w vp vc vs S) (hL : Sl w 2 vL L.length (xbe Edg.cells L)) :
  Calls Tryz.prog 20 #[.agg #[vp, vc, vs], .agg #[vL]] w fun e w' => e = .returned (.int .i64 (xiq S L)) /\ Below w.heap.size w w' := by
 generalize hc : xiq S L = c
 have HC := hd hc
 obtain ⟨pa, pc, rfl⟩ := hS.p.form
 obtain ⟨ca, cc, rfl⟩ := hS.c.form
 obtain ⟨sa, sc, rfl⟩ := hS.s.form
 obtain ⟨la, lc, rfl⟩ := hL.form
 generalize hr : xb3 S = r
 have HS := hd hS
 have HR := hd hr
 have HL := hd hL
 clear hS hr hL hc
 go_enter Tryz.func20, Tryz.ntmps20
 go_wp2_with fail
 refine (xm3 S hok _ _ _ _ (HS.out.up up0)).mono ?_
 rw [HR.out]
 rintro e w1 ⟨rfl, bb⟩
 have HB := hd (((xci w (.slice pa S.parts.length pc) (.slice ca S.chans.length cc) (.slice sa S.slots.length sc) 39 _ rfl).up ((Below.refl _ _).alloc (Nat.le_refl _) (.cells #[.slice la L.length lc] 27))).up bb)
 have k1 : w1.cell? ⟨w.heap.size + 1, 0, none⟩ = some (.slice la L.length lc) := bcl bb (by simp) (by simp)
 have hw1 : w.heap.size + 1 < w1.heap.size := by have := bb.size; simp at this; omega
 have D := hd (Below.trans (show Below w.heap.size w _ from up0) (bb.mono so))
 clear bb
 by_cases h0 : r = 0
 .subst h0
  have hn := (xgv HR.out).1
  have k0 := HB.out.p
  go_wp2
  clear k0
  go_loopw [7] (fun i wr => ∃ k : Nat, i = .int .i64 k /\ k <= L.length /\ Hid (xio S.parts.length L k) /\ wr.cell? ⟨w.heap.size + 1, 0, none⟩ = some (.slice la L.length lc) /\ w.heap.size + 1 < wr.heap.size /\ Hid (Below w.heap.size w wr)) (fun i _ => L.length - (intOf i).toNat)
  case atStart => exact ⟨0, rfl, Nat.zero_le _, hd (xm1 _ _), k1, hw1, D⟩
  case round =>
   clear k1 hw1 HB
   obtain ⟨k, rfl, hk, HP, hb1, hws, HT⟩ := hrel
   by_cases hlt : k < L.length
   .have hli : (k : Int) < L.length := by omega
    have hk16 := xhq hn HP.out hk
    obtain ⟨pb, po, pc', e1, hpc, hpb, hpx⟩ := (HL.out.up HT.out).open om
    cases e1
    obtain ⟨c0, c1⟩ := xbq hpx k hlt
    have HB1 := hd (xmi (n := S.parts.length) hlt)
    have HB2 := hd (xmy (n := S.parts.length) hlt)
    have HST := hd (fun h1 h2 => xmu HP.out hlt h1 h2)
    have HPX := hd hpx
    clear hpx
    generalize L[k] = ed at c0 c1 HB1 HB2 HST
    obtain ⟨ef, et⟩ := ed
    simp only at c0 c1
    unfold x5i at HB1 HST
    simp only at HB1 HST
    cases hA : xaf ef 0 ((S.parts.length : Int) - 1) with
    | false =>
     have HBAD := hd (HC.out.symm.trans (xj0 HR.out (HB1.out (by rw [hA]; simp))))
     clear HB1 HB2 HST
     go_upto_region 9 with fail
     have HX : Hid (Below wr.heap.size wr (wr.alloc (.cells #[.int .i64 ef, .int .i64 et] 53))) := hd ((Below.refl _ _).alloc (Nat.le_refl _) _)
     have x0 : (wr.alloc (.cells #[.int .i64 ef, .int .i64 et] 53)).cell? ⟨wr.heap.size, 0, none⟩ = some (.int .i64 ef) := by simp
     have x1 : (wr.alloc (.cells #[.int .i64 ef, .int .i64 et] 53)).cell? ⟨wr.heap.size, 1, none⟩ = some (.int .i64 et) := by simp
     have hxs : wr.heap.size < (wr.alloc (.cells #[.int .i64 ef, .int .i64 et] 53)).heap.size := by simp
     have y0 := bcl HX.out om hb1
     generalize wr.alloc (.cells #[.int .i64 ef, .int .i64 et] 53) = X at HX x0 x1 hxs y0 ⊢
     refine xad (S := fun w' => w'.cell? ⟨wr.heap.size, 0, none⟩ = some (.int .i64 ef) /\ w'.cell? ⟨wr.heap.size, 1, none⟩ = some (.int .i64 et) /\ w'.cell? ⟨w.heap.size + 1, 0, none⟩ = some (.slice (some ⟨pb, po, none⟩) L.length lc)) 33 kr ⟨x0, x1, y0⟩ (fun hHeld => ?_)
     refine Still.t 0 [19, 12, 11, 5, 3, 1] hHeld ?_
     refine Still.t 1 [19, 12, 11, 5, 3] hHeld ?_
     refine Still.t 2 [19, 12, 11, 5, 3] hHeld ?_
     refine Still.o 3 rfl rfl (fun K hK => ?_)
     refine xap 21 _ _ rfl xa5 #[.int .i64 ef, .int .i64 0, .int .i64 ((S.parts.length : Int) - 1)] (by first | rfl | simp [Act.eval, Act.put, Edg.v]) ((xao _ _ _ _).mono ?_)
     rintro e V ⟨rfl, rfl⟩
     refine ⟨_, rfl, hK _ _ (fun _ => hHeld) (fun hh => ?_)⟩
     clear hK K hh
     try simp only [Act.put, l1, l2, l3, l4, l5, l6]
     rw [hA]
     refine Still.t 4 [19, 12, 11, 5] hHeld ?_
     refine Still.t 5 [19, 12, 11] hHeld ?_
     refine Still.y 6 [19, 12, 9, 7] rfl (Or.inr ⟨by rfl, rfl⟩) hHeld ?_
     refine Still.y 7 [19, 12, 9] rfl (Or.inr ⟨by rfl, rfl⟩) hHeld ?_
     refine Still.y 8 [19, 12, 9] rfl (Or.inr ⟨by rfl, rfl⟩) hHeld ?_
     refine Still.y 9 [19, 12] rfl (Or.inr ⟨by rfl, rfl⟩) hHeld ?_
     refine Still.y 10 [19, 12, 11] rfl (Or.inr ⟨by rfl, rfl⟩) hHeld ?_
     refine Still.t 11 [19, 12] hHeld ?_
     refine Still.t 12 [19] hHeld ?_
     refine Still.y 13 [19, 18, 17, 14] rfl (Or.inr ⟨by rfl, rfl⟩) hHeld ?_
     refine Still.y 14 [19, 18, 17] rfl (Or.inr ⟨by rfl, rfl⟩) hHeld ?_
     refine Still.y 15 [19, 18, 17, 16] rfl (Or.inr ⟨by rfl, rfl⟩) hHeld ?_
     refine Still.y 16 [19, 18, 17] rfl (Or.inr ⟨by rfl, rfl⟩) hHeld ?_
     refine Still.y 17 [19, 18] rfl (Or.inr ⟨by rfl, rfl⟩) hHeld ?_
     refine Still.t 18 [19] hHeld ?_
     refine Still.t 19 [] hHeld ?_
     refine Still.y 20 [32, 22, 21] rfl (Or.inr ⟨by rfl, rfl⟩) hHeld ?_
     refine Still.y 21 [32, 22] rfl (Or.inr ⟨by rfl, rfl⟩) hHeld ?_
     refine Still.y 22 [32] rfl (Or.inr ⟨by rfl, rfl⟩) hHeld ?_
     refine Still.y 23 [32, 31, 30] rfl (Or.inr ⟨by rfl, rfl⟩) hHeld ?_
     refine Still.y 24 [32, 31, 30, 29, 28, 25] rfl (Or.inr ⟨by rfl, rfl⟩) hHeld ?_
     refine Still.y 25 [32, 31, 30, 29, 28] rfl (Or.inr ⟨by rfl, rfl⟩) hHeld ?_
     refine Still.y 26 [32, 31, 30, 29, 28, 27] rfl (Or.inr ⟨by rfl, rfl⟩) hHeld ?_
     refine Still.y 27 [32, 31, 30, 29, 28] rfl (Or.inr ⟨by rfl, rfl⟩) hHeld ?_
     refine Still.y 28 [32, 31, 30, 29] rfl (Or.inr ⟨by rfl, rfl⟩) hHeld ?_
     refine Still.y 29 [32, 31, 30] rfl (Or.inr ⟨by rfl, rfl⟩) hHeld ?_
     refine Still.y 30 [32, 31] rfl (Or.inr ⟨by rfl, rfl⟩) hHeld ?_
     refine Still.y 31 [32] rfl (Or.inr ⟨by rfl, rfl⟩) hHeld ?_
     refine Still.y 32 [] rfl (Or.inr ⟨by rfl, rfl⟩) hHeld ?_
     refine Still.o 33 rfl rfl (fun K hK => ?_)
     go_simp
     refine hK _ _ ab (fun _ => Still.vv ?_)
     clear hK K
     clear hHeld
     have HV : Hid (Below wr.heap.size wr X.drew) := hd (HX.out.trans (Below.refl _ _).drew)
     go_wp2
     go_ret
     exact ⟨xax HBAD.out.symm, HT.out.trans (HV.out.mono HT.out.size)⟩
    | true =>
     cases hB : xaf et 0 ((S.parts.length : Int) - 1) with
     | false =>
      have HBAD := hd (HC.out.symm.trans (xj0 HR.out (HB1.out (by rw [hB]; simp))))
      clear HB1 HB2 HST
      go_upto_region 9 with fail
      have HX : Hid (Below wr.heap.size wr (wr.alloc (.cells #[.int .i64 ef, .int .i64 et] 53))) := hd ((Below.refl _ _).alloc (Nat.le_refl _) _)
      have x0 : (wr.alloc (.cells #[.int .i64 ef, .int .i64 et] 53)).cell? ⟨wr.heap.size, 0, none⟩ = some (.int .i64 ef) := by simp
      have x1 : (wr.alloc (.cells #[.int .i64 ef, .int .i64 et] 53)).cell? ⟨wr.heap.size, 1, none⟩ = some (.int .i64 et) := by simp
      have hxs : wr.heap.size < (wr.alloc (.cells #[.int .i64 ef, .int .i64 et] 53)).heap.size := by simp
      have y0 := bcl HX.out om hb1
      generalize wr.alloc (.cells #[.int .i64 ef, .int .i64 et] 53) = X at HX x0 x1 hxs y0 ⊢
      refine xad (S := fun w' => w'.cell? ⟨wr.heap.size, 0, none⟩ = some (.int .i64 ef) /\ w'.cell? ⟨wr.heap.size, 1, none⟩ = some (.int .i64 et) /\ w'.cell? ⟨w.heap.size + 1, 0, none⟩ = some (.slice (some ⟨pb, po, none⟩) L.length lc)) 33 kr ⟨x0, x1, y0⟩ (fun hHeld => ?_)
      refine Still.t 0 [19, 12, 11, 5, 3, 1] hHeld ?_
      refine Still.t 1 [19, 12, 11, 5, 3] hHeld ?_
      refine Still.t 2 [19, 12, 11, 5, 3] hHeld ?_
      refine Still.o 3 rfl rfl (fun K hK => ?_)
      refine xap 21 _ _ rfl xa5 #[.int .i64 ef, .int .i64 0, .int .i64 ((S.parts.length : Int) - 1)] (by first | rfl | simp [Act.eval, Act.put, Edg.v]) ((xao _ _ _ _).mono ?_)
      rintro e V ⟨rfl, rfl⟩
      refine ⟨_, rfl, hK _ _ (fun _ => hHeld) (fun hh => ?_)⟩
      clear hK K hh
      try simp only [Act.put, l1, l2, l3, l4, l5, l6]
      rw [hA]
      refine Still.t 4 [19, 12, 11, 5] hHeld ?_
      refine Still.t 5 [19, 12, 11] hHeld ?_
      refine Still.t 6 [19, 12, 9, 7] hHeld ?_
      refine Still.t 7 [19, 12, 9] hHeld ?_
      refine Still.t 8 [19, 12, 9] hHeld ?_
      refine Still.all (rs := [9]) kr (by simp) (Still.oneG (i := 9) rfl (by rfl) (fun K hK => ?_) (by simp))
      refine xap 21 _ _ rfl xa5 #[.int .i64 et, .int .i64 0, .int .i64 ((S.parts.length : Int) - 1)] (by first | rfl | simp [Act.eval, Act.put, Edg.v]) ((xao _ _ _ _).mono ?_)
      rintro e V ⟨rfl, rfl⟩
      refine ⟨_, rfl, hK _ _ (fun _ => hHeld) (fun hh => ?_)⟩
      clear hK K hh
      try simp only [Act.put, l1, l2, l3, l4, l5, l6]
      rw [hB]
      refine Still.t 10 [19, 12, 11] hHeld ?_
      refine Still.t 11 [19, 12] hHeld ?_
      refine Still.t 12 [19] hHeld ?_
      refine Still.y 13 [19, 18, 17, 14] rfl (Or.inr ⟨by rfl, rfl⟩) hHeld ?_
      refine Still.y 14 [19, 18, 17] rfl (Or.inr ⟨by rfl, rfl⟩) hHeld ?_
      refine Still.y 15 [19, 18, 17, 16] rfl (Or.inr ⟨by rfl, rfl⟩) hHeld ?_
      refine Still.y 16 [19, 18, 17] rfl (Or.inr ⟨by rfl, rfl⟩) hHeld ?_
      refine Still.y 17 [19, 18] rfl (Or.inr ⟨by rfl, rfl⟩) hHeld ?_
      refine Still.t 18 [19] hHeld ?_
      refine Still.t 19 [] hHeld ?_
      refine Still.y 20 [32, 22, 21] rfl (Or.inr ⟨by rfl, rfl⟩) hHeld ?_
      refine Still.y 21 [32, 22] rfl (Or.inr ⟨by rfl, rfl⟩) hHeld ?_
      refine Still.y 22 [32] rfl (Or.inr ⟨by rfl, rfl⟩) hHeld ?_
      refine Still.y 23 [32, 31, 30] rfl (Or.inr ⟨by rfl, rfl⟩) hHeld ?_
      refine Still.y 24 [32, 31, 30, 29, 28, 25] rfl (Or.inr ⟨by rfl, rfl⟩) hHeld ?_
      refine Still.y 25 [32, 31, 30, 29, 28] rfl (Or.inr ⟨by rfl, rfl⟩) hHeld ?_
      refine Still.y 26 [32, 31, 30, 29, 28, 27] rfl (Or.inr ⟨by rfl, rfl⟩) hHeld ?_
      refine Still.y 27 [32, 31, 30, 29, 28] rfl (Or.inr ⟨by rfl, rfl⟩) hHeld ?_
      refine Still.y 28 [32, 31, 30, 29] rfl (Or.inr ⟨by rfl, rfl⟩) hHeld ?_
      refine Still.y 29 [32, 31, 30] rfl (Or.inr ⟨by rfl, rfl⟩) hHeld ?_
      refine Still.y 30 [32, 31] rfl (Or.inr ⟨by rfl, rfl⟩) hHeld ?_
      refine Still.y 31 [32] rfl (Or.inr ⟨by rfl, rfl⟩) hHeld ?_
      refine Still.y 32 [] rfl (Or.inr ⟨by rfl, rfl⟩) hHeld ?_
      refine Still.o 33 rfl rfl (fun K hK => ?_)
      go_simp
      refine hK _ _ ab (fun _ => Still.vv ?_)
      clear hK K
      clear hHeld
      have HV : Hid (Below wr.heap.size wr X.drew) := hd (HX.out.trans (Below.refl _ _).drew)
      go_wp2
      go_ret
      exact ⟨xax HBAD.out.symm, HT.out.trans (HV.out.mono HT.out.size)⟩
     | true =>
      by_cases hC : ef = et
      .have HBAD := hd (HC.out.symm.trans (xj0 HR.out (HB1.out (by simp [hC]))))
       subst hC
       clear HB1 HB2 HST
       go_upto_region 9 with fail
       have HX : Hid (Below wr.heap.size wr (wr.alloc (.cells #[.int .i64 ef, .int .i64 ef] 53))) := hd ((Below.refl _ _).alloc (Nat.le_refl _) _)
       have x0 : (wr.alloc (.cells #[.int .i64 ef, .int .i64 ef] 53)).cell? ⟨wr.heap.size, 0, none⟩ = some (.int .i64 ef) := by simp
       have x1 : (wr.alloc (.cells #[.int .i64 ef, .int .i64 ef] 53)).cell? ⟨wr.heap.size, 1, none⟩ = some (.int .i64 ef) := by simp
       have hxs : wr.heap.size < (wr.alloc (.cells #[.int .i64 ef, .int .i64 ef] 53)).heap.size := by simp
       have y0 := bcl HX.out om hb1
       generalize wr.alloc (.cells #[.int .i64 ef, .int .i64 ef] 53) = X at HX x0 x1 hxs y0 ⊢
       refine xad (S := fun w' => w'.cell? ⟨wr.heap.size, 0, none⟩ = some (.int .i64 ef) /\ w'.cell? ⟨wr.heap.size, 1, none⟩ = some (.int .i64 ef) /\ w'.cell? ⟨w.heap.size + 1, 0, none⟩ = some (.slice (some ⟨pb, po, none⟩) L.length lc)) 33 kr ⟨x0, x1, y0⟩ (fun hHeld => ?_)
       refine Still.t 0 [19, 12, 11, 5, 3, 1] hHeld ?_
       refine Still.t 1 [19, 12, 11, 5, 3] hHeld ?_
       refine Still.t 2 [19, 12, 11, 5, 3] hHeld ?_
       refine Still.o 3 rfl rfl (fun K hK => ?_)
       refine xap 21 _ _ rfl xa5 #[.int .i64 ef, .int .i64 0, .int .i64 ((S.parts.length : Int) - 1)] (by first | rfl | simp [Act.eval, Act.put, Edg.v]) ((xao _ _ _ _).mono ?_)
       rintro e V ⟨rfl, rfl⟩
       refine ⟨_, rfl, hK _ _ (fun _ => hHeld) (fun hh => ?_)⟩
       clear hK K hh
       try simp only [Act.put, l1, l2, l3, l4, l5, l6]
       rw [hA]
       refine Still.t 4 [19, 12, 11, 5] hHeld ?_
       refine Still.t 5 [19, 12, 11] hHeld ?_
       refine Still.t 6 [19, 12, 9, 7] hHeld ?_
       refine Still.t 7 [19, 12, 9] hHeld ?_
       refine Still.t 8 [19, 12, 9] hHeld ?_
       refine Still.all (rs := [9]) kr (by simp) (Still.oneG (i := 9) rfl (by rfl) (fun K hK => ?_) (by simp))
       refine xap 21 _ _ rfl xa5 #[.int .i64 ef, .int .i64 0, .int .i64 ((S.parts.length : Int) - 1)] (by first | rfl | simp [Act.eval, Act.put, Edg.v]) ((xao _ _ _ _).mono ?_)
       rintro e V ⟨rfl, rfl⟩
       refine ⟨_, rfl, hK _ _ (fun _ => hHeld) (fun hh => ?_)⟩
       clear hK K hh
       try simp only [Act.put, l1, l2, l3, l4, l5, l6]
       rw [hB]
       refine Still.t 10 [19, 12, 11] hHeld ?_
       refine Still.t 11 [19, 12] hHeld ?_
       refine Still.t 12 [19] hHeld ?_
       refine Still.t 13 [19, 18, 17, 14] hHeld ?_
       refine Still.t 14 [19, 18, 17] hHeld ?_
       refine Still.t 15 [19, 18, 17, 16] hHeld ?_
       refine Still.t 16 [19, 18, 17] hHeld ?_
       refine Still.t 17 [19, 18] hHeld ?_
       refine Still.t 18 [19] hHeld ?_
       refine Still.t 19 [] hHeld ?_
       refine Still.y 20 [32, 22, 21] rfl (Or.inr ⟨by rfl, rfl⟩) hHeld ?_
       refine Still.y 21 [32, 22] rfl (Or.inr ⟨by rfl, rfl⟩) hHeld ?_
       refine Still.y 22 [32] rfl (Or.inr ⟨by rfl, rfl⟩) hHeld ?_
       refine Still.y 23 [32, 31, 30] rfl (Or.inr ⟨by rfl, rfl⟩) hHeld ?_
       refine Still.y 24 [32, 31, 30, 29, 28, 25] rfl (Or.inr ⟨by rfl, rfl⟩) hHeld ?_
       refine Still.y 25 [32, 31, 30, 29, 28] rfl (Or.inr ⟨by rfl, rfl⟩) hHeld ?_
       refine Still.y 26 [32, 31, 30, 29, 28, 27] rfl (Or.inr ⟨by rfl, rfl⟩) hHeld ?_
       refine Still.y 27 [32, 31, 30, 29, 28] rfl (Or.inr ⟨by rfl, rfl⟩) hHeld ?_
       refine Still.y 28 [32, 31, 30, 29] rfl (Or.inr ⟨by rfl, rfl⟩) hHeld ?_
       refine Still.y 29 [32, 31, 30] rfl (Or.inr ⟨by rfl, rfl⟩) hHeld ?_
       refine Still.y 30 [32, 31] rfl (Or.inr ⟨by rfl, rfl⟩) hHeld ?_
       refine Still.y 31 [32] rfl (Or.inr ⟨by rfl, rfl⟩) hHeld ?_
       refine Still.y 32 [] rfl (Or.inr ⟨by rfl, rfl⟩) hHeld ?_
       refine Still.o 33 rfl rfl (fun K hK => ?_)
       go_simp
       refine hK _ _ ab (fun _ => Still.vv ?_)
       clear hK K
       clear hHeld
       have HV : Hid (Below wr.heap.size wr X.drew) := hd (HX.out.trans (Below.refl _ _).drew)
       go_wp2
       go_ret
       exact ⟨xax HBAD.out.symm, HT.out.trans (HV.out.mono HT.out.size)⟩
      .have hC' : (ef == et) = false := by simpa using hC
       rcases Nat.eq_zero_or_pos k with e0 | h0
       .subst e0
        have HS2 := hd (HST.out ⟨hA, hB, hC⟩ (fun h => by omega))
        clear HB1 HB2 HST hC
        simp only [Nat.zero_mul, Nat.add_zero, Nat.zero_add] at c0 c1
        go_upto_region 9 with fail
        have HX : Hid (Below wr.heap.size wr (wr.alloc (.cells #[.int .i64 ef, .int .i64 et] 53))) := hd ((Below.refl _ _).alloc (Nat.le_refl _) _)
        have x0 : (wr.alloc (.cells #[.int .i64 ef, .int .i64 et] 53)).cell? ⟨wr.heap.size, 0, none⟩ = some (.int .i64 ef) := by simp
        have x1 : (wr.alloc (.cells #[.int .i64 ef, .int .i64 et] 53)).cell? ⟨wr.heap.size, 1, none⟩ = some (.int .i64 et) := by simp
        have hxs : wr.heap.size < (wr.alloc (.cells #[.int .i64 ef, .int .i64 et] 53)).heap.size := by simp
        have y0 := bcl HX.out om hb1
        generalize wr.alloc (.cells #[.int .i64 ef, .int .i64 et] 53) = X at HX x0 x1 hxs y0 ⊢
        refine xad (S := fun w' => w'.cell? ⟨wr.heap.size, 0, none⟩ = some (.int .i64 ef) /\ w'.cell? ⟨wr.heap.size, 1, none⟩ = some (.int .i64 et) /\ w'.cell? ⟨w.heap.size + 1, 0, none⟩ = some (.slice (some ⟨pb, po, none⟩) L.length lc)) 33 kr ⟨x0, x1, y0⟩ (fun hHeld => ?_)
        refine Still.t 0 [19, 12, 11, 5, 3, 1] hHeld ?_
        refine Still.t 1 [19, 12, 11, 5, 3] hHeld ?_
        refine Still.t 2 [19, 12, 11, 5, 3] hHeld ?_
        refine Still.o 3 rfl rfl (fun K hK => ?_)
        refine xap 21 _ _ rfl xa5 #[.int .i64 ef, .int .i64 0, .int .i64 ((S.parts.length : Int) - 1)] (by first | rfl | simp [Act.eval, Act.put, Edg.v]) ((xao _ _ _ _).mono ?_)
        rintro e V ⟨rfl, rfl⟩
        refine ⟨_, rfl, hK _ _ (fun _ => hHeld) (fun hh => ?_)⟩
        clear hK K hh
        try simp only [Act.put, l1, l2, l3, l4, l5, l6]
        rw [hA]
        refine Still.t 4 [19, 12, 11, 5] hHeld ?_
        refine Still.t 5 [19, 12, 11] hHeld ?_
        refine Still.t 6 [19, 12, 9, 7] hHeld ?_
        refine Still.t 7 [19, 12, 9] hHeld ?_
        refine Still.t 8 [19, 12, 9] hHeld ?_
        refine Still.all (rs := [9]) kr (by simp) (Still.oneG (i := 9) rfl (by rfl) (fun K hK => ?_) (by simp))
        refine xap 21 _ _ rfl xa5 #[.int .i64 et, .int .i64 0, .int .i64 ((S.parts.length : Int) - 1)] (by first | rfl | simp [Act.eval, Act.put, Edg.v]) ((xao _ _ _ _).mono ?_)
        rintro e V ⟨rfl, rfl⟩
        refine ⟨_, rfl, hK _ _ (fun _ => hHeld) (fun hh => ?_)⟩
        clear hK K hh
        try simp only [Act.put, l1, l2, l3, l4, l5, l6]
        rw [hB]
        refine Still.t 10 [19, 12, 11] hHeld ?_
        refine Still.t 11 [19, 12] hHeld ?_
        refine Still.t 12 [19] hHeld ?_
        refine Still.t 13 [19, 18, 17, 14] hHeld ?_
        refine Still.t 14 [19, 18, 17] hHeld ?_
        refine Still.t 15 [19, 18, 17, 16] hHeld ?_
        refine Still.t 16 [19, 18, 17] hHeld ?_
        refine Still.t 17 [19, 18] hHeld ?_
        refine Still.t 18 [19] hHeld ?_
        refine Still.t 19 [] hHeld ?_
        refine Still.t 20 [32, 22, 21] hHeld ?_
        refine Still.t 21 [32, 22] hHeld ?_
        refine Still.t 22 [32] hHeld ?_
        refine Still.y 23 [32, 31, 30] rfl (Or.inr ⟨by rfl, rfl⟩) hHeld ?_
        refine Still.y 24 [32, 31, 30, 29, 28, 25] rfl (Or.inr ⟨by rfl, rfl⟩) hHeld ?_
        refine Still.y 25 [32, 31, 30, 29, 28] rfl (Or.inr ⟨by rfl, rfl⟩) hHeld ?_
        refine Still.y 26 [32, 31, 30, 29, 28, 27] rfl (Or.inr ⟨by rfl, rfl⟩) hHeld ?_
        refine Still.y 27 [32, 31, 30, 29, 28] rfl (Or.inr ⟨by rfl, rfl⟩) hHeld ?_
        refine Still.y 28 [32, 31, 30, 29] rfl (Or.inr ⟨by rfl, rfl⟩) hHeld ?_
        refine Still.y 29 [32, 31, 30] rfl (Or.inr ⟨by rfl, rfl⟩) hHeld ?_
        refine Still.y 30 [32, 31] rfl (Or.inr ⟨by rfl, rfl⟩) hHeld ?_
        refine Still.y 31 [32] rfl (Or.inr ⟨by rfl, rfl⟩) hHeld ?_
        refine Still.t 32 [] hHeld ?_
        refine Still.o 33 rfl rfl (fun K hK => ?_)
        go_simp
        refine hK _ _ ab (fun _ => Still.vv ?_)
        clear hK K
        clear hHeld
        have HV : Hid (Below wr.heap.size wr X.drew) := hd (HX.out.trans (Below.refl _ _).drew)
        go_wp2
        go_roundw
        case rel => exact ⟨1, by go_num, by omega, HS2, bcl HV.out om hb1, Nat.lt_of_lt_of_le hws HV.out.size, hd (HT.out.trans (HV.out.mono HT.out.size))⟩
        case measure => simp [intOf]; omega
       .have hk0 : (0 : Int) < k := by omega
        obtain ⟨d0, d1⟩ := xbq HPX.out (k - 1) om
        cases hls : xhk (L[k - 1]'om) ⟨ef, et⟩ with
        | true =>
         have HS2 := hd (HST.out ⟨hA, hB, hC⟩ (fun _ => hls))
         clear HB1 HB2 HST hC
         generalize (L[k - 1]'om) = pd at d0 d1 hls
         obtain ⟨pf, pt⟩ := pd
         simp only at d0 d1
         have hwr : IntKind.i64.wrap ((k : Int) - 1) = ((k - 1 : Nat) : Int) := by simp [IntKind.wrap, IntKind.bits, IntKind.signed]; omega
         have hkl : ((k - 1 : Nat) : Int) < L.length := by omega
         generalize k - 1 = j at d0 d1 hwr hkl
         go_upto_region 9 with fail
         have HX : Hid (Below wr.heap.size wr (wr.alloc (.cells #[.int .i64 ef, .int .i64 et] 53))) := hd ((Below.refl _ _).alloc (Nat.le_refl _) _)
         have x0 : (wr.alloc (.cells #[.int .i64 ef, .int .i64 et] 53)).cell? ⟨wr.heap.size, 0, none⟩ = some (.int .i64 ef) := by simp
         have x1 : (wr.alloc (.cells #[.int .i64 ef, .int .i64 et] 53)).cell? ⟨wr.heap.size, 1, none⟩ = some (.int .i64 et) := by simp
         have hxs : wr.heap.size < (wr.alloc (.cells #[.int .i64 ef, .int .i64 et] 53)).heap.size := by simp
         have y0 := bcl HX.out om hb1
         have y1 := bcl HX.out om d0
         have y2 := bcl HX.out om d1
         generalize wr.alloc (.cells #[.int .i64 ef, .int .i64 et] 53) = X at HX x0 x1 hxs y0 y1 y2 ⊢
         refine xad (S := fun w' => w'.cell? ⟨wr.heap.size, 0, none⟩ = some (.int .i64 ef) /\ w'.cell? ⟨wr.heap.size, 1, none⟩ = some (.int .i64 et) /\ w'.cell? ⟨w.heap.size + 1, 0, none⟩ = some (.slice (some ⟨pb, po, none⟩) L.length lc) /\ w'.cell? ⟨pb, po + j * 2, none⟩ = some (.int .i64 pf) /\ w'.cell? ⟨pb, po + j * 2 + 1, none⟩ = some (.int .i64 pt)) 33 kr ⟨x0, x1, y0, y1, y2⟩ (fun hHeld => ?_)
         refine Still.t 0 [19, 12, 11, 5, 3, 1] hHeld ?_
         refine Still.t 1 [19, 12, 11, 5, 3] hHeld ?_
         refine Still.t 2 [19, 12, 11, 5, 3] hHeld ?_
         refine Still.o 3 rfl rfl (fun K hK => ?_)
         refine xap 21 _ _ rfl xa5 #[.int .i64 ef, .int .i64 0, .int .i64 ((S.parts.length : Int) - 1)] (by first | rfl | simp [Act.eval, Act.put, Edg.v]) ((xao _ _ _ _).mono ?_)
         rintro e V ⟨rfl, rfl⟩
         refine ⟨_, rfl, hK _ _ (fun _ => hHeld) (fun hh => ?_)⟩
         clear hK K hh
         try simp only [Act.put, l1, l2, l3, l4, l5, l6]
         rw [hA]
         refine Still.t 4 [19, 12, 11, 5] hHeld ?_
         refine Still.t 5 [19, 12, 11] hHeld ?_
         refine Still.t 6 [19, 12, 9, 7] hHeld ?_
         refine Still.t 7 [19, 12, 9] hHeld ?_
         refine Still.t 8 [19, 12, 9] hHeld ?_
         refine Still.all (rs := [9]) kr (by simp) (Still.oneG (i := 9) rfl (by rfl) (fun K hK => ?_) (by simp))
         refine xap 21 _ _ rfl xa5 #[.int .i64 et, .int .i64 0, .int .i64 ((S.parts.length : Int) - 1)] (by first | rfl | simp [Act.eval, Act.put, Edg.v]) ((xao _ _ _ _).mono ?_)
         rintro e V ⟨rfl, rfl⟩
         refine ⟨_, rfl, hK _ _ (fun _ => hHeld) (fun hh => ?_)⟩
         clear hK K hh
         try simp only [Act.put, l1, l2, l3, l4, l5, l6]
         rw [hB]
         refine Still.t 10 [19, 12, 11] hHeld ?_
         refine Still.t 11 [19, 12] hHeld ?_
         refine Still.t 12 [19] hHeld ?_
         refine Still.t 13 [19, 18, 17, 14] hHeld ?_
         refine Still.t 14 [19, 18, 17] hHeld ?_
         refine Still.t 15 [19, 18, 17, 16] hHeld ?_
         refine Still.t 16 [19, 18, 17] hHeld ?_
         refine Still.t 17 [19, 18] hHeld ?_
         refine Still.t 18 [19] hHeld ?_
         refine Still.t 19 [] hHeld ?_
         refine Still.t 20 [32, 22, 21] hHeld ?_
         refine Still.t 21 [32, 22] hHeld ?_
         refine Still.t 22 [32] hHeld ?_
         refine Still.t 23 [32, 31, 30] hHeld ?_
         refine Still.t 24 [32, 31, 30, 29, 28, 25] hHeld ?_
         refine Still.t 25 [32, 31, 30, 29, 28] hHeld ?_
         refine Still.t 26 [32, 31, 30, 29, 28, 27] hHeld ?_
         refine Still.t 27 [32, 31, 30, 29, 28] hHeld ?_
         refine Still.t 28 [32, 31, 30, 29] hHeld ?_
         refine Still.t 29 [32, 31, 30] hHeld ?_
         refine Still.all (rs := [30]) kr (by simp) (Still.oneG (i := 30) rfl (by rfl) (fun K hK => ?_) (by simp))
         refine xap 30 _ _ rfl xgr #[(⟨ef, et⟩ : Edg).v, (⟨pf, pt⟩ : Edg).v] (by first | rfl | simp [Act.eval, Act.put, Edg.v]) ((xg0 _ _ _).mono ?_)
         rintro e V1 ⟨rfl, b5⟩
         have HV : Hid (Below wr.heap.size wr V1) := hd ((HX.out.trans (Below.refl _ _).drew).trans (b5.mono HX.out.size))
         refine ⟨_, rfl, hK _ _ (fun _ => ⟨bcl b5 hxs x0, bcl b5 hxs x1, bcl b5 (by show w.heap.size + 1 < X.heap.size; omega) y0, bcl b5 (by show pb < X.heap.size; omega) y1, bcl b5 (by show pb < X.heap.size; omega) y2⟩) (fun hh => ?_)⟩
         have hHeld := hh (by decide)
         clear hK K hh b5
         try simp only [Act.put, l1, l2, l3, l4, l5, l6]
         rw [hls]
         refine Still.t 31 [32] hHeld ?_
         refine Still.t 32 [] hHeld ?_
         refine Still.o 33 rfl rfl (fun K hK => ?_)
         go_simp
         refine hK _ _ ab (fun _ => Still.vv ?_)
         clear hK K
         clear hHeld
         go_wp2
         go_roundw
         case rel => exact ⟨k + 1, by go_num, by omega, HS2, bcl HV.out om hb1, Nat.lt_of_lt_of_le hws HV.out.size, hd (HT.out.trans (HV.out.mono HT.out.size))⟩
         case measure => simp [intOf]; omega
        | false =>
         have HBAD := hd (HC.out.symm.trans (xj0 HR.out (HB2.out h0 hls)))
         clear HB1 HB2 HST hC
         generalize (L[k - 1]'om) = pd at d0 d1 hls
         obtain ⟨pf, pt⟩ := pd
         simp only at d0 d1
         have hwr : IntKind.i64.wrap ((k : Int) - 1) = ((k - 1 : Nat) : Int) := by simp [IntKind.wrap, IntKind.bits, IntKind.signed]; omega
         have hkl : ((k - 1 : Nat) : Int) < L.length := by omega
         generalize k - 1 = j at d0 d1 hwr hkl
         go_upto_region 9 with fail
         have HX : Hid (Below wr.heap.size wr (wr.alloc (.cells #[.int .i64 ef, .int .i64 et] 53))) := hd ((Below.refl _ _).alloc (Nat.le_refl _) _)
         have x0 : (wr.alloc (.cells #[.int .i64 ef, .int .i64 et] 53)).cell? ⟨wr.heap.size, 0, none⟩ = some (.int .i64 ef) := by simp
         have x1 : (wr.alloc (.cells #[.int .i64 ef, .int .i64 et] 53)).cell? ⟨wr.heap.size, 1, none⟩ = some (.int .i64 et) := by simp
         have hxs : wr.heap.size < (wr.alloc (.cells #[.int .i64 ef, .int .i64 et] 53)).heap.size := by simp
         have y0 := bcl HX.out om hb1
         have y1 := bcl HX.out om d0
         have y2 := bcl HX.out om d1
         generalize wr.alloc (.cells #[.int .i64 ef, .int .i64 et] 53) = X at HX x0 x1 hxs y0 y1 y2 ⊢
         refine xad (S := fun w' => w'.cell? ⟨wr.heap.size, 0, none⟩ = some (.int .i64 ef) /\ w'.cell? ⟨wr.heap.size, 1, none⟩ = some (.int .i64 et) /\ w'.cell? ⟨w.heap.size + 1, 0, none⟩ = some (.slice (some ⟨pb, po, none⟩) L.length lc) /\ w'.cell? ⟨pb, po + j * 2, none⟩ = some (.int .i64 pf) /\ w'.cell? ⟨pb, po + j * 2 + 1, none⟩ = some (.int .i64 pt)) 33 kr ⟨x0, x1, y0, y1, y2⟩ (fun hHeld => ?_)
         refine Still.t 0 [19, 12, 11, 5, 3, 1] hHeld ?_
         refine Still.t 1 [19, 12, 11, 5, 3] hHeld ?_
         refine Still.t 2 [19, 12, 11, 5, 3] hHeld ?_
         refine Still.o 3 rfl rfl (fun K hK => ?_)
         refine xap 21 _ _ rfl xa5 #[.int .i64 ef, .int .i64 0, .int .i64 ((S.parts.length : Int) - 1)] (by first | rfl | simp [Act.eval, Act.put, Edg.v]) ((xao _ _ _ _).mono ?_)
         rintro e V ⟨rfl, rfl⟩
         refine ⟨_, rfl, hK _ _ (fun _ => hHeld) (fun hh => ?_)⟩
         clear hK K hh
         try simp only [Act.put, l1, l2, l3, l4, l5, l6]
         rw [hA]
         refine Still.t 4 [19, 12, 11, 5] hHeld ?_
         refine Still.t 5 [19, 12, 11] hHeld ?_
         refine Still.t 6 [19, 12, 9, 7] hHeld ?_
         refine Still.t 7 [19, 12, 9] hHeld ?_
         refine Still.t 8 [19, 12, 9] hHeld ?_
         refine Still.all (rs := [9]) kr (by simp) (Still.oneG (i := 9) rfl (by rfl) (fun K hK => ?_) (by simp))
         refine xap 21 _ _ rfl xa5 #[.int .i64 et, .int .i64 0, .int .i64 ((S.parts.length : Int) - 1)] (by first | rfl | simp [Act.eval, Act.put, Edg.v]) ((xao _ _ _ _).mono ?_)
         rintro e V ⟨rfl, rfl⟩
         refine ⟨_, rfl, hK _ _ (fun _ => hHeld) (fun hh => ?_)⟩
         clear hK K hh
         try simp only [Act.put, l1, l2, l3, l4, l5, l6]
         rw [hB]
         refine Still.t 10 [19, 12, 11] hHeld ?_
         refine Still.t 11 [19, 12] hHeld ?_
         refine Still.t 12 [19] hHeld ?_
         refine Still.t 13 [19, 18, 17, 14] hHeld ?_
         refine Still.t 14 [19, 18, 17] hHeld ?_
         refine Still.t 15 [19, 18, 17, 16] hHeld ?_
         refine Still.t 16 [19, 18, 17] hHeld ?_
         refine Still.t 17 [19, 18] hHeld ?_
         refine Still.t 18 [19] hHeld ?_
         refine Still.t 19 [] hHeld ?_
         refine Still.t 20 [32, 22, 21] hHeld ?_
         refine Still.t 21 [32, 22] hHeld ?_
         refine Still.t 22 [32] hHeld ?_
         refine Still.t 23 [32, 31, 30] hHeld ?_
         refine Still.t 24 [32, 31, 30, 29, 28, 25] hHeld ?_
         refine Still.t 25 [32, 31, 30, 29, 28] hHeld ?_
         refine Still.t 26 [32, 31, 30, 29, 28, 27] hHeld ?_
         refine Still.t 27 [32, 31, 30, 29, 28] hHeld ?_
         refine Still.t 28 [32, 31, 30, 29] hHeld ?_
         refine Still.t 29 [32, 31, 30] hHeld ?_
         refine Still.all (rs := [30]) kr (by simp) (Still.oneG (i := 30) rfl (by rfl) (fun K hK => ?_) (by simp))
         refine xap 30 _ _ rfl xgr #[(⟨ef, et⟩ : Edg).v, (⟨pf, pt⟩ : Edg).v] (by first | rfl | simp [Act.eval, Act.put, Edg.v]) ((xg0 _ _ _).mono ?_)
         rintro e V1 ⟨rfl, b5⟩
         have HV : Hid (Below wr.heap.size wr V1) := hd ((HX.out.trans (Below.refl _ _).drew).trans (b5.mono HX.out.size))
         refine ⟨_, rfl, hK _ _ (fun _ => ⟨bcl b5 hxs x0, bcl b5 hxs x1, bcl b5 (by show w.heap.size + 1 < X.heap.size; omega) y0, bcl b5 (by show pb < X.heap.size; omega) y1, bcl b5 (by show pb < X.heap.size; omega) y2⟩) (fun hh => ?_)⟩
         have hHeld := hh (by decide)
         clear hK K hh b5
         try simp only [Act.put, l1, l2, l3, l4, l5, l6]
         rw [hls]
         refine Still.t 31 [32] hHeld ?_
         refine Still.t 32 [] hHeld ?_
         refine Still.o 33 rfl rfl (fun K hK => ?_)
         go_simp
         refine hK _ _ ab (fun _ => Still.vv ?_)
         clear hK K
         clear hHeld
         go_wp2
         go_ret
         exact ⟨xax HBAD.out.symm, HT.out.trans (HV.out.mono HT.out.size)⟩
   .have hli : ¬ (k : Int) < L.length := by omega
    have HG := hd (HC.out.symm.trans (xky HR.out (xpe HP.out hlt)))
    go_wp2
    go_ret
    exact ⟨xax HG.out.symm, HT.out⟩
 .have h0' : (r != 0) = true := by simpa using h0
  have HBAD := hd (HC.out.symm.trans ((x1n (by rw [HR.out]; exact h0)).trans HR.out))
  clear h0
  go_wp2
  go_ret
  exact ⟨xax HBAD.out.symm, D.out⟩
open Go.RowKit Go.Sort
theorem xat {R : Ending -> World -> Prop} {ch : List PanicEntry} {a : Act} (hd : a.defers = []) (h : R (.panicked ch) w) : bodyPost Tryz.prog fn R (.panic ch) a w := by
 unfold bodyPost
 simp_all
def xf4 : List PanicEntry := [{ v := .iface 9 (.string ⟨#[119, 114, 111, 110, 103]⟩), recovered := false }]
theorem xn0 (w : World) : Calls Tryz.prog 95 #[.bool true] w fun e w' => e = .returned (.tuple #[]) /\ w' = w := by
 go_enter Tryz.func95, Tryz.ntmps95
 go_wp2
 go_end0
 exact ⟨rfl, rfl⟩
theorem xr4 (w : World) : Calls Tryz.prog 95 #[.bool false] w fun e w' => e = .panicked xf4 /\ w' = w := by
 go_enter Tryz.func95, Tryz.ntmps95
 go_wp2
 exact xat rfl ⟨rfl, rfl⟩
def Rdr (W : World) (g : Nat) (xs : List UInt8) : Prop := Rw W g 161 #[.string ⟨xs.toArray⟩]
structure One (g : Nat) (w w' : World) : Prop where
 b : Below g w w'
 k : ∀ c, c < w.heap.size -> c ≠ g -> w'.heap[c]? = w.heap[c]?
theorem One.refl (g : Nat) (w : World) : One g w w := ⟨Below.refl _ _, fun _ _ _ => rfl⟩
theorem One.trans {w1 w2 : World} (h : One g w w1) (h' : One g w1 w2) : One g w w2 :=
 ⟨h.b.trans h'.b, fun c hc hg => (h'.k c (Nat.lt_of_lt_of_le hc h.b.size) hg).trans (h.k c hc hg)⟩
theorem One.up (h : Below w.heap.size w w') (hg : g <= w.heap.size) : One g w w' := ⟨h.mono hg, fun c hc _ => h.block c hc⟩
theorem One.rw (h : One g w w') {c : Nat} {t : TypeId} {cs : Array Value} (hr : Rw w c t cs) (hc : c ≠ g) : Rw w' c t cs := (h.k c hr.lt hc).trans hr
theorem One.set (g : Nat) (w : World) (i : Nat) (v : Value) : One g w (w.setCell ⟨g, i, none⟩ v) :=
 ⟨(Below.refl _ _).setCell (by show g <= g; omega) _, fun c _ hg => heap_setCell_other _ _ _ _ (by simpa using hg)⟩
theorem One.size (h : One g w w') : w.heap.size <= w'.heap.size := h.b.size
theorem xqq (l : List UInt8) : (⟨l.toArray⟩ : ByteArray).size = l.length := by simp [ByteArray.size]
theorem xxe (W : World) (g : Nat) (xs : List UInt8) (m : Nat) (hm : xs.length < m) (h : Rdr W g xs) :
  Calls Tryz.prog 212 #[.pointer (some ⟨g, 0, none⟩), .int .i64 (m : Int)] W fun e w' => e = .panicked xf4 /\ w' = W := by
 have k0 : W.cell? ⟨g, 0, none⟩ = some (.string ⟨xs.toArray⟩) := h.cell (j := 0) rfl
 have hli : decide (m <= xs.length) = false := by simp; omega
 clear h
 go_enter Tryz.func212, Tryz.ntmps212
 go_wp2_with fail
 refine (xr4 _).mono ?_
 rintro e w1 ⟨rfl, hw⟩
 subst hw
 exact xat rfl ⟨rfl, rfl⟩
theorem xsl (W : World) (g : Nat) (xs : List UInt8) (m : Nat) (hm : m <= xs.length) (h : Rdr W g xs) :
  Calls Tryz.prog 212 #[.pointer (some ⟨g, 0, none⟩), .int .i64 (m : Int)] W fun e w' => e = .returned (.string ⟨(xs.take m).toArray⟩) /\ Rdr w' g (xs.drop m) /\ One g W w' := by
 have k0 : W.cell? ⟨g, 0, none⟩ = some (.string ⟨xs.toArray⟩) := h.cell (j := 0) rfl
 have f0 := h.fr 0
 have hli : (m : Int) <= xs.length := by omega
 have HR := hd h
 have e1 : (⟨xs.toArray⟩ : ByteArray).extract 0 m = ⟨(xs.take m).toArray⟩ := by rw [xj8]; simp
 have e2 : (⟨xs.toArray⟩ : ByteArray).extract m xs.length = ⟨(xs.drop m).toArray⟩ := by rw [xj8, List.take_of_length_le (by rw [List.length_drop]; omega)]
 clear h
 go_enter Tryz.func212, Tryz.ntmps212
 go_wp2_with fail
 refine (xn0 _).mono ?_
 rintro e w1 ⟨rfl, hw⟩
 subst hw
 go_wp2
 go_ret
 exact ⟨rfl, HR.out.set 0 _, One.set _ _ _ _⟩
def xzl (α : Type) (A : Cod α) (V : World -> World -> Value -> α -> Prop) (f : Nat) : Prop := ∀ (W : World) (g : Nat) (xs : List UInt8), Rdr W g xs ->
 Calls Tryz.prog f #[.pointer (some ⟨g, 0, none⟩)] W fun e w' => (A.dec xs = none /\ e = .panicked xf4 /\ Below g W w') \/ (∃ a r v, A.dec xs = some (a, r) /\ e = .returned v /\ V W w' v a /\ Rdr w' g r /\ One g W w')
def VInt (_ _ : World) (v : Value) (n : Int) : Prop := v = .int .i64 n
def VIns (_ _ : World) (v : Value) (i : Ins) : Prop := v = .agg #[.int .i64 i.op, .int .i64 i.a, .int .i64 i.b, .int .i64 i.n]
def VChn (_ _ : World) (v : Value) (i : Chn) : Prop := v = .agg #[.int .i64 i.kd, .int .i64 i.fr, .int .i64 i.tt]
def VSlt (_ _ : World) (v : Value) (i : Slt) : Prop := v = .agg #[.int .i64 i.pt, .int .i64 i.tk]
theorem xbb : xzl Int cB VInt 177 := by
 intro W g xs h
 match xs, h with
 | [], h =>
  have HT := hd (xxe W g [] 1 (by simp) h)
  clear h
  go_enter Tryz.func177, Tryz.ntmps177
  go_wp2_with fail
  refine HT.out.mono ?_
  rintro e w1 ⟨rfl, hw⟩
  subst hw
  exact xat rfl (.inl ⟨rfl, rfl, Below.refl _ _⟩)
 | x :: q, h =>
  have HT := hd (xsl W g (x :: q) 1 (by simp) h)
  have hx : x.toNat < 256 := x.toNat_lt
  have hx0 : (0 : Int) <= x.toNat := by omega
  have hx1 : (x.toNat : Int) < 256 := by omega
  clear h
  go_enter Tryz.func177, Tryz.ntmps177
  go_wp2_with fail
  refine HT.out.mono ?_
  rintro e w1 ⟨rfl, h1, h2⟩
  have H1 := hd h1
  have H2 := hd h2
  clear h1 h2 HT
  have ht : (⟨(List.take 1 (x :: q)).toArray⟩ : ByteArray) = ⟨#[x]⟩ := rfl
  rw [ht]
  have hz2 : (⟨#[x]⟩ : ByteArray).size = 1 := rfl
  go_wp2
  go_ret
  exact .inr ⟨(x.toNat : Int), q, _, rfl, rfl, by show Value.int .i64 (wrap64 (x.toNat : Int)) = .int .i64 (x.toNat : Int); rw [show wrap64 (x.toNat : Int) = (x.toNat : Int) by unfold wrap64; omega], H1.out, H2.out⟩
theorem xqu (w : World) (e : TypeId) (s : ByteArray) : Below w.heap.size w (Lib.bytesWorld w e s) := by
 refine ⟨rfl, ?_, rfl, by rw [Lib.bytesWorld_size]; omega, fun k hk => Lib.bytesWorld_at_old w e s k hk⟩
 simp [Lib.bytesWorld, World.freeze]
theorem xol (n : Int) : wrap64 n = IntKind.i64.wrap n := by rw [IntKind.wrap_i64, wrap64]
theorem xxu (bs : List UInt8) (k : Nat) (h : k < bs.length) : xtg (bs.take (k + 1)) = xjg (xtg (bs.take k)) bs[k] := by
 unfold xtg
 rw [List.take_add_one, List.getElem?_eq_getElem h]
 show List.foldl xjg 0 (bs.take k ++ [bs[k]]) = _
 rw [List.foldl_append]
 rfl
theorem xkr : xzl Int cN VInt 181 := by
 intro W g xs h
 by_cases hl : 8 <= xs.length
 .have HT := hd (xsl W g xs 8 hl h)
  have HD : Hid (cN.dec xs = some (xtg (xs.take 8), xs.drop 8)) := hd (if_pos hl)
  have hlen : (xs.take 8).length = 8 := by rw [List.length_take]; omega
  have hgl := h.lt
  clear h hl
  go_enter Tryz.func181, Tryz.ntmps181
  go_wp2_with fail
  refine HT.out.mono ?_
  rintro e w1 ⟨rfl, h1, h2⟩
  have hg1 : g < w1.heap.size := h1.lt
  have H1 := hd h1
  have H2 := hd h2
  clear h1 h2 HT
  generalize xs.take 8 = bs at *
  have hsz : (⟨bs.toArray⟩ : ByteArray).size = 8 := by rw [xqq]; exact hlen
  have HLN := hd hlen
  clear hlen
  go_wp2
  rw [Lib.run_convert_string_bytes w1 9 106 5 _ Tryz.underlying9 Tryz.underlying106 Tryz.underlying5, hsz]
  have HC : Hid (∀ j (hj : j < bs.length), (Lib.bytesWorld w1 5 ⟨bs.toArray⟩).cell? ⟨w1.heap.size, j, none⟩ = some (.int .u8 bs[j].toNat)) := hd (fun j hj => by
   rw [Lib.bytesWorld_cell w1 5 _ j (by rw [xqq]; exact hj)]
   simp [List.getD, hj])
  have HB := hd (xqu w1 5 ⟨bs.toArray⟩)
  generalize Lib.bytesWorld w1 5 ⟨bs.toArray⟩ = W2 at *
  generalize grownCap w1 8 0 5 = cp at *
  simp only [Result.andThen]
  rw [Oper.upon_value]
  have H3 : Hid (Rdr W2 g (xs.drop 8)) := hd (H1.out.up HB.out hg1)
  have H4 := hd (H2.out.trans (One.up HB.out om))
  clear H1 H2 HB
  go_wp2
  go_loopw [3, 10] (fun n i wr => ∃ k : Nat, i = .int .i64 k /\ k <= 8 /\ n = .int .i64 (xtg (bs.take k)) /\ wr = W2) (fun _ i _ => 8 - (intOf i).toNat)
  case atStart => exact ⟨0, rfl, by omega, rfl, rfl⟩
  case round =>
   obtain ⟨k, rfl, hk, rfl, rfl⟩ := hrel
   by_cases hlt : k < 8
   .have hli : (k : Int) < 8 := by omega
    have c0 := HC.out k (by rw [HLN.out]; exact hlt)
    have HN := hd (xxu bs k (by rw [HLN.out]; exact hlt))
    have ho := xwn (xtg (bs.take k)) (bs[k]'(by rw [HLN.out]; exact hlt))
    generalize bs[k]'(by rw [HLN.out]; exact hlt) = x at *
    have hx : x.toNat < 256 := x.toNat_lt
    go_wp2
    refine ⟨⟨k + 1, by simp, by omega, ?_, trivial⟩, by simp [intOf]; omega⟩
    rw [xol, ho, HN.out]
   .obtain rfl : k = 8 := by omega
    have e8 : bs.take 8 = bs := List.take_of_length_le (by rw [HLN.out]; omega)
    rw [e8]
    clear e8
    go_wp2
    go_ret
    exact .inr ⟨_, _, _, HD.out, rfl, rfl, H3.out, H4.out⟩
 .have HT := hd (xxe W g xs 8 om h)
  have HN : Hid (cN.dec xs = none) := hd (if_neg hl)
  clear h hl
  go_enter Tryz.func181, Tryz.ntmps181
  go_wp2_with fail
  refine HT.out.mono ?_
  rintro e w1 ⟨rfl, hw⟩
  subst hw
  exact xat rfl (.inl ⟨HN.out, rfl, Below.refl _ _⟩)
theorem One.put (h : One g w w') {c : Nat} (hc : w.heap.size <= c) (hg : g <= c) (i : Nat) (v : Value) : One g w (w'.setCell ⟨c, i, none⟩ v) :=
 ⟨h.b.setCell (p := ⟨c, i, none⟩) hg _, fun k hk hkg => (heap_setCell_other _ _ _ _ so).trans (h.k k hk hkg)⟩
theorem One.row (h : One g w w') {c : Nat} (hc : w.heap.size <= c) (hg : g <= c) (cs : Array Value) : One g w (w'.setRow c cs) :=
 ⟨xaa h.b hg cs, fun k hk hkg => (setRow_other _ _ _ _ om).trans (h.k k hk hkg)⟩
theorem xds {P : Program} {p : Tmp} {ty : TypeId} (h : fn.results = #[.cell p ty]) (tmps : Array Value) (w : World) (g : Nat) (v : Value)
  (hp : tmps.getD p undef = .pointer (some ⟨g, 0, none⟩)) (hl : (loadVar ty ⟨g, 0, none⟩).run P w = .ok v w) : (results fn tmps).run P w = .ok v w := by
 have hp' : tmps[p]?.getD undef = .pointer (some ⟨g, 0, none⟩) := by simpa using hp
 simp [results, h, hp', asAddr, hl]
theorem xs9 : (Tryz.prog.info? 128).map (·.size) = some 2 := by kernel_rfl
theorem xy2 : xzl Slt cT VSlt 148 := by
 intro W g xs h
 have hgl : g < W.heap.size := h.lt
 have H0 : Hid (Rdr (W.alloc (.cells #[.int .i64 0, .int .i64 0] 128)) g xs) := hd (h.alloc _)
 clear h
 have O0 := hd (One.up (g := g) ((Below.refl W.heap.size W).alloc (Nat.le_refl _) (.cells #[.int .i64 0, .int .i64 0] 128)) om)
 have R0 := hd (Rw.new W 128 #[.int .i64 0, .int .i64 0] rfl)
 go_enter Tryz.func148, Tryz.ntmps148
 go_wp2_with fail
 refine (xbb _ g xs H0.out).mono ?_
 rintro e w1 (⟨hn, rfl, b1⟩ | ⟨n1, q1, v1, hd1, rfl, rfl, h1, o1⟩)
 .exact xat rfl (.inl ⟨xc0 (xdq hn), rfl, O0.out.b.trans b1⟩)
 .have HD1 := hd hd1
  have H1 := hd h1
  have O1 := hd (O0.out.trans o1)
  have R1 := hd (o1.rw R0.out om)
  clear hd1 h1 o1 H0 O0 R0
  go_wp2_with fail
  refine (xbb _ g q1 H1.out).mono ?_
  rintro e w2 (⟨hn, rfl, b1⟩ | ⟨n2, q2, v2, hd2, rfl, rfl, h1, o1⟩)
  .exact xat rfl (.inl ⟨xc0 (xcb HD1.out (hn)), rfl, O1.out.b.trans b1⟩)
  .have HD2 := hd hd2
   have H2 := hd h1
   have O2 := hd (O1.out.trans o1)
   have R2 := hd (o1.rw R1.out om)
   clear hd2 h1 o1 H1 O1 R1
   have HD := hd (xhg (f := fun p => (⟨p.1, p.2⟩ : Slt)) (g := fun t => (t.pt, t.tk)) (xeq HD1.out (HD2.out)))
   clear HD1 HD2
   go_wp2_with (refine xae rfl 128 (.tmp 2) (.tmp 7) rfl W.heap.size #[.int .i64 n1, .int .i64 n2] rfl rfl 128 _ R2.out xs9 rfl (by simp [Value.oneCell']) ?_)
   intro W4 HW4
   have r5 : Rw W4 W.heap.size 128 #[.int .i64 n1, .int .i64 n2] := by rw [HW4.out]; exact R2.out.row _
   have H5 := hd (show Rdr W4 g q2 by rw [HW4.out]; exact Rw.row_other H2.out _ om)
   have O5 := hd (show One g W W4 by rw [HW4.out]; exact O2.out.row (Nat.le_refl _) om _)
   clear HW4 R2 H2 O2
   go_wp2
   refine bodyPost_ret (xds Tryz.results148 _ _ W.heap.size _ rfl (run_loadVar_row _ _ 128 _ _ (0, 0) _ r5 Tryz.underlying128 rfl xs9)) rfl (.inr ⟨_, _, _, HD.out, rfl, rfl, H5.out, O5.out⟩)
theorem xsr : (Tryz.prog.info? 126).map (·.size) = some 3 := by kernel_rfl
theorem xp1 : xzl Chn cC VChn 146 := by
 intro W g xs h
 have hgl : g < W.heap.size := h.lt
 have H0 : Hid (Rdr (W.alloc (.cells #[.int .i64 0, .int .i64 0, .int .i64 0] 126)) g xs) := hd (h.alloc _)
 clear h
 have O0 := hd (One.up (g := g) ((Below.refl W.heap.size W).alloc (Nat.le_refl _) (.cells #[.int .i64 0, .int .i64 0, .int .i64 0] 126)) om)
 have R0 := hd (Rw.new W 126 #[.int .i64 0, .int .i64 0, .int .i64 0] rfl)
 go_enter Tryz.func146, Tryz.ntmps146
 go_wp2_with fail
 refine (xbb _ g xs H0.out).mono ?_
 rintro e w1 (⟨hn, rfl, b1⟩ | ⟨n1, q1, v1, hd1, rfl, rfl, h1, o1⟩)
 .exact xat rfl (.inl ⟨xc0 (xdq hn), rfl, O0.out.b.trans b1⟩)
 .have HD1 := hd hd1
  have H1 := hd h1
  have O1 := hd (O0.out.trans o1)
  have R1 := hd (o1.rw R0.out om)
  clear hd1 h1 o1 H0 O0 R0
  go_wp2_with fail
  refine (xbb _ g q1 H1.out).mono ?_
  rintro e w2 (⟨hn, rfl, b1⟩ | ⟨n2, q2, v2, hd2, rfl, rfl, h1, o1⟩)
  .exact xat rfl (.inl ⟨xc0 (xcb HD1.out (xdq hn)), rfl, O1.out.b.trans b1⟩)
  .have HD2 := hd hd2
   have H2 := hd h1
   have O2 := hd (O1.out.trans o1)
   have R2 := hd (o1.rw R1.out om)
   clear hd2 h1 o1 H1 O1 R1
   go_wp2_with fail
   refine (xbb _ g q2 H2.out).mono ?_
   rintro e w3 (⟨hn, rfl, b1⟩ | ⟨n3, q3, v3, hd3, rfl, rfl, h1, o1⟩)
   .exact xat rfl (.inl ⟨xc0 (xcb HD1.out (xcb HD2.out (hn))), rfl, O2.out.b.trans b1⟩)
   .have HD3 := hd hd3
    have H3 := hd h1
    have O3 := hd (O2.out.trans o1)
    have R3 := hd (o1.rw R2.out om)
    clear hd3 h1 o1 H2 O2 R2
    have HD := hd (xhg (f := fun p => (⟨p.1, p.2.1, p.2.2⟩ : Chn)) (g := fun c => (c.kd, c.fr, c.tt)) (xeq HD1.out (xeq HD2.out (HD3.out))))
    clear HD1 HD2 HD3
    go_wp2_with (refine xae rfl 126 (.tmp 2) (.tmp 9) rfl W.heap.size #[.int .i64 n1, .int .i64 n2, .int .i64 n3] rfl rfl 126 _ R3.out xsr rfl (by simp [Value.oneCell']) ?_)
    intro W4 HW4
    have r5 : Rw W4 W.heap.size 126 #[.int .i64 n1, .int .i64 n2, .int .i64 n3] := by rw [HW4.out]; exact R3.out.row _
    have H5 := hd (show Rdr W4 g q3 by rw [HW4.out]; exact Rw.row_other H3.out _ om)
    have O5 := hd (show One g W W4 by rw [HW4.out]; exact O3.out.row (Nat.le_refl _) om _)
    clear HW4 R3 H3 O3
    go_wp2
    refine bodyPost_ret (xds Tryz.results146 _ _ W.heap.size _ rfl (run_loadVar_row _ _ 126 _ _ (0, 0) _ r5 Tryz.underlying126 rfl xsr)) rfl (.inr ⟨_, _, _, HD.out, rfl, rfl, H5.out, O5.out⟩)
theorem xtm : (Tryz.prog.info? 124).map (·.size) = some 4 := by kernel_rfl
theorem xv3 : xzl Ins cI VIns 179 := by
 intro W g xs h
 have hgl : g < W.heap.size := h.lt
 have H0 : Hid (Rdr (W.alloc (.cells #[.int .i64 0, .int .i64 0, .int .i64 0, .int .i64 0] 124)) g xs) := hd (h.alloc _)
 clear h
 have O0 := hd (One.up (g := g) ((Below.refl W.heap.size W).alloc (Nat.le_refl _) (.cells #[.int .i64 0, .int .i64 0, .int .i64 0, .int .i64 0] 124)) om)
 have R0 := hd (Rw.new W 124 #[.int .i64 0, .int .i64 0, .int .i64 0, .int .i64 0] rfl)
 go_enter Tryz.func179, Tryz.ntmps179
 go_wp2_with fail
 refine (xbb _ g xs H0.out).mono ?_
 rintro e w1 (⟨hn, rfl, b1⟩ | ⟨n1, q1, v1, hd1, rfl, rfl, h1, o1⟩)
 .exact xat rfl (.inl ⟨xc0 (xdq hn), rfl, O0.out.b.trans b1⟩)
 .have HD1 := hd hd1
  have H1 := hd h1
  have O1 := hd (O0.out.trans o1)
  have R1 := hd (o1.rw R0.out om)
  clear hd1 h1 o1 H0 O0 R0
  go_wp2_with fail
  refine (xbb _ g q1 H1.out).mono ?_
  rintro e w2 (⟨hn, rfl, b1⟩ | ⟨n2, q2, v2, hd2, rfl, rfl, h1, o1⟩)
  .exact xat rfl (.inl ⟨xc0 (xcb HD1.out (xdq hn)), rfl, O1.out.b.trans b1⟩)
  .have HD2 := hd hd2
   have H2 := hd h1
   have O2 := hd (O1.out.trans o1)
   have R2 := hd (o1.rw R1.out om)
   clear hd2 h1 o1 H1 O1 R1
   go_wp2_with fail
   refine (xbb _ g q2 H2.out).mono ?_
   rintro e w3 (⟨hn, rfl, b1⟩ | ⟨n3, q3, v3, hd3, rfl, rfl, h1, o1⟩)
   .exact xat rfl (.inl ⟨xc0 (xcb HD1.out (xcb HD2.out (xdq hn))), rfl, O2.out.b.trans b1⟩)
   .have HD3 := hd hd3
    have H3 := hd h1
    have O3 := hd (O2.out.trans o1)
    have R3 := hd (o1.rw R2.out om)
    clear hd3 h1 o1 H2 O2 R2
    go_wp2_with fail
    refine (xkr _ g q3 H3.out).mono ?_
    rintro e w4 (⟨hn, rfl, b1⟩ | ⟨n4, q4, v4, hd4, rfl, rfl, h1, o1⟩)
    .exact xat rfl (.inl ⟨xc0 (xcb HD1.out (xcb HD2.out (xcb HD3.out (hn)))), rfl, O3.out.b.trans b1⟩)
    .have HD4 := hd hd4
     have H4 := hd h1
     have O4 := hd (O3.out.trans o1)
     have R4 := hd (o1.rw R3.out om)
     clear hd4 h1 o1 H3 O3 R3
     have HD := hd (xhg (f := fun p => (⟨p.1, p.2.1, p.2.2.1, p.2.2.2⟩ : Ins)) (g := fun i => (i.op, i.a, i.b, i.n)) (xeq HD1.out (xeq HD2.out (xeq HD3.out (HD4.out)))))
     clear HD1 HD2 HD3 HD4
     go_wp2_with (refine xae rfl 124 (.tmp 2) (.tmp 11) rfl W.heap.size #[.int .i64 n1, .int .i64 n2, .int .i64 n3, .int .i64 n4] rfl rfl 124 _ R4.out xtm rfl (by simp [Value.oneCell']) ?_)
     intro W4 HW4
     have r5 : Rw W4 W.heap.size 124 #[.int .i64 n1, .int .i64 n2, .int .i64 n3, .int .i64 n4] := by rw [HW4.out]; exact R4.out.row _
     have H5 := hd (show Rdr W4 g q4 by rw [HW4.out]; exact Rw.row_other H4.out _ om)
     have O5 := hd (show One g W W4 by rw [HW4.out]; exact O4.out.row (Nat.le_refl _) om _)
     clear HW4 R4 H4 O4
     go_wp2
     refine bodyPost_ret (xds Tryz.results179 _ _ W.heap.size _ rfl (run_loadVar_row _ _ 124 _ _ (0, 0) _ r5 Tryz.underlying124 rfl xtm)) rfl (.inr ⟨_, _, _, HD.out, rfl, rfl, H5.out, O5.out⟩)
end Go.Proofs.YtbkdoohhdkahiaaGreatDoor
