/- The reference: ImageFrom. -/
import Derived.Test.YtbkdoohhdkahiaaGreatDoorJ26
import Derived.Test.YtbkdoohhdkahiaaGreatDoorJ7
import Derived.Deep.QuietTactic
import Derived.BigQuiet
import Derived.Test.YtbkdoohhdkahiaaGreatDoorJ9
namespace Go.Proofs.YtbkdoohhdkahiaaGreatDoor
set_option linter.unusedSimpArgs false
set_option linter.unusedVariables false
set_option maxRecDepth 100000
set_option maxHeartbeats 16000000
open Go.RowKit Go.Sort
variable {S : SysD}
theorem xnx (b : List UInt8) (w : World) :
  Calls Tryz.prog 19 #[.string ⟨b.toArray⟩] w fun e w' => (xjp b = none /\ e = .returned (.tuple #[.agg #[.slice none 0 0, .slice none 0 0, .slice none 0 0], .bool false]) /\ Below w.heap.size w w') \/
   (∃ S, xjp b = some S /\ ∃ vp vc vs, e = .returned (.tuple #[.agg #[vp, vc, vs], .bool true]) /\ Sys w' vp vc vs S /\ Below w.heap.size w w') := by
 obtain ⟨j1, hj1, hj2, hj3, hj4⟩ := xaj xs1
 obtain ⟨k1, hk1, hk2, hk3, hk4⟩ := xaj xtf
 obtain ⟨m1, hm1, hm2, hm3, hm4⟩ := xaj xtv
 obtain ⟨c1, hc1, hc2, hc3, hc4⟩ := xaj xsv
 obtain ⟨t1, ht1, ht2, ht3, ht4⟩ := xaj xtq
 go_enter Tryz.func19, Tryz.ntmps19
 go_upto_region 3 with fail
 generalize hX : World.alloc _ _ = X
 have hXX : X = ((w.alloc (.cells #[.slice none 0 0, .slice none 0 0, .slice none 0 0] 39)).alloc (.cells #[.string ⟨b.toArray⟩] 121)).alloc (.cells #[.slice none 0 0, .slice none 0 0, .slice none 0 0] 39) := by rw [<- hX]
 have HF : Hid (If w X (.slice none 0 0) (.slice none 0 0) (.slice none 0 0) x3b b) := hd ⟨by rw [hXX]; exact rn0, by rw [hXX]; exact rn0, by rw [hXX]; exact rn0, SysO.nil _ _, by rw [hXX]; exact up0⟩
 clear hX hXX
 go_wp2_with fail
 refine (xbi X (w.heap.size + 1) b HF.out.e).mono ?_
 rintro e w1 ⟨rfl, h1, o1⟩
 have HF1 := hd (HF.out.call o1 h1)
 have hE := xe5 b
 have HE1 := hd (show cP.ls.eye b = xbk cP (xer b).1.toNat (xer b).2 from rfl)
 obtain ⟨qa, HQA⟩ : ∃ qa, Hid ((xer b).2 = qa) := ⟨_, hd rfl⟩
 obtain ⟨KA, HKA⟩ : ∃ KA, Hid ((xer b).1.toNat = KA) := ⟨_, hd rfl⟩
 rw [HQA.out] at HF1
 rw [hE.1, HKA.out]
 have hKA : KA < 256 := by rw [<- HKA.out]; exact hE.2
 clear HF h1 o1 hE
 go_wp2
 go_loopw [6] (fun nv wr => ∃ (j m : Nat) (ao : Option Addr) (cap : Nat), nv = .int .i64 m /\ m + j = KA /\ Hid (If w wr (.slice ao j cap) (.slice none 0 0) (.slice none 0 0) ⟨(xbk cP j qa).1, [], []⟩ (xbk cP j qa).2)) (fun nv _ => (intOf nv).toNat)
 case atStart => exact ⟨0, KA, none, 0, rfl, rfl, HF1⟩
 case round =>
  obtain ⟨j, m, ao, cap, rfl, hjm, HI⟩ := hrel
  clear HF1
  cases m with
  | succ m =>
   have hm : (0 : Int) < ((m + 1 : Nat) : Int) := by omega
   have hms : ((m + 1 : Nat) : Int) - 1 = (m : Int) := by omega
   obtain ⟨q0, HQ0⟩ : ∃ q0, Hid ((xbk cP j qa).2 = q0) := ⟨_, hd rfl⟩
   obtain ⟨ds, HDS⟩ : ∃ ds, Hid ((xbk cP j qa).1 = ds) := ⟨_, hd rfl⟩
   have hdl : ds.length = j := by rw [<- HDS.out]; exact xdb _ _ _
   have HDL := hd hdl
   clear hdl
   rw [HQ0.out, HDS.out] at HI
   have hz := HI.out.z
   have HA := hd (HI.out.alloc (.cells #[.slice none 0 0, .slice none 0 0] 43))
   have R0 := hd (Rw.new wr 43 #[.slice none 0 0, .slice none 0 0] rfl)
   have S0 := hd (One.up (g := w.heap.size + 1) ((Below.refl wr.heap.size wr).alloc (Nat.le_refl _) (.cells #[.slice none 0 0, .slice none 0 0] 43)) om)
   go_wp2_with fail
   refine (xbi _ (w.heap.size + 1) q0 HA.out.e).mono ?_
   rintro e w2 ⟨rfl, h2, o2⟩
   obtain ⟨px, hpx⟩ : ∃ px, px = wr.heap.size := ⟨_, rfl⟩
   have HC2 : Hid (Ic (w.heap.size + 1) px wr w2 (.slice none 0 0) (.slice none 0 0) ⟨[], []⟩ (xer q0).2) := hd ⟨by rw [hpx]; exact o2.rw R0.out om, ⟨World.ownsRow_nil _ _ _ _, World.ownsRow_nil _ _ _ _⟩, h2, S0.out.trans o2⟩
   have hE := xe5 q0
   obtain ⟨qb, HQB⟩ : ∃ qb, Hid ((xer q0).2 = qb) := ⟨_, hd rfl⟩
   obtain ⟨KB, HKB⟩ : ∃ KB, Hid ((xer q0).1.toNat = KB) := ⟨_, hd rfl⟩
   rw [HQB.out] at HC2
   rw [hE.1, HKB.out]
   have hKB : KB < 256 := by rw [<- HKB.out]; exact hE.2
   have HPX := hd hpx
   have hgp : w.heap.size + 1 < px := by omega
   rw [<- hpx]
   clear HA R0 S0 h2 o2 hE hpx
   obtain ⟨ge, HGE⟩ : ∃ ge, Hid (w.heap.size + 1 = ge) := ⟨_, hd rfl⟩
   rw [HGE.out] at HC2 hgp
   rw [HGE.out]
   have hgw : ge < wr.heap.size := by rw [<- HGE.out]; omega
   have hpw : wr.heap.size <= px := by rw [HPX.out]; exact Nat.le_refl _
   obtain ⟨w0, HW0⟩ : ∃ w0, Hid (w0 = wr) := ⟨_, hd rfl⟩
   rw [<- HW0.out] at HC2 hgw hpw HI
   go_wp2
   go_loopw [8] (fun nv wr' => ∃ (j' m' : Nat) (ao' : Option Addr) (cap' : Nat), nv = .int .i64 m' /\ m' + j' = KB /\ Hid (Ic ge px w0 wr' (.slice ao' j' cap') (.slice none 0 0) ⟨(xbk cI j' qb).1, []⟩ (xbk cI j' qb).2)) (fun nv _ => (intOf nv).toNat)
   case atStart => exact ⟨0, KB, none, 0, rfl, rfl, HC2⟩
   case round =>
    obtain ⟨j', m', ao', cap', rfl, hjm', HC⟩ := hrel
    clear HC2
    cases m' with
    | succ m' =>
     have hm' : (0 : Int) < ((m' + 1 : Nat) : Int) := by omega
     have hms' : ((m' + 1 : Nat) : Int) - 1 = (m' : Int) := by omega
     obtain ⟨r0, HR0⟩ : ∃ r0, Hid ((xbk cI j' qb).2 = r0) := ⟨_, hd rfl⟩
     obtain ⟨es, HES⟩ : ∃ es, Hid ((xbk cI j' qb).1 = es) := ⟨_, hd rfl⟩
     have HEL : Hid (es.length = j') := hd (by rw [<- HES.out]; exact xdb _ _ _)
     rw [HR0.out, HES.out] at HC
     have zc := HC.out.r.lt
     go_wp2_with fail
     refine (xbi _ ge r0 HC.out.e).mono ?_
     rintro e y1 ⟨rfl, h1, o1⟩
     obtain ⟨n1, HN1⟩ : ∃ n1, Hid ((xer r0).1 = n1) := ⟨_, hd rfl⟩
     obtain ⟨r1, HR1⟩ : ∃ r1, Hid ((xer r0).2 = r1) := ⟨_, hd rfl⟩
     rw [HR1.out] at h1
     rw [HN1.out]
     obtain ⟨iy, hiy⟩ : ∃ iy, iy = y1.heap.size := ⟨_, rfl⟩
     have hiz : wr.heap.size <= iy := by rw [hiy]; exact o1.size
     have hgi : ge < iy := by omega
     have Y1 : Hid (Iy ge iy 124 wr (y1.alloc (.cells #[.int .i64 n1, .int .i64 0, .int .i64 0, .int .i64 0] 124)) #[.int .i64 n1, .int .i64 0, .int .i64 0, .int .i64 0] r1) := hd (by rw [hiy]; exact Iy.new o1 h1 _ _ om)
     go_upto_region 11 with fail
     rw [<- hiy]
     obtain ⟨X1, HX1⟩ : ∃ X1, Hid (y1.alloc (.cells #[.int .i64 n1, .int .i64 0, .int .i64 0, .int .i64 0] 124) = X1) := ⟨_, hd rfl⟩
     rw [HX1.out] at Y1
     rw [HX1.out]
     have HIY := hd hiy
     clear h1 o1 hiy
     go_wp2_with fail
     refine (xbi _ ge r1 Y1.out.e).mono ?_
     rintro e y2 ⟨rfl, h1, o1⟩
     obtain ⟨n2, HN2⟩ : ∃ n2, Hid ((xer r1).1 = n2) := ⟨_, hd rfl⟩
     obtain ⟨r2, HR2⟩ : ∃ r2, Hid ((xer r1).2 = r2) := ⟨_, hd rfl⟩
     rw [HR2.out] at h1
     rw [HN2.out]
     have Ya := Y1.out.call o1 h1 hgi
     have kk := Ya.y.cell (j := 1) (v := .int .i64 0) rfl
     have ff := Ya.y.fr 1
     have Y2 : Hid (Iy ge iy 124 wr (y2.setCell ⟨iy, 1, none⟩ (.int .i64 n2)) #[.int .i64 n1, .int .i64 n2, .int .i64 0, .int .i64 0] r2) := hd (Ya.put hgi hiz 1 _)
     clear h1 o1 Y1 Ya
     go_wp2_with fail
     refine (xbi _ ge r2 Y2.out.e).mono ?_
     rintro e y3 ⟨rfl, h1, o1⟩
     obtain ⟨n3, HN3⟩ : ∃ n3, Hid ((xer r2).1 = n3) := ⟨_, hd rfl⟩
     obtain ⟨r3, HR3⟩ : ∃ r3, Hid ((xer r2).2 = r3) := ⟨_, hd rfl⟩
     rw [HR3.out] at h1
     rw [HN3.out]
     have Ya := Y2.out.call o1 h1 hgi
     clear kk ff
     have kk := Ya.y.cell (j := 2) (v := .int .i64 0) rfl
     have ff := Ya.y.fr 2
     have Y3 : Hid (Iy ge iy 124 wr (y3.setCell ⟨iy, 2, none⟩ (.int .i64 n3)) #[.int .i64 n1, .int .i64 n2, .int .i64 n3, .int .i64 0] r3) := hd (Ya.put hgi hiz 2 _)
     clear h1 o1 Y2 Ya
     go_wp2_with fail
     refine (xmk _ ge r3 Y3.out.e).mono ?_
     rintro e y4 ⟨rfl, h1, o1⟩
     obtain ⟨n4, HN4⟩ : ∃ n4, Hid ((xna 8 r3).1 = n4) := ⟨_, hd rfl⟩
     obtain ⟨r4, HR4⟩ : ∃ r4, Hid ((xna 8 r3).2 = r4) := ⟨_, hd rfl⟩
     rw [HR4.out] at h1
     rw [HN4.out]
     have Ya := Y3.out.call o1 h1 hgi
     clear kk ff
     have kk := Ya.y.cell (j := 3) (v := .int .i64 0) rfl
     have ff := Ya.y.fr 3
     have Y4 : Hid (Iy ge iy 124 wr (y4.setCell ⟨iy, 3, none⟩ (.int .i64 n4)) #[.int .i64 n1, .int .i64 n2, .int .i64 n3, .int .i64 n4] r4) := hd (Ya.put hgi hiz 3 _)
     clear h1 o1 Y3 Ya
     have HEY : Hid (cI.eye r0 = (⟨n1, n2, n3, n4⟩, r4)) := hd (by obtain rfl := HN1.out; obtain rfl := HR1.out; obtain rfl := HN2.out; obtain rfl := HR2.out; obtain rfl := HN3.out; obtain rfl := HR3.out; obtain rfl := HN4.out; obtain rfl := HR4.out; rfl)
     obtain ⟨V, HV⟩ : ∃ V, Hid (y4.setCell ⟨iy, 3, none⟩ (.int .i64 n4) = V) := ⟨_, hd rfl⟩
     go_upto_region 14 with fail
     rw [HV.out] at Y4
     rw [HV.out]
     clear kk ff
     have HCv := hd (HC.out.call Y4.out.s Y4.out.e hgp)
     have p0 := HCv.out.r.cell (j := 0) (v := .slice ao' j' cap') rfl
     have u0 := Y4.out.y.cell (j := 0) (v := .int .i64 n1) rfl
     have u1 := Y4.out.y.cell (j := 1) (v := .int .i64 n2) rfl
     have u2 := Y4.out.y.cell (j := 2) (v := .int .i64 n3) rfl
     have u3 := Y4.out.y.cell (j := 3) (v := .int .i64 n4) rfl
     have HCa := hd (HCv.out.alloc hgp (.cells #[.int .i64 n1, .int .i64 n2, .int .i64 n3, .int .i64 n4] 124))
     have HOW : Hid ((V.alloc (.cells #[.int .i64 n1, .int .i64 n2, .int .i64 n3, .int .i64 n4] 124)).ownsRow (px + 1) 124 4 (.slice ao' j' cap') j' (xck es)) := hd (by have h : (V.alloc (.cells #[.int .i64 n1, .int .i64 n2, .int .i64 n3, .int .i64 n4] 124)).ownsRow (px + 1) 124 4 (.slice ao' j' cap') es.length (xck es) := HCa.out.o.code; rw [HEL.out] at h; exact h)
     have zv : px + 1 <= V.heap.size := HCv.out.r.lt
     clear Y4 HCv HC
     go_wp2_with (at_builtin; refine wpList_append_lies _ rfl (.tmp 43) (.tmp 45) 40 rfl (px + 1) 124 j1 _ 4 32 Tryz.underlying40 hj1 hj2 hj3 hj4 rfl (by decide) _ j' (xck es) rfl HOW.out ⟨V.heap.size, 0, none⟩ 1 1 [.int .i64 n1, .int .i64 n2, .int .i64 n3, .int .i64 n4] rfl rfl (xa9 _ _ _ _ rfl) (by simp [Value.oneCell']) (by decide) (by unfold maxLen; omega) om so _ rfl ?_)
     intro g4 cap4 W4 hown hgrow hat hg4
     have hIC := HCa.out.code hgp hpw hgw hgrow (ds := es ++ [⟨n1, n2, n3, n4⟩]) (v' := .slice (some ⟨g4, 0, none⟩) (j' + 1) cap4) (by rw [List.length_append, HEL.out, xhh]; exact hown)
     have IC := hd hIC.1
     have k0 := hIC.2.cell (j := 0) (v := .slice ao' j' cap') rfl
     have f0 := hIC.2.fr 0
     clear hown hgrow hat hg4 hIC HCa HOW p0 u0 u1 u2 u3
     go_wp2
     go_roundw
     case rel => exact ⟨j' + 1, m', some ⟨g4, 0, none⟩, cap4, by go_num, by omega, by rw [(xch cI j' qb).1, (xch cI j' qb).2, HES.out, HR0.out, HEY.out]; exact IC⟩
     case measure => simp [intOf]
    | zero =>
     obtain rfl : j' = KB := by omega
     obtain ⟨q3, HQ3⟩ : ∃ q3, Hid ((xbk cI j' qb).2 = q3) := ⟨_, hd rfl⟩
     obtain ⟨code, HCD⟩ : ∃ code, Hid ((xbk cI j' qb).1 = code) := ⟨_, hd rfl⟩
     have HCL : Hid (code.length = j') := hd (by rw [<- HCD.out]; exact xdb _ _ _)
     rw [HQ3.out, HCD.out] at HC
     go_wp2_with fail
     refine (xbi _ ge q3 HC.out.e).mono ?_
     rintro e w3 ⟨rfl, h2, o2⟩
     have HC3 := hd (HC.out.call o2 h2 hgp)
     have hE := xe5 q3
     obtain ⟨qc, HQC⟩ : ∃ qc, Hid ((xer q3).2 = qc) := ⟨_, hd rfl⟩
     obtain ⟨KC, HKC⟩ : ∃ KC, Hid ((xer q3).1.toNat = KC) := ⟨_, hd rfl⟩
     rw [HQC.out] at HC3
     rw [hE.1, HKC.out]
     have hKC : KC < 256 := by rw [<- HKC.out]; exact hE.2
     clear HC h2 o2 hE
     go_wp2
     go_loopw [10] (fun nv wr' => ∃ (i m' : Nat) (bo : Option Addr) (bc : Nat), nv = .int .i64 m' /\ m' + i = KC /\ Hid (Ic ge px w0 wr' (.slice ao' j' cap') (.slice bo i bc) ⟨code, (xbk cN i qc).1⟩ (xbk cN i qc).2)) (fun nv _ => (intOf nv).toNat)
     case atStart => exact ⟨0, KC, none, 0, rfl, rfl, HC3⟩
     case round =>
      obtain ⟨i, m', bo, bc, rfl, him, HC⟩ := hrel
      clear HC3
      cases m' with
      | succ m' =>
       have hm' : (0 : Int) < ((m' + 1 : Nat) : Int) := by omega
       have hms' : ((m' + 1 : Nat) : Int) - 1 = (m' : Int) := by omega
       obtain ⟨r0, HR0⟩ : ∃ r0, Hid ((xbk cN i qc).2 = r0) := ⟨_, hd rfl⟩
       obtain ⟨es, HES⟩ : ∃ es, Hid ((xbk cN i qc).1 = es) := ⟨_, hd rfl⟩
       have HEL : Hid (es.length = i) := hd (by rw [<- HES.out]; exact xdb _ _ _)
       rw [HR0.out, HES.out] at HC
       have zc := HC.out.r.lt
       go_upto_region 18 with fail
       refine xad (S := fun W => W.cell? ⟨px, 1, none⟩ = some (.slice bo i bc)) 7 kr (HC.out.drew.r.cell (j := 1) (v := .slice bo i bc) rfl) (fun hHeld => ?_)
       refine Still.t 0 [] hHeld ?_
       refine Still.t 1 [] hHeld ?_
       refine Still.t 2 [] hHeld ?_
       refine Still.o 3 rfl rfl (fun K hK => ?_)
       refine xap 56 _ _ rfl (xa8 Tryz.func56 kr kr) #[.pointer (some ⟨ge, 0, none⟩)] ev ((xmk _ ge r0 HC.out.drew.e).mono ?_)
       rintro e V ⟨rfl, h1, o1⟩
       have HCv := hd (HC.out.drew.call o1 h1 hgp)
       obtain ⟨n1, HN1⟩ : ∃ n1, Hid ((xna 8 r0).1 = n1) := ⟨_, hd rfl⟩
       obtain ⟨r1, HR1⟩ : ∃ r1, Hid ((xna 8 r0).2 = r1) := ⟨_, hd rfl⟩
       rw [HR1.out] at HCv
       rw [HN1.out]
       have HEY : Hid (cN.eye r0 = (n1, r1)) := hd (by obtain rfl := HN1.out; obtain rfl := HR1.out; rfl)
       refine ⟨_, rfl, hK _ _ (fun _ => HCv.out.r.cell (j := 1) rfl) (fun hh => ?_)⟩
       have hHeld := hh (by decide)
       clear hh hK K h1 o1 HC
       try simp only [Act.put, l1, l2, l3, l4, l5, l6]
       refine Still.o 4 rfl rfl (fun K hK => ?_)
       go_simp
       have HCa := hd (HCv.out.alloc hgp (.cells #[.int .i64 n1] 3))
       refine hK _ _ (fun _ => HCa.out.r.cell (j := 1) rfl) (fun hh => ?_)
       have hHeld := hh (by decide)
       clear hh hK K
       try simp only [Act.put, l1, l2, l3, l4, l5, l6]
       have HOW : Hid ((V.alloc (.cells #[.int .i64 n1] 3)).ownsRow (px + 1) 3 1 (.slice bo i bc) i (xar es)) := hd (by have h : (V.alloc (.cells #[.int .i64 n1] 3)).ownsRow (px + 1) 3 1 (.slice bo i bc) es.length (xar es) := HCa.out.o.inn; rw [HEL.out] at h; exact h)
       have zv : px + 1 <= V.heap.size := HCv.out.r.lt
       refine Still.o 5 rfl rfl (fun K hK => ?_)
       refine wp_append_lies _ (.tmp 55) (.tmp 58) 41 (by rfl) (px + 1) 3 k1 (.int .i64 0) 1 8 Tryz.underlying41 hk1 hk2 hk3 hk4 rfl (by decide) _ i (xar es) ev HOW.out ⟨V.heap.size, 0, none⟩ 1 1 [.int .i64 n1] ev rfl (xa9 _ _ _ _ rfl) (by simp [Value.oneCell']) (by decide) (by unfold maxLen; omega) om so _ rfl ?_
       intro g4 cap4 W4 hown hgrow hat hg4
       have hIC := HCa.out.inn hgp hpw hgw hgrow (es := es ++ [n1]) (v' := .slice (some ⟨g4, 0, none⟩) (i + 1) cap4) (by rw [List.length_append, HEL.out, xm0]; exact hown)
       have IC := hd hIC.1
       have k0 := hIC.2.cell (j := 1) (v := .slice bo i bc) rfl
       have f0 := hIC.2.fr 1
       clear hown hgrow hat hg4 hIC HCa HOW
       refine hK _ _ (fun _ => k0) (fun hh => ?_)
       have hHeld := hh (by decide)
       clear hh hK K
       try simp only [Act.put, l1, l2, l3, l4, l5, l6]
       refine Still.t 6 [] hHeld ?_
       refine Still.o 7 rfl rfl (fun K hK => ?_)
       clear hHeld
       go_simp
       refine hK _ _ ab (fun _ => Still.vv ?_)
       clear hK K
       go_wp2
       go_roundw
       case rel => exact ⟨i + 1, m', some ⟨g4, 0, none⟩, cap4, by go_num, by omega, by rw [(xch cN i qc).1, (xch cN i qc).2, HES.out, HR0.out, HEY.out]; exact IC⟩
       case measure => simp [intOf]
      | zero =>
       obtain rfl : i = KC := by omega
       obtain ⟨qd, HQD⟩ : ∃ qd, Hid ((xbk cN i qc).2 = qd) := ⟨_, hd rfl⟩
       obtain ⟨inn, HIN⟩ : ∃ inn, Hid ((xbk cN i qc).1 = inn) := ⟨_, hd rfl⟩
       rw [HQD.out, HIN.out] at HC
       have HEY : Hid (cP.eye q0 = (⟨code, inn⟩, qd)) := hd (by obtain rfl := HIN.out; obtain rfl := HQD.out; obtain rfl := HQC.out; obtain rfl := HKC.out; obtain rfl := HCD.out; obtain rfl := HQ3.out; obtain rfl := HQB.out; obtain rfl := HKB.out; rfl)
       have HIv := hd (HI.out.call (by rw [HGE.out]; exact HC.out.s) (by rw [HGE.out]; exact HC.out.e))
       have hs5 : Rw wr (ge + 1) 39 #[.slice ao j cap, .slice none 0 0, .slice none 0 0] := by rw [<- HGE.out]; exact HIv.out.s
       have s5 := hs5.cell (j := 0) (v := .slice ao j cap) rfl
       have u0 := HC.out.r.cell (j := 0) (v := .slice ao' j' cap') rfl
       have u1 := HC.out.r.cell (j := 1) (v := .slice bo i bc) rfl
       have HIa := hd (HIv.out.alloc (.cells #[.slice ao' j' cap', .slice bo i bc] 43))
       have HPO := hd ((HC.out.o.low (show w.heap.size + 3 <= px + 1 by rw [<- HGE.out] at hgp; omega)).alloc (.cells #[.slice ao' j' cap', .slice bo i bc] 43))
       obtain ⟨us, hul, how, hin⟩ := HIa.out.o.p
       have how' : (wr.alloc (.cells #[.slice ao' j' cap', .slice bo i bc] 43)).ownsRow (w.heap.size + 3) 43 2 (.slice ao j cap) ds.length (xbe prC us) := how
       rw [HDL.out] at how'
       have HOW := hd how'
       have HUL := hd hul
       have HUI := hd hin
       have zv := HIv.out.z
       clear hs5 how how' hul hin HIv
       go_upto_region 19 with fail
       go_wp2_with (at_builtin; refine wpList_append_lies _ rfl (.tmp 62) (.tmp 64) 35 rfl (w.heap.size + 3) 43 m1 _ 2 48 Tryz.underlying35 hm1 hm2 hm3 hm4 rfl (by decide) _ j (xbe prC us) rfl HOW.out ⟨wr.heap.size, 0, none⟩ 1 1 [.slice ao' j' cap', .slice bo i bc] rfl rfl (xa9 _ _ _ _ rfl) (by simp [Value.oneCell']) (by decide) (by unfold maxLen; omega) om so _ rfl ?_)
       intro g4 cap4 W4 hown hgrow hat hg4
       have hPO : PartsO (w.heap.size + 3) W4 (.slice (some ⟨g4, 0, none⟩) (j + 1) cap4) (ds ++ [⟨code, inn⟩]) := PartsO.snoc HDL.out HUL.out HOW.out HUI.out HPO.out hgrow hown
       have IF : Hid (If w (W4.setCell ⟨ge + 1, 0, none⟩ (.slice (some ⟨g4, 0, none⟩) (j + 1) cap4)) (.slice (some ⟨g4, 0, none⟩) (j + 1) cap4) (.slice none 0 0) (.slice none 0 0) ⟨ds ++ [⟨code, inn⟩], [], []⟩ qd) := hd (by
        rw [<- HGE.out]
        exact If.putP (S' := ⟨ds ++ [⟨code, inn⟩], [], []⟩) HIa.out hgrow (fun k e => xab HOW.out k e) ⟨hPO, World.ownsRow_nil _ _ _ _, World.ownsRow_nil _ _ _ _⟩)
       have hs6 : Rw W4 (ge + 1) 39 #[.slice ao j cap, .slice none 0 0, .slice none 0 0] := by rw [<- HGE.out]; exact (HIa.out.grow hgrow (fun k e => xab HOW.out k e)).2.2.1
       have k0 := hs6.cell (j := 0) (v := .slice ao j cap) rfl
       have f0 := hs6.fr 0
       clear hown hgrow hat hg4 hPO hs6 HIa HOW HPO s5 u0 u1
       go_wp2
       rw [<- HGE.out] at IF
       rw [<- HGE.out]
       go_roundw
       case rel => exact ⟨j + 1, m, some ⟨g4, 0, none⟩, cap4, by go_num, by omega, by rw [(xch cP j qa).1, (xch cP j qa).2, HDS.out, HQ0.out, HEY.out]; exact IF⟩
       case measure => simp [intOf]
  | zero =>
   obtain rfl : j = KA := by omega
   obtain ⟨q0, HQ0⟩ : ∃ q0, Hid ((xbk cP j qa).2 = q0) := ⟨_, hd rfl⟩
   obtain ⟨ps, HPS⟩ : ∃ ps, Hid ((xbk cP j qa).1 = ps) := ⟨_, hd rfl⟩
   rw [HQ0.out, HPS.out] at HI
   go_wp2_with fail
   refine (xbi _ (w.heap.size + 1) q0 HI.out.e).mono ?_
   rintro e w2 ⟨rfl, h2, o2⟩
   have HF1 := hd (HI.out.call o2 h2)
   have hE := xe5 q0
   obtain ⟨qb, HQB⟩ : ∃ qb, Hid ((xer q0).2 = qb) := ⟨_, hd rfl⟩
   obtain ⟨KB, HKB⟩ : ∃ KB, Hid ((xer q0).1.toNat = KB) := ⟨_, hd rfl⟩
   rw [HQB.out] at HF1
   rw [hE.1, HKB.out]
   have hKB : KB < 256 := by rw [<- HKB.out]; exact hE.2
   obtain ⟨ge, HGE⟩ : ∃ ge, Hid (w.heap.size + 1 = ge) := ⟨_, hd rfl⟩
   rw [HGE.out]
   clear h2 o2 hE HI
   go_wp2
   go_loopw [11] (fun nv wr' => ∃ (i m' : Nat) (bo : Option Addr) (bc : Nat), nv = .int .i64 m' /\ m' + i = KB /\ Hid (If w wr' (.slice ao j cap) (.slice bo i bc) (.slice none 0 0) ⟨ps, (xbk cC i qb).1, []⟩ (xbk cC i qb).2)) (fun nv _ => (intOf nv).toNat)
   case atStart => exact ⟨0, KB, none, 0, rfl, rfl, HF1⟩
   case round =>
    obtain ⟨i, m', bo, bc, rfl, him, HI⟩ := hrel
    clear HF1
    cases m' with
    | succ m' =>
     have hm' : (0 : Int) < ((m' + 1 : Nat) : Int) := by omega
     have hms' : ((m' + 1 : Nat) : Int) - 1 = (m' : Int) := by omega
     obtain ⟨r0, HR0⟩ : ∃ r0, Hid ((xbk cC i qb).2 = r0) := ⟨_, hd rfl⟩
     obtain ⟨es, HES⟩ : ∃ es, Hid ((xbk cC i qb).1 = es) := ⟨_, hd rfl⟩
     have HEL : Hid (es.length = i) := hd (by rw [<- HES.out]; exact xdb _ _ _)
     rw [HR0.out, HES.out] at HI
     have HEe : Hid (Eye wr ge r0) := hd (by rw [<- HGE.out]; exact HI.out.e)
     have hgw : ge < wr.heap.size := HEe.out.lt
     go_wp2_with fail
     refine (xbi _ ge r0 HEe.out).mono ?_
     rintro e y1 ⟨rfl, h1, o1⟩
     obtain ⟨n1, HN1⟩ : ∃ n1, Hid ((xer r0).1 = n1) := ⟨_, hd rfl⟩
     obtain ⟨r1, HR1⟩ : ∃ r1, Hid ((xer r0).2 = r1) := ⟨_, hd rfl⟩
     rw [HR1.out] at h1
     rw [HN1.out]
     obtain ⟨iy, hiy⟩ : ∃ iy, iy = y1.heap.size := ⟨_, rfl⟩
     have hiz : wr.heap.size <= iy := by rw [hiy]; exact o1.size
     have hgi : ge < iy := by omega
     have Y1 : Hid (Iy ge iy 126 wr (y1.alloc (.cells #[.int .i64 n1, .int .i64 0, .int .i64 0] 126)) #[.int .i64 n1, .int .i64 0, .int .i64 0] r1) := hd (by rw [hiy]; exact Iy.new o1 h1 _ _ om)
     go_upto_region 24 with fail
     rw [<- hiy]
     obtain ⟨X1, HX1⟩ : ∃ X1, Hid (y1.alloc (.cells #[.int .i64 n1, .int .i64 0, .int .i64 0] 126) = X1) := ⟨_, hd rfl⟩
     rw [HX1.out] at Y1
     rw [HX1.out]
     have HIY := hd hiy
     clear h1 o1 hiy
     go_wp2_with fail
     refine (xbi _ ge r1 Y1.out.e).mono ?_
     rintro e y2 ⟨rfl, h1, o1⟩
     obtain ⟨n2, HN2⟩ : ∃ n2, Hid ((xer r1).1 = n2) := ⟨_, hd rfl⟩
     obtain ⟨r2, HR2⟩ : ∃ r2, Hid ((xer r1).2 = r2) := ⟨_, hd rfl⟩
     rw [HR2.out] at h1
     rw [HN2.out]
     have Ya := Y1.out.call o1 h1 hgi
     have kk := Ya.y.cell (j := 1) (v := .int .i64 0) rfl
     have ff := Ya.y.fr 1
     have Y2 : Hid (Iy ge iy 126 wr (y2.setCell ⟨iy, 1, none⟩ (.int .i64 n2)) #[.int .i64 n1, .int .i64 n2, .int .i64 0] r2) := hd (Ya.put hgi hiz 1 _)
     clear h1 o1 Y1 Ya
     go_wp2_with fail
     refine (xbi _ ge r2 Y2.out.e).mono ?_
     rintro e y3 ⟨rfl, h1, o1⟩
     obtain ⟨n3, HN3⟩ : ∃ n3, Hid ((xer r2).1 = n3) := ⟨_, hd rfl⟩
     obtain ⟨r3, HR3⟩ : ∃ r3, Hid ((xer r2).2 = r3) := ⟨_, hd rfl⟩
     rw [HR3.out] at h1
     rw [HN3.out]
     have Ya := Y2.out.call o1 h1 hgi
     clear kk ff
     have kk := Ya.y.cell (j := 2) (v := .int .i64 0) rfl
     have ff := Ya.y.fr 2
     have Y3 : Hid (Iy ge iy 126 wr (y3.setCell ⟨iy, 2, none⟩ (.int .i64 n3)) #[.int .i64 n1, .int .i64 n2, .int .i64 n3] r3) := hd (Ya.put hgi hiz 2 _)
     clear h1 o1 Y2 Ya
     have HEY : Hid (cC.eye r0 = (⟨n1, n2, n3⟩, r3)) := hd (by obtain rfl := HN1.out; obtain rfl := HR1.out; obtain rfl := HN2.out; obtain rfl := HR2.out; obtain rfl := HN3.out; obtain rfl := HR3.out; rfl)
     obtain ⟨V, HV⟩ : ∃ V, Hid (y3.setCell ⟨iy, 2, none⟩ (.int .i64 n3) = V) := ⟨_, hd rfl⟩
     go_upto_region 26 with fail
     rw [HV.out] at Y3
     rw [HV.out]
     clear kk ff
     have HIv := hd (HI.out.call (by rw [HGE.out]; exact Y3.out.s) (by rw [HGE.out]; exact Y3.out.e))
     have hs5 : Rw V (ge + 1) 39 #[.slice ao j cap, .slice bo i bc, .slice none 0 0] := by rw [<- HGE.out]; exact HIv.out.s
     have s5 := hs5.cell (j := 1) (v := .slice bo i bc) rfl
     have u0 := Y3.out.y.cell (j := 0) (v := .int .i64 n1) rfl
     have u1 := Y3.out.y.cell (j := 1) (v := .int .i64 n2) rfl
     have u2 := Y3.out.y.cell (j := 2) (v := .int .i64 n3) rfl
     have HIa := hd (HIv.out.alloc (.cells #[.int .i64 n1, .int .i64 n2, .int .i64 n3] 126))
     have HOW : Hid ((V.alloc (.cells #[.int .i64 n1, .int .i64 n2, .int .i64 n3] 126)).ownsRow (w.heap.size + 3) 126 3 (.slice bo i bc) i (xbe chC es)) := hd (by have h : (V.alloc (.cells #[.int .i64 n1, .int .i64 n2, .int .i64 n3] 126)).ownsRow (w.heap.size + 3) 126 3 (.slice bo i bc) es.length (xbe chC es) := HIa.out.o.c; rw [HEL.out] at h; exact h)
     have zv := HIv.out.z
     clear Y3 HIv HI hs5 HEe
     go_wp2_with (at_builtin; refine wpList_append_lies _ rfl (.tmp 83) (.tmp 85) 36 rfl (w.heap.size + 3) 126 c1 _ 3 24 Tryz.underlying36 hc1 hc2 hc3 hc4 rfl (by decide) _ i (xbe chC es) rfl HOW.out ⟨V.heap.size, 0, none⟩ 1 1 [.int .i64 n1, .int .i64 n2, .int .i64 n3] rfl rfl (xa9 _ _ _ _ rfl) (by simp [Value.oneCell']) (by decide) (by unfold maxLen; omega) om so _ rfl ?_)
     intro g4 cap4 W4 hown hgrow hat hg4
     have hNO : W4.ownsRow (w.heap.size + 3) 126 3 (.slice (some ⟨g4, 0, none⟩) (i + 1) cap4) (es ++ [(⟨n1, n2, n3⟩ : Chn)]).length (xbe chC (es ++ [⟨n1, n2, n3⟩])) := by rw [List.length_append, HEL.out, xpl]; exact hown
     have IF : Hid (If w (W4.setCell ⟨ge + 1, 1, none⟩ (.slice (some ⟨g4, 0, none⟩) (i + 1) cap4)) (.slice ao j cap) (.slice (some ⟨g4, 0, none⟩) (i + 1) cap4) (.slice none 0 0) ⟨ps, es ++ [⟨n1, n2, n3⟩], []⟩ r3) := hd (by
      rw [<- HGE.out]
      exact If.putC (S' := ⟨ps, es ++ [⟨n1, n2, n3⟩], []⟩) HIa.out hgrow (fun k e => xab HOW.out k e) ⟨HIa.out.o.p.growT hgrow HOW.out (by decide) (by decide) (by decide), hNO, World.ownsRow_nil _ _ _ _⟩)
     have hs6 : Rw W4 (ge + 1) 39 #[.slice ao j cap, .slice bo i bc, .slice none 0 0] := by rw [<- HGE.out]; exact (HIa.out.grow hgrow (fun k e => xab HOW.out k e)).2.2.1
     have k0 := hs6.cell (j := 1) (v := .slice bo i bc) rfl
     have f0 := hs6.fr 1
     clear hown hgrow hat hg4 hNO hs6 HIa HOW s5 u0 u1 u2
     go_wp2
     go_roundw
     case rel => exact ⟨i + 1, m', some ⟨g4, 0, none⟩, cap4, by go_num, by omega, by rw [(xch cC i qb).1, (xch cC i qb).2, HES.out, HR0.out, HEY.out]; exact IF⟩
     case measure => simp [intOf]
    | zero =>
     obtain rfl : i = KB := by omega
     obtain ⟨q3, HQ3⟩ : ∃ q3, Hid ((xbk cC i qb).2 = q3) := ⟨_, hd rfl⟩
     obtain ⟨cs, HCS⟩ : ∃ cs, Hid ((xbk cC i qb).1 = cs) := ⟨_, hd rfl⟩
     have HCL : Hid (cs.length = i) := hd (by rw [<- HCS.out]; exact xdb _ _ _)
     rw [HQ3.out, HCS.out] at HI
     have HEe : Hid (Eye wr ge q3) := hd (by rw [<- HGE.out]; exact HI.out.e)
     go_wp2_with fail
     refine (xbi _ ge q3 HEe.out).mono ?_
     rintro e w3 ⟨rfl, h2, o2⟩
     rw [<- HGE.out] at h2 o2
     have HF1 := hd (HI.out.call o2 h2)
     have hE := xe5 q3
     obtain ⟨qc, HQC⟩ : ∃ qc, Hid ((xer q3).2 = qc) := ⟨_, hd rfl⟩
     obtain ⟨KC, HKC⟩ : ∃ KC, Hid ((xer q3).1.toNat = KC) := ⟨_, hd rfl⟩
     rw [HQC.out] at HF1
     rw [hE.1, HKC.out]
     have hKC : KC < 256 := by rw [<- HKC.out]; exact hE.2
     obtain ⟨vc, HVC⟩ : ∃ vc, Hid (Value.slice bo i bc = vc) := ⟨_, hd rfl⟩
     rw [HVC.out] at HF1
     clear h2 o2 hE HI HEe
     go_wp2
     go_loopw [13] (fun nv wr' => ∃ (i m' : Nat) (bo : Option Addr) (bc : Nat), nv = .int .i64 m' /\ m' + i = KC /\ Hid (If w wr' (.slice ao j cap) vc (.slice bo i bc) ⟨ps, cs, (xbk cT i qc).1⟩ (xbk cT i qc).2)) (fun nv _ => (intOf nv).toNat)
     case atStart => exact ⟨0, KC, none, 0, rfl, rfl, HF1⟩
     case round =>
      obtain ⟨i5, m', bo5, bc5, rfl, him5, HI⟩ := hrel
      clear HF1
      cases m' with
      | succ m' =>
       have hm' : (0 : Int) < ((m' + 1 : Nat) : Int) := by omega
       have hms' : ((m' + 1 : Nat) : Int) - 1 = (m' : Int) := by omega
       obtain ⟨r0, HR0⟩ : ∃ r0, Hid ((xbk cT i5 qc).2 = r0) := ⟨_, hd rfl⟩
       obtain ⟨es, HES⟩ : ∃ es, Hid ((xbk cT i5 qc).1 = es) := ⟨_, hd rfl⟩
       have HEL : Hid (es.length = i5) := hd (by rw [<- HES.out]; exact xdb _ _ _)
       rw [HR0.out, HES.out] at HI
       have HEe : Hid (Eye wr ge r0) := hd (by rw [<- HGE.out]; exact HI.out.e)
       have hgw : ge < wr.heap.size := HEe.out.lt
       go_wp2_with fail
       refine (xbi _ ge r0 HEe.out).mono ?_
       rintro e y1 ⟨rfl, h1, o1⟩
       obtain ⟨n1, HN1⟩ : ∃ n1, Hid ((xer r0).1 = n1) := ⟨_, hd rfl⟩
       obtain ⟨r1, HR1⟩ : ∃ r1, Hid ((xer r0).2 = r1) := ⟨_, hd rfl⟩
       rw [HR1.out] at h1
       rw [HN1.out]
       obtain ⟨iy, hiy⟩ : ∃ iy, iy = y1.heap.size := ⟨_, rfl⟩
       have hiz : wr.heap.size <= iy := by rw [hiy]; exact o1.size
       have hgi : ge < iy := by omega
       have Y1 : Hid (Iy ge iy 128 wr (y1.alloc (.cells #[.int .i64 n1, .int .i64 0] 128)) #[.int .i64 n1, .int .i64 0] r1) := hd (by rw [hiy]; exact Iy.new o1 h1 _ _ om)
       go_upto_region 31 with fail
       rw [<- hiy]
       obtain ⟨X1, HX1⟩ : ∃ X1, Hid (y1.alloc (.cells #[.int .i64 n1, .int .i64 0] 128) = X1) := ⟨_, hd rfl⟩
       rw [HX1.out] at Y1
       rw [HX1.out]
       have HIY := hd hiy
       clear h1 o1 hiy
       go_wp2_with fail
       refine (xbi _ ge r1 Y1.out.e).mono ?_
       rintro e y2 ⟨rfl, h1, o1⟩
       obtain ⟨n2, HN2⟩ : ∃ n2, Hid ((xer r1).1 = n2) := ⟨_, hd rfl⟩
       obtain ⟨r2, HR2⟩ : ∃ r2, Hid ((xer r1).2 = r2) := ⟨_, hd rfl⟩
       rw [HR2.out] at h1
       rw [HN2.out]
       have Ya := Y1.out.call o1 h1 hgi
       have kk := Ya.y.cell (j := 1) (v := .int .i64 0) rfl
       have ff := Ya.y.fr 1
       have Y2 : Hid (Iy ge iy 128 wr (y2.setCell ⟨iy, 1, none⟩ (.int .i64 n2)) #[.int .i64 n1, .int .i64 n2] r2) := hd (Ya.put hgi hiz 1 _)
       clear h1 o1 Y1 Ya
       have HEY : Hid (cT.eye r0 = (⟨n1, n2⟩, r2)) := hd (by obtain rfl := HN1.out; obtain rfl := HR1.out; obtain rfl := HN2.out; obtain rfl := HR2.out; rfl)
       obtain ⟨V, HV⟩ : ∃ V, Hid (y2.setCell ⟨iy, 1, none⟩ (.int .i64 n2) = V) := ⟨_, hd rfl⟩
       go_upto_region 32 with fail
       rw [HV.out] at Y2
       rw [HV.out]
       clear kk ff
       have HIv := hd (HI.out.call (by rw [HGE.out]; exact Y2.out.s) (by rw [HGE.out]; exact Y2.out.e))
       have hs5 : Rw V (ge + 1) 39 #[.slice ao j cap, vc, .slice bo5 i5 bc5] := by rw [<- HGE.out]; exact HIv.out.s
       have s5 := hs5.cell (j := 2) (v := .slice bo5 i5 bc5) rfl
       have u0 := Y2.out.y.cell (j := 0) (v := .int .i64 n1) rfl
       have u1 := Y2.out.y.cell (j := 1) (v := .int .i64 n2) rfl
       have HIa := hd (HIv.out.alloc (.cells #[.int .i64 n1, .int .i64 n2] 128))
       have HOW : Hid ((V.alloc (.cells #[.int .i64 n1, .int .i64 n2] 128)).ownsRow (w.heap.size + 3) 128 2 (.slice bo5 i5 bc5) i5 (xbe slC es)) := hd (by have h : (V.alloc (.cells #[.int .i64 n1, .int .i64 n2] 128)).ownsRow (w.heap.size + 3) 128 2 (.slice bo5 i5 bc5) es.length (xbe slC es) := HIa.out.o.s; rw [HEL.out] at h; exact h)
       have zv := HIv.out.z
       clear Y2 HIv HI hs5 HEe
       go_wp2_with (at_builtin; refine wpList_append_lies _ rfl (.tmp 101) (.tmp 103) 37 rfl (w.heap.size + 3) 128 t1 _ 2 16 Tryz.underlying37 ht1 ht2 ht3 ht4 rfl (by decide) _ i5 (xbe slC es) rfl HOW.out ⟨V.heap.size, 0, none⟩ 1 1 [.int .i64 n1, .int .i64 n2] rfl rfl (xa9 _ _ _ _ rfl) (by simp [Value.oneCell']) (by decide) (by unfold maxLen; omega) om so _ rfl ?_)
       intro g4 cap4 W4 hown hgrow hat hg4
       have hNO : W4.ownsRow (w.heap.size + 3) 128 2 (.slice (some ⟨g4, 0, none⟩) (i5 + 1) cap4) (es ++ [(⟨n1, n2⟩ : Slt)]).length (xbe slC (es ++ [⟨n1, n2⟩])) := by rw [List.length_append, HEL.out, xoz]; exact hown
       have IF : Hid (If w (W4.setCell ⟨ge + 1, 2, none⟩ (.slice (some ⟨g4, 0, none⟩) (i5 + 1) cap4)) (.slice ao j cap) vc (.slice (some ⟨g4, 0, none⟩) (i5 + 1) cap4) ⟨ps, cs, es ++ [⟨n1, n2⟩]⟩ r2) := hd (by
        rw [<- HGE.out]
        exact If.putS (S' := ⟨ps, cs, es ++ [⟨n1, n2⟩]⟩) HIa.out hgrow (fun k e => xab HOW.out k e) ⟨HIa.out.o.p.growT hgrow HOW.out (by decide) (by decide) (by decide), xc8 HIa.out.o.c hgrow HOW.out rfl (by decide), hNO⟩)
       have hs6 : Rw W4 (ge + 1) 39 #[.slice ao j cap, vc, .slice bo5 i5 bc5] := by rw [<- HGE.out]; exact (HIa.out.grow hgrow (fun k e => xab HOW.out k e)).2.2.1
       have k0 := hs6.cell (j := 2) (v := .slice bo5 i5 bc5) rfl
       have f0 := hs6.fr 2
       clear hown hgrow hat hg4 hNO hs6 HIa HOW s5 u0 u1
       go_wp2
       go_roundw
       case rel => exact ⟨i5 + 1, m', some ⟨g4, 0, none⟩, cap4, by go_num, by omega, by rw [(xch cT i5 qc).1, (xch cT i5 qc).2, HES.out, HR0.out, HEY.out]; exact IF⟩
       case measure => simp [intOf]
      | zero =>
       obtain rfl : i5 = KC := by omega
       obtain ⟨q5, HQ5⟩ : ∃ q5, Hid ((xbk cT i5 qc).2 = q5) := ⟨_, hd rfl⟩
       obtain ⟨ts, HTS⟩ : ∃ ts, Hid ((xbk cT i5 qc).1 = ts) := ⟨_, hd rfl⟩
       rw [HQ5.out, HTS.out] at HI
       have HEY : Hid ((cS.eye b).1 = ⟨ps, cs, ts⟩) := hd (by obtain rfl := HTS.out; obtain rfl := HQ5.out; obtain rfl := HQC.out; obtain rfl := HKC.out; obtain rfl := HCS.out; obtain rfl := HQ3.out; obtain rfl := HQB.out; obtain rfl := HKB.out; obtain rfl := HPS.out; obtain rfl := HQ0.out; obtain rfl := HQA.out; obtain rfl := HKA.out; rfl)
       obtain ⟨S, HSD⟩ : ∃ S : SysD, Hid (⟨ps, cs, ts⟩ = S) := ⟨_, hd rfl⟩
       rw [HSD.out] at HEY HI
       have HOK : Hid S.ok := hd (by rw [<- HEY.out]; exact x35 (xoe.lg b))
       obtain ⟨pa, pc, hvp⟩ := HI.out.o.p.form
       obtain ⟨ka, kc, hvc⟩ := xaq HI.out.o.c
       obtain ⟨sa, sc, hvs⟩ := xaq HI.out.o.s
       rw [hvp, hvc, hvs] at HI
       clear hvp hvc hvs
       have hs5 : Rw wr (ge + 1) 39 #[.slice pa S.parts.length pc, .slice ka S.chans.length kc, .slice sa S.slots.length sc] := by rw [<- HGE.out]; exact HI.out.s
       have s0 := hs5.cell (j := 0) (v := .slice pa S.parts.length pc) rfl
       have s1 := hs5.cell (j := 1) (v := .slice ka S.chans.length kc) rfl
       have s2 := hs5.cell (j := 2) (v := .slice sa S.slots.length sc) rfl
       have HS5 := hd hs5
       clear hs5
       go_wp2_with fail
       refine (xm3 S HOK.out _ _ _ _ HI.out.o.r).mono ?_
       rintro e w6 ⟨rfl, b6⟩
       have HD6 := hd (HI.out.b.trans (b6.mono HI.out.b.size))
       have R26 := hd (HI.out.r2.up b6 HI.out.r2.lt)
       have HO6 := hd (HI.out.o.up b6)
       have HS6 := hd (HS5.out.up b6 HS5.out.lt)
       have hz6 : w.heap.size < w6.heap.size := R26.out.lt
       clear b6 s0 s1 s2 HS5 HI
       by_cases hk : xb3 S = 0
       .have hkb : (xb3 S != 0) = false := by simp [hk]
        have HK := hd hk
        have s0 := HS6.out.cell (j := 0) (v := .slice pa S.parts.length pc) rfl
        have s1 := HS6.out.cell (j := 1) (v := .slice ka S.chans.length kc) rfl
        have s2 := HS6.out.cell (j := 2) (v := .slice sa S.slots.length sc) rfl
        rw [hk]
        clear hk hkb
        go_wp2_with fail
        refine (xl8 S (xte HK.out) _ _ _ _ HO6.out.r).mono ?_
        rintro e w7 ⟨rfl, b7⟩
        have HD7 := hd (HD6.out.trans (b7.mono HD6.out.size))
        have R27 := hd (R26.out.up b7 R26.out.lt)
        have HO7 := hd (HO6.out.up b7)
        have HS7 := hd (HS6.out.up b7 HS6.out.lt)
        have hz7 : w.heap.size < w7.heap.size := R27.out.lt
        clear b7 s0 s1 s2 HS6 HD6 R26 HO6
        by_cases hbe : cS.enc S = b
        .have HY : Hid (xjp b = some S) := hd (by unfold xjp; rw [HEY.out, if_pos ⟨HK.out, hbe⟩])
         have HBE := hd hbe
         rw [hbe]
         clear hbe
         have s0 := HS7.out.cell (j := 0) (v := .slice pa S.parts.length pc) rfl
         have s1 := HS7.out.cell (j := 1) (v := .slice ka S.chans.length kc) rfl
         have s2 := HS7.out.cell (j := 2) (v := .slice sa S.slots.length sc) rfl
         go_wp2_with (refine xae rfl 39 (.tmp 2) (.tmp 116) rfl w.heap.size #[.slice pa S.parts.length pc, .slice ka S.chans.length kc, .slice sa S.slots.length sc] rfl rfl 39 _ R27.out xbp rfl (by simp [Value.oneCell']) ?_)
         intro W9 HW9
         have r9 : Rw W9 w.heap.size 39 #[.slice pa S.parts.length pc, .slice ka S.chans.length kc, .slice sa S.slots.length sc] := by rw [HW9.out]; exact R27.out.row _
         have HB9 := hd (show Below w.heap.size w W9 by rw [HW9.out]; exact xaa HD7.out (Nat.le_refl _) _)
         have HO9 := hd (show SysO (w.heap.size + 3) W9 (.slice pa S.parts.length pc) (.slice ka S.chans.length kc) (.slice sa S.slots.length sc) S by rw [HW9.out]; exact HO7.out.row om _)
         clear HW9
         go_wp2
         refine bodyPost_ret (xam Tryz.results19 _ _ w.heap.size _ _ rfl rfl (run_loadVar_row _ _ 39 _ _ (0, 0) _ r9 Tryz.underlying39 rfl xbp)) rfl (.inr ⟨S, HY.out, _, _, _, rfl, HO9.out.r, HB9.out⟩)
        .have HN : Hid (xjp b = none) := hd (by unfold xjp; rw [HEY.out, if_neg (fun h => hbe h.2)])
         have hbf : (cS.enc S == b) = false := by simpa using hbe
         clear hbe
         go_upto_region 34 with fail
         go_wp2_with (refine xae rfl 39 (.tmp 2) (.tmp 115) rfl w.heap.size #[.slice none 0 0, .slice none 0 0, .slice none 0 0] rfl rfl 39 _ R27.out xbp rfl (by simp [Value.oneCell']) ?_)
         intro W9 HW9
         have r9 : Rw W9 w.heap.size 39 #[.slice none 0 0, .slice none 0 0, .slice none 0 0] := by rw [HW9.out]; exact R27.out.row _
         have HB9 := hd (show Below w.heap.size w W9 by rw [HW9.out]; exact xaa HD7.out (Nat.le_refl _) _)
         clear HW9
         go_wp2
         refine bodyPost_ret (xam Tryz.results19 _ _ w.heap.size _ _ rfl rfl (run_loadVar_row _ _ 39 _ _ (0, 0) _ r9 Tryz.underlying39 rfl xbp)) rfl (.inl ⟨HN.out, rfl, HB9.out⟩)
       .have hkb : (xb3 S == 0) = false := by simpa using hk
        have HN : Hid (xjp b = none) := hd (by unfold xjp; rw [HEY.out, if_neg (fun h => hk h.1)])
        go_upto_region 34 with fail
        go_wp2_with (refine xae rfl 39 (.tmp 2) (.tmp 115) rfl w.heap.size #[.slice none 0 0, .slice none 0 0, .slice none 0 0] rfl rfl 39 _ R26.out xbp rfl (by simp [Value.oneCell']) ?_)
        intro W9 HW9
        have r9 : Rw W9 w.heap.size 39 #[.slice none 0 0, .slice none 0 0, .slice none 0 0] := by rw [HW9.out]; exact R26.out.row _
        have HB9 := hd (show Below w.heap.size w W9 by rw [HW9.out]; exact xaa HD6.out (Nat.le_refl _) _)
        clear HW9
        go_wp2
        refine bodyPost_ret (xam Tryz.results19 _ _ w.heap.size _ _ rfl rfl (run_loadVar_row _ _ 39 _ _ (0, 0) _ r9 Tryz.underlying39 rfl xbp)) rfl (.inl ⟨HN.out, rfl, HB9.out⟩)
theorem Sl.drewN {w : World} {size : Nat} {v : Value} {m : Nat} {xs : List Value} (h : Sl w size v m xs) (n : Nat) : Sl (w.drewN n) size v m xs := h
theorem xo9 (b : List UInt8) : xjp b = xe3 b := by
 unfold xjp xe3
 cases hd : cS.dec b with
 | none =>
  rw [if_neg]
  rintro ⟨_, h⟩
  have h1 := xoe.de _ [] (xoe.lg b)
  rw [List.append_nil, h, hd] at h1
  cases h1
 | some x =>
  obtain ⟨S, r⟩ := x
  have h1 := xoe.le _ _ _ hd
  have h2 := xoe.ed _ _ _ hd
  rw [h1]
  cases r with
  | nil =>
   rw [List.append_nil] at h2
   by_cases hk : xb3 S = 0
   .rw [if_pos ⟨hk, h2.symm⟩]
    show some S = if xb3 S = 0 then some S else none
    rw [if_pos hk]
   .rw [if_neg (fun h => hk h.1)]
    show none = if xb3 S = 0 then some S else none
    rw [if_neg hk]
  | cons x r =>
   rw [if_neg]
   rintro ⟨_, h⟩
   have h' : cS.enc S = b := h
   rw [<- h'] at h2
   have := congrArg List.length h2
   rw [List.length_append] at this
   simp at this
theorem xuq {op a b n : Int} (h : xob op a b n = 0) : (0 <= op /\ op < 256) /\ (0 <= a /\ a < 256) /\ (0 <= b /\ b < 256) := by
 unfold xob at h
 split at h
 .cases h
 .rename_i ho
  unfold xdd at h
  split at h
  .cases h
  .rename_i h3
   split at h
   .cases h
   .rename_i h1
    simp only [Bool.or_eq_true, Bool.and_eq_true, Bool.not_eq_true', not_or, not_and, bne_iff_ne, ne_eq, Decidable.not_not, Bool.not_eq_false] at h3 h1
    have fa : 0 <= a /\ a < 256 := by
     cases hA : xqe op.toNat with
     | true =>
      have := h3.1.1 hA
      simp [xlb] at this
      omega
     | false =>
      have := h1.1.1 hA
      omega
    have fb : 0 <= b /\ b < 256 := by
     cases hB : xqh op.toNat with
     | true =>
      have := h3.1.2 hB
      simp [xlb] at this
      omega
     | false =>
      have := h1.1.2 hB
      omega
    exact ⟨by omega, fa, fb⟩
def SysD.ok2 (S : SysD) : Prop := ∀ p ∈ S.parts, ∀ x ∈ p.inn, xb6 x
theorem xzt (h : xb3 S = 0) (hok : S.ok) (hok2 : S.ok2) : cS.good S := by
 have hs := xte h
 obtain ⟨h1, h2, h3, h4, _⟩ := xcu h
 have h3' : ∀ c ∈ S.chans, xb4 c = false := fun c hc => by simpa using (List.any_eq_false.1 h3) c hc
 unfold xby at h4
 simp only [Bool.and_eq_true, Bool.not_eq_true', List.any_eq_false] at h4
 have hp := hs.p
 refine ⟨⟨(show S.parts.length < 256 by omega), fun p (hpm : p ∈ S.parts) => ?_⟩, ⟨(show S.chans.length < 256 by have := hs.c; omega), fun c (hc : c ∈ S.chans) => ?_⟩, ⟨(show S.slots.length < 256 by have := hs.s; omega), fun t (ht : t ∈ S.slots) => ?_⟩⟩
 .have hx := hs.x p hpm
  obtain ⟨j, hj, rfl⟩ := List.mem_iff_getElem.1 hpm
  refine ⟨⟨(show S.parts[j].code.length < 256 by omega), fun i (hi : i ∈ S.parts[j].code) => ?_⟩, ⟨(show S.parts[j].inn.length < 256 by omega), fun x hxm => hok2 _ hpm x hxm⟩⟩
  obtain ⟨k, hk, rfl⟩ := List.mem_iff_getElem.1 hi
  have hc := (xem (h2 j hj)).2.2 k hk
  obtain ⟨a, b, c⟩ := xuq (show xob _ _ _ _ = 0 from hc)
  exact ⟨a, b, c, (hok _ hpm k hk).2.2.2⟩
 .have k1 := h3' c hc
  have k2 := h4.1 c hc
  unfold xb4 at k1
  unfold xb5 at k2
  simp only [Bool.and_eq_false_iff, bne_eq_false_iff_eq, Bool.or_eq_true, Bool.not_eq_true', not_or, Bool.not_eq_false, xaf, Bool.and_eq_true, decide_eq_true_eq] at k1 k2
  refine ⟨?_, ?_, ?_⟩
  .show 0 <= c.kd /\ c.kd < 256
   omega
  .show 0 <= c.fr /\ c.fr < 256
   omega
  .show 0 <= c.tt /\ c.tt < 256
   omega
 .have k2 := h4.2 t ht
  unfold xcm at k2
  simp only [Bool.or_eq_true, Bool.not_eq_true', not_or, Bool.not_eq_false, xaf, Bool.and_eq_true, decide_eq_true_eq] at k2
  refine ⟨?_, ?_⟩
  .show 0 <= t.pt /\ t.pt < 256
   omega
  .show 0 <= t.tk /\ t.tk < 256
   omega
theorem x08 (h : xb3 S = 0) (hok : S.ok) (hok2 : S.ok2) : xe3 (cS.enc S) = some S := by
 have h1 := xoe.de S [] (xzt h hok hok2)
 rw [List.append_nil] at h1
 unfold xe3
 rw [h1]
 show (if xb3 S = 0 then some S else none) = _
 rw [if_pos h]
theorem x32 (h : xb3 S = 0) (hok : S.ok) (hok2 : S.ok2) : rdS (cS.enc S) = S /\ rdE (cS.enc S) = 0 := by
 have hl := x4v (xte h)
 unfold rdS rdE
 rw [if_neg om, if_neg om, x08 h hok hok2]
 exact ⟨rfl, rfl⟩
theorem xw3 : xbm.ok2 := by
 intro p hp x hx
 have h : ∀ p ∈ xbm.parts, ∀ x ∈ p.inn, -9223372036854775808 <= x /\ x <= 9223372036854775807 := by decide +kernel
 exact h p hp x hx
theorem xgq : rdS (cS.enc xbm) = xbm /\ rdE (cS.enc xbm) = 0 := x32 xgh x0o xw3
end Go.Proofs.YtbkdoohhdkahiaaGreatDoor
