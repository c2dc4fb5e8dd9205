/- The reference: ImageFrom. -/
import Derived.Test.YtbhfnkbflikliaaDoorJ6
import Derived.Test.YtbhfnkbflikliaaDoorJ0
import Derived.Test.YtbhfnkbflikliaaDoorJ4
import Derived.Deep.QuietTactic
import Derived.BigQuiet
namespace Go.Proofs.YtbhfnkbflikliaaDoor
set_option linter.unusedSimpArgs false
set_option linter.unusedVariables false
open Go.RowKit Go.Sort
set_option maxRecDepth 100000 in
set_option maxHeartbeats 16000000 in
theorem imageFrom_any (b : List UInt8) (w : World) :
    Calls Tryd.prog 11 #[.string ⟨b.toArray⟩] w fun e w' => (fromD b = none ∧ e = .returned (.tuple #[.agg #[.slice none 0 0, .slice none 0 0, .slice none 0 0], .bool false]) ∧ Below w.heap.size w w') ∨
      (∃ S, fromD b = some S ∧ ∃ vp vc vs, e = .returned (.tuple #[.agg #[vp, vc, vs], .bool true]) ∧ Sys w' vp vc vs S ∧ Below w.heap.size w w') := by
  obtain ⟨j1, hj1, hj2, hj3, hj4⟩ := info_parts infoInsR
  obtain ⟨k1, hk1, hk2, hk3, hk4⟩ := info_parts infoIntR
  obtain ⟨m1, hm1, hm2, hm3, hm4⟩ := info_parts infoPrtR
  obtain ⟨c1, hc1, hc2, hc3, hc4⟩ := info_parts infoChnR
  obtain ⟨t1, ht1, ht2, ht3, ht4⟩ := info_parts infoSltR
  go_enter Tryd.func11, Tryd.ntmps11
  go_upto_region 3 with fail
  generalize hX : World.alloc _ _ = X
  have hXX : X = ((w.alloc (.cells #[.slice none 0 0, .slice none 0 0, .slice none 0 0] 26)).alloc (.cells #[.string ⟨b.toArray⟩] 66)).alloc (.cells #[.slice none 0 0, .slice none 0 0, .slice none 0 0] 26) := by rw [← hX]
  have HF : Hid (If w X (.slice none 0 0) (.slice none 0 0) (.slice none 0 0) sysZ b) := Lib.hid ⟨by rw [hXX]; exact (by repeat (first | exact Rw.new _ _ _ (by first | rfl | (simp; done) | omega | (simp; omega)) | refine Rw.alloc ?_ _)), by rw [hXX]; exact (by repeat (first | exact Rw.new _ _ _ (by first | rfl | (simp; done) | omega | (simp; omega)) | refine Rw.alloc ?_ _)), by rw [hXX]; exact (by repeat (first | exact Rw.new _ _ _ (by first | rfl | (simp; done) | omega | (simp; omega)) | refine Rw.alloc ?_ _)), SysO.nil _ _, by rw [hXX]; exact (by repeat (first | exact Below.refl _ _ | assumption | refine Below.drew ?_ | refine Below.alloc ?_ (by first | (simp; done) | (simp; omega)) _ | refine Below.setCell ?_ (by first | (simp; done) | (simp; omega)) _))⟩
  clear hX hXX
  go_wp2_with fail
  refine (eyeByte_any X (w.heap.size + 1) b HF.out.e).mono ?_
  rintro e w1 ⟨rfl, h1, o1⟩
  have HF1 := Lib.hid (HF.out.call o1 h1)
  have hE := eyeC_range b
  have HE1 := Lib.hid (show cP.ls.eye b = manyE cP (eyeB b).1.toNat (eyeB b).2 from rfl)
  obtain ⟨qa, HQA⟩ : ∃ qa, Hid ((eyeB b).2 = qa) := ⟨_, Lib.hid rfl⟩
  obtain ⟨KA, HKA⟩ : ∃ KA, Hid ((eyeB b).1.toNat = KA) := ⟨_, Lib.hid rfl⟩
  rw [HQA.out] at HF1
  rw [hE.1, HKA.out]
  have hKA : KA < 256 := by rw [← HKA.out]; exact hE.2
  clear HF h1 o1 hE
  go_wp2
  go_loopw [6] (fun nv wr => ∃ (j m : Nat) (ao : Option Addr) (cap : Nat), nv = .int .i64 m ∧ m + j = KA ∧ Hid (If w wr (.slice ao j cap) (.slice none 0 0) (.slice none 0 0) ⟨(manyE cP j qa).1, [], []⟩ (manyE cP j qa).2)) (fun nv _ => (intOf nv).toNat)
  case atStart => exact ⟨0, KA, none, 0, rfl, rfl, HF1⟩
  case round =>
    obtain ⟨j, m, ao, cap, rfl, hjm, HI⟩ := hrel
    clear HF1
    cases m with
    | succ m =>
      have hm : (0 : Int) < ((m + 1 : Nat) : Int) := by omega
      have hms : ((m + 1 : Nat) : Int) - 1 = (m : Int) := by omega
      obtain ⟨q0, HQ0⟩ : ∃ q0, Hid ((manyE cP j qa).2 = q0) := ⟨_, Lib.hid rfl⟩
      obtain ⟨ds, HDS⟩ : ∃ ds, Hid ((manyE cP j qa).1 = ds) := ⟨_, Lib.hid rfl⟩
      have hdl : ds.length = j := by rw [← HDS.out]; exact manyE_len _ _ _
      have HDL := Lib.hid hdl
      clear hdl
      rw [HQ0.out, HDS.out] at HI
      have hz := HI.out.z
      have HA := Lib.hid (HI.out.alloc (.cells #[.slice none 0 0, .slice none 0 0] 51))
      have R0 := Lib.hid (Rw.new wr 51 #[.slice none 0 0, .slice none 0 0] rfl)
      have S0 := Lib.hid (One.up (g := w.heap.size + 1) ((Below.refl wr.heap.size wr).alloc (Nat.le_refl _) (.cells #[.slice none 0 0, .slice none 0 0] 51)) (by omega))
      go_wp2_with fail
      refine (eyeByte_any _ (w.heap.size + 1) q0 HA.out.e).mono ?_
      rintro e w2 ⟨rfl, h2, o2⟩
      obtain ⟨px, hpx⟩ : ∃ px, px = wr.heap.size := ⟨_, rfl⟩
      have HC2 : Hid (Ic (w.heap.size + 1) px wr w2 (.slice none 0 0) (.slice none 0 0) ⟨[], []⟩ (eyeB q0).2) := Lib.hid ⟨by rw [hpx]; exact o2.rw R0.out (by omega), ⟨World.ownsRow_nil _ _ _ _, World.ownsRow_nil _ _ _ _⟩, h2, S0.out.trans o2⟩
      have hE := eyeC_range q0
      obtain ⟨qb, HQB⟩ : ∃ qb, Hid ((eyeB q0).2 = qb) := ⟨_, Lib.hid rfl⟩
      obtain ⟨KB, HKB⟩ : ∃ KB, Hid ((eyeB q0).1.toNat = KB) := ⟨_, Lib.hid rfl⟩
      rw [HQB.out] at HC2
      rw [hE.1, HKB.out]
      have hKB : KB < 256 := by rw [← HKB.out]; exact hE.2
      have HPX := Lib.hid hpx
      have hgp : w.heap.size + 1 < px := by omega
      rw [← hpx]
      clear HA R0 S0 h2 o2 hE hpx
      obtain ⟨ge, HGE⟩ : ∃ ge, Hid (w.heap.size + 1 = ge) := ⟨_, Lib.hid rfl⟩
      rw [HGE.out] at HC2 hgp
      rw [HGE.out]
      have hgw : ge < wr.heap.size := by rw [← HGE.out]; omega
      have hpw : wr.heap.size ≤ px := by rw [HPX.out]; exact Nat.le_refl _
      obtain ⟨w0, HW0⟩ : ∃ w0, Hid (w0 = wr) := ⟨_, Lib.hid rfl⟩
      rw [← HW0.out] at HC2 hgw hpw HI
      go_wp2
      go_loopw [8] (fun nv wr' => ∃ (j' m' : Nat) (ao' : Option Addr) (cap' : Nat), nv = .int .i64 m' ∧ m' + j' = KB ∧ Hid (Ic ge px w0 wr' (.slice ao' j' cap') (.slice none 0 0) ⟨(manyE cI j' qb).1, []⟩ (manyE cI j' qb).2)) (fun nv _ => (intOf nv).toNat)
      case atStart => exact ⟨0, KB, none, 0, rfl, rfl, HC2⟩
      case round =>
        obtain ⟨j', m', ao', cap', rfl, hjm', HC⟩ := hrel
        clear HC2
        cases m' with
        | succ m' =>
          have hm' : (0 : Int) < ((m' + 1 : Nat) : Int) := by omega
          have hms' : ((m' + 1 : Nat) : Int) - 1 = (m' : Int) := by omega
          obtain ⟨r0, HR0⟩ : ∃ r0, Hid ((manyE cI j' qb).2 = r0) := ⟨_, Lib.hid rfl⟩
          obtain ⟨es, HES⟩ : ∃ es, Hid ((manyE cI j' qb).1 = es) := ⟨_, Lib.hid rfl⟩
          have HEL : Hid (es.length = j') := Lib.hid (by rw [← HES.out]; exact manyE_len _ _ _)
          rw [HR0.out, HES.out] at HC
          have zc := HC.out.r.lt
          go_wp2_with fail
          refine (eyeByte_any _ ge r0 HC.out.e).mono ?_
          rintro e y1 ⟨rfl, h1, o1⟩
          obtain ⟨n1, HN1⟩ : ∃ n1, Hid ((eyeB r0).1 = n1) := ⟨_, Lib.hid rfl⟩
          obtain ⟨r1, HR1⟩ : ∃ r1, Hid ((eyeB r0).2 = r1) := ⟨_, Lib.hid rfl⟩
          rw [HR1.out] at h1
          rw [HN1.out]
          obtain ⟨iy, hiy⟩ : ∃ iy, iy = y1.heap.size := ⟨_, rfl⟩
          have hiz : wr.heap.size ≤ iy := by rw [hiy]; exact o1.size
          have hgi : ge < iy := by omega
          have Y1 : Hid (Iy ge iy 59 wr (y1.alloc (.cells #[.int .i64 n1, .int .i64 0, .int .i64 0, .int .i64 0] 59)) #[.int .i64 n1, .int .i64 0, .int .i64 0, .int .i64 0] r1) := Lib.hid (by rw [hiy]; exact Iy.new o1 h1 _ _ (by omega))
          go_upto_region 11 with fail
          rw [← hiy]
          obtain ⟨X1, HX1⟩ : ∃ X1, Hid (y1.alloc (.cells #[.int .i64 n1, .int .i64 0, .int .i64 0, .int .i64 0] 59) = X1) := ⟨_, Lib.hid rfl⟩
          rw [HX1.out] at Y1
          rw [HX1.out]
          have HIY := Lib.hid hiy
          clear h1 o1 hiy
          go_wp2_with fail
          refine (eyeByte_any _ ge r1 Y1.out.e).mono ?_
          rintro e y2 ⟨rfl, h1, o1⟩
          obtain ⟨n2, HN2⟩ : ∃ n2, Hid ((eyeB r1).1 = n2) := ⟨_, Lib.hid rfl⟩
          obtain ⟨r2, HR2⟩ : ∃ r2, Hid ((eyeB r1).2 = r2) := ⟨_, Lib.hid rfl⟩
          rw [HR2.out] at h1
          rw [HN2.out]
          have Ya := Y1.out.call o1 h1 hgi
          have kk := Ya.y.cell (j := 1) (v := .int .i64 0) rfl
          have ff := Ya.y.fr 1
          have Y2 : Hid (Iy ge iy 59 wr (y2.setCell ⟨iy, 1, none⟩ (.int .i64 n2)) #[.int .i64 n1, .int .i64 n2, .int .i64 0, .int .i64 0] r2) := Lib.hid (Ya.put hgi hiz 1 _)
          clear h1 o1 Y1 Ya
          go_wp2_with fail
          refine (eyeByte_any _ ge r2 Y2.out.e).mono ?_
          rintro e y3 ⟨rfl, h1, o1⟩
          obtain ⟨n3, HN3⟩ : ∃ n3, Hid ((eyeB r2).1 = n3) := ⟨_, Lib.hid rfl⟩
          obtain ⟨r3, HR3⟩ : ∃ r3, Hid ((eyeB r2).2 = r3) := ⟨_, Lib.hid rfl⟩
          rw [HR3.out] at h1
          rw [HN3.out]
          have Ya := Y2.out.call o1 h1 hgi
          clear kk ff
          have kk := Ya.y.cell (j := 2) (v := .int .i64 0) rfl
          have ff := Ya.y.fr 2
          have Y3 : Hid (Iy ge iy 59 wr (y3.setCell ⟨iy, 2, none⟩ (.int .i64 n3)) #[.int .i64 n1, .int .i64 n2, .int .i64 n3, .int .i64 0] r3) := Lib.hid (Ya.put hgi hiz 2 _)
          clear h1 o1 Y2 Ya
          go_wp2_with fail
          refine (eyeNum_any _ ge r3 Y3.out.e).mono ?_
          rintro e y4 ⟨rfl, h1, o1⟩
          obtain ⟨n4, HN4⟩ : ∃ n4, Hid ((eyeN 8 r3).1 = n4) := ⟨_, Lib.hid rfl⟩
          obtain ⟨r4, HR4⟩ : ∃ r4, Hid ((eyeN 8 r3).2 = r4) := ⟨_, Lib.hid rfl⟩
          rw [HR4.out] at h1
          rw [HN4.out]
          have Ya := Y3.out.call o1 h1 hgi
          clear kk ff
          have kk := Ya.y.cell (j := 3) (v := .int .i64 0) rfl
          have ff := Ya.y.fr 3
          have Y4 : Hid (Iy ge iy 59 wr (y4.setCell ⟨iy, 3, none⟩ (.int .i64 n4)) #[.int .i64 n1, .int .i64 n2, .int .i64 n3, .int .i64 n4] r4) := Lib.hid (Ya.put hgi hiz 3 _)
          clear h1 o1 Y3 Ya
          have HEY : Hid (cI.eye r0 = (⟨n1, n2, n3, n4⟩, r4)) := Lib.hid (by obtain rfl := HN1.out; obtain rfl := HR1.out; obtain rfl := HN2.out; obtain rfl := HR2.out; obtain rfl := HN3.out; obtain rfl := HR3.out; obtain rfl := HN4.out; obtain rfl := HR4.out; rfl)
          obtain ⟨V, HV⟩ : ∃ V, Hid (y4.setCell ⟨iy, 3, none⟩ (.int .i64 n4) = V) := ⟨_, Lib.hid rfl⟩
          go_upto_region 14 with fail
          rw [HV.out] at Y4
          rw [HV.out]
          clear kk ff
          have HCv := Lib.hid (HC.out.call Y4.out.s Y4.out.e hgp)
          have p0 := HCv.out.r.cell (j := 0) (v := .slice ao' j' cap') rfl
          have u0 := Y4.out.y.cell (j := 0) (v := .int .i64 n1) rfl
          have u1 := Y4.out.y.cell (j := 1) (v := .int .i64 n2) rfl
          have u2 := Y4.out.y.cell (j := 2) (v := .int .i64 n3) rfl
          have u3 := Y4.out.y.cell (j := 3) (v := .int .i64 n4) rfl
          have HCa := Lib.hid (HCv.out.alloc hgp (.cells #[.int .i64 n1, .int .i64 n2, .int .i64 n3, .int .i64 n4] 59))
          have HOW : Hid ((V.alloc (.cells #[.int .i64 n1, .int .i64 n2, .int .i64 n3, .int .i64 n4] 59)).ownsRow (px + 1) 59 4 (.slice ao' j' cap') j' (codeC es)) := Lib.hid (by have h : (V.alloc (.cells #[.int .i64 n1, .int .i64 n2, .int .i64 n3, .int .i64 n4] 59)).ownsRow (px + 1) 59 4 (.slice ao' j' cap') es.length (codeC es) := HCa.out.o.code; rw [HEL.out] at h; exact h)
          have zv : px + 1 ≤ V.heap.size := HCv.out.r.lt
          clear Y4 HCv HC
          go_wp2_with (at_builtin; refine wpList_append_lies _ rfl (.tmp 43) (.tmp 45) 48 rfl (px + 1) 59 j1 _ 4 32 Tryd.underlying48 hj1 hj2 hj3 hj4 rfl (by decide) _ j' (codeC es) rfl HOW.out ⟨V.heap.size, 0, none⟩ 1 1 [.int .i64 n1, .int .i64 n2, .int .i64 n3, .int .i64 n4] rfl rfl (new_rangeI _ _ _ _ rfl) (by simp [Value.oneCell']) (by decide) (by unfold maxLen; omega) (by omega) (by simp; omega) _ rfl ?_)
          intro g4 cap4 W4 hown hgrow hat hg4
          have hIC := HCa.out.code hgp hpw hgw hgrow (ds := es ++ [⟨n1, n2, n3, n4⟩]) (v' := .slice (some ⟨g4, 0, none⟩) (j' + 1) cap4) (by rw [List.length_append, HEL.out, codeC_snocI]; exact hown)
          have IC := Lib.hid hIC.1
          have k0 := hIC.2.cell (j := 0) (v := .slice ao' j' cap') rfl
          have f0 := hIC.2.fr 0
          clear hown hgrow hat hg4 hIC HCa HOW p0 u0 u1 u2 u3
          go_wp2
          go_roundw
          case rel => exact ⟨j' + 1, m', some ⟨g4, 0, none⟩, cap4, by go_num, by omega, by rw [(manyE_succ cI j' qb).1, (manyE_succ cI j' qb).2, HES.out, HR0.out, HEY.out]; exact IC⟩
          case measure => simp [intOf]
        | zero =>
          obtain rfl : j' = KB := by omega
          obtain ⟨q3, HQ3⟩ : ∃ q3, Hid ((manyE cI j' qb).2 = q3) := ⟨_, Lib.hid rfl⟩
          obtain ⟨code, HCD⟩ : ∃ code, Hid ((manyE cI j' qb).1 = code) := ⟨_, Lib.hid rfl⟩
          have HCL : Hid (code.length = j') := Lib.hid (by rw [← HCD.out]; exact manyE_len _ _ _)
          rw [HQ3.out, HCD.out] at HC
          go_wp2_with fail
          refine (eyeByte_any _ ge q3 HC.out.e).mono ?_
          rintro e w3 ⟨rfl, h2, o2⟩
          have HC3 := Lib.hid (HC.out.call o2 h2 hgp)
          have hE := eyeC_range q3
          obtain ⟨qc, HQC⟩ : ∃ qc, Hid ((eyeB q3).2 = qc) := ⟨_, Lib.hid rfl⟩
          obtain ⟨KC, HKC⟩ : ∃ KC, Hid ((eyeB q3).1.toNat = KC) := ⟨_, Lib.hid rfl⟩
          rw [HQC.out] at HC3
          rw [hE.1, HKC.out]
          have hKC : KC < 256 := by rw [← HKC.out]; exact hE.2
          clear HC h2 o2 hE
          go_wp2
          go_loopw [10] (fun nv wr' => ∃ (i m' : Nat) (bo : Option Addr) (bc : Nat), nv = .int .i64 m' ∧ m' + i = KC ∧ Hid (Ic ge px w0 wr' (.slice ao' j' cap') (.slice bo i bc) ⟨code, (manyE cN i qc).1⟩ (manyE cN i qc).2)) (fun nv _ => (intOf nv).toNat)
          case atStart => exact ⟨0, KC, none, 0, rfl, rfl, HC3⟩
          case round =>
            obtain ⟨i, m', bo, bc, rfl, him, HC⟩ := hrel
            clear HC3
            cases m' with
            | succ m' =>
              have hm' : (0 : Int) < ((m' + 1 : Nat) : Int) := by omega
              have hms' : ((m' + 1 : Nat) : Int) - 1 = (m' : Int) := by omega
              obtain ⟨r0, HR0⟩ : ∃ r0, Hid ((manyE cN i qc).2 = r0) := ⟨_, Lib.hid rfl⟩
              obtain ⟨es, HES⟩ : ∃ es, Hid ((manyE cN i qc).1 = es) := ⟨_, Lib.hid rfl⟩
              have HEL : Hid (es.length = i) := Lib.hid (by rw [← HES.out]; exact manyE_len _ _ _)
              rw [HR0.out, HES.out] at HC
              have zc := HC.out.r.lt
              go_upto_region 18 with fail
              refine region_still (S := fun W => W.cell? ⟨px, 1, none⟩ = some (.slice bo i bc)) 7 (by kernel_rfl) (HC.out.drew.r.cell (j := 1) (v := .slice bo i bc) rfl) (fun hHeld => ?_)
              refine Still.takeBy (i := 0) [] (v := ?v1) (by kernel_rfl) (by kernel_rfl) rfl (by kernel_rfl) (by kernel_rfl) (by kernel_rfl) (fun _ _ _ h => h) (Or.inl ⟨by rfl, ?y1⟩) hHeld ?r1
              case y1 => (intro w' hSw; (try dsimp only at hSw); go_simp; try with_reducible rfl)
              simp only [Act.put, List.getElem_toArray, List.getElem_cons_zero, List.getElem_cons_succ, List.setIfInBounds_toArray, List.set_cons_zero, List.set_cons_succ]
              refine Still.takeBy (i := 1) [] (v := ?v2) (by kernel_rfl) (by kernel_rfl) rfl (by kernel_rfl) (by kernel_rfl) (by kernel_rfl) (fun _ _ _ h => h) (Or.inl ⟨by rfl, ?y2⟩) hHeld ?r2
              case y2 => (intro w' hSw; (try dsimp only at hSw); go_simp; try with_reducible rfl)
              simp only [Act.put, List.getElem_toArray, List.getElem_cons_zero, List.getElem_cons_succ, List.setIfInBounds_toArray, List.set_cons_zero, List.set_cons_succ]
              refine Still.takeBy (i := 2) [] (v := ?v3) (by kernel_rfl) (by kernel_rfl) rfl (by kernel_rfl) (by kernel_rfl) (by kernel_rfl) (fun _ _ _ h => h) (Or.inl ⟨by rfl, ?y3⟩) hHeld ?r3
              case y3 => (intro w' hSw; (try dsimp only at hSw); go_simp; try with_reducible rfl)
              simp only [Act.put, List.getElem_toArray, List.getElem_cons_zero, List.getElem_cons_succ, List.setIfInBounds_toArray, List.set_cons_zero, List.set_cons_succ]
              refine Still.all (rs := [3]) (by kernel_rfl) (by simp) (Still.one (i := 3) rfl rfl (fun K hK => ?_) (by simp))
              refine wp_call 24 _ _ rfl (enters Tryd.func24 (by kernel_rfl) (by kernel_rfl)) #[.pointer (some ⟨ge, 0, none⟩)] (by first | rfl | simp [Act.eval, Act.put]) ((eyeNum_any _ ge r0 HC.out.drew.e).mono ?_)
              rintro e V ⟨rfl, h1, o1⟩
              have HCv := Lib.hid (HC.out.drew.call o1 h1 hgp)
              obtain ⟨n1, HN1⟩ : ∃ n1, Hid ((eyeN 8 r0).1 = n1) := ⟨_, Lib.hid rfl⟩
              obtain ⟨r1, HR1⟩ : ∃ r1, Hid ((eyeN 8 r0).2 = r1) := ⟨_, Lib.hid rfl⟩
              rw [HR1.out] at HCv
              rw [HN1.out]
              have HEY : Hid (cN.eye r0 = (n1, r1)) := Lib.hid (by obtain rfl := HN1.out; obtain rfl := HR1.out; rfl)
              refine ⟨_, rfl, hK _ _ (fun _ => HCv.out.r.cell (j := 1) rfl) (fun hh => ?_)⟩
              have hHeld := hh (by decide)
              clear hh hK K h1 o1 HC
              try simp only [Act.put, List.getElem_toArray, List.getElem_cons_zero, List.getElem_cons_succ, List.setIfInBounds_toArray, List.set_cons_zero, List.set_cons_succ]
              refine Still.all (rs := [4]) (by kernel_rfl) (by simp) (Still.one (i := 4) rfl rfl (fun K hK => ?_) (by simp))
              go_simp
              have HCa := Lib.hid (HCv.out.alloc hgp (.cells #[.int .i64 n1] 3))
              refine hK _ _ (fun _ => HCa.out.r.cell (j := 1) rfl) (fun hh => ?_)
              have hHeld := hh (by decide)
              clear hh hK K
              try simp only [Act.put, List.getElem_toArray, List.getElem_cons_zero, List.getElem_cons_succ, List.setIfInBounds_toArray, List.set_cons_zero, List.set_cons_succ]
              have HOW : Hid ((V.alloc (.cells #[.int .i64 n1] 3)).ownsRow (px + 1) 3 1 (.slice bo i bc) i (ints es)) := Lib.hid (by have h : (V.alloc (.cells #[.int .i64 n1] 3)).ownsRow (px + 1) 3 1 (.slice bo i bc) es.length (ints es) := HCa.out.o.inn; rw [HEL.out] at h; exact h)
              have zv : px + 1 ≤ V.heap.size := HCv.out.r.lt
              refine Still.all (rs := [5]) (by kernel_rfl) (by simp) (Still.one (i := 5) rfl rfl (fun K hK => ?_) (by simp))
              refine wp_append_lies _ (.tmp 55) (.tmp 58) 49 (by rfl) (px + 1) 3 k1 (.int .i64 0) 1 8 Tryd.underlying49 hk1 hk2 hk3 hk4 rfl (by decide) _ i (ints es) (by first | rfl | simp [Act.eval, Act.put]) HOW.out ⟨V.heap.size, 0, none⟩ 1 1 [.int .i64 n1] (by first | rfl | simp [Act.eval, Act.put]) rfl (new_rangeI _ _ _ _ rfl) (by simp [Value.oneCell']) (by decide) (by unfold maxLen; omega) (by omega) (by simp; omega) _ rfl ?_
              intro g4 cap4 W4 hown hgrow hat hg4
              have hIC := HCa.out.inn hgp hpw hgw hgrow (es := es ++ [n1]) (v' := .slice (some ⟨g4, 0, none⟩) (i + 1) cap4) (by rw [List.length_append, HEL.out, ints_snocI]; exact hown)
              have IC := Lib.hid hIC.1
              have k0 := hIC.2.cell (j := 1) (v := .slice bo i bc) rfl
              have f0 := hIC.2.fr 1
              clear hown hgrow hat hg4 hIC HCa HOW
              refine hK _ _ (fun _ => k0) (fun hh => ?_)
              have hHeld := hh (by decide)
              clear hh hK K
              try simp only [Act.put, List.getElem_toArray, List.getElem_cons_zero, List.getElem_cons_succ, List.setIfInBounds_toArray, List.set_cons_zero, List.set_cons_succ]
              refine Still.takeBy (i := 6) [] (v := ?v4) (by kernel_rfl) (by kernel_rfl) rfl (by kernel_rfl) (by kernel_rfl) (by kernel_rfl) (fun _ _ _ h => h) (Or.inl ⟨by rfl, ?y4⟩) hHeld ?r4
              case y4 => (intro w' hSw; (try dsimp only at hSw); go_simp; try with_reducible rfl)
              simp only [Act.put, List.getElem_toArray, List.getElem_cons_zero, List.getElem_cons_succ, List.setIfInBounds_toArray, List.set_cons_zero, List.set_cons_succ]
              refine Still.all (rs := [7]) (by kernel_rfl) (by simp) (Still.one (i := 7) rfl rfl (fun K hK => ?_) (by simp))
              clear hHeld
              go_simp
              refine hK _ _ (fun h => absurd rfl h) (fun _ => ?_)
              clear hK K
              refine Still.over (by kernel_rfl) ?_ _
              go_wp2
              go_roundw
              case rel => exact ⟨i + 1, m', some ⟨g4, 0, none⟩, cap4, by go_num, by omega, by rw [(manyE_succ cN i qc).1, (manyE_succ cN i qc).2, HES.out, HR0.out, HEY.out]; exact IC⟩
              case measure => simp [intOf]
            | zero =>
              obtain rfl : i = KC := by omega
              obtain ⟨qd, HQD⟩ : ∃ qd, Hid ((manyE cN i qc).2 = qd) := ⟨_, Lib.hid rfl⟩
              obtain ⟨inn, HIN⟩ : ∃ inn, Hid ((manyE cN i qc).1 = inn) := ⟨_, Lib.hid rfl⟩
              rw [HQD.out, HIN.out] at HC
              have HEY : Hid (cP.eye q0 = (⟨code, inn⟩, qd)) := Lib.hid (by obtain rfl := HIN.out; obtain rfl := HQD.out; obtain rfl := HQC.out; obtain rfl := HKC.out; obtain rfl := HCD.out; obtain rfl := HQ3.out; obtain rfl := HQB.out; obtain rfl := HKB.out; rfl)
              have HIv := Lib.hid (HI.out.call (by rw [HGE.out]; exact HC.out.s) (by rw [HGE.out]; exact HC.out.e))
              have hs5 : Rw wr (ge + 1) 26 #[.slice ao j cap, .slice none 0 0, .slice none 0 0] := by rw [← HGE.out]; exact HIv.out.s
              have s5 := hs5.cell (j := 0) (v := .slice ao j cap) rfl
              have u0 := HC.out.r.cell (j := 0) (v := .slice ao' j' cap') rfl
              have u1 := HC.out.r.cell (j := 1) (v := .slice bo i bc) rfl
              have HIa := Lib.hid (HIv.out.alloc (.cells #[.slice ao' j' cap', .slice bo i bc] 51))
              have HPO := Lib.hid ((HC.out.o.low (show w.heap.size + 3 ≤ px + 1 by rw [← HGE.out] at hgp; omega)).alloc (.cells #[.slice ao' j' cap', .slice bo i bc] 51))
              obtain ⟨us, hul, how, hin⟩ := HIa.out.o.p
              have how' : (wr.alloc (.cells #[.slice ao' j' cap', .slice bo i bc] 51)).ownsRow (w.heap.size + 3) 51 2 (.slice ao j cap) ds.length (rowC prC us) := how
              rw [HDL.out] at how'
              have HOW := Lib.hid how'
              have HUL := Lib.hid hul
              have HUI := Lib.hid hin
              have zv := HIv.out.z
              clear hs5 how how' hul hin HIv
              go_upto_region 19 with fail
              go_wp2_with (at_builtin; refine wpList_append_lies _ rfl (.tmp 62) (.tmp 64) 22 rfl (w.heap.size + 3) 51 m1 _ 2 48 Tryd.underlying22 hm1 hm2 hm3 hm4 rfl (by decide) _ j (rowC prC us) rfl HOW.out ⟨wr.heap.size, 0, none⟩ 1 1 [.slice ao' j' cap', .slice bo i bc] rfl rfl (new_rangeI _ _ _ _ rfl) (by simp [Value.oneCell']) (by decide) (by unfold maxLen; omega) (by omega) (by simp; omega) _ rfl ?_)
              intro g4 cap4 W4 hown hgrow hat hg4
              have hPO : PartsO (w.heap.size + 3) W4 (.slice (some ⟨g4, 0, none⟩) (j + 1) cap4) (ds ++ [⟨code, inn⟩]) := PartsO.snoc HDL.out HUL.out HOW.out HUI.out HPO.out hgrow hown
              have IF : Hid (If w (W4.setCell ⟨ge + 1, 0, none⟩ (.slice (some ⟨g4, 0, none⟩) (j + 1) cap4)) (.slice (some ⟨g4, 0, none⟩) (j + 1) cap4) (.slice none 0 0) (.slice none 0 0) ⟨ds ++ [⟨code, inn⟩], [], []⟩ qd) := Lib.hid (by
                rw [← HGE.out]
                exact If.putP (S' := ⟨ds ++ [⟨code, inn⟩], [], []⟩) HIa.out hgrow (fun k e => own_block HOW.out k e) ⟨hPO, World.ownsRow_nil _ _ _ _, World.ownsRow_nil _ _ _ _⟩)
              have hs6 : Rw W4 (ge + 1) 26 #[.slice ao j cap, .slice none 0 0, .slice none 0 0] := by rw [← HGE.out]; exact (HIa.out.grow hgrow (fun k e => own_block HOW.out k e)).2.2.1
              have k0 := hs6.cell (j := 0) (v := .slice ao j cap) rfl
              have f0 := hs6.fr 0
              clear hown hgrow hat hg4 hPO hs6 HIa HOW HPO s5 u0 u1
              go_wp2
              rw [← HGE.out] at IF
              rw [← HGE.out]
              go_roundw
              case rel => exact ⟨j + 1, m, some ⟨g4, 0, none⟩, cap4, by go_num, by omega, by rw [(manyE_succ cP j qa).1, (manyE_succ cP j qa).2, HDS.out, HQ0.out, HEY.out]; exact IF⟩
              case measure => simp [intOf]
    | zero =>
      obtain rfl : j = KA := by omega
      obtain ⟨q0, HQ0⟩ : ∃ q0, Hid ((manyE cP j qa).2 = q0) := ⟨_, Lib.hid rfl⟩
      obtain ⟨ps, HPS⟩ : ∃ ps, Hid ((manyE cP j qa).1 = ps) := ⟨_, Lib.hid rfl⟩
      rw [HQ0.out, HPS.out] at HI
      go_wp2_with fail
      refine (eyeByte_any _ (w.heap.size + 1) q0 HI.out.e).mono ?_
      rintro e w2 ⟨rfl, h2, o2⟩
      have HF1 := Lib.hid (HI.out.call o2 h2)
      have hE := eyeC_range q0
      obtain ⟨qb, HQB⟩ : ∃ qb, Hid ((eyeB q0).2 = qb) := ⟨_, Lib.hid rfl⟩
      obtain ⟨KB, HKB⟩ : ∃ KB, Hid ((eyeB q0).1.toNat = KB) := ⟨_, Lib.hid rfl⟩
      rw [HQB.out] at HF1
      rw [hE.1, HKB.out]
      have hKB : KB < 256 := by rw [← HKB.out]; exact hE.2
      obtain ⟨ge, HGE⟩ : ∃ ge, Hid (w.heap.size + 1 = ge) := ⟨_, Lib.hid rfl⟩
      rw [HGE.out]
      clear h2 o2 hE HI
      go_wp2
      go_loopw [11] (fun nv wr' => ∃ (i m' : Nat) (bo : Option Addr) (bc : Nat), nv = .int .i64 m' ∧ m' + i = KB ∧ Hid (If w wr' (.slice ao j cap) (.slice bo i bc) (.slice none 0 0) ⟨ps, (manyE cC i qb).1, []⟩ (manyE cC i qb).2)) (fun nv _ => (intOf nv).toNat)
      case atStart => exact ⟨0, KB, none, 0, rfl, rfl, HF1⟩
      case round =>
        obtain ⟨i, m', bo, bc, rfl, him, HI⟩ := hrel
        clear HF1
        cases m' with
        | succ m' =>
          have hm' : (0 : Int) < ((m' + 1 : Nat) : Int) := by omega
          have hms' : ((m' + 1 : Nat) : Int) - 1 = (m' : Int) := by omega
          obtain ⟨r0, HR0⟩ : ∃ r0, Hid ((manyE cC i qb).2 = r0) := ⟨_, Lib.hid rfl⟩
          obtain ⟨es, HES⟩ : ∃ es, Hid ((manyE cC i qb).1 = es) := ⟨_, Lib.hid rfl⟩
          have HEL : Hid (es.length = i) := Lib.hid (by rw [← HES.out]; exact manyE_len _ _ _)
          rw [HR0.out, HES.out] at HI
          have HEe : Hid (Eye wr ge r0) := Lib.hid (by rw [← HGE.out]; exact HI.out.e)
          have hgw : ge < wr.heap.size := HEe.out.lt
          go_wp2_with fail
          refine (eyeByte_any _ ge r0 HEe.out).mono ?_
          rintro e y1 ⟨rfl, h1, o1⟩
          obtain ⟨n1, HN1⟩ : ∃ n1, Hid ((eyeB r0).1 = n1) := ⟨_, Lib.hid rfl⟩
          obtain ⟨r1, HR1⟩ : ∃ r1, Hid ((eyeB r0).2 = r1) := ⟨_, Lib.hid rfl⟩
          rw [HR1.out] at h1
          rw [HN1.out]
          obtain ⟨iy, hiy⟩ : ∃ iy, iy = y1.heap.size := ⟨_, rfl⟩
          have hiz : wr.heap.size ≤ iy := by rw [hiy]; exact o1.size
          have hgi : ge < iy := by omega
          have Y1 : Hid (Iy ge iy 55 wr (y1.alloc (.cells #[.int .i64 n1, .int .i64 0, .int .i64 0] 55)) #[.int .i64 n1, .int .i64 0, .int .i64 0] r1) := Lib.hid (by rw [hiy]; exact Iy.new o1 h1 _ _ (by omega))
          go_upto_region 24 with fail
          rw [← hiy]
          obtain ⟨X1, HX1⟩ : ∃ X1, Hid (y1.alloc (.cells #[.int .i64 n1, .int .i64 0, .int .i64 0] 55) = X1) := ⟨_, Lib.hid rfl⟩
          rw [HX1.out] at Y1
          rw [HX1.out]
          have HIY := Lib.hid hiy
          clear h1 o1 hiy
          go_wp2_with fail
          refine (eyeByte_any _ ge r1 Y1.out.e).mono ?_
          rintro e y2 ⟨rfl, h1, o1⟩
          obtain ⟨n2, HN2⟩ : ∃ n2, Hid ((eyeB r1).1 = n2) := ⟨_, Lib.hid rfl⟩
          obtain ⟨r2, HR2⟩ : ∃ r2, Hid ((eyeB r1).2 = r2) := ⟨_, Lib.hid rfl⟩
          rw [HR2.out] at h1
          rw [HN2.out]
          have Ya := Y1.out.call o1 h1 hgi
          have kk := Ya.y.cell (j := 1) (v := .int .i64 0) rfl
          have ff := Ya.y.fr 1
          have Y2 : Hid (Iy ge iy 55 wr (y2.setCell ⟨iy, 1, none⟩ (.int .i64 n2)) #[.int .i64 n1, .int .i64 n2, .int .i64 0] r2) := Lib.hid (Ya.put hgi hiz 1 _)
          clear h1 o1 Y1 Ya
          go_wp2_with fail
          refine (eyeByte_any _ ge r2 Y2.out.e).mono ?_
          rintro e y3 ⟨rfl, h1, o1⟩
          obtain ⟨n3, HN3⟩ : ∃ n3, Hid ((eyeB r2).1 = n3) := ⟨_, Lib.hid rfl⟩
          obtain ⟨r3, HR3⟩ : ∃ r3, Hid ((eyeB r2).2 = r3) := ⟨_, Lib.hid rfl⟩
          rw [HR3.out] at h1
          rw [HN3.out]
          have Ya := Y2.out.call o1 h1 hgi
          clear kk ff
          have kk := Ya.y.cell (j := 2) (v := .int .i64 0) rfl
          have ff := Ya.y.fr 2
          have Y3 : Hid (Iy ge iy 55 wr (y3.setCell ⟨iy, 2, none⟩ (.int .i64 n3)) #[.int .i64 n1, .int .i64 n2, .int .i64 n3] r3) := Lib.hid (Ya.put hgi hiz 2 _)
          clear h1 o1 Y2 Ya
          have HEY : Hid (cC.eye r0 = (⟨n1, n2, n3⟩, r3)) := Lib.hid (by obtain rfl := HN1.out; obtain rfl := HR1.out; obtain rfl := HN2.out; obtain rfl := HR2.out; obtain rfl := HN3.out; obtain rfl := HR3.out; rfl)
          obtain ⟨V, HV⟩ : ∃ V, Hid (y3.setCell ⟨iy, 2, none⟩ (.int .i64 n3) = V) := ⟨_, Lib.hid rfl⟩
          go_upto_region 26 with fail
          rw [HV.out] at Y3
          rw [HV.out]
          clear kk ff
          have HIv := Lib.hid (HI.out.call (by rw [HGE.out]; exact Y3.out.s) (by rw [HGE.out]; exact Y3.out.e))
          have hs5 : Rw V (ge + 1) 26 #[.slice ao j cap, .slice bo i bc, .slice none 0 0] := by rw [← HGE.out]; exact HIv.out.s
          have s5 := hs5.cell (j := 1) (v := .slice bo i bc) rfl
          have u0 := Y3.out.y.cell (j := 0) (v := .int .i64 n1) rfl
          have u1 := Y3.out.y.cell (j := 1) (v := .int .i64 n2) rfl
          have u2 := Y3.out.y.cell (j := 2) (v := .int .i64 n3) rfl
          have HIa := Lib.hid (HIv.out.alloc (.cells #[.int .i64 n1, .int .i64 n2, .int .i64 n3] 55))
          have HOW : Hid ((V.alloc (.cells #[.int .i64 n1, .int .i64 n2, .int .i64 n3] 55)).ownsRow (w.heap.size + 3) 55 3 (.slice bo i bc) i (rowC chC es)) := Lib.hid (by have h : (V.alloc (.cells #[.int .i64 n1, .int .i64 n2, .int .i64 n3] 55)).ownsRow (w.heap.size + 3) 55 3 (.slice bo i bc) es.length (rowC chC es) := HIa.out.o.c; rw [HEL.out] at h; exact h)
          have zv := HIv.out.z
          clear Y3 HIv HI hs5 HEe
          go_wp2_with (at_builtin; refine wpList_append_lies _ rfl (.tmp 83) (.tmp 85) 23 rfl (w.heap.size + 3) 55 c1 _ 3 24 Tryd.underlying23 hc1 hc2 hc3 hc4 rfl (by decide) _ i (rowC chC es) rfl HOW.out ⟨V.heap.size, 0, none⟩ 1 1 [.int .i64 n1, .int .i64 n2, .int .i64 n3] rfl rfl (new_rangeI _ _ _ _ rfl) (by simp [Value.oneCell']) (by decide) (by unfold maxLen; omega) (by omega) (by simp; omega) _ rfl ?_)
          intro g4 cap4 W4 hown hgrow hat hg4
          have hNO : W4.ownsRow (w.heap.size + 3) 55 3 (.slice (some ⟨g4, 0, none⟩) (i + 1) cap4) (es ++ [(⟨n1, n2, n3⟩ : Chn)]).length (rowC chC (es ++ [⟨n1, n2, n3⟩])) := by rw [List.length_append, HEL.out, chC_snocI]; exact hown
          have IF : Hid (If w (W4.setCell ⟨ge + 1, 1, none⟩ (.slice (some ⟨g4, 0, none⟩) (i + 1) cap4)) (.slice ao j cap) (.slice (some ⟨g4, 0, none⟩) (i + 1) cap4) (.slice none 0 0) ⟨ps, es ++ [⟨n1, n2, n3⟩], []⟩ r3) := Lib.hid (by
            rw [← HGE.out]
            exact If.putC (S' := ⟨ps, es ++ [⟨n1, n2, n3⟩], []⟩) HIa.out hgrow (fun k e => own_block HOW.out k e) ⟨HIa.out.o.p.growT hgrow HOW.out (by decide) (by decide) (by decide), hNO, World.ownsRow_nil _ _ _ _⟩)
          have hs6 : Rw W4 (ge + 1) 26 #[.slice ao j cap, .slice bo i bc, .slice none 0 0] := by rw [← HGE.out]; exact (HIa.out.grow hgrow (fun k e => own_block HOW.out k e)).2.2.1
          have k0 := hs6.cell (j := 1) (v := .slice bo i bc) rfl
          have f0 := hs6.fr 1
          clear hown hgrow hat hg4 hNO hs6 HIa HOW s5 u0 u1 u2
          go_wp2
          go_roundw
          case rel => exact ⟨i + 1, m', some ⟨g4, 0, none⟩, cap4, by go_num, by omega, by rw [(manyE_succ cC i qb).1, (manyE_succ cC i qb).2, HES.out, HR0.out, HEY.out]; exact IF⟩
          case measure => simp [intOf]
        | zero =>
          obtain rfl : i = KB := by omega
          obtain ⟨q3, HQ3⟩ : ∃ q3, Hid ((manyE cC i qb).2 = q3) := ⟨_, Lib.hid rfl⟩
          obtain ⟨cs, HCS⟩ : ∃ cs, Hid ((manyE cC i qb).1 = cs) := ⟨_, Lib.hid rfl⟩
          have HCL : Hid (cs.length = i) := Lib.hid (by rw [← HCS.out]; exact manyE_len _ _ _)
          rw [HQ3.out, HCS.out] at HI
          have HEe : Hid (Eye wr ge q3) := Lib.hid (by rw [← HGE.out]; exact HI.out.e)
          go_wp2_with fail
          refine (eyeByte_any _ ge q3 HEe.out).mono ?_
          rintro e w3 ⟨rfl, h2, o2⟩
          rw [← HGE.out] at h2 o2
          have HF1 := Lib.hid (HI.out.call o2 h2)
          have hE := eyeC_range q3
          obtain ⟨qc, HQC⟩ : ∃ qc, Hid ((eyeB q3).2 = qc) := ⟨_, Lib.hid rfl⟩
          obtain ⟨KC, HKC⟩ : ∃ KC, Hid ((eyeB q3).1.toNat = KC) := ⟨_, Lib.hid rfl⟩
          rw [HQC.out] at HF1
          rw [hE.1, HKC.out]
          have hKC : KC < 256 := by rw [← HKC.out]; exact hE.2
          obtain ⟨vc, HVC⟩ : ∃ vc, Hid (Value.slice bo i bc = vc) := ⟨_, Lib.hid rfl⟩
          rw [HVC.out] at HF1
          clear h2 o2 hE HI HEe
          go_wp2
          go_loopw [13] (fun nv wr' => ∃ (i m' : Nat) (bo : Option Addr) (bc : Nat), nv = .int .i64 m' ∧ m' + i = KC ∧ Hid (If w wr' (.slice ao j cap) vc (.slice bo i bc) ⟨ps, cs, (manyE cT i qc).1⟩ (manyE cT i qc).2)) (fun nv _ => (intOf nv).toNat)
          case atStart => exact ⟨0, KC, none, 0, rfl, rfl, HF1⟩
          case round =>
            obtain ⟨i5, m', bo5, bc5, rfl, him5, HI⟩ := hrel
            clear HF1
            cases m' with
            | succ m' =>
              have hm' : (0 : Int) < ((m' + 1 : Nat) : Int) := by omega
              have hms' : ((m' + 1 : Nat) : Int) - 1 = (m' : Int) := by omega
              obtain ⟨r0, HR0⟩ : ∃ r0, Hid ((manyE cT i5 qc).2 = r0) := ⟨_, Lib.hid rfl⟩
              obtain ⟨es, HES⟩ : ∃ es, Hid ((manyE cT i5 qc).1 = es) := ⟨_, Lib.hid rfl⟩
              have HEL : Hid (es.length = i5) := Lib.hid (by rw [← HES.out]; exact manyE_len _ _ _)
              rw [HR0.out, HES.out] at HI
              have HEe : Hid (Eye wr ge r0) := Lib.hid (by rw [← HGE.out]; exact HI.out.e)
              have hgw : ge < wr.heap.size := HEe.out.lt
              go_wp2_with fail
              refine (eyeByte_any _ ge r0 HEe.out).mono ?_
              rintro e y1 ⟨rfl, h1, o1⟩
              obtain ⟨n1, HN1⟩ : ∃ n1, Hid ((eyeB r0).1 = n1) := ⟨_, Lib.hid rfl⟩
              obtain ⟨r1, HR1⟩ : ∃ r1, Hid ((eyeB r0).2 = r1) := ⟨_, Lib.hid rfl⟩
              rw [HR1.out] at h1
              rw [HN1.out]
              obtain ⟨iy, hiy⟩ : ∃ iy, iy = y1.heap.size := ⟨_, rfl⟩
              have hiz : wr.heap.size ≤ iy := by rw [hiy]; exact o1.size
              have hgi : ge < iy := by omega
              have Y1 : Hid (Iy ge iy 57 wr (y1.alloc (.cells #[.int .i64 n1, .int .i64 0] 57)) #[.int .i64 n1, .int .i64 0] r1) := Lib.hid (by rw [hiy]; exact Iy.new o1 h1 _ _ (by omega))
              go_upto_region 31 with fail
              rw [← hiy]
              obtain ⟨X1, HX1⟩ : ∃ X1, Hid (y1.alloc (.cells #[.int .i64 n1, .int .i64 0] 57) = X1) := ⟨_, Lib.hid rfl⟩
              rw [HX1.out] at Y1
              rw [HX1.out]
              have HIY := Lib.hid hiy
              clear h1 o1 hiy
              go_wp2_with fail
              refine (eyeByte_any _ ge r1 Y1.out.e).mono ?_
              rintro e y2 ⟨rfl, h1, o1⟩
              obtain ⟨n2, HN2⟩ : ∃ n2, Hid ((eyeB r1).1 = n2) := ⟨_, Lib.hid rfl⟩
              obtain ⟨r2, HR2⟩ : ∃ r2, Hid ((eyeB r1).2 = r2) := ⟨_, Lib.hid rfl⟩
              rw [HR2.out] at h1
              rw [HN2.out]
              have Ya := Y1.out.call o1 h1 hgi
              have kk := Ya.y.cell (j := 1) (v := .int .i64 0) rfl
              have ff := Ya.y.fr 1
              have Y2 : Hid (Iy ge iy 57 wr (y2.setCell ⟨iy, 1, none⟩ (.int .i64 n2)) #[.int .i64 n1, .int .i64 n2] r2) := Lib.hid (Ya.put hgi hiz 1 _)
              clear h1 o1 Y1 Ya
              have HEY : Hid (cT.eye r0 = (⟨n1, n2⟩, r2)) := Lib.hid (by obtain rfl := HN1.out; obtain rfl := HR1.out; obtain rfl := HN2.out; obtain rfl := HR2.out; rfl)
              obtain ⟨V, HV⟩ : ∃ V, Hid (y2.setCell ⟨iy, 1, none⟩ (.int .i64 n2) = V) := ⟨_, Lib.hid rfl⟩
              go_upto_region 32 with fail
              rw [HV.out] at Y2
              rw [HV.out]
              clear kk ff
              have HIv := Lib.hid (HI.out.call (by rw [HGE.out]; exact Y2.out.s) (by rw [HGE.out]; exact Y2.out.e))
              have hs5 : Rw V (ge + 1) 26 #[.slice ao j cap, vc, .slice bo5 i5 bc5] := by rw [← HGE.out]; exact HIv.out.s
              have s5 := hs5.cell (j := 2) (v := .slice bo5 i5 bc5) rfl
              have u0 := Y2.out.y.cell (j := 0) (v := .int .i64 n1) rfl
              have u1 := Y2.out.y.cell (j := 1) (v := .int .i64 n2) rfl
              have HIa := Lib.hid (HIv.out.alloc (.cells #[.int .i64 n1, .int .i64 n2] 57))
              have HOW : Hid ((V.alloc (.cells #[.int .i64 n1, .int .i64 n2] 57)).ownsRow (w.heap.size + 3) 57 2 (.slice bo5 i5 bc5) i5 (rowC slC es)) := Lib.hid (by have h : (V.alloc (.cells #[.int .i64 n1, .int .i64 n2] 57)).ownsRow (w.heap.size + 3) 57 2 (.slice bo5 i5 bc5) es.length (rowC slC es) := HIa.out.o.s; rw [HEL.out] at h; exact h)
              have zv := HIv.out.z
              clear Y2 HIv HI hs5 HEe
              go_wp2_with (at_builtin; refine wpList_append_lies _ rfl (.tmp 101) (.tmp 103) 24 rfl (w.heap.size + 3) 57 t1 _ 2 16 Tryd.underlying24 ht1 ht2 ht3 ht4 rfl (by decide) _ i5 (rowC slC es) rfl HOW.out ⟨V.heap.size, 0, none⟩ 1 1 [.int .i64 n1, .int .i64 n2] rfl rfl (new_rangeI _ _ _ _ rfl) (by simp [Value.oneCell']) (by decide) (by unfold maxLen; omega) (by omega) (by simp; omega) _ rfl ?_)
              intro g4 cap4 W4 hown hgrow hat hg4
              have hNO : W4.ownsRow (w.heap.size + 3) 57 2 (.slice (some ⟨g4, 0, none⟩) (i5 + 1) cap4) (es ++ [(⟨n1, n2⟩ : Slt)]).length (rowC slC (es ++ [⟨n1, n2⟩])) := by rw [List.length_append, HEL.out, slC_snocI]; exact hown
              have IF : Hid (If w (W4.setCell ⟨ge + 1, 2, none⟩ (.slice (some ⟨g4, 0, none⟩) (i5 + 1) cap4)) (.slice ao j cap) vc (.slice (some ⟨g4, 0, none⟩) (i5 + 1) cap4) ⟨ps, cs, es ++ [⟨n1, n2⟩]⟩ r2) := Lib.hid (by
                rw [← HGE.out]
                exact If.putS (S' := ⟨ps, cs, es ++ [⟨n1, n2⟩]⟩) HIa.out hgrow (fun k e => own_block HOW.out k e) ⟨HIa.out.o.p.growT hgrow HOW.out (by decide) (by decide) (by decide), own_growT HIa.out.o.c hgrow HOW.out rfl (by decide), hNO⟩)
              have hs6 : Rw W4 (ge + 1) 26 #[.slice ao j cap, vc, .slice bo5 i5 bc5] := by rw [← HGE.out]; exact (HIa.out.grow hgrow (fun k e => own_block HOW.out k e)).2.2.1
              have k0 := hs6.cell (j := 2) (v := .slice bo5 i5 bc5) rfl
              have f0 := hs6.fr 2
              clear hown hgrow hat hg4 hNO hs6 HIa HOW s5 u0 u1
              go_wp2
              go_roundw
              case rel => exact ⟨i5 + 1, m', some ⟨g4, 0, none⟩, cap4, by go_num, by omega, by rw [(manyE_succ cT i5 qc).1, (manyE_succ cT i5 qc).2, HES.out, HR0.out, HEY.out]; exact IF⟩
              case measure => simp [intOf]
            | zero =>
              obtain rfl : i5 = KC := by omega
              obtain ⟨q5, HQ5⟩ : ∃ q5, Hid ((manyE cT i5 qc).2 = q5) := ⟨_, Lib.hid rfl⟩
              obtain ⟨ts, HTS⟩ : ∃ ts, Hid ((manyE cT i5 qc).1 = ts) := ⟨_, Lib.hid rfl⟩
              rw [HQ5.out, HTS.out] at HI
              have HEY : Hid ((cS.eye b).1 = ⟨ps, cs, ts⟩) := Lib.hid (by obtain rfl := HTS.out; obtain rfl := HQ5.out; obtain rfl := HQC.out; obtain rfl := HKC.out; obtain rfl := HCS.out; obtain rfl := HQ3.out; obtain rfl := HQB.out; obtain rfl := HKB.out; obtain rfl := HPS.out; obtain rfl := HQ0.out; obtain rfl := HQA.out; obtain rfl := HKA.out; rfl)
              obtain ⟨S, HSD⟩ : ∃ S : SysD, Hid (⟨ps, cs, ts⟩ = S) := ⟨_, Lib.hid rfl⟩
              rw [HSD.out] at HEY HI
              have HOK : Hid S.ok := Lib.hid (by rw [← HEY.out]; exact good_ok (cS_ok.lg b))
              obtain ⟨pa, pc, hvp⟩ := HI.out.o.p.form
              obtain ⟨ka, kc, hvc⟩ := own_form HI.out.o.c
              obtain ⟨sa, sc, hvs⟩ := own_form HI.out.o.s
              rw [hvp, hvc, hvs] at HI
              clear hvp hvc hvs
              have hs5 : Rw wr (ge + 1) 26 #[.slice pa S.parts.length pc, .slice ka S.chans.length kc, .slice sa S.slots.length sc] := by rw [← HGE.out]; exact HI.out.s
              have s0 := hs5.cell (j := 0) (v := .slice pa S.parts.length pc) rfl
              have s1 := hs5.cell (j := 1) (v := .slice ka S.chans.length kc) rfl
              have s2 := hs5.cell (j := 2) (v := .slice sa S.slots.length sc) rfl
              have HS5 := Lib.hid hs5
              clear hs5
              go_wp2_with fail
              refine (sysRef_any S HOK.out _ _ _ _ HI.out.o.r).mono ?_
              rintro e w6 ⟨rfl, b6⟩
              have HD6 := Lib.hid (HI.out.b.trans (b6.mono HI.out.b.size))
              have R26 := Lib.hid (HI.out.r2.up b6 HI.out.r2.lt)
              have HO6 := Lib.hid (HI.out.o.up b6)
              have HS6 := Lib.hid (HS5.out.up b6 HS5.out.lt)
              have hz6 : w.heap.size < w6.heap.size := R26.out.lt
              clear b6 s0 s1 s2 HS5 HI
              by_cases hk : chkS S = 0
              · have hkb : (chkS S != 0) = false := by simp [hk]
                have HK := Lib.hid hk
                have s0 := HS6.out.cell (j := 0) (v := .slice pa S.parts.length pc) rfl
                have s1 := HS6.out.cell (j := 1) (v := .slice ka S.chans.length kc) rfl
                have s2 := HS6.out.cell (j := 2) (v := .slice sa S.slots.length sc) rfl
                rw [hk]
                clear hk hkb
                go_wp2_with fail
                refine (imageBytes_any S (smallI HK.out) _ _ _ _ HO6.out.r).mono ?_
                rintro e w7 ⟨rfl, b7⟩
                have HD7 := Lib.hid (HD6.out.trans (b7.mono HD6.out.size))
                have R27 := Lib.hid (R26.out.up b7 R26.out.lt)
                have HO7 := Lib.hid (HO6.out.up b7)
                have HS7 := Lib.hid (HS6.out.up b7 HS6.out.lt)
                have hz7 : w.heap.size < w7.heap.size := R27.out.lt
                clear b7 s0 s1 s2 HS6 HD6 R26 HO6
                by_cases hbe : cS.enc S = b
                · have HY : Hid (fromD b = some S) := Lib.hid (by unfold fromD; rw [HEY.out, if_pos ⟨HK.out, hbe⟩])
                  have HBE := Lib.hid hbe
                  rw [hbe]
                  clear hbe
                  have s0 := HS7.out.cell (j := 0) (v := .slice pa S.parts.length pc) rfl
                  have s1 := HS7.out.cell (j := 1) (v := .slice ka S.chans.length kc) rfl
                  have s2 := HS7.out.cell (j := 2) (v := .slice sa S.slots.length sc) rfl
                  go_wp2_with (refine wpList_store_rowW rfl 26 (.tmp 2) (.tmp 116) rfl w.heap.size #[.slice pa S.parts.length pc, .slice ka S.chans.length kc, .slice sa S.slots.length sc] rfl rfl 26 _ R27.out sizeSysR rfl (by simp [Value.oneCell']) ?_)
                  intro W9 HW9
                  have r9 : Rw W9 w.heap.size 26 #[.slice pa S.parts.length pc, .slice ka S.chans.length kc, .slice sa S.slots.length sc] := by rw [HW9.out]; exact R27.out.row _
                  have HB9 := Lib.hid (show Below w.heap.size w W9 by rw [HW9.out]; exact below_row HD7.out (Nat.le_refl _) _)
                  have HO9 := Lib.hid (show SysO (w.heap.size + 3) W9 (.slice pa S.parts.length pc) (.slice ka S.chans.length kc) (.slice sa S.slots.length sc) S by rw [HW9.out]; exact HO7.out.row (by omega) _)
                  clear HW9
                  go_wp2
                  refine bodyPost_ret (results_row_tmp Tryd.results11 _ _ w.heap.size _ _ rfl rfl (run_loadVar_row _ _ 26 _ _ (0, 0) _ r9 Tryd.underlying26 rfl sizeSysR)) rfl (.inr ⟨S, HY.out, _, _, _, rfl, HO9.out.r, HB9.out⟩)
                · have HN : Hid (fromD b = none) := Lib.hid (by unfold fromD; rw [HEY.out, if_neg (fun h => hbe h.2)])
                  have hbf : (cS.enc S == b) = false := by simpa using hbe
                  clear hbe
                  go_upto_region 34 with fail
                  go_wp2_with (refine wpList_store_rowW rfl 26 (.tmp 2) (.tmp 115) rfl w.heap.size #[.slice none 0 0, .slice none 0 0, .slice none 0 0] rfl rfl 26 _ R27.out sizeSysR rfl (by simp [Value.oneCell']) ?_)
                  intro W9 HW9
                  have r9 : Rw W9 w.heap.size 26 #[.slice none 0 0, .slice none 0 0, .slice none 0 0] := by rw [HW9.out]; exact R27.out.row _
                  have HB9 := Lib.hid (show Below w.heap.size w W9 by rw [HW9.out]; exact below_row HD7.out (Nat.le_refl _) _)
                  clear HW9
                  go_wp2
                  refine bodyPost_ret (results_row_tmp Tryd.results11 _ _ w.heap.size _ _ rfl rfl (run_loadVar_row _ _ 26 _ _ (0, 0) _ r9 Tryd.underlying26 rfl sizeSysR)) rfl (.inl ⟨HN.out, rfl, HB9.out⟩)
              · have hkb : (chkS S == 0) = false := by simpa using hk
                have HN : Hid (fromD b = none) := Lib.hid (by unfold fromD; rw [HEY.out, if_neg (fun h => hk h.1)])
                go_upto_region 34 with fail
                go_wp2_with (refine wpList_store_rowW rfl 26 (.tmp 2) (.tmp 115) rfl w.heap.size #[.slice none 0 0, .slice none 0 0, .slice none 0 0] rfl rfl 26 _ R26.out sizeSysR rfl (by simp [Value.oneCell']) ?_)
                intro W9 HW9
                have r9 : Rw W9 w.heap.size 26 #[.slice none 0 0, .slice none 0 0, .slice none 0 0] := by rw [HW9.out]; exact R26.out.row _
                have HB9 := Lib.hid (show Below w.heap.size w W9 by rw [HW9.out]; exact below_row HD6.out (Nat.le_refl _) _)
                clear HW9
                go_wp2
                refine bodyPost_ret (results_row_tmp Tryd.results11 _ _ w.heap.size _ _ rfl rfl (run_loadVar_row _ _ 26 _ _ (0, 0) _ r9 Tryd.underlying26 rfl sizeSysR)) rfl (.inl ⟨HN.out, rfl, HB9.out⟩)
end Go.Proofs.YtbhfnkbflikliaaDoor

namespace Go.Proofs.YtbhfnkbflikliaaDoor
set_option linter.unusedSimpArgs false
set_option linter.unusedVariables false
open Go.RowKit Go.Sort
def NewB (n : Nat) (v : Value) : Prop := ∀ k, v.ownBlock = some k → n ≤ k
theorem NewB.mono {n m : Nat} {v : Value} (h : NewB n v) (hm : m ≤ n) : NewB m v := fun k e => Nat.le_trans hm (h k e)
theorem newB_nil (n : Nat) (c : Nat) : NewB n (.slice none 0 c) := fun k e => by cases e
theorem newB_at {n g o l c : Nat} (h : n ≤ g) : NewB n (.slice (some ⟨g, o, none⟩) l c) := fun k e => by simp [Value.ownBlock] at e; omega
def PartsN (n : Nat) (w : World) (v : Value) (ps : List Prt) : Prop :=
  ∃ vs : List (Value × Value), vs.length = ps.length ∧ Sl w 2 v ps.length (rowC prC vs) ∧ NewB n v ∧ ∀ k (hk : k < ps.length) (hk' : k < vs.length), PrtR w vs[k].1 vs[k].2 ps[k] ∧ NewB n vs[k].1 ∧ NewB n vs[k].2
structure SysN (n : Nat) (w : World) (vp vc vs : Value) (S : SysD) : Prop where
  p : PartsN n w vp S.parts
  c : Sl w 3 vc S.chans.length (rowC chC S.chans)
  s : Sl w 2 vs S.slots.length (rowC slC S.slots)
  nc : NewB n vc
  ns : NewB n vs
theorem PartsN.r {n : Nat} {w : World} {v : Value} {ps : List Prt} (h : PartsN n w v ps) : PartsR w v ps := by
  obtain ⟨vs, h1, h2, _, h4⟩ := h
  exact ⟨vs, h1, h2, fun k hk hk' => (h4 k hk hk').1⟩
theorem SysN.sys {n : Nat} {w : World} {vp vc vs : Value} {S : SysD} (h : SysN n w vp vc vs S) : Sys w vp vc vs S := ⟨h.p.r, h.c, h.s⟩
theorem Sl.far {w : World} {size n m c j : Nat} {v : Value} {xs : List Value} (h : Sl w size v m xs) (hn : NewB n v) (hc : c < n) (u : Value) : Sl (w.setCell ⟨c, j, none⟩ u) size v m xs := h.set u (fun e => by have := hn c e; omega)
theorem SysN.set {n : Nat} {w : World} {vp vc vs : Value} {S : SysD} (h : SysN n w vp vc vs S) {c j : Nat} (hc : c < n) (u : Value) : SysN n (w.setCell ⟨c, j, none⟩ u) vp vc vs S := by
  obtain ⟨ps, h1, h2, h3, h4⟩ := h.p
  exact ⟨⟨ps, h1, h2.far h3 hc u, h3, fun k hk hk' => ⟨⟨(h4 k hk hk').1.code.far (h4 k hk hk').2.1 hc u, (h4 k hk hk').1.inn.far (h4 k hk hk').2.2 hc u⟩, (h4 k hk hk').2⟩⟩, h.c.far h.nc hc u, h.s.far h.ns hc u, h.nc, h.ns⟩
theorem SysN.up {n : Nat} {w w' : World} {vp vc vs : Value} {S : SysD} (h : SysN n w vp vc vs S) (hb : Below w.heap.size w w') : SysN n w' vp vc vs S := by
  obtain ⟨ps, h1, h2, h3, h4⟩ := h.p
  exact ⟨⟨ps, h1, h2.up hb, h3, fun k hk hk' => ⟨(h4 k hk hk').1.up hb, (h4 k hk hk').2⟩⟩, h.c.up hb, h.s.up hb, h.nc, h.ns⟩
theorem lit_sl (w : World) (xs : List Value) (t : TypeId) (g n size : Nat) (hg : g = w.heap.size) (hl : xs.length = n * size) : Sl (w.alloc (.cells xs.toArray t)) size (.slice (some ⟨g, 0, none⟩) n n) n xs := by
  subst hg
  refine ⟨hl, _, _, rfl, Nat.le_refl _, fun _ => ⟨_, 0, rfl, by simp, fun j u hj => ?_⟩⟩
  rw [Nat.zero_add, World.cell?_alloc_new, ← Array.getElem?_toList]
  exact hj
theorem Sl.up1 {w : World} {size n : Nat} {v : Value} {xs : List Value} (h : Sl w size v n xs) (o : Obj) : Sl (w.alloc o) size v n xs := h.up ((Below.refl _ _).alloc (Nat.le_refl _) _)
def relayS : SysD := ⟨[⟨[⟨10, 0, 0, 0⟩, ⟨12, 0, 0, 0⟩, ⟨15, 0, 0, 0⟩], [6]⟩, ⟨tellerL, []⟩, ⟨[⟨13, 0, 1, 1⟩, ⟨9, 1, 0, 0⟩, ⟨11, 0, 0, 0⟩, ⟨15, 0, 0, 0⟩], []⟩, ⟨[⟨11, 0, 0, 0⟩, ⟨8, 0, 0, 0⟩], []⟩], [⟨2, 0, 1⟩, ⟨1, 1, 2⟩], [⟨0, 3⟩, ⟨1, 4⟩, ⟨3, 1⟩, ⟨2, 4⟩]⟩
theorem relay_chk : chkS relayS = 0 := by decide +kernel
theorem relay_ok : relayS.ok := by
  intro p hp j hj
  have h : ∀ p ∈ relayS.parts, ∀ i ∈ p.code, i.ok := by
    intro p hp i hi
    simp only [relayS, List.mem_cons, List.not_mem_nil, or_false] at hp
    rcases hp with rfl | rfl | rfl | rfl
    all_goals simp only [tellerL, List.mem_cons, List.not_mem_nil, or_false] at hi
    · rcases hi with rfl | rfl | rfl <;> exact ⟨⟨by decide, by decide⟩, ⟨by decide, by decide⟩, ⟨by decide, by decide⟩, ⟨by decide, by decide⟩⟩
    · rcases hi with rfl | rfl | rfl | rfl | rfl <;> exact ⟨⟨by decide, by decide⟩, ⟨by decide, by decide⟩, ⟨by decide, by decide⟩, ⟨by decide, by decide⟩⟩
    · rcases hi with rfl | rfl | rfl | rfl <;> exact ⟨⟨by decide, by decide⟩, ⟨by decide, by decide⟩, ⟨by decide, by decide⟩, ⟨by decide, by decide⟩⟩
    · rcases hi with rfl | rfl <;> exact ⟨⟨by decide, by decide⟩, ⟨by decide, by decide⟩, ⟨by decide, by decide⟩, ⟨by decide, by decide⟩⟩
  exact h p hp _ (List.getElem_mem hj)
set_option maxRecDepth 100000 in
theorem tellerN_any (w : World) : Calls Tryd.prog 41 #[] w fun e w' => e = .returned (.slice (some ⟨w.heap.size, 0, none⟩) 5 5) ∧ w' = w.alloc (.cells (codeC tellerL).toArray 59) := by
  go_enter Tryd.func41, Tryd.ntmps41
  go_wp2
  go_ret
  exact ⟨rfl, rfl⟩
set_option maxRecDepth 100000 in
set_option maxHeartbeats 2000000 in
theorem relay_any (w : World) : Calls Tryd.prog 20 #[] w fun e w' => ∃ vp vc vs, e = .returned (.agg #[vp, vc, vs]) ∧ SysN (w.heap.size + 1) w' vp vc vs relayS ∧ Below w.heap.size w w' := by
  go_enter Tryd.func20, Tryd.ntmps20
  go_wp2_with (go_at_call 41; refine (tellerN_any _).mono ?_; rintro e w1 ⟨rfl, rfl⟩)
  refine bodyPost_ret (v := .agg #[.slice (some ⟨w.heap.size + 1 + 1 + 1 + 1 + 1 + 1, 0, none⟩) 4 4, .slice (some ⟨w.heap.size + 1 + 1 + 1 + 1 + 1 + 1 + 1, 0, none⟩) 2 2, .slice (some ⟨w.heap.size + 1 + 1 + 1 + 1 + 1 + 1 + 1 + 1, 0, none⟩) 4 4]) (by simp [results, Tryd.f20, go_sem]) rfl ⟨_, _, _, rfl, ?_, (by repeat (first | exact Below.refl _ _ | assumption | refine Below.drew ?_ | refine Below.alloc ?_ (by first | (simp; done) | (simp; omega)) _ | refine Below.setCell ?_ (by first | (simp; done) | (simp; omega)) _))⟩
  refine ⟨⟨[(.slice (some ⟨w.heap.size + 1, 0, none⟩) 3 3, .slice (some ⟨w.heap.size + 1 + 1, 0, none⟩) 1 1), (.slice (some ⟨w.heap.size + 1 + 1 + 1, 0, none⟩) 5 5, .slice none 0 0), (.slice (some ⟨w.heap.size + 1 + 1 + 1 + 1, 0, none⟩) 4 4, .slice none 0 0), (.slice (some ⟨w.heap.size + 1 + 1 + 1 + 1 + 1, 0, none⟩) 2 2, .slice none 0 0)], rfl, ?_, newB_at (by omega), ?_⟩, ?_, ?_, newB_at (by omega), newB_at (by omega)⟩
  · exact (by repeat (first | exact lit_sl _ _ _ _ _ _ (by simp) rfl | refine Sl.up1 ?_ _))
  · intro k hk hk'
    have hk4 : k = 0 ∨ k = 1 ∨ k = 2 ∨ k = 3 := by have : k < 4 := hk; omega
    rcases hk4 with rfl | rfl | rfl | rfl
    · exact ⟨⟨(by repeat (first | exact lit_sl _ _ _ _ _ _ (by simp) rfl | refine Sl.up1 ?_ _)), (by repeat (first | exact lit_sl _ _ _ _ _ _ (by simp) rfl | refine Sl.up1 ?_ _))⟩, newB_at (by omega), newB_at (by omega)⟩
    · exact ⟨⟨(by repeat (first | exact lit_sl _ _ _ _ _ _ (by simp) rfl | refine Sl.up1 ?_ _)), Sl.nil _ _⟩, newB_at (by omega), newB_nil _ _⟩
    · exact ⟨⟨(by repeat (first | exact lit_sl _ _ _ _ _ _ (by simp) rfl | refine Sl.up1 ?_ _)), Sl.nil _ _⟩, newB_at (by omega), newB_nil _ _⟩
    · exact ⟨⟨(by repeat (first | exact lit_sl _ _ _ _ _ _ (by simp) rfl | refine Sl.up1 ?_ _)), Sl.nil _ _⟩, newB_at (by omega), newB_nil _ _⟩
  · exact (by repeat (first | exact lit_sl _ _ _ _ _ _ (by simp) rfl | refine Sl.up1 ?_ _))
  · exact (by repeat (first | exact lit_sl _ _ _ _ _ _ (by simp) rfl | refine Sl.up1 ?_ _))
end Go.Proofs.YtbhfnkbflikliaaDoor

namespace Go.Proofs.YtbhfnkbflikliaaDoor
set_option linter.unusedSimpArgs false
set_option linter.unusedVariables false
open Go.RowKit Go.Sort
theorem Sl.drewN {w : World} {size : Nat} {v : Value} {m : Nat} {xs : List Value} (h : Sl w size v m xs) (n : Nat) : Sl (w.drewN n) size v m xs := h
theorem quiet_n {f : Nat} {args : Array Value} {w : World} {n x : Nat} {v : Value} (h : Calls Tryd.prog f args (w.drewN (n + x)) fun e w' => e = .returned v ∧ ∃ m, w' = (w.drewN (n + x)).drewN m) : Calls Tryd.prog f args (w.drewN (n + x)) fun e w'' => e = .returned v ∧ ∃ m, w'' = w.drewN (n + m) :=
  h.mono fun _ _ ⟨he, m, hm⟩ => ⟨he, x + m, by rw [hm, World.drewN_drewN, Nat.add_assoc]⟩
set_option maxHeartbeats 1000000 in
theorem sameInts_q (xs : List Int) (v u : Value) (w : World) (hx : Sl w 1 v xs.length (ints xs)) (hy : Sl w 1 u xs.length (ints xs)) (hm : xs.length < 4294967281) :
    Calls Tryd.prog 22 #[v, u] w fun e w' => e = .returned (.bool true) ∧ ∃ n, w' = w.drewN n := by
  obtain ⟨ax, cx, rfl⟩ := hx.form
  obtain ⟨ay, cy, rfl⟩ := hy.form
  have hl' : ((xs.length : Int) != (xs.length : Int)) = false := by simp
  have HX := Lib.hid hx
  have HY := Lib.hid hy
  clear hx hy
  go_enter Tryd.func22, Tryd.ntmps22
  go_wp2
  go_loopw [5] (fun i wr => ∃ k : Nat, i = .int .i64 k ∧ k ≤ xs.length ∧ ∃ n, wr = w.drewN n) (fun i _ => xs.length - (intOf i).toNat)
  case atStart => exact ⟨0, rfl, Nat.zero_le _, 0, rfl⟩
  case round =>
    obtain ⟨k, rfl, hk, n, rfl⟩ := hrel
    by_cases hlt : k < xs.length
    · obtain ⟨b, off, cap, e1, hcap, hbw, hc⟩ := HX.out.open (by omega)
      obtain ⟨b', off', cap', e2, hcap', hbw', hc'⟩ := HY.out.open (by omega)
      cases e1
      cases e2
      have c0 := hc k _ (ints_at xs k hlt)
      have c1 := hc' k _ (ints_at xs k hlt)
      have i1 : (0 : Int) ≤ k := by omega
      have i2 : (k : Int) < xs.length := by omega
      have hq' : (xs[k] != xs[k]) = false := by simp
      clear hc hc'
      go_wp2
      go_quiet (fail)
      all_goals go_wp2
      all_goals
        go_roundw
        case rel => exact ⟨k + 1, by go_num, by omega, _, rfl⟩
        case measure => simp [intOf]; omega
    · have hkc : ¬ (k : Int) < xs.length := by omega
      go_wp2
      go_ret
      exact ⟨rfl, n, rfl⟩
set_option maxHeartbeats 1000000 in
theorem sameCode_q (l : List Ins) (v u : Value) (w : World) (hx : Sl w 4 v l.length (codeC l)) (hy : Sl w 4 u l.length (codeC l)) (hm : l.length < 4294967281) :
    Calls Tryd.prog 21 #[v, u] w fun e w' => e = .returned (.bool true) ∧ ∃ n, w' = w.drewN n := by
  obtain ⟨ax, cx, rfl⟩ := hx.form
  obtain ⟨ay, cy, rfl⟩ := hy.form
  have hl' : ((l.length : Int) != (l.length : Int)) = false := by simp
  have HX := Lib.hid hx
  have HY := Lib.hid hy
  clear hx hy
  go_enter Tryd.func21, Tryd.ntmps21
  go_wp2
  go_loopw [5] (fun i wr => ∃ k : Nat, i = .int .i64 k ∧ k ≤ l.length ∧ ∃ n, wr = w.drewN n) (fun i _ => l.length - (intOf i).toNat)
  case atStart => exact ⟨0, rfl, Nat.zero_le _, 0, rfl⟩
  case round =>
    obtain ⟨k, rfl, hk, n, rfl⟩ := hrel
    by_cases hlt : k < l.length
    · obtain ⟨b, off, cap, e1, hcap, hbw, hc⟩ := HX.out.open (by omega)
      obtain ⟨b', off', cap', e2, hcap', hbw', hc'⟩ := HY.out.open (by omega)
      cases e1
      cases e2
      obtain ⟨c0, c1, c2, c3⟩ := code_cells hc k hlt
      obtain ⟨d0, d1, d2, d3⟩ := code_cells hc' k hlt
      have i1 : (0 : Int) ≤ k := by omega
      have i2 : (k : Int) < l.length := by omega
      have k1 : (l[k].op == l[k].op) = true := by simp
      have k2 : (l[k].a == l[k].a) = true := by simp
      have k3 : (l[k].b == l[k].b) = true := by simp
      have k4 : (l[k].n == l[k].n) = true := by simp
      clear hc hc'
      go_wp2
      go_quiet (fail)
      all_goals go_wp2
      all_goals
        go_roundw
        case rel => exact ⟨k + 1, by go_num, by omega, _, rfl⟩
        case measure => simp [intOf]; omega
    · have hkc : ¬ (k : Int) < l.length := by omega
      go_wp2
      go_ret
      exact ⟨rfl, n, rfl⟩
set_option maxRecDepth 100000 in
set_option maxHeartbeats 4000000 in
theorem sameSys_any (S : SysD) (hb4 : S.parts.length ≤ 1000) (hb6 : S.chans.length ≤ 1000) (hb7 : S.slots.length ≤ 1000) (hcl : ∀ j (hj : j < S.parts.length), S.parts[j].code.length ≤ 1000 ∧ S.parts[j].inn.length ≤ 1000) (vp vc vs up uc us : Value) (w : World) (hS : Sys w vp vc vs S) (hT : Sys w up uc us S) :
    Calls Tryd.prog 10 #[.agg #[vp, vc, vs], .agg #[up, uc, us]] w fun e w' => e = .returned (.bool true) ∧ Below w.heap.size w w' := by
  obtain ⟨pa, pc, rfl⟩ := hS.p.form
  obtain ⟨ca, cc, rfl⟩ := hS.c.form
  obtain ⟨sa, sc, rfl⟩ := hS.s.form
  obtain ⟨pa', pc', rfl⟩ := hT.p.form
  obtain ⟨ca', cc', rfl⟩ := hT.c.form
  obtain ⟨sa', sc', rfl⟩ := hT.s.form
  have n1 : ((S.parts.length : Int) != (S.parts.length : Int)) = false := by simp
  have n2 : ((S.chans.length : Int) != (S.chans.length : Int)) = false := by simp
  have n3 : ((S.slots.length : Int) != (S.slots.length : Int)) = false := by simp
  have hA := box_new w (.slice pa S.parts.length pc) (.slice ca S.chans.length cc) (.slice sa S.slots.length sc) 26 _ rfl
  have hA' := hA.up (w' := (w.alloc (.cells #[.slice pa S.parts.length pc, .slice ca S.chans.length cc, .slice sa S.slots.length sc] 26)).alloc (.cells #[.slice pa' S.parts.length pc', .slice ca' S.chans.length cc', .slice sa' S.slots.length sc'] 26)) ((Below.refl _ _).alloc (Nat.le_refl _) _)
  have hB := box_new (w.alloc (.cells #[.slice pa S.parts.length pc, .slice ca S.chans.length cc, .slice sa S.slots.length sc] 26)) (.slice pa' S.parts.length pc') (.slice ca' S.chans.length cc') (.slice sa' S.slots.length sc') 26 (w.heap.size + 1) (by simp)
  have hD : Below w.heap.size w ((w.alloc (.cells #[.slice pa S.parts.length pc, .slice ca S.chans.length cc, .slice sa S.slots.length sc] 26)).alloc (.cells #[.slice pa' S.parts.length pc', .slice ca' S.chans.length cc', .slice sa' S.slots.length sc'] 26)) := (by repeat (first | exact Below.refl _ _ | assumption | refine Below.drew ?_ | refine Below.alloc ?_ (by first | (simp; done) | (simp; omega)) _ | refine Below.setCell ?_ (by first | (simp; done) | (simp; omega)) _))
  have HS := Lib.hid (hS.up hD)
  have HT := Lib.hid (hT.up hD)
  have HCL := Lib.hid hcl
  clear hS hT hcl hA
  go_enter Tryd.func10, Tryd.ntmps10
  go_wp2
  generalize (w.alloc (.cells #[.slice pa S.parts.length pc, .slice ca S.chans.length cc, .slice sa S.slots.length sc] 26)).alloc (.cells #[.slice pa' S.parts.length pc', .slice ca' S.chans.length cc', .slice sa' S.slots.length sc'] 26) = W at *
  have HD := Lib.hid hD
  have a0 := hA'.p
  have a1 := hA'.c
  have a2 := hA'.s
  have b0 := hB.p
  have b1 := hB.c
  have b2 := hB.s
  clear hA' hB hD
  go_loopw [5] (fun i wr => ∃ k : Nat, i = .int .i64 k ∧ k ≤ S.parts.length ∧ ∃ n, wr = W.drewN n) (fun i _ => S.parts.length - (intOf i).toNat)
  case atStart => exact ⟨0, rfl, Nat.zero_le _, 0, rfl⟩
  case round =>
    obtain ⟨k, rfl, hk, n, rfl⟩ := hrel
    by_cases hlt : k < S.parts.length
    · have hli : (k : Int) < S.parts.length := by omega
      have h0 : (0 : Int) ≤ k := by omega
      obtain ⟨x1, y1, z1, e1, _, _, hpp⟩ := HS.out.p.open (by omega)
      obtain ⟨x2, y2, z2, e2, _, _, hqq⟩ := HT.out.p.open (by omega)
      cases e1
      cases e2
      obtain ⟨c, i, c0, c1, hpr⟩ := hpp k hlt
      obtain ⟨c', i', d0, d1, hqr⟩ := hqq k hlt
      obtain ⟨f1, g1, rfl⟩ := hpr.code.form
      obtain ⟨f2, g2, rfl⟩ := hpr.inn.form
      obtain ⟨f3, g3, rfl⟩ := hqr.code.form
      obtain ⟨f4, g4, rfl⟩ := hqr.inn.form
      have HPR := Lib.hid hpr
      have HQR := Lib.hid hqr
      have hl2 := HCL.out k hlt
      clear hpp hqq hpr hqr
      go_wp2
      go_quiet (first | (go_at_call 21; exact quiet_n (sameCode_q _ _ _ _ (HPR.out.code.drewN _) (HQR.out.code.drewN _) (by omega))) | (go_at_call 22; exact quiet_n (sameInts_q _ _ _ _ (HPR.out.inn.drewN _) (HQR.out.inn.drewN _) (by omega))))
      all_goals go_wp2
      all_goals
        go_roundw
        case rel => exact ⟨k + 1, by go_num, by omega, _, rfl⟩
        case measure => simp [intOf]; omega
    · have hli : ¬ (k : Int) < S.parts.length := by omega
      clear hlt hk
      go_wp2
      go_loopw [6] (fun i wr => ∃ k : Nat, i = .int .i64 k ∧ k ≤ S.chans.length ∧ ∃ n, wr = W.drewN n) (fun i _ => S.chans.length - (intOf i).toNat)
      case atStart => exact ⟨0, rfl, Nat.zero_le _, _, rfl⟩
      case round =>
        clear hli
        obtain ⟨k, rfl, hk, n, rfl⟩ := hrel
        by_cases hlt : k < S.chans.length
        · have hli : (k : Int) < S.chans.length := by omega
          have h0 : (0 : Int) ≤ k := by omega
          obtain ⟨x1, y1, z1, e1, _, _, hpp⟩ := HS.out.c.open (by omega)
          obtain ⟨x2, y2, z2, e2, _, _, hqq⟩ := HT.out.c.open (by omega)
          cases e1
          cases e2
          obtain ⟨c0, c1, c2⟩ := chan_cells hpp k hlt
          obtain ⟨d0, d1, d2⟩ := chan_cells hqq k hlt
          have q1 : (S.chans[k].kd == S.chans[k].kd) = true := by simp
          have q2 : (S.chans[k].fr == S.chans[k].fr) = true := by simp
          have q3 : (S.chans[k].tt == S.chans[k].tt) = true := by simp
          clear hpp hqq
          go_wp2
          go_quiet (fail)
          all_goals go_wp2
          all_goals
            go_roundw
            case rel => exact ⟨k + 1, by go_num, by omega, _, rfl⟩
            case measure => simp [intOf]; omega
        · have hli : ¬ (k : Int) < S.chans.length := by omega
          clear hlt hk
          go_wp2
          go_loopw [7] (fun i wr => ∃ k : Nat, i = .int .i64 k ∧ k ≤ S.slots.length ∧ ∃ n, wr = W.drewN n) (fun i _ => S.slots.length - (intOf i).toNat)
          case atStart => exact ⟨0, rfl, Nat.zero_le _, _, rfl⟩
          case round =>
            clear hli
            obtain ⟨k, rfl, hk, n, rfl⟩ := hrel
            by_cases hlt : k < S.slots.length
            · have hli : (k : Int) < S.slots.length := by omega
              have h0 : (0 : Int) ≤ k := by omega
              obtain ⟨x1, y1, z1, e1, _, _, hpp⟩ := HS.out.s.open (by omega)
              obtain ⟨x2, y2, z2, e2, _, _, hqq⟩ := HT.out.s.open (by omega)
              cases e1
              cases e2
              obtain ⟨c0, c1⟩ := slot_cells hpp k hlt
              obtain ⟨d0, d1⟩ := slot_cells hqq k hlt
              have q1 : (S.slots[k].pt == S.slots[k].pt) = true := by simp
              have q2 : (S.slots[k].tk == S.slots[k].tk) = true := by simp
              clear hpp hqq
              go_wp2
              go_quiet (fail)
              all_goals go_wp2
              all_goals
                go_roundw
                case rel => exact ⟨k + 1, by go_num, by omega, _, rfl⟩
                case measure => simp [intOf]; omega
            · have hli : ¬ (k : Int) < S.slots.length := by omega
              clear hlt hk
              go_wp2
              go_ret
              exact ⟨rfl, below_drewN HD.out _⟩
end Go.Proofs.YtbhfnkbflikliaaDoor
