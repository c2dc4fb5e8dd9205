/- kern: the small tests of a world. -/
import Derived.Test.YtnnnljfdjdehaaaDoorJ2
import Derived.Deep.QuietTactic
import Derived.BigQuiet
namespace Go.Proofs.YtnnnljfdjdehaaaDoor
set_option linter.unusedSimpArgs false
set_option linter.unusedVariables false
open Go.RowKit Go.Sort

theorem range_up {B : Nat} {w w' : World} {b o : Nat} {cs : List Value} (h : w.rangeAt b o cs) (hb : Below B w w') (hlt : b < B) : w'.rangeAt b o cs := fun j v hj => bcl hb hlt (h j v hj)
theorem wpList_load_midA {P : Program} {ops : Array Oper} {rest : List Oper} {op : Oper} {a : Act} {w : World} {Q : Exit → Act → World → Prop} (hgd : op.guard = none) (ty : TypeId) (x : Operand) (ho : op.op = .load ty x)
    (b o : Nat) (hx : a.eval x = .pointer (some ⟨b, o, none⟩)) (cs : Array Value) (d : TypeDesc) (hc : w.rangeAt b o cs.toList)
    (hu : P.underlying ty = some d) (hd : d.isRow = true) (hi : (P.info? ty).map (·.size) = some cs.size)
    (h : wpList P ops Q rest (a.put op.dst (.agg cs)) w) : wpList P ops Q (op :: rest) a w :=
  wpList_load_mid hgd ty x ho b o hx cs.toList d hc hu hd (by simpa using hi) (by simpa using h)
theorem ent_cellCheck : Enters 66 := enters Tryd.func66 (by kernel_rfl) (by kernel_rfl)
theorem isRun_any (n : Int) (w : World) : Calls Tryd.prog 45 #[.int .i64 n] w fun e w' => e = .returned (.bool (withinB n 0 300)) ∧ w' = w := by
  by_cases h : 0 ≤ n
  all_goals
    go_enter Tryd.func45, Tryd.ntmps45
    go_wp2
    go_ret
    exact ⟨ret_bool (by simp [withinB]; try omega), rfl⟩
set_option maxRecDepth 100000 in
set_option maxHeartbeats 8000000 in
theorem rightCells_any (ps : List Prt) (ds : List CelD) (v u : Value) (hl : ps.length ≤ 4) (w : World) (hP : PartsR w v ps) (hC : CellsR w u ds) (r : Bool) (hr : cellsB ps ds = r) :
    Calls Tryd.prog 46 #[v, u] w fun e w' => e = .returned (.bool r) ∧ Below w.heap.size w w' := by
  obtain ⟨pa, pc, rfl⟩ := hP.form
  obtain ⟨ca, cc, rfl⟩ := hC.form
  have HP := Lib.hid hP
  have HC := Lib.hid hC
  have HR := Lib.hid hr
  clear hP hC hr
  by_cases he : ds.length = ps.length
  · have he' : ((ds.length : Int) != ps.length) = false := by simp; omega
    have HL := Lib.hid he
    clear he
    go_enter Tryd.func46, Tryd.ntmps46
    go_wp2
    go_loopw [14] (fun i wr => ∃ k : Nat, i = .int .i64 k ∧ k ≤ ds.length ∧ Hid (∀ j (h : j < ps.length) (h' : j < ds.length), j < k → celB ps[j] ds[j] = true) ∧ Hid (Below w.heap.size w wr)) (fun i _ => ds.length - (intOf i).toNat)
    case atStart => exact ⟨0, rfl, Nat.zero_le _, Lib.hid (fun j h h' h0 => by omega), Lib.hid (Below.refl _ _)⟩
    case round =>
      obtain ⟨k, rfl, hk, HZ, HB⟩ := hrel
      by_cases hlt : k < ds.length
      · have hli : (k : Int) < ds.length := by omega
        have hlp : k < ps.length := by have := HL.out; omega
        have hlip : (k : Int) < ps.length := by omega
        obtain ⟨b, off, cap, e1, hcap, hbw, hc⟩ := HC.out.open (by omega)
        cases e1
        obtain ⟨ao, oc, hra, hso⟩ := hc k hlt
        obtain ⟨pb, po, pcap, e2, hpcap, hpbw, hpc⟩ := HP.out.open (by omega)
        cases e2
        obtain ⟨cv, iv, hcv, hiv, hpr⟩ := hpc k hlp
        obtain ⟨ia, ic, rfl⟩ := hpr.inn.form
        have RA := Lib.hid (range_up hra HB.out hbw)
        have PC := Lib.hid (bcl HB.out hpbw hiv)
        have hws := HB.out.size
        have hsz : ps[k].inn.length ≤ ic := by
          obtain ⟨_, _, _, e, h, _⟩ := hpr.inn
          injection e with _ _ e2
          omega
        generalize hd : ds[k] = d at RA
        obtain ⟨c, out⟩ := d
        generalize hp : ps[k] = p at PC
        obtain ⟨code, inn⟩ := p
        have HD := Lib.hid hd
        have HPk := Lib.hid hp
        simp only at RA PC
        clear hra hso hc hpc hcv hiv hpr hd hp hsz
        go_wp2_with (first | (refine wpList_load_midA rfl 62 (.tmp 17) rfl b (off + k * 16) rfl (c.cs (.slice ao out.length oc)) _ RA.out Tryd.underlying62 rfl sizeCell ?_) | (refine wpList_store_rowW rfl 62 (.tmp 6) (.tmp 18) rfl wr.heap.size (c.cs (.slice ao out.length oc)) rfl rfl 62 (celZ.cs (.slice none 0 0)) (by repeat (first | exact Rw.new _ _ _ (by first | rfl | (simp; done) | omega | (simp; omega)) | refine Rw.alloc ?_ _)) sizeCell rfl (Cel.cs_one _ _ rfl) ?_))
        intro W HW
        have RW : Hid (Rw W wr.heap.size 62 (c.cs (.slice ao out.length oc))) := by
          show Rw _ _ _ _
          rw [HW.out]
          exact Rw.row (cs := celZ.cs (.slice none 0 0)) (by repeat (first | exact Rw.new _ _ _ (by first | rfl | (simp; done) | omega | (simp; omega)) | refine Rw.alloc ?_ _)) _
        have hzW : W.heap.size = wr.heap.size + 1 := by rw [HW.out]; simp
        have b0 : Below wr.heap.size wr W := by
          rw [HW.out]
          exact below_row ((Below.refl _ _).alloc (Nat.le_refl _) _) (Nat.le_refl _) _
        have PW := Lib.hid (bcl b0 (by omega) PC.out)
        have HBW := Lib.hid (HB.out.trans (b0.mono (by omega)))
        have hpbW : pb < W.heap.size := by omega
        clear HW RA PC HB b0
        have HCK := Lib.hid fun V => cellCheck_any c ao out.length oc V
        cases hf : c.fine out.length
        · have hce : c.err out.length = 1 := by unfold Cel.err; rw [hf]; rfl
          have HNO := Lib.hid (show cellsB ps ds = false from cellsB_no k hlp hlt (by rw [HD.out]; simp [celB, hf]))
          rw [hce] at HCK
          rw [Cel.v_cs] at HCK
          clear hf hce
          go_wp2
          refine region_still (S := fun w' => Below W.heap.size W w') 13 (by kernel_rfl) (Below.refl _ _).drew (fun hHeld => ?_)
          refine Still.takeBy (i := 0) [3, 1] (by kernel_rfl) (by kernel_rfl) rfl (by kernel_rfl) (by kernel_rfl) (by kernel_rfl) (fun _ _ _ h => h) (yields_load rfl _ _ rfl _ (by first | rfl | simp [Act.eval, Act.put]) _ (fun w' hSw => Rw.loadAt (RW.out.up hSw RW.out.lt) Tryd.underlying62 rfl sizeCell)) hHeld ?r11
          simp only [Act.put, List.getElem_toArray, List.getElem_cons_zero, List.getElem_cons_succ, List.setIfInBounds_toArray, List.set_cons_zero, List.set_cons_succ]
          refine Still.all (rs := [1]) (by kernel_rfl) (by simp) (Still.one (i := 1) rfl rfl (fun K hK => ?_) (by simp))
          refine wp_call 66 _ _ rfl ent_cellCheck #[.agg (c.cs (.slice ao out.length oc))] (by first | rfl | simp [Act.eval, Act.put]) ((HCK.out _).mono ?_)
          rintro e V1 ⟨rfl, bb⟩
          refine ⟨_, rfl, hK _ _ (fun _ => hHeld.trans (bb.mono hHeld.size)) (fun hh => ?_)⟩
          have hHeld := hh (by decide)
          clear hK K hh
          try simp only [Act.put, List.getElem_toArray, List.getElem_cons_zero, List.getElem_cons_succ, List.setIfInBounds_toArray, List.set_cons_zero, List.set_cons_succ]
          clear bb
          refine Still.takeBy (i := 2) [3] (v := ?v12) (by kernel_rfl) (by kernel_rfl) rfl (by kernel_rfl) (by kernel_rfl) (by kernel_rfl) (fun _ _ _ h => h) (Or.inl ⟨by rfl, ?y12⟩) hHeld ?r12
          case y12 => (intro w' hSw; (try dsimp only at hSw); go_simp; try with_reducible rfl)
          simp only [Act.put, List.getElem_toArray, List.getElem_cons_zero, List.getElem_cons_succ, List.setIfInBounds_toArray, List.set_cons_zero, List.set_cons_succ]
          refine Still.takeBy (i := 3) [] (v := ?v13) (by kernel_rfl) (by kernel_rfl) rfl (by kernel_rfl) (by kernel_rfl) (by kernel_rfl) (fun _ _ _ h => h) (Or.inl ⟨by rfl, ?y13⟩) hHeld ?r13
          case y13 => (intro w' hSw; (try dsimp only at hSw); go_simp; try with_reducible rfl)
          simp only [Act.put, List.getElem_toArray, List.getElem_cons_zero, List.getElem_cons_succ, List.setIfInBounds_toArray, List.set_cons_zero, List.set_cons_succ]
          refine Still.takeBy (i := 4) [12, 5] (by kernel_rfl) (by kernel_rfl) rfl (by kernel_rfl) (by kernel_rfl) (by kernel_rfl) (fun _ _ _ h => h) (Or.inr ⟨by rfl, rfl⟩) hHeld ?r14
          simp only [Act.put, List.getElem_toArray, List.getElem_cons_zero, List.getElem_cons_succ, List.setIfInBounds_toArray, List.set_cons_zero, List.set_cons_succ]
          refine Still.takeBy (i := 5) [12] (by kernel_rfl) (by kernel_rfl) rfl (by kernel_rfl) (by kernel_rfl) (by kernel_rfl) (fun _ _ _ h => h) (Or.inr ⟨by rfl, rfl⟩) hHeld ?r15
          simp only [Act.put, List.getElem_toArray, List.getElem_cons_zero, List.getElem_cons_succ, List.setIfInBounds_toArray, List.set_cons_zero, List.set_cons_succ]
          refine Still.takeBy (i := 6) [12, 11, 10, 9, 8] (by kernel_rfl) (by kernel_rfl) rfl (by kernel_rfl) (by kernel_rfl) (by kernel_rfl) (fun _ _ _ h => h) (Or.inr ⟨by rfl, rfl⟩) hHeld ?r16
          simp only [Act.put, List.getElem_toArray, List.getElem_cons_zero, List.getElem_cons_succ, List.setIfInBounds_toArray, List.set_cons_zero, List.set_cons_succ]
          refine Still.takeBy (i := 7) [12, 11, 10, 9, 8] (by kernel_rfl) (by kernel_rfl) rfl (by kernel_rfl) (by kernel_rfl) (by kernel_rfl) (fun _ _ _ h => h) (Or.inr ⟨by rfl, rfl⟩) hHeld ?r17
          simp only [Act.put, List.getElem_toArray, List.getElem_cons_zero, List.getElem_cons_succ, List.setIfInBounds_toArray, List.set_cons_zero, List.set_cons_succ]
          refine Still.takeBy (i := 8) [12, 11, 10, 9] (by kernel_rfl) (by kernel_rfl) rfl (by kernel_rfl) (by kernel_rfl) (by kernel_rfl) (fun _ _ _ h => h) (Or.inr ⟨by rfl, rfl⟩) hHeld ?r18
          simp only [Act.put, List.getElem_toArray, List.getElem_cons_zero, List.getElem_cons_succ, List.setIfInBounds_toArray, List.set_cons_zero, List.set_cons_succ]
          refine Still.takeBy (i := 9) [12, 11, 10] (by kernel_rfl) (by kernel_rfl) rfl (by kernel_rfl) (by kernel_rfl) (by kernel_rfl) (fun _ _ _ h => h) (Or.inr ⟨by rfl, rfl⟩) hHeld ?r19
          simp only [Act.put, List.getElem_toArray, List.getElem_cons_zero, List.getElem_cons_succ, List.setIfInBounds_toArray, List.set_cons_zero, List.set_cons_succ]
          refine Still.takeBy (i := 10) [12, 11] (by kernel_rfl) (by kernel_rfl) rfl (by kernel_rfl) (by kernel_rfl) (by kernel_rfl) (fun _ _ _ h => h) (Or.inr ⟨by rfl, rfl⟩) hHeld ?r20
          simp only [Act.put, List.getElem_toArray, List.getElem_cons_zero, List.getElem_cons_succ, List.setIfInBounds_toArray, List.set_cons_zero, List.set_cons_succ]
          refine Still.takeBy (i := 11) [12] (by kernel_rfl) (by kernel_rfl) rfl (by kernel_rfl) (by kernel_rfl) (by kernel_rfl) (fun _ _ _ h => h) (Or.inr ⟨by rfl, rfl⟩) hHeld ?r21
          simp only [Act.put, List.getElem_toArray, List.getElem_cons_zero, List.getElem_cons_succ, List.setIfInBounds_toArray, List.set_cons_zero, List.set_cons_succ]
          refine Still.takeBy (i := 12) [] (by kernel_rfl) (by kernel_rfl) rfl (by kernel_rfl) (by kernel_rfl) (by kernel_rfl) (fun _ _ _ h => h) (Or.inr ⟨by rfl, rfl⟩) hHeld ?r22
          simp only [Act.put, List.getElem_toArray, List.getElem_cons_zero, List.getElem_cons_succ, List.setIfInBounds_toArray, List.set_cons_zero, List.set_cons_succ]
          refine Still.all (rs := [13]) (by kernel_rfl) (by simp) (Still.one (i := 13) rfl rfl (fun K hK => ?_) (by simp))
          go_simp
          refine hK _ _ (fun h => absurd rfl h) (fun _ => ?_)
          clear hK K
          refine Still.over (by kernel_rfl) ?_ _
          have HL2 := Lib.hid (HBW.out.trans (hHeld.mono HBW.out.size))
          clear hHeld
          go_wp2
          go_ret
          exact ⟨ret_bool (by rw [← HR.out, HNO.out]), HL2.out⟩
        · have hce : c.err out.length = 0 := by unfold Cel.err; rw [hf]; rfl
          rw [hce] at HCK
          rw [Cel.v_cs] at HCK
          clear hce
          by_cases hrd : c.read ≤ inn.length
          · have HYES := Lib.hid (show celB ps[k] ds[k] = true by rw [HD.out, HPk.out]; simp [celB, hf, hrd])
            have B1 := Lib.hid (show decide ((inn.length : Int) < c.read) = false from decide_eq_false (by omega))
            clear hf hrd
            go_wp2
            refine region_still (S := fun w' => Below W.heap.size W w') 13 (by kernel_rfl) (Below.refl _ _).drew (fun hHeld => ?_)
            refine Still.takeBy (i := 0) [3, 1] (by kernel_rfl) (by kernel_rfl) rfl (by kernel_rfl) (by kernel_rfl) (by kernel_rfl) (fun _ _ _ h => h) (yields_load rfl _ _ rfl _ (by first | rfl | simp [Act.eval, Act.put]) _ (fun w' hSw => Rw.loadAt (RW.out.up hSw RW.out.lt) Tryd.underlying62 rfl sizeCell)) hHeld ?r41
            simp only [Act.put, List.getElem_toArray, List.getElem_cons_zero, List.getElem_cons_succ, List.setIfInBounds_toArray, List.set_cons_zero, List.set_cons_succ]
            refine Still.all (rs := [1]) (by kernel_rfl) (by simp) (Still.one (i := 1) rfl rfl (fun K hK => ?_) (by simp))
            refine wp_call 66 _ _ rfl ent_cellCheck #[.agg (c.cs (.slice ao out.length oc))] (by first | rfl | simp [Act.eval, Act.put]) ((HCK.out _).mono ?_)
            rintro e V1 ⟨rfl, bb⟩
            refine ⟨_, rfl, hK _ _ (fun _ => hHeld.trans (bb.mono hHeld.size)) (fun hh => ?_)⟩
            have hHeld := hh (by decide)
            clear hK K hh
            try simp only [Act.put, List.getElem_toArray, List.getElem_cons_zero, List.getElem_cons_succ, List.setIfInBounds_toArray, List.set_cons_zero, List.set_cons_succ]
            clear bb
            refine Still.takeBy (i := 2) [3] (v := ?v42) (by kernel_rfl) (by kernel_rfl) rfl (by kernel_rfl) (by kernel_rfl) (by kernel_rfl) (fun _ _ _ h => h) (Or.inl ⟨by rfl, ?y42⟩) hHeld ?r42
            case y42 => (intro w' hSw; (try dsimp only at hSw); go_simp; try with_reducible rfl)
            simp only [Act.put, List.getElem_toArray, List.getElem_cons_zero, List.getElem_cons_succ, List.setIfInBounds_toArray, List.set_cons_zero, List.set_cons_succ]
            refine Still.takeBy (i := 3) [] (v := ?v43) (by kernel_rfl) (by kernel_rfl) rfl (by kernel_rfl) (by kernel_rfl) (by kernel_rfl) (fun _ _ _ h => h) (Or.inl ⟨by rfl, ?y43⟩) hHeld ?r43
            case y43 => (intro w' hSw; (try dsimp only at hSw); go_simp; try with_reducible rfl)
            simp only [Act.put, List.getElem_toArray, List.getElem_cons_zero, List.getElem_cons_succ, List.setIfInBounds_toArray, List.set_cons_zero, List.set_cons_succ]
            refine Still.takeBy (i := 4) [12, 5] (v := ?v44) (by kernel_rfl) (by kernel_rfl) rfl (by kernel_rfl) (by kernel_rfl) (by kernel_rfl) (fun _ _ _ h => h) (Or.inl ⟨by rfl, ?y44⟩) hHeld ?r44
            case y44 => (intro w' hSw; (try dsimp only at hSw); have q1 := (RW.out.up hSw RW.out.lt).cell (j := 13) (v := .int .i64 c.read) rfl; have q2 := bcl hSw hpbW PW.out; clear hSw; go_simp; (try simp only [B1.out]); try with_reducible rfl)
            simp only [Act.put, List.getElem_toArray, List.getElem_cons_zero, List.getElem_cons_succ, List.setIfInBounds_toArray, List.set_cons_zero, List.set_cons_succ]
            refine Still.takeBy (i := 5) [12] (v := ?v45) (by kernel_rfl) (by kernel_rfl) rfl (by kernel_rfl) (by kernel_rfl) (by kernel_rfl) (fun _ _ _ h => h) (Or.inl ⟨by rfl, ?y45⟩) hHeld ?r45
            case y45 => (intro w' hSw; (try dsimp only at hSw); have q1 := (RW.out.up hSw RW.out.lt).cell (j := 13) (v := .int .i64 c.read) rfl; have q2 := bcl hSw hpbW PW.out; clear hSw; go_simp; (try simp only [B1.out]); try with_reducible rfl)
            simp only [Act.put, List.getElem_toArray, List.getElem_cons_zero, List.getElem_cons_succ, List.setIfInBounds_toArray, List.set_cons_zero, List.set_cons_succ]
            refine Still.takeBy (i := 6) [12, 11, 10, 9, 8] (v := ?v46) (by kernel_rfl) (by kernel_rfl) rfl (by kernel_rfl) (by kernel_rfl) (by kernel_rfl) (fun _ _ _ h => h) (Or.inl ⟨by rfl, ?y46⟩) hHeld ?r46
            case y46 => (intro w' hSw; (try dsimp only at hSw); have q1 := (RW.out.up hSw RW.out.lt).cell (j := 13) (v := .int .i64 c.read) rfl; have q2 := bcl hSw hpbW PW.out; clear hSw; go_simp; (try simp only [B1.out]); try with_reducible rfl)
            simp only [Act.put, List.getElem_toArray, List.getElem_cons_zero, List.getElem_cons_succ, List.setIfInBounds_toArray, List.set_cons_zero, List.set_cons_succ]
            refine Still.takeBy (i := 7) [12, 11, 10, 9, 8] (v := ?v47) (by kernel_rfl) (by kernel_rfl) rfl (by kernel_rfl) (by kernel_rfl) (by kernel_rfl) (fun _ _ _ h => h) (Or.inl ⟨by rfl, ?y47⟩) hHeld ?r47
            case y47 => (intro w' hSw; (try dsimp only at hSw); have q1 := (RW.out.up hSw RW.out.lt).cell (j := 13) (v := .int .i64 c.read) rfl; have q2 := bcl hSw hpbW PW.out; clear hSw; go_simp; (try simp only [B1.out]); try with_reducible rfl)
            simp only [Act.put, List.getElem_toArray, List.getElem_cons_zero, List.getElem_cons_succ, List.setIfInBounds_toArray, List.set_cons_zero, List.set_cons_succ]
            refine Still.takeBy (i := 8) [12, 11, 10, 9] (v := ?v48) (by kernel_rfl) (by kernel_rfl) rfl (by kernel_rfl) (by kernel_rfl) (by kernel_rfl) (fun _ _ _ h => h) (Or.inl ⟨by rfl, ?y48⟩) hHeld ?r48
            case y48 => (intro w' hSw; (try dsimp only at hSw); have q1 := (RW.out.up hSw RW.out.lt).cell (j := 13) (v := .int .i64 c.read) rfl; have q2 := bcl hSw hpbW PW.out; clear hSw; go_simp; (try simp only [B1.out]); try with_reducible rfl)
            simp only [Act.put, List.getElem_toArray, List.getElem_cons_zero, List.getElem_cons_succ, List.setIfInBounds_toArray, List.set_cons_zero, List.set_cons_succ]
            refine Still.takeBy (i := 9) [12, 11, 10] (v := ?v49) (by kernel_rfl) (by kernel_rfl) rfl (by kernel_rfl) (by kernel_rfl) (by kernel_rfl) (fun _ _ _ h => h) (Or.inl ⟨by rfl, ?y49⟩) hHeld ?r49
            case y49 => (intro w' hSw; (try dsimp only at hSw); have q1 := (RW.out.up hSw RW.out.lt).cell (j := 13) (v := .int .i64 c.read) rfl; have q2 := bcl hSw hpbW PW.out; clear hSw; go_simp; (try simp only [B1.out]); try with_reducible rfl)
            simp only [Act.put, List.getElem_toArray, List.getElem_cons_zero, List.getElem_cons_succ, List.setIfInBounds_toArray, List.set_cons_zero, List.set_cons_succ]
            refine Still.takeBy (i := 10) [12, 11] (v := ?v50) (by kernel_rfl) (by kernel_rfl) rfl (by kernel_rfl) (by kernel_rfl) (by kernel_rfl) (fun _ _ _ h => h) (Or.inl ⟨by rfl, ?y50⟩) hHeld ?r50
            case y50 => (intro w' hSw; (try dsimp only at hSw); have q1 := (RW.out.up hSw RW.out.lt).cell (j := 13) (v := .int .i64 c.read) rfl; have q2 := bcl hSw hpbW PW.out; clear hSw; go_simp; (try simp only [B1.out]); try with_reducible rfl)
            simp only [Act.put, List.getElem_toArray, List.getElem_cons_zero, List.getElem_cons_succ, List.setIfInBounds_toArray, List.set_cons_zero, List.set_cons_succ]
            refine Still.takeBy (i := 11) [12] (v := ?v51) (by kernel_rfl) (by kernel_rfl) rfl (by kernel_rfl) (by kernel_rfl) (by kernel_rfl) (fun _ _ _ h => h) (Or.inl ⟨by rfl, ?y51⟩) hHeld ?r51
            case y51 => (intro w' hSw; (try dsimp only at hSw); have q1 := (RW.out.up hSw RW.out.lt).cell (j := 13) (v := .int .i64 c.read) rfl; have q2 := bcl hSw hpbW PW.out; clear hSw; go_simp; (try simp only [B1.out]); try with_reducible rfl)
            simp only [Act.put, List.getElem_toArray, List.getElem_cons_zero, List.getElem_cons_succ, List.setIfInBounds_toArray, List.set_cons_zero, List.set_cons_succ]
            refine Still.takeBy (i := 12) [] (v := ?v52) (by kernel_rfl) (by kernel_rfl) rfl (by kernel_rfl) (by kernel_rfl) (by kernel_rfl) (fun _ _ _ h => h) (Or.inl ⟨by rfl, ?y52⟩) hHeld ?r52
            case y52 => (intro w' hSw; (try dsimp only at hSw); have q1 := (RW.out.up hSw RW.out.lt).cell (j := 13) (v := .int .i64 c.read) rfl; have q2 := bcl hSw hpbW PW.out; clear hSw; go_simp; (try simp only [B1.out]); try with_reducible rfl)
            simp only [Act.put, List.getElem_toArray, List.getElem_cons_zero, List.getElem_cons_succ, List.setIfInBounds_toArray, List.set_cons_zero, List.set_cons_succ]
            refine Still.all (rs := [13]) (by kernel_rfl) (by simp) (Still.one (i := 13) rfl rfl (fun K hK => ?_) (by simp))
            go_simp
            refine hK _ _ (fun h => absurd rfl h) (fun _ => ?_)
            clear hK K
            refine Still.over (by kernel_rfl) ?_ _
            have HL2 := Lib.hid (HBW.out.trans (hHeld.mono HBW.out.size))
            clear hHeld
            go_wp2
            go_roundw
            case rel => exact ⟨k + 1, by go_num, by omega, Lib.hid (fun j h h' hj => by
              rcases Nat.lt_or_ge j k with h1 | h1
              · exact HZ.out j h h' h1
              · obtain rfl : j = k := by omega
                exact HYES.out), HL2⟩
            case measure => simp [intOf]; omega
          · have HNO := Lib.hid (show cellsB ps ds = false from cellsB_no k hlp hlt (by rw [HD.out, HPk.out]; simp [celB]; intro; omega))
            have B1 := Lib.hid (show decide ((inn.length : Int) < c.read) = true from decide_eq_true (by omega))
            clear hf hrd
            go_wp2
            refine region_still (S := fun w' => Below W.heap.size W w') 13 (by kernel_rfl) (Below.refl _ _).drew (fun hHeld => ?_)
            refine Still.takeBy (i := 0) [3, 1] (by kernel_rfl) (by kernel_rfl) rfl (by kernel_rfl) (by kernel_rfl) (by kernel_rfl) (fun _ _ _ h => h) (yields_load rfl _ _ rfl _ (by first | rfl | simp [Act.eval, Act.put]) _ (fun w' hSw => Rw.loadAt (RW.out.up hSw RW.out.lt) Tryd.underlying62 rfl sizeCell)) hHeld ?r71
            simp only [Act.put, List.getElem_toArray, List.getElem_cons_zero, List.getElem_cons_succ, List.setIfInBounds_toArray, List.set_cons_zero, List.set_cons_succ]
            refine Still.all (rs := [1]) (by kernel_rfl) (by simp) (Still.one (i := 1) rfl rfl (fun K hK => ?_) (by simp))
            refine wp_call 66 _ _ rfl ent_cellCheck #[.agg (c.cs (.slice ao out.length oc))] (by first | rfl | simp [Act.eval, Act.put]) ((HCK.out _).mono ?_)
            rintro e V1 ⟨rfl, bb⟩
            refine ⟨_, rfl, hK _ _ (fun _ => hHeld.trans (bb.mono hHeld.size)) (fun hh => ?_)⟩
            have hHeld := hh (by decide)
            clear hK K hh
            try simp only [Act.put, List.getElem_toArray, List.getElem_cons_zero, List.getElem_cons_succ, List.setIfInBounds_toArray, List.set_cons_zero, List.set_cons_succ]
            clear bb
            refine Still.takeBy (i := 2) [3] (v := ?v72) (by kernel_rfl) (by kernel_rfl) rfl (by kernel_rfl) (by kernel_rfl) (by kernel_rfl) (fun _ _ _ h => h) (Or.inl ⟨by rfl, ?y72⟩) hHeld ?r72
            case y72 => (intro w' hSw; (try dsimp only at hSw); go_simp; try with_reducible rfl)
            simp only [Act.put, List.getElem_toArray, List.getElem_cons_zero, List.getElem_cons_succ, List.setIfInBounds_toArray, List.set_cons_zero, List.set_cons_succ]
            refine Still.takeBy (i := 3) [] (v := ?v73) (by kernel_rfl) (by kernel_rfl) rfl (by kernel_rfl) (by kernel_rfl) (by kernel_rfl) (fun _ _ _ h => h) (Or.inl ⟨by rfl, ?y73⟩) hHeld ?r73
            case y73 => (intro w' hSw; (try dsimp only at hSw); go_simp; try with_reducible rfl)
            simp only [Act.put, List.getElem_toArray, List.getElem_cons_zero, List.getElem_cons_succ, List.setIfInBounds_toArray, List.set_cons_zero, List.set_cons_succ]
            refine Still.takeBy (i := 4) [12, 5] (v := ?v74) (by kernel_rfl) (by kernel_rfl) rfl (by kernel_rfl) (by kernel_rfl) (by kernel_rfl) (fun _ _ _ h => h) (Or.inl ⟨by rfl, ?y74⟩) hHeld ?r74
            case y74 => (intro w' hSw; (try dsimp only at hSw); have q1 := (RW.out.up hSw RW.out.lt).cell (j := 13) (v := .int .i64 c.read) rfl; have q2 := bcl hSw hpbW PW.out; clear hSw; go_simp; (try simp only [B1.out]); try with_reducible rfl)
            simp only [Act.put, List.getElem_toArray, List.getElem_cons_zero, List.getElem_cons_succ, List.setIfInBounds_toArray, List.set_cons_zero, List.set_cons_succ]
            refine Still.takeBy (i := 5) [12] (v := ?v75) (by kernel_rfl) (by kernel_rfl) rfl (by kernel_rfl) (by kernel_rfl) (by kernel_rfl) (fun _ _ _ h => h) (Or.inl ⟨by rfl, ?y75⟩) hHeld ?r75
            case y75 => (intro w' hSw; (try dsimp only at hSw); have q1 := (RW.out.up hSw RW.out.lt).cell (j := 13) (v := .int .i64 c.read) rfl; have q2 := bcl hSw hpbW PW.out; clear hSw; go_simp; (try simp only [B1.out]); try with_reducible rfl)
            simp only [Act.put, List.getElem_toArray, List.getElem_cons_zero, List.getElem_cons_succ, List.setIfInBounds_toArray, List.set_cons_zero, List.set_cons_succ]
            refine Still.takeBy (i := 6) [12, 11, 10, 9, 8] (v := ?v76) (by kernel_rfl) (by kernel_rfl) rfl (by kernel_rfl) (by kernel_rfl) (by kernel_rfl) (fun _ _ _ h => h) (Or.inl ⟨by rfl, ?y76⟩) hHeld ?r76
            case y76 => (intro w' hSw; (try dsimp only at hSw); have q1 := (RW.out.up hSw RW.out.lt).cell (j := 13) (v := .int .i64 c.read) rfl; have q2 := bcl hSw hpbW PW.out; clear hSw; go_simp; (try simp only [B1.out]); try with_reducible rfl)
            simp only [Act.put, List.getElem_toArray, List.getElem_cons_zero, List.getElem_cons_succ, List.setIfInBounds_toArray, List.set_cons_zero, List.set_cons_succ]
            refine Still.takeBy (i := 7) [12, 11, 10, 9, 8] (v := ?v77) (by kernel_rfl) (by kernel_rfl) rfl (by kernel_rfl) (by kernel_rfl) (by kernel_rfl) (fun _ _ _ h => h) (Or.inl ⟨by rfl, ?y77⟩) hHeld ?r77
            case y77 => (intro w' hSw; (try dsimp only at hSw); have q1 := (RW.out.up hSw RW.out.lt).cell (j := 13) (v := .int .i64 c.read) rfl; have q2 := bcl hSw hpbW PW.out; clear hSw; go_simp; (try simp only [B1.out]); try with_reducible rfl)
            simp only [Act.put, List.getElem_toArray, List.getElem_cons_zero, List.getElem_cons_succ, List.setIfInBounds_toArray, List.set_cons_zero, List.set_cons_succ]
            refine Still.takeBy (i := 8) [12, 11, 10, 9] (v := ?v78) (by kernel_rfl) (by kernel_rfl) rfl (by kernel_rfl) (by kernel_rfl) (by kernel_rfl) (fun _ _ _ h => h) (Or.inl ⟨by rfl, ?y78⟩) hHeld ?r78
            case y78 => (intro w' hSw; (try dsimp only at hSw); have q1 := (RW.out.up hSw RW.out.lt).cell (j := 13) (v := .int .i64 c.read) rfl; have q2 := bcl hSw hpbW PW.out; clear hSw; go_simp; (try simp only [B1.out]); try with_reducible rfl)
            simp only [Act.put, List.getElem_toArray, List.getElem_cons_zero, List.getElem_cons_succ, List.setIfInBounds_toArray, List.set_cons_zero, List.set_cons_succ]
            refine Still.takeBy (i := 9) [12, 11, 10] (v := ?v79) (by kernel_rfl) (by kernel_rfl) rfl (by kernel_rfl) (by kernel_rfl) (by kernel_rfl) (fun _ _ _ h => h) (Or.inl ⟨by rfl, ?y79⟩) hHeld ?r79
            case y79 => (intro w' hSw; (try dsimp only at hSw); have q1 := (RW.out.up hSw RW.out.lt).cell (j := 13) (v := .int .i64 c.read) rfl; have q2 := bcl hSw hpbW PW.out; clear hSw; go_simp; (try simp only [B1.out]); try with_reducible rfl)
            simp only [Act.put, List.getElem_toArray, List.getElem_cons_zero, List.getElem_cons_succ, List.setIfInBounds_toArray, List.set_cons_zero, List.set_cons_succ]
            refine Still.takeBy (i := 10) [12, 11] (v := ?v80) (by kernel_rfl) (by kernel_rfl) rfl (by kernel_rfl) (by kernel_rfl) (by kernel_rfl) (fun _ _ _ h => h) (Or.inl ⟨by rfl, ?y80⟩) hHeld ?r80
            case y80 => (intro w' hSw; (try dsimp only at hSw); have q1 := (RW.out.up hSw RW.out.lt).cell (j := 13) (v := .int .i64 c.read) rfl; have q2 := bcl hSw hpbW PW.out; clear hSw; go_simp; (try simp only [B1.out]); try with_reducible rfl)
            simp only [Act.put, List.getElem_toArray, List.getElem_cons_zero, List.getElem_cons_succ, List.setIfInBounds_toArray, List.set_cons_zero, List.set_cons_succ]
            refine Still.takeBy (i := 11) [12] (v := ?v81) (by kernel_rfl) (by kernel_rfl) rfl (by kernel_rfl) (by kernel_rfl) (by kernel_rfl) (fun _ _ _ h => h) (Or.inl ⟨by rfl, ?y81⟩) hHeld ?r81
            case y81 => (intro w' hSw; (try dsimp only at hSw); have q1 := (RW.out.up hSw RW.out.lt).cell (j := 13) (v := .int .i64 c.read) rfl; have q2 := bcl hSw hpbW PW.out; clear hSw; go_simp; (try simp only [B1.out]); try with_reducible rfl)
            simp only [Act.put, List.getElem_toArray, List.getElem_cons_zero, List.getElem_cons_succ, List.setIfInBounds_toArray, List.set_cons_zero, List.set_cons_succ]
            refine Still.takeBy (i := 12) [] (v := ?v82) (by kernel_rfl) (by kernel_rfl) rfl (by kernel_rfl) (by kernel_rfl) (by kernel_rfl) (fun _ _ _ h => h) (Or.inl ⟨by rfl, ?y82⟩) hHeld ?r82
            case y82 => (intro w' hSw; (try dsimp only at hSw); have q1 := (RW.out.up hSw RW.out.lt).cell (j := 13) (v := .int .i64 c.read) rfl; have q2 := bcl hSw hpbW PW.out; clear hSw; go_simp; (try simp only [B1.out]); try with_reducible rfl)
            simp only [Act.put, List.getElem_toArray, List.getElem_cons_zero, List.getElem_cons_succ, List.setIfInBounds_toArray, List.set_cons_zero, List.set_cons_succ]
            refine Still.all (rs := [13]) (by kernel_rfl) (by simp) (Still.one (i := 13) rfl rfl (fun K hK => ?_) (by simp))
            go_simp
            refine hK _ _ (fun h => absurd rfl h) (fun _ => ?_)
            clear hK K
            refine Still.over (by kernel_rfl) ?_ _
            have HL2 := Lib.hid (HBW.out.trans (hHeld.mono HBW.out.size))
            clear hHeld
            go_wp2
            go_ret
            exact ⟨ret_bool (by rw [← HR.out, HNO.out]), HL2.out⟩
      · have hli : ¬ (k : Int) < ds.length := by omega
        have HYES := Lib.hid (show cellsB ps ds = true from cellsB_yes HL.out (fun j h h' => HZ.out j h h' (by omega)))
        go_wp2
        go_ret
        exact ⟨ret_bool (by rw [← HR.out, HYES.out]), HB.out⟩
  · have he' : ((ds.length : Int) != ps.length) = true := by simp; omega
    have HNO : Hid (cellsB ps ds = false) := by
      show _ = _
      cases e : cellsB ps ds with
      | false => rfl
      | true => exact absurd (cellsB_len e) he
    clear he
    go_enter Tryd.func46, Tryd.ntmps46
    go_wp2
    go_ret
    exact ⟨ret_bool (by rw [← HR.out, HNO.out]), Below.refl _ _⟩
end Go.Proofs.YtnnnljfdjdehaaaDoor

namespace Go.Proofs.YtnnnljfdjdehaaaDoor
set_option linter.unusedSimpArgs false
set_option linter.unusedVariables false
open Go.RowKit Go.Sort

/-- A world that is small enough to be laid. -/
structure SmallD (D : WldD) : Prop where
  cells : D.cells.length ≤ 4
  out : ∀ d ∈ D.cells, d.out.length ≤ 16
  lines : D.lines.length ≤ 6
  vals : ∀ l ∈ D.lines, l.length ≤ 3
def cellsF (ds : List CelD) : List Int := ds.flatMap cellR
def linesF (ls : List (List Int)) : List Int := ls.flatMap fun l => padL l 3
/-- A world as numbers. -/
def rowF (D : WldD) : List Int := [D.tick] ++ cellsF D.cells ++ linesF D.lines
theorem cellsF_step {ds : List CelD} {k : Nat} (h : k < ds.length) : cellsF (ds.take (k + 1)) = cellsF (ds.take k) ++ cellR ds[k] := by
  unfold cellsF
  rw [List.take_succ_eq_append_getElem h, List.flatMap_append]
  simp
theorem linesF_step {ls : List (List Int)} {k : Nat} (h : k < ls.length) : linesF (ls.take (k + 1)) = linesF (ls.take k) ++ padL ls[k] 3 := by
  unfold linesF
  rw [List.take_succ_eq_append_getElem h, List.flatMap_append]
  simp
theorem cellsF_len {ds : List CelD} (h : ∀ d ∈ ds, d.out.length ≤ 16) : (cellsF ds).length = 32 * ds.length := by
  induction ds with
  | nil => rfl
  | cons d r ih =>
    have h1 := cellR_len (d := d) (h d (by simp))
    have h2 := ih (fun x hx => h x (by simp [hx]))
    unfold cellsF at h2 ⊢
    rw [List.flatMap_cons, List.length_append, h1, h2, List.length_cons]
    omega
theorem linesF_len {ls : List (List Int)} (h : ∀ l ∈ ls, l.length ≤ 3) : (linesF ls).length = 4 * ls.length := by
  induction ls with
  | nil => rfl
  | cons l r ih =>
    have h1 := padL_len (h l (by simp))
    have h2 := ih (fun x hx => h x (by simp [hx]))
    unfold linesF at h2 ⊢
    rw [List.flatMap_cons, List.length_append, h1, h2, List.length_cons]
    omega
theorem mem_take {α : Type} {l : List α} {k : Nat} {x : α} (h : x ∈ l.take k) : x ∈ l := List.mem_of_mem_take h
set_option maxRecDepth 100000 in
set_option maxHeartbeats 8000000 in
theorem rowOf_any (D : WldD) (hD : SmallD D) (uc ul : Value) (w : World) (hW : Wld w uc ul D) :
    Calls Tryd.prog 9 #[.agg #[.int .i64 D.tick, uc, ul]] w fun e w' => ∃ v, e = .returned v ∧ w'.ownsRow w.heap.size 3 1 v (rowF D).length (ints (rowF D)) ∧ Below w.heap.size w w' := by
  obtain ⟨i1, hi1, hy0, hy1, hy2⟩ := info_parts info3
  obtain ⟨ca, cc, rfl⟩ := hW.c.form
  obtain ⟨la, lc, rfl⟩ := hW.l.form
  go_enter Tryd.func9, Tryd.ntmps9
  go_upto_region 1 with fail
  have HRX : Hid (Rw (w.alloc (.cells #[.int .i64 D.tick, .slice ca D.cells.length cc, .slice la D.lines.length lc] 30)) w.heap.size 30 #[.int .i64 D.tick, .slice ca D.cells.length cc, .slice la D.lines.length lc]) := Lib.hid (Rw.new _ _ _ rfl)
  have D0 : Hid (Below w.heap.size w (w.alloc (.cells #[.int .i64 D.tick, .slice ca D.cells.length cc, .slice la D.lines.length lc] 30))) := Lib.hid ((Below.refl _ _).alloc (Nat.le_refl _) _)
  have hX : (w.alloc (.cells #[.int .i64 D.tick, .slice ca D.cells.length cc, .slice la D.lines.length lc] 30)).heap.size = w.heap.size + 1 := by simp
  generalize w.alloc (.cells #[.int .i64 D.tick, .slice ca D.cells.length cc, .slice la D.lines.length lc] 30) = X at HRX D0 hX ⊢
  have HC := Lib.hid (hW.c.up D0.out)
  have HL := Lib.hid (hW.l.up D0.out)
  have c0 : X.cell? ⟨w.heap.size, 0, none⟩ = some (.int .i64 D.tick) := HRX.out.cell (j := 0) rfl
  have HXS := Lib.hid hX
  have HD := Lib.hid hD
  have hcl := hD.cells
  have hll := hD.lines
  clear hW hX hD
  have HO := Lib.hid (own_oneF X D.tick)
  have HB : Hid (Below X.heap.size X (X.alloc (.cells #[.int .i64 D.tick] 3))) := Lib.hid ((Below.refl _ _).alloc (Nat.le_refl _) _)
  go_wp2
  clear c0
  go_loopw [4, 3] (fun i l wr => ∃ k : Nat, i = .int .i64 k ∧ k ≤ D.cells.length ∧ Hid (wr.ownsRow X.heap.size 3 1 l ([D.tick] ++ cellsF (D.cells.take k)).length (ints ([D.tick] ++ cellsF (D.cells.take k)))) ∧ Hid (Below X.heap.size X wr)) (fun i _ _ => D.cells.length - (intOf i).toNat)
  case atStart => exact ⟨0, rfl, Nat.zero_le _, by rw [List.take_zero, show cellsF [] = [] from rfl, List.append_nil]; exact HO, HB⟩
  case round =>
    clear HO HB
    obtain ⟨k, rfl, hk, HO, HB⟩ := hrel
    obtain ⟨a3, c3, hform⟩ := own_form HO.out
    subst hform
    have hw := HB.out.size
    have k1 : wr.cell? ⟨w.heap.size, 1, none⟩ = some (.slice ca D.cells.length cc) := (HRX.out.up HB.out HRX.out.lt).cell (j := 1) rfl
    by_cases hlt : k < D.cells.length
    · have hli : (k : Int) < D.cells.length := by omega
      obtain ⟨b, off, cap, e1, hcap, hbw, hc⟩ := (HC.out.up HB.out).open (by omega)
      cases e1
      obtain ⟨ao, oc, hra, hso⟩ := hc k hlt
      have RA := Lib.hid hra
      have HSO := Lib.hid hso
      have hoe := HD.out.out _ (List.getElem_mem hlt)
      have HST : Hid ([D.tick] ++ cellsF (D.cells.take (k + 1)) = [D.tick] ++ cellsF (D.cells.take k) ++ cellR D.cells[k]) := Lib.hid (by rw [cellsF_step hlt, List.append_assoc])
      have HLL : Hid (([D.tick] ++ cellsF (D.cells.take k)).length ≤ 200) := Lib.hid (by
        have := cellsF_len (ds := D.cells.take k) (fun d hd => HD.out.out d (mem_take hd))
        rw [List.length_append, this, List.length_take]
        simp
        omega)
      have HCL := Lib.hid (cellR_len (d := D.cells[k]) hoe)
      clear hc hra hso
      generalize D.cells[k] = d at RA HSO hoe HST HCL
      obtain ⟨c, out⟩ := d
      simp only at RA HSO hoe
      generalize [D.tick] ++ cellsF (D.cells.take k) = zs at HO HST HLL
      go_wp2_with (refine wpList_load_midA rfl 62 (.tmp 20) rfl b (off + k * 16) rfl (c.cs (.slice ao out.length oc)) _ RA.out Tryd.underlying62 rfl sizeCell ?_)
      refine (cellRow_any c out hoe _ _ HSO.out).mono ?_
      rintro e w2 ⟨v2, rfl, ho2, b2⟩
      obtain ⟨pa2, pc2, rfl⟩ := own_form ho2
      have HO2 := Lib.hid (own_upG HO.out b2)
      have HP2 := Lib.hid (own_sl ho2)
      have HB2 := Lib.hid (HB.out.trans (b2.mono HB.out.size))
      have hw2 := HB2.out.size
      clear ho2 b2 HO HB RA HSO k1
      go_wp2_with (at_builtin; refine wpList_append_sl rfl (.tmp 16) (.tmp 22) 31 rfl X.heap.size 3 i1 (.int .i64 0) 1 8 Tryd.underlying31 hi1 hy0 hy1 hy2 rfl (by decide) _ zs.length (ints zs) rfl HO2.out _ (cellR ⟨c, out⟩).length (ints (cellR ⟨c, out⟩)) rfl HP2.out (ints_cell _) (by have := HLL.out; have := HCL.out; unfold maxLen; omega) (by have := HLL.out; have := HCL.out; omega) (by omega) ?_)
      intro v7 W7 hown hgrow _
      have HB7 := Lib.hid (HB2.out.grown hgrow (by omega) (fun k e => by have := own_block HO2.out k e; omega))
      have HO7 : Hid (W7.ownsRow X.heap.size 3 1 v7 (zs ++ cellR ⟨c, out⟩).length (ints (zs ++ cellR ⟨c, out⟩))) := Lib.hid (by rw [← ints_app, List.length_append]; exact hown)
      clear hown hgrow HO2 HP2 HB2
      go_wp2
      go_roundw
      case rel => exact ⟨k + 1, by go_num, by omega, by rw [HST.out]; exact HO7, HB7⟩
      case measure => simp [intOf]; omega
    · have hli : ¬ (k : Int) < D.cells.length := by omega
      have HO2 : Hid (wr.ownsRow X.heap.size 3 1 (.slice a3 ([D.tick] ++ cellsF D.cells).length c3) ([D.tick] ++ cellsF D.cells).length (ints ([D.tick] ++ cellsF D.cells))) := Lib.hid (by
        have := HO.out
        rw [List.take_of_length_le (by omega)] at this
        exact this)
      have ELN : Hid (([D.tick] ++ cellsF (D.cells.take k)).length = ([D.tick] ++ cellsF D.cells).length) := Lib.hid (by rw [List.take_of_length_le (by omega)])
      rw [ELN.out]
      have HL1 : Hid (([D.tick] ++ cellsF D.cells).length ≤ 200) := Lib.hid (by
        have := cellsF_len HD.out.out
        rw [List.length_append, this]
        simp
        omega)
      have HRF : Hid (rowF D = [D.tick] ++ cellsF D.cells ++ linesF D.lines) := Lib.hid rfl
      clear ELN HO
      generalize [D.tick] ++ cellsF D.cells = ys at HO2 HL1 HRF ⊢
      go_wp2
      clear k1
      go_loopw [5, 3] (fun i l wr => ∃ k : Nat, i = .int .i64 k ∧ k ≤ D.lines.length ∧ Hid (wr.ownsRow X.heap.size 3 1 l (ys ++ linesF (D.lines.take k)).length (ints (ys ++ linesF (D.lines.take k)))) ∧ Hid (Below X.heap.size X wr)) (fun i _ _ => D.lines.length - (intOf i).toNat)
      case atStart => exact ⟨0, rfl, Nat.zero_le _, by rw [List.take_zero, show linesF [] = [] from rfl, List.append_nil]; exact HO2, HB⟩
      case round =>
        clear HO2 HB hw
        obtain ⟨j, rfl, hj, HO, HB⟩ := hrel
        obtain ⟨a4, c4, hform⟩ := own_form HO.out
        subst hform
        have hw := HB.out.size
        have k2 : wr.cell? ⟨w.heap.size, 2, none⟩ = some (.slice la D.lines.length lc) := (HRX.out.up HB.out HRX.out.lt).cell (j := 2) rfl
        by_cases hjl : j < D.lines.length
        · have hji : (j : Int) < D.lines.length := by omega
          obtain ⟨b, off, cap, e1, hcap, hbw, hc⟩ := (HL.out.up HB.out).open (by omega)
          cases e1
          obtain ⟨ao, oc, hra, hso⟩ := hc j hjl
          have HSO := Lib.hid hso
          have hoe := HD.out.vals _ (List.getElem_mem hjl)
          have HST : Hid (ys ++ linesF (D.lines.take (j + 1)) = ys ++ linesF (D.lines.take j) ++ padL D.lines[j] 3) := Lib.hid (by rw [linesF_step hjl, List.append_assoc])
          have HLL : Hid ((ys ++ linesF (D.lines.take j)).length ≤ 300) := Lib.hid (by
            have h1 := linesF_len (ls := D.lines.take j) (fun d hd => HD.out.vals d (mem_take hd))
            have h2 := HL1.out
            rw [List.length_append, h1, List.length_take]
            omega)
          have HCL := Lib.hid (padL_len hoe)
          clear hc hso
          generalize D.lines[j] = l at hra HSO hoe HST HCL
          generalize ys ++ linesF (D.lines.take j) = zs at HO HST HLL
          go_wp2_with fail
          refine (padded_any l 3 (by omega) hoe _ _ HSO.out).mono ?_
          rintro e w2 ⟨v2, rfl, ho2, b2⟩
          obtain ⟨pa2, pc2, rfl⟩ := own_form ho2
          have HO2 := Lib.hid (own_upG HO.out b2)
          have HP2 := Lib.hid (own_sl ho2)
          have HB2 := Lib.hid (HB.out.trans (b2.mono HB.out.size))
          have hw2 := HB2.out.size
          clear ho2 b2 HO HB HSO k2 hra
          go_wp2_with (at_builtin; refine wpList_append_sl rfl (.tmp 31) (.tmp 38) 31 rfl X.heap.size 3 i1 (.int .i64 0) 1 8 Tryd.underlying31 hi1 hy0 hy1 hy2 rfl (by decide) _ zs.length (ints zs) rfl HO2.out _ (padL l 3).length (ints (padL l 3)) rfl HP2.out (ints_cell _) (by have := HLL.out; have := HCL.out; unfold maxLen; omega) (by have := HLL.out; have := HCL.out; omega) (by omega) ?_)
          intro v7 W7 hown hgrow _
          have HB7 := Lib.hid (HB2.out.grown hgrow (by omega) (fun k e => by have := own_block HO2.out k e; omega))
          have HO7 : Hid (W7.ownsRow X.heap.size 3 1 v7 (zs ++ padL l 3).length (ints (zs ++ padL l 3))) := Lib.hid (by rw [← ints_app, List.length_append]; exact hown)
          clear hown hgrow HO2 HP2 HB2
          go_wp2
          go_roundw
          case rel => exact ⟨j + 1, by go_num, by omega, by rw [HST.out]; exact HO7, HB7⟩
          case measure => simp [intOf]; omega
        · have hji : ¬ (j : Int) < D.lines.length := by omega
          have HE : Hid (rowF D = ys ++ linesF (D.lines.take j)) := Lib.hid (by rw [List.take_of_length_le (by omega), HRF.out])
          generalize ys ++ linesF (D.lines.take j) = zs at HO HE ⊢
          go_wp2
          go_ret
          have hF : wr.ownsRow w.heap.size 3 1 (.slice a4 zs.length c4) zs.length (ints zs) := own_low HO.out (by have := HXS.out; omega)
          exact ⟨_, rfl, by rw [HE.out]; exact hF, D0.out.trans (HB.out.mono (by have := HXS.out; omega))⟩
end Go.Proofs.YtnnnljfdjdehaaaDoor

namespace Go.Proofs.YtnnnljfdjdehaaaDoor
set_option linter.unusedSimpArgs false
set_option linter.unusedVariables false
open Go.RowKit Go.Sort

theorem app0 (a : Value) : #[a] ++ (#[] : Array Value) = #[a] := by simp
theorem app1 (a b : Value) : #[a] ++ #[b] = #[a, b] := by simp
theorem app2 (a b c : Value) : #[a] ++ #[b, c] = #[a, b, c] := by simp

/-- A system that lies in a variable of its own. -/
structure Box (w : World) (g : Nat) (vp vc vs : Value) : Prop where
  p : w.cell? ⟨g, 0, none⟩ = some vp
  c : w.cell? ⟨g, 1, none⟩ = some vc
  s : w.cell? ⟨g, 2, none⟩ = some vs
  lt : g < w.heap.size
theorem Box.up {w w' : World} {g : Nat} {vp vc vs : Value} (h : Box w g vp vc vs) (hb : Below w.heap.size w w') : Box w' g vp vc vs :=
  ⟨bcl hb h.lt h.p, bcl hb h.lt h.c, bcl hb h.lt h.s, Nat.lt_of_lt_of_le h.lt hb.size⟩
theorem box_new (w : World) (vp vc vs : Value) (t : TypeId) (g : Nat) (hg : g = w.heap.size) : Box (w.alloc (.cells #[vp, vc, vs] t)) g vp vc vs := by
  subst hg
  exact ⟨by simp, by simp, by simp, by simp⟩

set_option maxHeartbeats 1000000 in
theorem kindLit_any (c : Chn) (w : World) : Calls Tryd.prog 51 #[.agg #[.int .i64 c.kd, .int .i64 c.fr, .int .i64 c.tt]] w fun e w' => e = .returned (.bool (kindBad c)) ∧ Below w.heap.size w w' := by
  generalize h1 : (c.kd != 1) = q1
  generalize h2 : (c.kd != 2) = q2
  have HE : Hid (kindBad c = (q1 && q2)) := by show kindBad c = _; unfold kindBad; rw [h1, h2]
  cases q1 <;> cases q2
  all_goals
    go_enter Tryd.func51, Tryd.ntmps51
    go_wp2
    go_ret
    exact ⟨ret_bool (by rw [HE.out]; rfl), (by repeat (first | exact Below.refl _ _ | assumption | refine Below.drew ?_ | refine Below.alloc ?_ (by first | (simp; done) | (simp; omega)) _ | refine Below.setCell ?_ (by first | (simp; done) | (simp; omega)) _))⟩

theorem countLit_any (ca : Option Addr) (cn cc : Nat) (ia : Option Addr) (n ic : Nat) (w : World) : Calls Tryd.prog 70 #[.agg #[.slice ca cn cc, .slice ia n ic]] w fun e w' => e = .returned (.bool (decide (12 < n))) ∧ Below w.heap.size w w' := by
  by_cases h : 12 < n
  all_goals
    go_enter Tryd.func70, Tryd.ntmps70
    go_wp2
    go_ret
    exact ⟨ret_bool (by simp; omega), (by repeat (first | exact Below.refl _ _ | assumption | refine Below.drew ?_ | refine Below.alloc ?_ (by first | (simp; done) | (simp; omega)) _ | refine Below.setCell ?_ (by first | (simp; done) | (simp; omega)) _))⟩

set_option maxHeartbeats 1000000 in
theorem placeLit_any (c : Chn) (g : Nat) (ao : Option Addr) (n cap : Nat) (vc vs : Value) (w : World) (hn : n ≤ 1000) (hB : Box w g (.slice ao n cap) vc vs) (hc : ∃ a b d, vc = .slice a b d) (hs : ∃ a b d, vs = .slice a b d) :
    Calls Tryd.prog 72 #[.agg #[.int .i64 c.kd, .int .i64 c.fr, .int .i64 c.tt], .pointer (some ⟨g, 0, none⟩)] w fun e w' => e = .returned (.bool (placeBad n c)) ∧ Below w.heap.size w w' := by
  obtain ⟨a1, b1, d1, rfl⟩ := hc
  obtain ⟨a2, b2, d2, rfl⟩ := hs
  generalize h1 : withinB c.fr 0 ((n : Int) - 1) = q1
  generalize h2 : withinB c.tt 0 ((n : Int) - 1) = q2
  generalize h3 : (c.fr == c.tt) = q3
  have HE : Hid (placeBad n c = (!q1 || !q2 || q3)) := by show placeBad n c = _; unfold placeBad; rw [h1, h2, h3]
  have H1 := Lib.hid h1
  have H2 := Lib.hid h2
  have HB := Lib.hid hB
  have k0 := (HB.out.up (w' := w.alloc (.cells #[.int .i64 c.kd, .int .i64 c.fr, .int .i64 c.tt] 73)) ((Below.refl _ _).alloc (Nat.le_refl _) _)).p
  have k1 := (HB.out.up (w' := w.alloc (.cells #[.int .i64 c.kd, .int .i64 c.fr, .int .i64 c.tt] 73)) ((Below.refl _ _).alloc (Nat.le_refl _) _)).c
  have k2 := (HB.out.up (w' := w.alloc (.cells #[.int .i64 c.kd, .int .i64 c.fr, .int .i64 c.tt] 73)) ((Below.refl _ _).alloc (Nat.le_refl _) _)).s
  clear h1 h2 hB
  have hlt := HB.out.lt
  cases q1
  · go_enter Tryd.func72, Tryd.ntmps72
    go_wp2_with fail
    refine (isPart_any ao n cap _ _ c.fr _ hn).mono ?_
    rw [H1.out]
    rintro e w1 ⟨rfl, bb⟩
    have D := Lib.hid (Below.trans (show Below w.heap.size w _ from (by repeat (first | exact Below.refl _ _ | assumption | refine Below.drew ?_ | refine Below.alloc ?_ (by first | (simp; done) | (simp; omega)) _ | refine Below.setCell ?_ (by first | (simp; done) | (simp; omega)) _))) (bb.mono (by simp)))
    clear bb
    go_wp2
    go_ret
    exact ⟨ret_bool (by rw [HE.out]; rfl), D.out⟩
  · go_enter Tryd.func72, Tryd.ntmps72
    go_wp2_with fail
    refine (isPart_any ao n cap _ _ c.fr _ hn).mono ?_
    rw [H1.out]
    rintro e w1 ⟨rfl, bb⟩
    have D := Lib.hid (Below.trans (show Below w.heap.size w _ from (by repeat (first | exact Below.refl _ _ | assumption | refine Below.drew ?_ | refine Below.alloc ?_ (by first | (simp; done) | (simp; omega)) _ | refine Below.setCell ?_ (by first | (simp; done) | (simp; omega)) _))) (bb.mono (by simp)))
    have k0 := (HB.out.up D.out).p
    have k1 := (HB.out.up D.out).c
    have k2 := (HB.out.up D.out).s
    have m0 : w1.cell? ⟨w.heap.size, 0, none⟩ = some (.int .i64 c.kd) := bcl bb (by simp) (by simp)
    have m1 : w1.cell? ⟨w.heap.size, 1, none⟩ = some (.int .i64 c.fr) := bcl bb (by simp) (by simp)
    have m2 : w1.cell? ⟨w.heap.size, 2, none⟩ = some (.int .i64 c.tt) := bcl bb (by simp) (by simp)
    have z1 : w.heap.size < w1.heap.size := by have := bb.size; simp at this; omega
    clear bb
    go_wp2_with fail
    refine (isPart_any ao n cap _ _ c.tt _ hn).mono ?_
    rw [H2.out]
    rintro e w2 ⟨rfl, bb⟩
    have m1 : w2.cell? ⟨w.heap.size, 1, none⟩ = some (.int .i64 c.fr) := bcl bb z1 m1
    have m2 : w2.cell? ⟨w.heap.size, 2, none⟩ = some (.int .i64 c.tt) := bcl bb z1 m2
    have D := Lib.hid (D.out.trans (bb.mono (Nat.le_of_lt z1)))
    clear bb k0 k1 k2 m0 z1
    cases q2
    · go_wp2
      go_ret
      exact ⟨ret_bool (by rw [HE.out]; rfl), D.out⟩
    · cases q3
      all_goals
        go_wp2
        go_ret
        exact ⟨ret_bool (by rw [HE.out]; rfl), D.out⟩

set_option maxHeartbeats 1000000 in
theorem slotLit_any (c : Slt) (g : Nat) (ao : Option Addr) (n cap : Nat) (vc vs : Value) (w : World) (hn : n ≤ 1000) (hB : Box w g (.slice ao n cap) vc vs) (hc : ∃ a b d, vc = .slice a b d) (hs : ∃ a b d, vs = .slice a b d) :
    Calls Tryd.prog 75 #[.agg #[.int .i64 c.pt, .int .i64 c.tk], .pointer (some ⟨g, 0, none⟩)] w fun e w' => e = .returned (.bool (slotBad n c)) ∧ Below w.heap.size w w' := by
  obtain ⟨a1, b1, d1, rfl⟩ := hc
  obtain ⟨a2, b2, d2, rfl⟩ := hs
  generalize h1 : withinB c.pt 0 ((n : Int) - 1) = q1
  generalize h2 : withinB c.tk 1 8 = q2
  have HE : Hid (slotBad n c = (!q1 || !q2)) := by show slotBad n c = _; unfold slotBad; rw [h1, h2]
  have H1 := Lib.hid h1
  have H2 := Lib.hid h2
  have HB := Lib.hid hB
  have k0 := (HB.out.up (w' := w.alloc (.cells #[.int .i64 c.pt, .int .i64 c.tk] 79)) ((Below.refl _ _).alloc (Nat.le_refl _) _)).p
  have k1 := (HB.out.up (w' := w.alloc (.cells #[.int .i64 c.pt, .int .i64 c.tk] 79)) ((Below.refl _ _).alloc (Nat.le_refl _) _)).c
  have k2 := (HB.out.up (w' := w.alloc (.cells #[.int .i64 c.pt, .int .i64 c.tk] 79)) ((Below.refl _ _).alloc (Nat.le_refl _) _)).s
  clear h1 h2 hB
  have hlt := HB.out.lt
  go_enter Tryd.func75, Tryd.ntmps75
  go_wp2_with fail
  refine (isPart_any ao n cap _ _ c.pt _ hn).mono ?_
  rw [H1.out]
  rintro e w1 ⟨rfl, bb⟩
  have D := Lib.hid (Below.trans (show Below w.heap.size w _ from (by repeat (first | exact Below.refl _ _ | assumption | refine Below.drew ?_ | refine Below.alloc ?_ (by first | (simp; done) | (simp; omega)) _ | refine Below.setCell ?_ (by first | (simp; done) | (simp; omega)) _))) (bb.mono (by simp)))
  have m1 : w1.cell? ⟨w.heap.size, 1, none⟩ = some (.int .i64 c.tk) := bcl bb (by simp) (by simp)
  clear bb k0 k1 k2
  cases q1
  · go_wp2
    go_ret
    exact ⟨ret_bool (by rw [HE.out]; rfl), D.out⟩
  · go_wp2_with fail
    refine (cwithin_any c.tk 1 8 _).mono ?_
    rw [H2.out]
    rintro e w2 ⟨rfl, rfl⟩
    cases q2
    all_goals
      go_wp2
      go_ret
      exact ⟨ret_bool (by rw [HE.out]; rfl), D.out⟩
end Go.Proofs.YtnnnljfdjdehaaaDoor

namespace Go.Proofs.YtnnnljfdjdehaaaDoor
set_option linter.unusedSimpArgs false
set_option linter.unusedVariables false
open Go.RowKit Go.Sort

theorem below_drewN {B : Nat} {a w : World} (h : Below B a w) (n : Nat) : Below B a (w.drewN n) := ⟨h.os, h.tape, h.output, h.size, h.block⟩
theorem enCheck1 : Enters 51 := enters Tryd.func51 (by kernel_rfl) (by kernel_rfl)
theorem enCounts1 : Enters 70 := enters Tryd.func70 (by kernel_rfl) (by kernel_rfl)
theorem enPlaces1 : Enters 72 := enters Tryd.func72 (by kernel_rfl) (by kernel_rfl)
theorem enPlaces2 : Enters 75 := enters Tryd.func75 (by kernel_rfl) (by kernel_rfl)
theorem enNames1 : Enters 78 := enters Tryd.func78 (by kernel_rfl) (by kernel_rfl)
theorem enNames2 : Enters 80 := enters Tryd.func80 (by kernel_rfl) (by kernel_rfl)

set_option maxHeartbeats 1000000 in
theorem counts_any (S : SysD) (vp vc vs : Value) (w : World) (hS : Sys w vp vc vs S) : Calls Tryd.prog 48 #[.agg #[vp, vc, vs]] w fun e w' => e = .returned (.bool (countsB S)) ∧ Below w.heap.size w w' := by
  obtain ⟨pa, pc, rfl⟩ := hS.p.form
  obtain ⟨ca, cc, rfl⟩ := hS.c.form
  obtain ⟨sa, sc, rfl⟩ := hS.s.form
  generalize h1 : withinB (S.parts.length : Int) 1 4 = q1
  generalize h3 : withinB (S.slots.length : Int) 1 6 = q3
  generalize h4 : (S.parts.any fun p => decide (12 < p.inn.length)) = q4
  have H1 := Lib.hid h1
  have H3 := Lib.hid h3
  have H4 := Lib.hid h4
  have HS := Lib.hid hS
  by_cases h2 : S.chans.length ≤ 6
  · have h2' : (S.chans.length : Int) ≤ 6 := by omega
    have HE : Hid (countsB S = (q1 && q3 && !q4)) := by
      show countsB S = _
      unfold countsB
      rw [h4, ← h1, ← h3]
      unfold withinB
      congr 1
      rw [Bool.eq_iff_iff]
      simp; omega
    have HP : q1 = true → S.parts.length ≤ 1000 := fun e => by subst e; unfold withinB at h1; simp at h1; omega
    clear h1 h3 h4 hS
    go_enter Tryd.func48, Tryd.ntmps48
    go_wp2_with fail
    refine (cwithin_any _ _ _ _).mono ?_
    rw [H1.out]
    rintro e w1 ⟨rfl, rfl⟩
    cases q1
    · go_wp2
      go_ret
      exact ⟨ret_bool (by rw [HE.out]; rfl), (by repeat (first | exact Below.refl _ _ | assumption | refine Below.drew ?_ | refine Below.alloc ?_ (by first | (simp; done) | (simp; omega)) _ | refine Below.setCell ?_ (by first | (simp; done) | (simp; omega)) _))⟩
    · have hp := HP rfl
      clear HP
      go_wp2_with fail
      refine (cwithin_any _ _ _ _).mono ?_
      rw [H3.out]
      rintro e w1 ⟨rfl, rfl⟩
      cases q3
      · go_wp2
        go_ret
        exact ⟨ret_bool (by rw [HE.out]; rfl), (by repeat (first | exact Below.refl _ _ | assumption | refine Below.drew ?_ | refine Below.alloc ?_ (by first | (simp; done) | (simp; omega)) _ | refine Below.setCell ?_ (by first | (simp; done) | (simp; omega)) _))⟩
      · go_wp2_with fail
        refine (onePart_any S.parts _ _ enCounts1 #[] (fun p => decide (12 < p.inn.length)) _ (HS.out.p.up (by repeat (first | exact Below.refl _ _ | assumption | refine Below.drew ?_ | refine Below.alloc ?_ (by first | (simp; done) | (simp; omega)) _ | refine Below.setCell ?_ (by first | (simp; done) | (simp; omega)) _))) hp (fun k hk c i w1 hpr _ => ?_) q4 H4.out).mono ?_
        · obtain ⟨a1, b1, rfl⟩ := hpr.code.form
          obtain ⟨a2, b2, rfl⟩ := hpr.inn.form
          rw [app0]
          exact countLit_any _ _ _ _ _ _ _
        rintro e w2 ⟨rfl, bb⟩
        have D := Lib.hid (Below.trans (show Below w.heap.size w _ from (by repeat (first | exact Below.refl _ _ | assumption | refine Below.drew ?_ | refine Below.alloc ?_ (by first | (simp; done) | (simp; omega)) _ | refine Below.setCell ?_ (by first | (simp; done) | (simp; omega)) _))) (bb.mono (by simp)))
        clear bb
        cases q4
        all_goals
          go_wp2
          go_ret
          exact ⟨ret_bool (by rw [HE.out]; rfl), D.out⟩
  · have h2' : ¬ (S.chans.length : Int) ≤ 6 := by omega
    have HE : Hid (countsB S = false) := by
      show countsB S = _
      unfold countsB
      simp; omega
    clear h1 h3 h4 hS
    go_enter Tryd.func48, Tryd.ntmps48
    go_wp2_with fail
    refine (cwithin_any _ _ _ _).mono ?_
    rw [H1.out]
    rintro e w1 ⟨rfl, rfl⟩
    cases q1
    all_goals
      go_wp2
      go_ret
      exact ⟨ret_bool (by rw [HE.out]), (by repeat (first | exact Below.refl _ _ | assumption | refine Below.drew ?_ | refine Below.alloc ?_ (by first | (simp; done) | (simp; omega)) _ | refine Below.setCell ?_ (by first | (simp; done) | (simp; omega)) _))⟩

set_option maxHeartbeats 1000000 in
theorem places_any (S : SysD) (vp vc vs : Value) (w : World) (hS : Sys w vp vc vs S) (hc : countsB S = true) : Calls Tryd.prog 52 #[.agg #[vp, vc, vs]] w fun e w' => e = .returned (.bool (placesB S)) ∧ Below w.heap.size w w' := by
  have hn : S.parts.length ≤ 1000 ∧ S.chans.length ≤ 1000 ∧ S.slots.length ≤ 1000 := by unfold countsB at hc; simp at hc; omega
  obtain ⟨hn1, hn2, hn3⟩ := hn
  obtain ⟨pa, pc, rfl⟩ := hS.p.form
  obtain ⟨ca, cc, rfl⟩ := hS.c.form
  obtain ⟨sa, sc, rfl⟩ := hS.s.form
  generalize h1 : S.chans.any (placeBad S.parts.length) = q1
  generalize h2 : S.slots.any (slotBad S.parts.length) = q2
  have HE : Hid (placesB S = (!q1 && !q2)) := by show placesB S = _; unfold placesB; rw [h1, h2]
  have H1 := Lib.hid h1
  have H2 := Lib.hid h2
  have HS := Lib.hid hS
  clear h1 h2 hS hc
  go_enter Tryd.func52, Tryd.ntmps52
  go_wp2_with fail
  refine (oneChan_any S.chans _ _ enPlaces1 _ (placeBad S.parts.length) _ (HS.out.c.up (by repeat (first | exact Below.refl _ _ | assumption | refine Below.drew ?_ | refine Below.alloc ?_ (by first | (simp; done) | (simp; omega)) _ | refine Below.setCell ?_ (by first | (simp; done) | (simp; omega)) _))) hn2 (fun k hk w1 hb => ?_) q1 H1.out).mono ?_
  · rw [app1]
    exact placeLit_any _ _ _ _ _ _ _ _ hn1 ((box_new w _ _ _ _ _ rfl).up hb) ⟨_, _, _, rfl⟩ ⟨_, _, _, rfl⟩
  rintro e w2 ⟨rfl, bb⟩
  have D := Lib.hid (Below.trans (show Below w.heap.size w _ from (by repeat (first | exact Below.refl _ _ | assumption | refine Below.drew ?_ | refine Below.alloc ?_ (by first | (simp; done) | (simp; omega)) _ | refine Below.setCell ?_ (by first | (simp; done) | (simp; omega)) _))) (bb.mono (by simp)))
  have HB := Lib.hid ((box_new w (.slice pa S.parts.length pc) (.slice ca S.chans.length cc) (.slice sa S.slots.length sc) 26 _ rfl).up bb)
  have k2 := HB.out.s
  clear bb
  cases q1
  · go_wp2_with fail
    refine (oneSlot_any S.slots _ _ enPlaces2 _ (slotBad S.parts.length) _ (HS.out.s.up D.out) hn3 (fun k hk w1 hb => ?_) q2 H2.out).mono ?_
    · rw [app1]
      exact slotLit_any _ _ _ _ _ _ _ _ hn1 (HB.out.up hb) ⟨_, _, _, rfl⟩ ⟨_, _, _, rfl⟩
    rintro e w3 ⟨rfl, bb⟩
    have D := Lib.hid (D.out.trans (bb.mono D.out.size))
    clear bb
    cases q2
    all_goals
      go_wp2
      go_ret
      exact ⟨ret_bool (by rw [HE.out]; rfl), D.out⟩
  · go_wp2
    go_ret
    exact ⟨ret_bool (by rw [HE.out]; rfl), D.out⟩

set_option maxHeartbeats 1000000 in
theorem putLit_any (c : Nat) (l : List Chn) (me : Int) (g m : Nat) (vp vc vs : Value) (w : World) (hB : Box w g vp vc vs) (hm : w.cell? ⟨m, 0, none⟩ = some (.int .i64 me)) (hS : Sl w 3 vc l.length (rowC chC l)) (hc : c < 6) :
    Calls Tryd.prog 78 #[.int .i64 c, .pointer (some ⟨g, 0, none⟩), .pointer (some ⟨m, 0, none⟩)] w fun e w' => e = .returned (.bool (putBad l me c)) ∧ Below w.heap.size w w' := by
  obtain ⟨ca, cc, rfl⟩ := hS.form
  have k1 := hB.c
  by_cases h : c < l.length
  · have h' : (c : Int) < l.length := by omega
    have h0 : (0 : Int) ≤ c := by omega
    have hd : decide ((l.length : Int) ≤ c) = false := by simp; omega
    obtain ⟨b, off, cap, e1, hcap, hbw, hcs⟩ := hS.open (by omega)
    cases e1
    obtain ⟨c0, c1, c2⟩ := chan_cells hcs c h
    generalize hq : (l[c].fr != me) = q
    have HE : Hid (putBad l me c = q) := by
      show putBad l me c = q
      unfold putBad
      rw [show ((c : Int)).toNat = c from rfl, List.getElem?_eq_getElem h]
      exact hq
    clear hcs hS hB
    go_enter Tryd.func78, Tryd.ntmps78
    go_wp2
    go_quiet (fail)
    all_goals go_wp2
    all_goals go_ret
    all_goals exact ⟨ret_bool (by rw [HE.out]; try simp [Nat.not_le.2 h]), by first | exact Below.refl _ _ | exact below_drewN (Below.refl _ _) _ | exact (Below.refl _ _).drew⟩
  · have h' : ¬ (c : Int) < l.length := by omega
    have hd : decide ((l.length : Int) ≤ c) = true := by simp; omega
    have HE : Hid (putBad l me c = true) := by
      show putBad l me c = _
      unfold putBad
      rw [show ((c : Int)).toNat = c from rfl, List.getElem?_eq_none (by omega)]
    clear hS hB h
    go_enter Tryd.func78, Tryd.ntmps78
    go_wp2
    go_quiet (fail)
    all_goals go_wp2
    all_goals go_ret
    all_goals exact ⟨ret_bool (by rw [HE.out]; try simp [Nat.not_le.2 h]), by first | exact Below.refl _ _ | exact below_drewN (Below.refl _ _) _ | exact (Below.refl _ _).drew⟩

set_option maxHeartbeats 1000000 in
theorem getLit_any (c : Nat) (l : List Chn) (me : Int) (g m : Nat) (vp vc vs : Value) (w : World) (hB : Box w g vp vc vs) (hm : w.cell? ⟨m, 0, none⟩ = some (.int .i64 me)) (hS : Sl w 3 vc l.length (rowC chC l)) (hc : c < 6) :
    Calls Tryd.prog 80 #[.int .i64 c, .pointer (some ⟨g, 0, none⟩), .pointer (some ⟨m, 0, none⟩)] w fun e w' => e = .returned (.bool (getBad l me c)) ∧ Below w.heap.size w w' := by
  obtain ⟨ca, cc, rfl⟩ := hS.form
  have k1 := hB.c
  by_cases h : c < l.length
  · have h' : (c : Int) < l.length := by omega
    have h0 : (0 : Int) ≤ c := by omega
    have hd : decide ((l.length : Int) ≤ c) = false := by simp; omega
    obtain ⟨b, off, cap, e1, hcap, hbw, hcs⟩ := hS.open (by omega)
    cases e1
    obtain ⟨c0, c1, c2⟩ := chan_cells hcs c h
    generalize hq : (l[c].tt != me) = q
    have HE : Hid (getBad l me c = q) := by
      show getBad l me c = q
      unfold getBad
      rw [show ((c : Int)).toNat = c from rfl, List.getElem?_eq_getElem h]
      exact hq
    clear hcs hS hB
    go_enter Tryd.func80, Tryd.ntmps80
    go_wp2
    go_quiet (fail)
    all_goals go_wp2
    all_goals go_ret
    all_goals exact ⟨ret_bool (by rw [HE.out]; try simp [Nat.not_le.2 h]), by first | exact Below.refl _ _ | exact below_drewN (Below.refl _ _) _ | exact (Below.refl _ _).drew⟩
  · have h' : ¬ (c : Int) < l.length := by omega
    have hd : decide ((l.length : Int) ≤ c) = true := by simp; omega
    have HE : Hid (getBad l me c = true) := by
      show getBad l me c = _
      unfold getBad
      rw [show ((c : Int)).toNat = c from rfl, List.getElem?_eq_none (by omega)]
    clear hS hB h
    go_enter Tryd.func80, Tryd.ntmps80
    go_wp2
    go_quiet (fail)
    all_goals go_wp2
    all_goals go_ret
    all_goals exact ⟨ret_bool (by rw [HE.out]; try simp [Nat.not_le.2 h]), by first | exact Below.refl _ _ | exact below_drewN (Below.refl _ _) _ | exact (Below.refl _ _).drew⟩
end Go.Proofs.YtnnnljfdjdehaaaDoor

namespace Go.Proofs.YtnnnljfdjdehaaaDoor
set_option linter.unusedSimpArgs false
set_option linter.unusedVariables false
open Go.RowKit Go.Sort

theorem chanL_nat {l : List Ins} {op : Int} {m k : Nat} (h : k < (chanL l op m).length) : ∃ c : Nat, (chanL l op m)[k] = (c : Int) ∧ c < m := by
  have hm := List.getElem_mem h
  unfold chanL at hm
  obtain ⟨c, hc, e⟩ := List.mem_map.1 hm
  exact ⟨c, e.symm, by simpa using (List.mem_filter.1 hc).1⟩
theorem namesFrom_at (l : List Chn) : ∀ (ps : List Prt) (k j : Nat) (h : j < ps.length), nameBad l ((k + j : Nat) : Int) ps[j] = true → namesFrom l k ps = false
  | p :: r, k, 0, _, hb => by
    rw [namesFrom, if_pos (by simpa using hb)]
  | p :: r, k, j + 1, h, hb => by
    rw [namesFrom]
    split
    · rfl
    · exact namesFrom_at l r (k + 1) j (by simpa using h) (by rw [show k + 1 + j = k + (j + 1) by omega]; simpa using hb)
theorem namesFrom_all (l : List Chn) : ∀ (ps : List Prt) (k : Nat), (∀ j (h : j < ps.length), nameBad l ((k + j : Nat) : Int) ps[j] = false) → namesFrom l k ps = true
  | [], _, _ => rfl
  | p :: r, k, hz => by
    rw [namesFrom, if_neg (by have := hz 0 (by simp); simpa using this)]
    exact namesFrom_all l r (k + 1) (fun j h => by rw [show k + 1 + j = k + (j + 1) by omega]; have := hz (j + 1) (by simpa using h); simpa using this)

set_option maxHeartbeats 2000000 in
theorem names_any (S : SysD) (vp vc vs : Value) (w : World) (he : Env w) (hS : Sys w vp vc vs S) (hc : countsB S = true) (hp : firstP S.parts = 0) : Calls Tryd.prog 53 #[.agg #[vp, vc, vs]] w fun e w' => e = .returned (.bool (namesB S)) ∧ Below w.heap.size w w' := by
  have hn : 1 ≤ S.parts.length ∧ S.parts.length ≤ 4 ∧ S.chans.length ≤ 6 := by unfold countsB at hc; simp at hc; omega
  obtain ⟨hn0, hn1, hn2⟩ := hn
  obtain ⟨pb, po, pc, rfl, hpc, hpb, hpp⟩ := hS.p.open (by omega)
  obtain ⟨ca, cc, rfl⟩ := hS.c.form
  obtain ⟨sa, sc, rfl⟩ := hS.s.form
  have HS := Lib.hid hS
  have HP := Lib.hid hpp
  have HZ := Lib.hid (firstP_zero hp)
  generalize hr : namesB S = r
  have HR := Lib.hid hr
  clear hS hpp hp hr hc
  go_enter Tryd.func53, Tryd.ntmps53
  go_wp2
  go_loopw [12] (fun i wr => ∃ k : Nat, i = .int .i64 k ∧ k ≤ S.parts.length ∧ Hid (∀ j (h : j < S.parts.length), j < k → nameBad S.chans (j : Int) S.parts[j] = false) ∧ Hid (Box wr w.heap.size (.slice (some ⟨pb, po, none⟩) S.parts.length pc) (.slice ca S.chans.length cc) (.slice sa S.slots.length sc)) ∧ Hid (Below w.heap.size w wr)) (fun i _ => S.parts.length - (intOf i).toNat)
  case atStart => exact ⟨0, rfl, Nat.zero_le _, fun j hj h => by omega, box_new w _ _ _ _ _ rfl, (by repeat (first | exact Below.refl _ _ | assumption | refine Below.drew ?_ | refine Below.alloc ?_ (by first | (simp; done) | (simp; omega)) _ | refine Below.setCell ?_ (by first | (simp; done) | (simp; omega)) _))⟩
  case round =>
    obtain ⟨k, rfl, hk, HN, HB, hbel⟩ := hrel
    by_cases hlt : k < S.parts.length
    · have hli : (k : Int) < S.parts.length := by omega
      obtain ⟨c, i, c0, c1, hpr⟩ := HP.out k hlt
      obtain ⟨a1, b1, rfl⟩ := hpr.code.form
      obtain ⟨a2, b2, rfl⟩ := hpr.inn.form
      have c0 := bcl hbel.out hpb c0
      have c1 := bcl hbel.out hpb c1
      have HPR := Lib.hid hpr
      have hcz := HZ.out k hlt
      have HCZ := Lib.hid hcz
      clear hpr hcz
      have hbs := hbel.out.size
      generalize hq1 : (chanL S.parts[k].code 12 6).any (putBad S.chans (k : Int)) = q1
      generalize hq2 : (chanL S.parts[k].code 13 6).any (getBad S.chans (k : Int)) = q2
      have H1 := Lib.hid hq1
      have H2 := Lib.hid hq2
      have HNB : Hid (nameBad S.chans (k : Int) S.parts[k] = (q1 || q2)) := by show nameBad _ _ _ = _; unfold nameBad; rw [hq1, hq2]
      clear hq1 hq2
      have e0 := he.up hbel.out
      go_wp2_with fail
      refine (puts_yes S.parts[k].code _ _ (e0.up (by repeat (first | exact Below.refl _ _ | assumption | refine Below.drew ?_ | refine Below.alloc ?_ (by first | (simp; done) | (simp; omega)) _ | refine Below.setCell ?_ (by first | (simp; done) | (simp; omega)) _))) ((HPR.out.code.up hbel.out).up (by repeat (first | exact Below.refl _ _ | assumption | refine Below.drew ?_ | refine Below.alloc ?_ (by first | (simp; done) | (simp; omega)) _ | refine Below.setCell ?_ (by first | (simp; done) | (simp; omega)) _))) HCZ.out).mono ?_
      rintro e w1 ⟨v1, rfl, s1, bb⟩
      obtain ⟨v1a, v1c, rfl⟩ := s1.form
      have D : Below wr.heap.size wr w1 := Below.trans (by repeat (first | exact Below.refl _ _ | assumption | refine Below.drew ?_ | refine Below.alloc ?_ (by first | (simp; done) | (simp; omega)) _ | refine Below.setCell ?_ (by first | (simp; done) | (simp; omega)) _)) (bb.mono (by simp; omega))
      have m0 : w1.cell? ⟨wr.heap.size, 0, none⟩ = some (.int .i64 k) := bcl bb (by simp; omega) (cl_alloc _ (by simp) (by simp))
      have p0 : w1.cell? ⟨wr.heap.size + 1, 0, none⟩ = some (.slice a1 S.parts[k].code.length b1) := bcl bb (by simp) (by simp)
      have z1 : wr.heap.size + 1 < w1.heap.size := by have := bb.size; simp at this; omega
      have HD := Lib.hid D
      have M0 := Lib.hid m0
      have S1 := Lib.hid s1
      clear bb D s1 m0 c0 c1
      go_wp2_with fail
      refine (oneInt_any _ _ _ enNames1 _ (putBad S.chans (k : Int)) _ S1.out (Nat.le_trans (chanL_len _ _ _) (by decide)) (fun j hj w2 hb => ?_) q1 H1.out).mono ?_
      · obtain ⟨c, e, hc6⟩ := chanL_nat hj
        rw [e, app2]
        exact putLit_any c S.chans k _ _ _ _ _ _ ((HB.out.up HD.out).up hb) (bcl hb (by omega) M0.out) (((HS.out.c.up hbel.out).up HD.out).up hb) hc6
      rintro e w2 ⟨rfl, bb⟩
      have p0 : w2.cell? ⟨wr.heap.size + 1, 0, none⟩ = some (.slice a1 S.parts[k].code.length b1) := bcl bb z1 p0
      have M0 := Lib.hid (bcl bb (by omega) M0.out)
      have HD := Lib.hid (HD.out.trans (bb.mono HD.out.size))
      have z1 : wr.heap.size + 1 < w2.heap.size := by have := bb.size; omega
      clear bb S1
      cases q1
      · go_wp2_with fail
        refine (gets_yes S.parts[k].code _ _ (e0.up HD.out) ((HPR.out.code.up hbel.out).up HD.out) HCZ.out).mono ?_
        rintro e w3 ⟨v2, rfl, s2, bb⟩
        obtain ⟨v2a, v2c, rfl⟩ := s2.form
        have M0 := Lib.hid (bcl bb (by omega) M0.out)
        have HD := Lib.hid (HD.out.trans (bb.mono HD.out.size))
        have z1 : wr.heap.size + 1 < w3.heap.size := by have := bb.size; omega
        have S2 := Lib.hid s2
        clear bb s2 p0
        go_wp2_with fail
        refine (oneInt_any _ _ _ enNames2 _ (getBad S.chans (k : Int)) _ S2.out (Nat.le_trans (chanL_len _ _ _) (by decide)) (fun j hj w2 hb => ?_) q2 H2.out).mono ?_
        · obtain ⟨c, e, hc6⟩ := chanL_nat hj
          rw [e, app2]
          exact getLit_any c S.chans k _ _ _ _ _ _ ((HB.out.up HD.out).up hb) (bcl hb (by omega) M0.out) (((HS.out.c.up hbel.out).up HD.out).up hb) hc6
        rintro e w4 ⟨rfl, bb⟩
        have HD := Lib.hid (HD.out.trans (bb.mono HD.out.size))
        have HW := Lib.hid (hbel.out.trans (HD.out.mono hbs))
        clear bb S2
        cases q2
        · have HBB := Lib.hid (HB.out.up HD.out)
          go_wp2
          go_roundw
          case rel => exact ⟨k + 1, by go_num, by omega, (fun j hj hjk => by
            by_cases e : j = k
            · subst e; exact HNB.out
            · exact HN.out j hj (by omega)), HBB, HW⟩
          case measure => simp [intOf]; omega
        · have HF := Lib.hid (namesFrom_at S.chans S.parts 0 k hlt (by rw [Nat.zero_add]; exact HNB.out))
          go_wp2
          go_ret
          exact ⟨ret_bool (by rw [← HR.out]; exact HF.out.symm), HW.out⟩
      · have HW := Lib.hid (hbel.out.trans (HD.out.mono hbs))
        have HF := Lib.hid (namesFrom_at S.chans S.parts 0 k hlt (by rw [Nat.zero_add]; exact HNB.out))
        go_wp2
        go_ret
        exact ⟨ret_bool (by rw [← HR.out]; exact HF.out.symm), HW.out⟩
    · have hli : ¬ (k : Int) < S.parts.length := by omega
      have HF := Lib.hid (namesFrom_all S.chans S.parts 0 (fun j hj => by rw [Nat.zero_add]; exact HN.out j hj (by omega)))
      go_wp2
      go_ret
      exact ⟨ret_bool (by rw [← HR.out]; exact HF.out.symm), hbel.out⟩
end Go.Proofs.YtnnnljfdjdehaaaDoor
