/- kern: the small tests of a world. -/
import Derived.Test.YtjhjaafoikadgaaDoorJl
import Derived.Test.YtjhjaafoikadgaaDoorJh
namespace Go.Proofs.YtjhjaafoikadgaaDoor
set_option linter.unusedSimpArgs false
set_option linter.unusedVariables false
open Go.RowKit Go.Sort

theorem range_up {B : Nat} {w w' : World} {b o : Nat} {cs : List Value} (h : w.rangeAt b o cs) (hb : Below B w w') (hlt : b < B) : w'.rangeAt b o cs := fun j v hj => bcl hb hlt (h j v hj)
theorem wpList_load_midA {P : Program} {ops : Array Oper} {rest : List Oper} {op : Oper} {a : Act} {w : World} {Q : Exit → Act → World → Prop} (hgd : op.guard = none) (ty : TypeId) (x : Operand) (ho : op.op = .load ty x)
    (b o : Nat) (hx : a.eval x = .pointer (some ⟨b, o, none⟩)) (cs : Array Value) (d : TypeDesc) (hc : w.rangeAt b o cs.toList)
    (hu : P.underlying ty = some d) (hd : d.isRow = true) (hi : (P.info? ty).map (·.size) = some cs.size)
    (h : wpList P ops Q rest (a.put op.dst (.agg cs)) w) : wpList P ops Q (op :: rest) a w :=
  wpList_load_mid hgd ty x ho b o hx cs.toList d hc hu hd (by simpa using hi) (by simpa using h)
theorem ent_cellCheck : Enters 59 := enters Tryd.func59 (by kernel_rfl) (by kernel_rfl)
theorem isRun_any (n : Int) (w : World) : Calls Tryd.prog 31 #[.int .i64 n] w fun e w' => e = .returned (.bool (withinB n 0 300)) ∧ w' = w := by
  by_cases h : 0 ≤ n
  all_goals
    go_enter Tryd.func31, Tryd.ntmps31
    go_wp2
    go_ret
    exact ⟨ret_bool (by simp [withinB]; try omega), rfl⟩
set_option maxRecDepth 100000 in
set_option maxHeartbeats 8000000 in
theorem rightCells_any (ps : List Prt) (ds : List CelD) (v u : Value) (hl : ps.length ≤ 4) (w : World) (hP : PartsR w v ps) (hC : CellsR w u ds) (r : Bool) (hr : cellsB ps ds = r) :
    Calls Tryd.prog 32 #[v, u] w fun e w' => e = .returned (.bool r) ∧ Below w.heap.size w w' := by
  obtain ⟨pa, pc, rfl⟩ := hP.form
  obtain ⟨ca, cc, rfl⟩ := hC.form
  have HP := Lib.hid hP
  have HC := Lib.hid hC
  have HR := Lib.hid hr
  clear hP hC hr
  by_cases he : ds.length = ps.length
  · have he' : ((ds.length : Int) != ps.length) = false := by simp; omega
    have HL := Lib.hid he
    clear he
    go_enter Tryd.func32, Tryd.ntmps32
    go_wp2
    go_loopw [14] (fun i wr => ∃ k : Nat, i = .int .i64 k ∧ k ≤ ds.length ∧ Hid (∀ j (h : j < ps.length) (h' : j < ds.length), j < k → celB ps[j] ds[j] = true) ∧ Hid (Below w.heap.size w wr)) (fun i _ => ds.length - (intOf i).toNat)
    case atStart => exact ⟨0, rfl, Nat.zero_le _, Lib.hid (fun j h h' h0 => by omega), Lib.hid (Below.refl _ _)⟩
    case round =>
      obtain ⟨k, rfl, hk, HZ, HB⟩ := hrel
      by_cases hlt : k < ds.length
      · have hli : (k : Int) < ds.length := by omega
        have hlp : k < ps.length := by have := HL.out; omega
        have hlip : (k : Int) < ps.length := by omega
        obtain ⟨b, off, cap, e1, hcap, hbw, hc⟩ := HC.out.open (by omega)
        cases e1
        obtain ⟨ao, oc, hra, hso⟩ := hc k hlt
        obtain ⟨pb, po, pcap, e2, hpcap, hpbw, hpc⟩ := HP.out.open (by omega)
        cases e2
        obtain ⟨cv, iv, hcv, hiv, hpr⟩ := hpc k hlp
        obtain ⟨ia, ic, rfl⟩ := hpr.inn.form
        have RA := Lib.hid (range_up hra HB.out hbw)
        have PC := Lib.hid (bcl HB.out hpbw hiv)
        have hws := HB.out.size
        have hsz : ps[k].inn.length ≤ ic := by
          obtain ⟨_, _, _, e, h, _⟩ := hpr.inn
          injection e with _ _ e2
          omega
        generalize hd : ds[k] = d at RA
        obtain ⟨c, out⟩ := d
        generalize hp : ps[k] = p at PC
        obtain ⟨code, inn⟩ := p
        have HD := Lib.hid hd
        have HPk := Lib.hid hp
        simp only at RA PC
        clear hra hso hc hpc hcv hiv hpr hd hp hsz
        go_wp2_with (first | (refine wpList_load_midA rfl 54 (.tmp 17) rfl b (off + k * 16) rfl (c.cs (.slice ao out.length oc)) _ RA.out Tryd.underlying54 rfl sizeCell ?_) | (refine wpList_store_rowW rfl 54 (.tmp 6) (.tmp 18) rfl wr.heap.size (c.cs (.slice ao out.length oc)) rfl rfl 54 (celZ.cs (.slice none 0 0)) (by repeat (first | exact Rw.new _ _ _ (by first | rfl | (simp; done) | omega | (simp; omega)) | refine Rw.alloc ?_ _)) sizeCell rfl (Cel.cs_one _ _ rfl) ?_))
        intro W HW
        have RW : Hid (Rw W wr.heap.size 54 (c.cs (.slice ao out.length oc))) := by
          show Rw _ _ _ _
          rw [HW.out]
          exact Rw.row (cs := celZ.cs (.slice none 0 0)) (by repeat (first | exact Rw.new _ _ _ (by first | rfl | (simp; done) | omega | (simp; omega)) | refine Rw.alloc ?_ _)) _
        have hzW : W.heap.size = wr.heap.size + 1 := by rw [HW.out]; simp
        have b0 : Below wr.heap.size wr W := by
          rw [HW.out]
          exact below_row ((Below.refl _ _).alloc (Nat.le_refl _) _) (Nat.le_refl _) _
        have PW := Lib.hid (bcl b0 (by omega) PC.out)
        have HBW := Lib.hid (HB.out.trans (b0.mono (by omega)))
        have hpbW : pb < W.heap.size := by omega
        clear HW RA PC HB b0
        have HCK := Lib.hid fun V => cellCheck_any c ao out.length oc V
        cases hf : c.fine out.length
        · have hce : c.err out.length = 1 := by unfold Cel.err; rw [hf]; rfl
          have HNO := Lib.hid (show cellsB ps ds = false from cellsB_no k hlp hlt (by rw [HD.out]; simp [celB, hf]))
          rw [hce] at HCK
          rw [Cel.v_cs] at HCK
          clear hf hce
          go_wp2
          refine region_still (S := fun w' => Below W.heap.size W w') 13 (by kernel_rfl) (Below.refl _ _).drew (fun hHeld => ?_)
          refine Still.takeBy (i := 0) [3, 1] (by kernel_rfl) (by kernel_rfl) rfl (by kernel_rfl) (by kernel_rfl) (by kernel_rfl) (fun _ _ _ h => h) (yields_load rfl _ _ rfl _ (by first | rfl | simp [Act.eval, Act.put]) _ (fun w' hSw => Rw.loadAt (RW.out.up hSw RW.out.lt) Tryd.underlying54 rfl sizeCell)) hHeld ?r11
          simp only [Act.put, List.getElem_toArray, List.getElem_cons_zero, List.getElem_cons_succ, List.setIfInBounds_toArray, List.set_cons_zero, List.set_cons_succ]
          refine Still.all (rs := [1]) (by kernel_rfl) (by simp) (Still.one (i := 1) rfl rfl (fun K hK => ?_) (by simp))
          refine wp_call 59 _ _ rfl ent_cellCheck #[.agg (c.cs (.slice ao out.length oc))] (by first | rfl | simp [Act.eval, Act.put]) ((HCK.out _).mono ?_)
          rintro e V1 ⟨rfl, bb⟩
          refine ⟨_, rfl, hK _ _ (fun _ => hHeld.trans (bb.mono hHeld.size)) (fun hh => ?_)⟩
          have hHeld := hh (by decide)
          clear hK K hh
          try simp only [Act.put, List.getElem_toArray, List.getElem_cons_zero, List.getElem_cons_succ, List.setIfInBounds_toArray, List.set_cons_zero, List.set_cons_succ]
          clear bb
          refine Still.takeBy (i := 2) [3] (v := ?v12) (by kernel_rfl) (by kernel_rfl) rfl (by kernel_rfl) (by kernel_rfl) (by kernel_rfl) (fun _ _ _ h => h) (Or.inl ⟨by rfl, ?y12⟩) hHeld ?r12
          case y12 => (intro w' hSw; (try dsimp only at hSw); go_simp; try with_reducible rfl)
          simp only [Act.put, List.getElem_toArray, List.getElem_cons_zero, List.getElem_cons_succ, List.setIfInBounds_toArray, List.set_cons_zero, List.set_cons_succ]
          refine Still.takeBy (i := 3) [] (v := ?v13) (by kernel_rfl) (by kernel_rfl) rfl (by kernel_rfl) (by kernel_rfl) (by kernel_rfl) (fun _ _ _ h => h) (Or.inl ⟨by rfl, ?y13⟩) hHeld ?r13
          case y13 => (intro w' hSw; (try dsimp only at hSw); go_simp; try with_reducible rfl)
          simp only [Act.put, List.getElem_toArray, List.getElem_cons_zero, List.getElem_cons_succ, List.setIfInBounds_toArray, List.set_cons_zero, List.set_cons_succ]
          refine Still.takeBy (i := 4) [12, 5] (by kernel_rfl) (by kernel_rfl) rfl (by kernel_rfl) (by kernel_rfl) (by kernel_rfl) (fun _ _ _ h => h) (Or.inr ⟨by rfl, rfl⟩) hHeld ?r14
          simp only [Act.put, List.getElem_toArray, List.getElem_cons_zero, List.getElem_cons_succ, List.setIfInBounds_toArray, List.set_cons_zero, List.set_cons_succ]
          refine Still.takeBy (i := 5) [12] (by kernel_rfl) (by kernel_rfl) rfl (by kernel_rfl) (by kernel_rfl) (by kernel_rfl) (fun _ _ _ h => h) (Or.inr ⟨by rfl, rfl⟩) hHeld ?r15
          simp only [Act.put, List.getElem_toArray, List.getElem_cons_zero, List.getElem_cons_succ, List.setIfInBounds_toArray, List.set_cons_zero, List.set_cons_succ]
          refine Still.takeBy (i := 6) [12, 11, 10, 9, 8] (by kernel_rfl) (by kernel_rfl) rfl (by kernel_rfl) (by kernel_rfl) (by kernel_rfl) (fun _ _ _ h => h) (Or.inr ⟨by rfl, rfl⟩) hHeld ?r16
          simp only [Act.put, List.getElem_toArray, List.getElem_cons_zero, List.getElem_cons_succ, List.setIfInBounds_toArray, List.set_cons_zero, List.set_cons_succ]
          refine Still.takeBy (i := 7) [12, 11, 10, 9, 8] (by kernel_rfl) (by kernel_rfl) rfl (by kernel_rfl) (by kernel_rfl) (by kernel_rfl) (fun _ _ _ h => h) (Or.inr ⟨by rfl, rfl⟩) hHeld ?r17
          simp only [Act.put, List.getElem_toArray, List.getElem_cons_zero, List.getElem_cons_succ, List.setIfInBounds_toArray, List.set_cons_zero, List.set_cons_succ]
          refine Still.takeBy (i := 8) [12, 11, 10, 9] (by kernel_rfl) (by kernel_rfl) rfl (by kernel_rfl) (by kernel_rfl) (by kernel_rfl) (fun _ _ _ h => h) (Or.inr ⟨by rfl, rfl⟩) hHeld ?r18
          simp only [Act.put, List.getElem_toArray, List.getElem_cons_zero, List.getElem_cons_succ, List.setIfInBounds_toArray, List.set_cons_zero, List.set_cons_succ]
          refine Still.takeBy (i := 9) [12, 11, 10] (by kernel_rfl) (by kernel_rfl) rfl (by kernel_rfl) (by kernel_rfl) (by kernel_rfl) (fun _ _ _ h => h) (Or.inr ⟨by rfl, rfl⟩) hHeld ?r19
          simp only [Act.put, List.getElem_toArray, List.getElem_cons_zero, List.getElem_cons_succ, List.setIfInBounds_toArray, List.set_cons_zero, List.set_cons_succ]
          refine Still.takeBy (i := 10) [12, 11] (by kernel_rfl) (by kernel_rfl) rfl (by kernel_rfl) (by kernel_rfl) (by kernel_rfl) (fun _ _ _ h => h) (Or.inr ⟨by rfl, rfl⟩) hHeld ?r20
          simp only [Act.put, List.getElem_toArray, List.getElem_cons_zero, List.getElem_cons_succ, List.setIfInBounds_toArray, List.set_cons_zero, List.set_cons_succ]
          refine Still.takeBy (i := 11) [12] (by kernel_rfl) (by kernel_rfl) rfl (by kernel_rfl) (by kernel_rfl) (by kernel_rfl) (fun _ _ _ h => h) (Or.inr ⟨by rfl, rfl⟩) hHeld ?r21
          simp only [Act.put, List.getElem_toArray, List.getElem_cons_zero, List.getElem_cons_succ, List.setIfInBounds_toArray, List.set_cons_zero, List.set_cons_succ]
          refine Still.takeBy (i := 12) [] (by kernel_rfl) (by kernel_rfl) rfl (by kernel_rfl) (by kernel_rfl) (by kernel_rfl) (fun _ _ _ h => h) (Or.inr ⟨by rfl, rfl⟩) hHeld ?r22
          simp only [Act.put, List.getElem_toArray, List.getElem_cons_zero, List.getElem_cons_succ, List.setIfInBounds_toArray, List.set_cons_zero, List.set_cons_succ]
          refine Still.all (rs := [13]) (by kernel_rfl) (by simp) (Still.one (i := 13) rfl rfl (fun K hK => ?_) (by simp))
          go_simp
          refine hK _ _ (fun h => absurd rfl h) (fun _ => ?_)
          clear hK K
          refine Still.over (by kernel_rfl) ?_ _
          have HL2 := Lib.hid (HBW.out.trans (hHeld.mono HBW.out.size))
          clear hHeld
          go_wp2
          go_ret
          exact ⟨ret_bool (by rw [← HR.out, HNO.out]), HL2.out⟩
        · have hce : c.err out.length = 0 := by unfold Cel.err; rw [hf]; rfl
          rw [hce] at HCK
          rw [Cel.v_cs] at HCK
          clear hce
          by_cases hrd : c.read ≤ inn.length
          · have HYES := Lib.hid (show celB ps[k] ds[k] = true by rw [HD.out, HPk.out]; simp [celB, hf, hrd])
            have B1 := Lib.hid (show decide ((inn.length : Int) < c.read) = false from decide_eq_false (by omega))
            clear hf hrd
            go_wp2
            refine region_still (S := fun w' => Below W.heap.size W w') 13 (by kernel_rfl) (Below.refl _ _).drew (fun hHeld => ?_)
            refine Still.takeBy (i := 0) [3, 1] (by kernel_rfl) (by kernel_rfl) rfl (by kernel_rfl) (by kernel_rfl) (by kernel_rfl) (fun _ _ _ h => h) (yields_load rfl _ _ rfl _ (by first | rfl | simp [Act.eval, Act.put]) _ (fun w' hSw => Rw.loadAt (RW.out.up hSw RW.out.lt) Tryd.underlying54 rfl sizeCell)) hHeld ?r41
            simp only [Act.put, List.getElem_toArray, List.getElem_cons_zero, List.getElem_cons_succ, List.setIfInBounds_toArray, List.set_cons_zero, List.set_cons_succ]
            refine Still.all (rs := [1]) (by kernel_rfl) (by simp) (Still.one (i := 1) rfl rfl (fun K hK => ?_) (by simp))
            refine wp_call 59 _ _ rfl ent_cellCheck #[.agg (c.cs (.slice ao out.length oc))] (by first | rfl | simp [Act.eval, Act.put]) ((HCK.out _).mono ?_)
            rintro e V1 ⟨rfl, bb⟩
            refine ⟨_, rfl, hK _ _ (fun _ => hHeld.trans (bb.mono hHeld.size)) (fun hh => ?_)⟩
            have hHeld := hh (by decide)
            clear hK K hh
            try simp only [Act.put, List.getElem_toArray, List.getElem_cons_zero, List.getElem_cons_succ, List.setIfInBounds_toArray, List.set_cons_zero, List.set_cons_succ]
            clear bb
            refine Still.takeBy (i := 2) [3] (v := ?v42) (by kernel_rfl) (by kernel_rfl) rfl (by kernel_rfl) (by kernel_rfl) (by kernel_rfl) (fun _ _ _ h => h) (Or.inl ⟨by rfl, ?y42⟩) hHeld ?r42
            case y42 => (intro w' hSw; (try dsimp only at hSw); go_simp; try with_reducible rfl)
            simp only [Act.put, List.getElem_toArray, List.getElem_cons_zero, List.getElem_cons_succ, List.setIfInBounds_toArray, List.set_cons_zero, List.set_cons_succ]
            refine Still.takeBy (i := 3) [] (v := ?v43) (by kernel_rfl) (by kernel_rfl) rfl (by kernel_rfl) (by kernel_rfl) (by kernel_rfl) (fun _ _ _ h => h) (Or.inl ⟨by rfl, ?y43⟩) hHeld ?r43
            case y43 => (intro w' hSw; (try dsimp only at hSw); go_simp; try with_reducible rfl)
            simp only [Act.put, List.getElem_toArray, List.getElem_cons_zero, List.getElem_cons_succ, List.setIfInBounds_toArray, List.set_cons_zero, List.set_cons_succ]
            refine Still.takeBy (i := 4) [12, 5] (v := ?v44) (by kernel_rfl) (by kernel_rfl) rfl (by kernel_rfl) (by kernel_rfl) (by kernel_rfl) (fun _ _ _ h => h) (Or.inl ⟨by rfl, ?y44⟩) hHeld ?r44
            case y44 => (intro w' hSw; (try dsimp only at hSw); have q1 := (RW.out.up hSw RW.out.lt).cell (j := 13) (v := .int .i64 c.read) rfl; have q2 := bcl hSw hpbW PW.out; clear hSw; go_simp; (try simp only [B1.out]); try with_reducible rfl)
            simp only [Act.put, List.getElem_toArray, List.getElem_cons_zero, List.getElem_cons_succ, List.setIfInBounds_toArray, List.set_cons_zero, List.set_cons_succ]
            refine Still.takeBy (i := 5) [12] (v := ?v45) (by kernel_rfl) (by kernel_rfl) rfl (by kernel_rfl) (by kernel_rfl) (by kernel_rfl) (fun _ _ _ h => h) (Or.inl ⟨by rfl, ?y45⟩) hHeld ?r45
            case y45 => (intro w' hSw; (try dsimp only at hSw); have q1 := (RW.out.up hSw RW.out.lt).cell (j := 13) (v := .int .i64 c.read) rfl; have q2 := bcl hSw hpbW PW.out; clear hSw; go_simp; (try simp only [B1.out]); try with_reducible rfl)
            simp only [Act.put, List.getElem_toArray, List.getElem_cons_zero, List.getElem_cons_succ, List.setIfInBounds_toArray, List.set_cons_zero, List.set_cons_succ]
            refine Still.takeBy (i := 6) [12, 11, 10, 9, 8] (v := ?v46) (by kernel_rfl) (by kernel_rfl) rfl (by kernel_rfl) (by kernel_rfl) (by kernel_rfl) (fun _ _ _ h => h) (Or.inl ⟨by rfl, ?y46⟩) hHeld ?r46
            case y46 => (intro w' hSw; (try dsimp only at hSw); have q1 := (RW.out.up hSw RW.out.lt).cell (j := 13) (v := .int .i64 c.read) rfl; have q2 := bcl hSw hpbW PW.out; clear hSw; go_simp; (try simp only [B1.out]); try with_reducible rfl)
            simp only [Act.put, List.getElem_toArray, List.getElem_cons_zero, List.getElem_cons_succ, List.setIfInBounds_toArray, List.set_cons_zero, List.set_cons_succ]
            refine Still.takeBy (i := 7) [12, 11, 10, 9, 8] (v := ?v47) (by kernel_rfl) (by kernel_rfl) rfl (by kernel_rfl) (by kernel_rfl) (by kernel_rfl) (fun _ _ _ h => h) (Or.inl ⟨by rfl, ?y47⟩) hHeld ?r47
            case y47 => (intro w' hSw; (try dsimp only at hSw); have q1 := (RW.out.up hSw RW.out.lt).cell (j := 13) (v := .int .i64 c.read) rfl; have q2 := bcl hSw hpbW PW.out; clear hSw; go_simp; (try simp only [B1.out]); try with_reducible rfl)
            simp only [Act.put, List.getElem_toArray, List.getElem_cons_zero, List.getElem_cons_succ, List.setIfInBounds_toArray, List.set_cons_zero, List.set_cons_succ]
            refine Still.takeBy (i := 8) [12, 11, 10, 9] (v := ?v48) (by kernel_rfl) (by kernel_rfl) rfl (by kernel_rfl) (by kernel_rfl) (by kernel_rfl) (fun _ _ _ h => h) (Or.inl ⟨by rfl, ?y48⟩) hHeld ?r48
            case y48 => (intro w' hSw; (try dsimp only at hSw); have q1 := (RW.out.up hSw RW.out.lt).cell (j := 13) (v := .int .i64 c.read) rfl; have q2 := bcl hSw hpbW PW.out; clear hSw; go_simp; (try simp only [B1.out]); try with_reducible rfl)
            simp only [Act.put, List.getElem_toArray, List.getElem_cons_zero, List.getElem_cons_succ, List.setIfInBounds_toArray, List.set_cons_zero, List.set_cons_succ]
            refine Still.takeBy (i := 9) [12, 11, 10] (v := ?v49) (by kernel_rfl) (by kernel_rfl) rfl (by kernel_rfl) (by kernel_rfl) (by kernel_rfl) (fun _ _ _ h => h) (Or.inl ⟨by rfl, ?y49⟩) hHeld ?r49
            case y49 => (intro w' hSw; (try dsimp only at hSw); have q1 := (RW.out.up hSw RW.out.lt).cell (j := 13) (v := .int .i64 c.read) rfl; have q2 := bcl hSw hpbW PW.out; clear hSw; go_simp; (try simp only [B1.out]); try with_reducible rfl)
            simp only [Act.put, List.getElem_toArray, List.getElem_cons_zero, List.getElem_cons_succ, List.setIfInBounds_toArray, List.set_cons_zero, List.set_cons_succ]
            refine Still.takeBy (i := 10) [12, 11] (v := ?v50) (by kernel_rfl) (by kernel_rfl) rfl (by kernel_rfl) (by kernel_rfl) (by kernel_rfl) (fun _ _ _ h => h) (Or.inl ⟨by rfl, ?y50⟩) hHeld ?r50
            case y50 => (intro w' hSw; (try dsimp only at hSw); have q1 := (RW.out.up hSw RW.out.lt).cell (j := 13) (v := .int .i64 c.read) rfl; have q2 := bcl hSw hpbW PW.out; clear hSw; go_simp; (try simp only [B1.out]); try with_reducible rfl)
            simp only [Act.put, List.getElem_toArray, List.getElem_cons_zero, List.getElem_cons_succ, List.setIfInBounds_toArray, List.set_cons_zero, List.set_cons_succ]
            refine Still.takeBy (i := 11) [12] (v := ?v51) (by kernel_rfl) (by kernel_rfl) rfl (by kernel_rfl) (by kernel_rfl) (by kernel_rfl) (fun _ _ _ h => h) (Or.inl ⟨by rfl, ?y51⟩) hHeld ?r51
            case y51 => (intro w' hSw; (try dsimp only at hSw); have q1 := (RW.out.up hSw RW.out.lt).cell (j := 13) (v := .int .i64 c.read) rfl; have q2 := bcl hSw hpbW PW.out; clear hSw; go_simp; (try simp only [B1.out]); try with_reducible rfl)
            simp only [Act.put, List.getElem_toArray, List.getElem_cons_zero, List.getElem_cons_succ, List.setIfInBounds_toArray, List.set_cons_zero, List.set_cons_succ]
            refine Still.takeBy (i := 12) [] (v := ?v52) (by kernel_rfl) (by kernel_rfl) rfl (by kernel_rfl) (by kernel_rfl) (by kernel_rfl) (fun _ _ _ h => h) (Or.inl ⟨by rfl, ?y52⟩) hHeld ?r52
            case y52 => (intro w' hSw; (try dsimp only at hSw); have q1 := (RW.out.up hSw RW.out.lt).cell (j := 13) (v := .int .i64 c.read) rfl; have q2 := bcl hSw hpbW PW.out; clear hSw; go_simp; (try simp only [B1.out]); try with_reducible rfl)
            simp only [Act.put, List.getElem_toArray, List.getElem_cons_zero, List.getElem_cons_succ, List.setIfInBounds_toArray, List.set_cons_zero, List.set_cons_succ]
            refine Still.all (rs := [13]) (by kernel_rfl) (by simp) (Still.one (i := 13) rfl rfl (fun K hK => ?_) (by simp))
            go_simp
            refine hK _ _ (fun h => absurd rfl h) (fun _ => ?_)
            clear hK K
            refine Still.over (by kernel_rfl) ?_ _
            have HL2 := Lib.hid (HBW.out.trans (hHeld.mono HBW.out.size))
            clear hHeld
            go_wp2
            go_roundw
            case rel => exact ⟨k + 1, by go_num, by omega, Lib.hid (fun j h h' hj => by
              rcases Nat.lt_or_ge j k with h1 | h1
              · exact HZ.out j h h' h1
              · obtain rfl : j = k := by omega
                exact HYES.out), HL2⟩
            case measure => simp [intOf]; omega
          · have HNO := Lib.hid (show cellsB ps ds = false from cellsB_no k hlp hlt (by rw [HD.out, HPk.out]; simp [celB]; intro; omega))
            have B1 := Lib.hid (show decide ((inn.length : Int) < c.read) = true from decide_eq_true (by omega))
            clear hf hrd
            go_wp2
            refine region_still (S := fun w' => Below W.heap.size W w') 13 (by kernel_rfl) (Below.refl _ _).drew (fun hHeld => ?_)
            refine Still.takeBy (i := 0) [3, 1] (by kernel_rfl) (by kernel_rfl) rfl (by kernel_rfl) (by kernel_rfl) (by kernel_rfl) (fun _ _ _ h => h) (yields_load rfl _ _ rfl _ (by first | rfl | simp [Act.eval, Act.put]) _ (fun w' hSw => Rw.loadAt (RW.out.up hSw RW.out.lt) Tryd.underlying54 rfl sizeCell)) hHeld ?r71
            simp only [Act.put, List.getElem_toArray, List.getElem_cons_zero, List.getElem_cons_succ, List.setIfInBounds_toArray, List.set_cons_zero, List.set_cons_succ]
            refine Still.all (rs := [1]) (by kernel_rfl) (by simp) (Still.one (i := 1) rfl rfl (fun K hK => ?_) (by simp))
            refine wp_call 59 _ _ rfl ent_cellCheck #[.agg (c.cs (.slice ao out.length oc))] (by first | rfl | simp [Act.eval, Act.put]) ((HCK.out _).mono ?_)
            rintro e V1 ⟨rfl, bb⟩
            refine ⟨_, rfl, hK _ _ (fun _ => hHeld.trans (bb.mono hHeld.size)) (fun hh => ?_)⟩
            have hHeld := hh (by decide)
            clear hK K hh
            try simp only [Act.put, List.getElem_toArray, List.getElem_cons_zero, List.getElem_cons_succ, List.setIfInBounds_toArray, List.set_cons_zero, List.set_cons_succ]
            clear bb
            refine Still.takeBy (i := 2) [3] (v := ?v72) (by kernel_rfl) (by kernel_rfl) rfl (by kernel_rfl) (by kernel_rfl) (by kernel_rfl) (fun _ _ _ h => h) (Or.inl ⟨by rfl, ?y72⟩) hHeld ?r72
            case y72 => (intro w' hSw; (try dsimp only at hSw); go_simp; try with_reducible rfl)
            simp only [Act.put, List.getElem_toArray, List.getElem_cons_zero, List.getElem_cons_succ, List.setIfInBounds_toArray, List.set_cons_zero, List.set_cons_succ]
            refine Still.takeBy (i := 3) [] (v := ?v73) (by kernel_rfl) (by kernel_rfl) rfl (by kernel_rfl) (by kernel_rfl) (by kernel_rfl) (fun _ _ _ h => h) (Or.inl ⟨by rfl, ?y73⟩) hHeld ?r73
            case y73 => (intro w' hSw; (try dsimp only at hSw); go_simp; try with_reducible rfl)
            simp only [Act.put, List.getElem_toArray, List.getElem_cons_zero, List.getElem_cons_succ, List.setIfInBounds_toArray, List.set_cons_zero, List.set_cons_succ]
            refine Still.takeBy (i := 4) [12, 5] (v := ?v74) (by kernel_rfl) (by kernel_rfl) rfl (by kernel_rfl) (by kernel_rfl) (by kernel_rfl) (fun _ _ _ h => h) (Or.inl ⟨by rfl, ?y74⟩) hHeld ?r74
            case y74 => (intro w' hSw; (try dsimp only at hSw); have q1 := (RW.out.up hSw RW.out.lt).cell (j := 13) (v := .int .i64 c.read) rfl; have q2 := bcl hSw hpbW PW.out; clear hSw; go_simp; (try simp only [B1.out]); try with_reducible rfl)
            simp only [Act.put, List.getElem_toArray, List.getElem_cons_zero, List.getElem_cons_succ, List.setIfInBounds_toArray, List.set_cons_zero, List.set_cons_succ]
            refine Still.takeBy (i := 5) [12] (v := ?v75) (by kernel_rfl) (by kernel_rfl) rfl (by kernel_rfl) (by kernel_rfl) (by kernel_rfl) (fun _ _ _ h => h) (Or.inl ⟨by rfl, ?y75⟩) hHeld ?r75
            case y75 => (intro w' hSw; (try dsimp only at hSw); have q1 := (RW.out.up hSw RW.out.lt).cell (j := 13) (v := .int .i64 c.read) rfl; have q2 := bcl hSw hpbW PW.out; clear hSw; go_simp; (try simp only [B1.out]); try with_reducible rfl)
            simp only [Act.put, List.getElem_toArray, List.getElem_cons_zero, List.getElem_cons_succ, List.setIfInBounds_toArray, List.set_cons_zero, List.set_cons_succ]
            refine Still.takeBy (i := 6) [12, 11, 10, 9, 8] (v := ?v76) (by kernel_rfl) (by kernel_rfl) rfl (by kernel_rfl) (by kernel_rfl) (by kernel_rfl) (fun _ _ _ h => h) (Or.inl ⟨by rfl, ?y76⟩) hHeld ?r76
            case y76 => (intro w' hSw; (try dsimp only at hSw); have q1 := (RW.out.up hSw RW.out.lt).cell (j := 13) (v := .int .i64 c.read) rfl; have q2 := bcl hSw hpbW PW.out; clear hSw; go_simp; (try simp only [B1.out]); try with_reducible rfl)
            simp only [Act.put, List.getElem_toArray, List.getElem_cons_zero, List.getElem_cons_succ, List.setIfInBounds_toArray, List.set_cons_zero, List.set_cons_succ]
            refine Still.takeBy (i := 7) [12, 11, 10, 9, 8] (v := ?v77) (by kernel_rfl) (by kernel_rfl) rfl (by kernel_rfl) (by kernel_rfl) (by kernel_rfl) (fun _ _ _ h => h) (Or.inl ⟨by rfl, ?y77⟩) hHeld ?r77
            case y77 => (intro w' hSw; (try dsimp only at hSw); have q1 := (RW.out.up hSw RW.out.lt).cell (j := 13) (v := .int .i64 c.read) rfl; have q2 := bcl hSw hpbW PW.out; clear hSw; go_simp; (try simp only [B1.out]); try with_reducible rfl)
            simp only [Act.put, List.getElem_toArray, List.getElem_cons_zero, List.getElem_cons_succ, List.setIfInBounds_toArray, List.set_cons_zero, List.set_cons_succ]
            refine Still.takeBy (i := 8) [12, 11, 10, 9] (v := ?v78) (by kernel_rfl) (by kernel_rfl) rfl (by kernel_rfl) (by kernel_rfl) (by kernel_rfl) (fun _ _ _ h => h) (Or.inl ⟨by rfl, ?y78⟩) hHeld ?r78
            case y78 => (intro w' hSw; (try dsimp only at hSw); have q1 := (RW.out.up hSw RW.out.lt).cell (j := 13) (v := .int .i64 c.read) rfl; have q2 := bcl hSw hpbW PW.out; clear hSw; go_simp; (try simp only [B1.out]); try with_reducible rfl)
            simp only [Act.put, List.getElem_toArray, List.getElem_cons_zero, List.getElem_cons_succ, List.setIfInBounds_toArray, List.set_cons_zero, List.set_cons_succ]
            refine Still.takeBy (i := 9) [12, 11, 10] (v := ?v79) (by kernel_rfl) (by kernel_rfl) rfl (by kernel_rfl) (by kernel_rfl) (by kernel_rfl) (fun _ _ _ h => h) (Or.inl ⟨by rfl, ?y79⟩) hHeld ?r79
            case y79 => (intro w' hSw; (try dsimp only at hSw); have q1 := (RW.out.up hSw RW.out.lt).cell (j := 13) (v := .int .i64 c.read) rfl; have q2 := bcl hSw hpbW PW.out; clear hSw; go_simp; (try simp only [B1.out]); try with_reducible rfl)
            simp only [Act.put, List.getElem_toArray, List.getElem_cons_zero, List.getElem_cons_succ, List.setIfInBounds_toArray, List.set_cons_zero, List.set_cons_succ]
            refine Still.takeBy (i := 10) [12, 11] (v := ?v80) (by kernel_rfl) (by kernel_rfl) rfl (by kernel_rfl) (by kernel_rfl) (by kernel_rfl) (fun _ _ _ h => h) (Or.inl ⟨by rfl, ?y80⟩) hHeld ?r80
            case y80 => (intro w' hSw; (try dsimp only at hSw); have q1 := (RW.out.up hSw RW.out.lt).cell (j := 13) (v := .int .i64 c.read) rfl; have q2 := bcl hSw hpbW PW.out; clear hSw; go_simp; (try simp only [B1.out]); try with_reducible rfl)
            simp only [Act.put, List.getElem_toArray, List.getElem_cons_zero, List.getElem_cons_succ, List.setIfInBounds_toArray, List.set_cons_zero, List.set_cons_succ]
            refine Still.takeBy (i := 11) [12] (v := ?v81) (by kernel_rfl) (by kernel_rfl) rfl (by kernel_rfl) (by kernel_rfl) (by kernel_rfl) (fun _ _ _ h => h) (Or.inl ⟨by rfl, ?y81⟩) hHeld ?r81
            case y81 => (intro w' hSw; (try dsimp only at hSw); have q1 := (RW.out.up hSw RW.out.lt).cell (j := 13) (v := .int .i64 c.read) rfl; have q2 := bcl hSw hpbW PW.out; clear hSw; go_simp; (try simp only [B1.out]); try with_reducible rfl)
            simp only [Act.put, List.getElem_toArray, List.getElem_cons_zero, List.getElem_cons_succ, List.setIfInBounds_toArray, List.set_cons_zero, List.set_cons_succ]
            refine Still.takeBy (i := 12) [] (v := ?v82) (by kernel_rfl) (by kernel_rfl) rfl (by kernel_rfl) (by kernel_rfl) (by kernel_rfl) (fun _ _ _ h => h) (Or.inl ⟨by rfl, ?y82⟩) hHeld ?r82
            case y82 => (intro w' hSw; (try dsimp only at hSw); have q1 := (RW.out.up hSw RW.out.lt).cell (j := 13) (v := .int .i64 c.read) rfl; have q2 := bcl hSw hpbW PW.out; clear hSw; go_simp; (try simp only [B1.out]); try with_reducible rfl)
            simp only [Act.put, List.getElem_toArray, List.getElem_cons_zero, List.getElem_cons_succ, List.setIfInBounds_toArray, List.set_cons_zero, List.set_cons_succ]
            refine Still.all (rs := [13]) (by kernel_rfl) (by simp) (Still.one (i := 13) rfl rfl (fun K hK => ?_) (by simp))
            go_simp
            refine hK _ _ (fun h => absurd rfl h) (fun _ => ?_)
            clear hK K
            refine Still.over (by kernel_rfl) ?_ _
            have HL2 := Lib.hid (HBW.out.trans (hHeld.mono HBW.out.size))
            clear hHeld
            go_wp2
            go_ret
            exact ⟨ret_bool (by rw [← HR.out, HNO.out]), HL2.out⟩
      · have hli : ¬ (k : Int) < ds.length := by omega
        have HYES := Lib.hid (show cellsB ps ds = true from cellsB_yes HL.out (fun j h h' => HZ.out j h h' (by omega)))
        go_wp2
        go_ret
        exact ⟨ret_bool (by rw [← HR.out, HYES.out]), HB.out⟩
  · have he' : ((ds.length : Int) != ps.length) = true := by simp; omega
    have HNO : Hid (cellsB ps ds = false) := by
      show _ = _
      cases e : cellsB ps ds with
      | false => rfl
      | true => exact absurd (cellsB_len e) he
    clear he
    go_enter Tryd.func32, Tryd.ntmps32
    go_wp2
    go_ret
    exact ⟨ret_bool (by rw [← HR.out, HNO.out]), Below.refl _ _⟩
end Go.Proofs.YtjhjaafoikadgaaDoor
