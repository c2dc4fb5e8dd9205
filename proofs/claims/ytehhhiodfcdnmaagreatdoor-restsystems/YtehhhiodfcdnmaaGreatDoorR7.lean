/- kern: the small tests of a world. -/
import Derived.Test.YtehhhiodfcdnmaaGreatDoorR6
import Derived.Test.YtehhhiodfcdnmaaGreatDoorR2
import Derived.Test.YtehhhiodfcdnmaaGreatDoorR3
namespace Go.Proofs.YtehhhiodfcdnmaaGreatDoor
set_option linter.unusedSimpArgs false
set_option linter.unusedVariables false
set_option maxRecDepth 100000
set_option maxHeartbeats 8000000
open Go.RowKit Go.Sort
theorem range_up {B : Nat} {w w' : World} {b o : Nat} {cs : List Value} (h : w.rangeAt b o cs) (hb : Below B w w') (hlt : b < B) : w'.rangeAt b o cs := fun j v hj => bcl hb hlt (h j v hj)
theorem wpList_load_midA {P : Program} {ops : Array Oper} {rest : List Oper} {op : Oper} {a : Act} {w : World} {Q : Exit → Act → World → Prop} (hgd : op.guard = none) (ty : TypeId) (x : Operand) (ho : op.op = .load ty x)
  (b o : Nat) (hx : a.eval x = .pointer (some ⟨b, o, none⟩)) (cs : Array Value) (d : TypeDesc) (hc : w.rangeAt b o cs.toList)
  (hu : P.underlying ty = some d) (hd : d.isRow = true) (hi : (P.info? ty).map (·.size) = some cs.size)
  (h : wpList P ops Q rest (a.put op.dst (.agg cs)) w) : wpList P ops Q (op :: rest) a w :=
 wpList_load_mid hgd ty x ho b o hx cs.toList d hc hu hd (by simpa using hi) (by simpa using h)
theorem ent_cellCheck : Enters 115 := enters Tryz.func115 kr kr
theorem isRun_any (n : Int) (w : World) : Calls Tryz.prog 73 #[.int .i64 n] w fun e w' => e = .returned (.bool (withinB n 0 300)) ∧ w' = w := by
 by_cases h : 0 ≤ n
 all_goals
  go_enter Tryz.func73, Tryz.ntmps73
  go_wp2
  go_ret
  exact ⟨ret_bool (by simp [withinB]; try omega), rfl⟩
theorem rightCells_any (ps : List Prt) (ds : List CelD) (v u : Value) (hl : ps.length ≤ 4) (w : World) (hP : PartsR w v ps) (hC : CellsR w u ds) (r : Bool) (hr : cellsB ps ds = r) :
  Calls Tryz.prog 74 #[v, u] w fun e w' => e = .returned (.bool r) ∧ Below w.heap.size w w' := by
 obtain ⟨pa, pc, rfl⟩ := hP.form
 obtain ⟨ca, cc, rfl⟩ := hC.form
 have HP := Lib.hid hP
 have HC := Lib.hid hC
 have HR := Lib.hid hr
 clear hP hC hr
 by_cases he : ds.length = ps.length
 ·have he' : ((ds.length : Int) != ps.length) = false := by simp; omega
  have HL := Lib.hid he
  clear he
  go_enter Tryz.func74, Tryz.ntmps74
  go_wp2
  go_loopw [14] (fun i wr => ∃ k : Nat, i = .int .i64 k ∧ k ≤ ds.length ∧ Hid (∀ j (h : j < ps.length) (h' : j < ds.length), j < k → celB ps[j] ds[j] = true) ∧ Hid (Below w.heap.size w wr)) (fun i _ => ds.length - (intOf i).toNat)
  case atStart => exact ⟨0, rfl, Nat.zero_le _, Lib.hid (fun j h h' h0 => by omega), Lib.hid (Below.refl _ _)⟩
  case round =>
   obtain ⟨k, rfl, hk, HZ, HB⟩ := hrel
   by_cases hlt : k < ds.length
   ·have hli : (k : Int) < ds.length := by omega
    have hlp : k < ps.length := by have := HL.out; omega
    have hlip : (k : Int) < ps.length := by omega
    obtain ⟨b, off, cap, e1, hcap, hbw, hc⟩ := HC.out.open om
    cases e1
    obtain ⟨ao, oc, hra, hso⟩ := hc k hlt
    obtain ⟨pb, po, pcap, e2, hpcap, hpbw, hpc⟩ := HP.out.open om
    cases e2
    obtain ⟨cv, iv, hcv, hiv, hpr⟩ := hpc k hlp
    obtain ⟨ia, ic, rfl⟩ := hpr.inn.form
    have RA := Lib.hid (range_up hra HB.out hbw)
    have PC := Lib.hid (bcl HB.out hpbw hiv)
    have hws := HB.out.size
    have hsz : ps[k].inn.length ≤ ic := by
     obtain ⟨_, _, _, e, h, _⟩ := hpr.inn
     injection e with _ _ e2
     omega
    generalize hd : ds[k] = d at RA
    obtain ⟨c, out⟩ := d
    generalize hp : ps[k] = p at PC
    obtain ⟨code, inn⟩ := p
    have HD := Lib.hid hd
    have HPk := Lib.hid hp
    simp only at RA PC
    clear hra hso hc hpc hcv hiv hpr hd hp hsz
    go_wp2_with (first | (refine wpList_load_midA rfl 35 (.tmp 17) rfl b (off + k * 16) rfl (c.cs (.slice ao out.length oc)) _ RA.out Tryz.underlying35 rfl sizeCell ?_) | (refine wpList_store_rowW rfl 35 (.tmp 6) (.tmp 18) rfl wr.heap.size (c.cs (.slice ao out.length oc)) rfl rfl 35 (celZ.cs (.slice none 0 0)) rn0 sizeCell rfl (Cel.cs_one _ _ rfl) ?_))
    intro W HW
    have RW : Hid (Rw W wr.heap.size 35 (c.cs (.slice ao out.length oc))) := by
     show Rw _ _ _ _
     rw [HW.out]
     exact Rw.row (cs := celZ.cs (.slice none 0 0)) rn0 _
    have hzW : W.heap.size = wr.heap.size + 1 := by rw [HW.out]; simp
    have b0 : Below wr.heap.size wr W := by
     rw [HW.out]
     exact below_row ((Below.refl _ _).alloc (Nat.le_refl _) _) (Nat.le_refl _) _
    have PW := Lib.hid (bcl b0 om PC.out)
    have HBW := Lib.hid (HB.out.trans (b0.mono om))
    have hpbW : pb < W.heap.size := by omega
    clear HW RA PC HB b0
    have HCK := Lib.hid fun V => cellCheck_any c ao out.length oc V
    cases hf : c.fine out.length
    ·have hce : c.err out.length = 1 := by unfold Cel.err; rw [hf]; rfl
     have HNO := Lib.hid (show cellsB ps ds = false from cellsB_no k hlp hlt (by rw [HD.out]; simp [celB, hf]))
     rw [hce] at HCK
     rw [Cel.v_cs] at HCK
     clear hf hce
     go_wp2
     refine region_still (S := fun w' => Below W.heap.size W w') 13 kr (Below.refl _ _).drew (fun hHeld => ?_)
     refine Still.y 0 [3, 1] rfl (yields_load rfl _ _ rfl _ ev _ (fun w' hSw => Rw.loadAt (RW.out.up hSw RW.out.lt) Tryz.underlying35 rfl sizeCell)) hHeld ?_
     refine Still.o 1 rfl rfl (fun K hK => ?_)
     refine wp_call 115 _ _ rfl ent_cellCheck #[.agg (c.cs (.slice ao out.length oc))] ev ((HCK.out _).mono ?_)
     rintro e V1 ⟨rfl, bb⟩
     refine ⟨_, rfl, hK _ _ (fun _ => hHeld.trans (bb.mono hHeld.size)) (fun hh => ?_)⟩
     have hHeld := hh (by decide)
     clear hK K hh
     try simp only [Act.put, l1, l2, l3, l4, l5, l6]
     clear bb
     refine Still.t 2 [3] hHeld ?_
     refine Still.t 3 [] hHeld ?_
     refine Still.y 4 [12, 5] rfl (Or.inr ⟨by rfl, rfl⟩) hHeld ?_
     refine Still.y 5 [12] rfl (Or.inr ⟨by rfl, rfl⟩) hHeld ?_
     refine Still.y 6 [12, 11, 10, 9, 8] rfl (Or.inr ⟨by rfl, rfl⟩) hHeld ?_
     refine Still.y 7 [12, 11, 10, 9, 8] rfl (Or.inr ⟨by rfl, rfl⟩) hHeld ?_
     refine Still.y 8 [12, 11, 10, 9] rfl (Or.inr ⟨by rfl, rfl⟩) hHeld ?_
     refine Still.y 9 [12, 11, 10] rfl (Or.inr ⟨by rfl, rfl⟩) hHeld ?_
     refine Still.y 10 [12, 11] rfl (Or.inr ⟨by rfl, rfl⟩) hHeld ?_
     refine Still.y 11 [12] rfl (Or.inr ⟨by rfl, rfl⟩) hHeld ?_
     refine Still.y 12 [] rfl (Or.inr ⟨by rfl, rfl⟩) hHeld ?_
     refine Still.o 13 rfl rfl (fun K hK => ?_)
     go_simp
     refine hK _ _ ab (fun _ => Still.vv ?_)
     clear hK K
     have HL2 := Lib.hid (HBW.out.trans (hHeld.mono HBW.out.size))
     clear hHeld
     go_wp2
     go_ret
     exact ⟨ret_bool (by rw [← HR.out, HNO.out]), HL2.out⟩
    ·have hce : c.err out.length = 0 := by unfold Cel.err; rw [hf]; rfl
     rw [hce] at HCK
     rw [Cel.v_cs] at HCK
     clear hce
     by_cases hrd : c.read ≤ inn.length
     ·have HYES := Lib.hid (show celB ps[k] ds[k] = true by rw [HD.out, HPk.out]; simp [celB, hf, hrd])
      have B1 := Lib.hid (show decide ((inn.length : Int) < c.read) = false from decide_eq_false om)
      clear hf hrd
      go_wp2
      refine region_still (S := fun w' => Below W.heap.size W w') 13 kr (Below.refl _ _).drew (fun hHeld => ?_)
      refine Still.y 0 [3, 1] rfl (yields_load rfl _ _ rfl _ ev _ (fun w' hSw => Rw.loadAt (RW.out.up hSw RW.out.lt) Tryz.underlying35 rfl sizeCell)) hHeld ?_
      refine Still.o 1 rfl rfl (fun K hK => ?_)
      refine wp_call 115 _ _ rfl ent_cellCheck #[.agg (c.cs (.slice ao out.length oc))] ev ((HCK.out _).mono ?_)
      rintro e V1 ⟨rfl, bb⟩
      refine ⟨_, rfl, hK _ _ (fun _ => hHeld.trans (bb.mono hHeld.size)) (fun hh => ?_)⟩
      have hHeld := hh (by decide)
      clear hK K hh
      try simp only [Act.put, l1, l2, l3, l4, l5, l6]
      clear bb
      refine Still.t 2 [3] hHeld ?_
      refine Still.t 3 [] hHeld ?_
      refine Still.t 4 [12, 5] hHeld ?_ (hy := by (intro w' hSw; (try dsimp only at hSw); have q1 := (RW.out.up hSw RW.out.lt).cell (j := 13) (v := .int .i64 c.read) rfl; have q2 := bcl hSw hpbW PW.out; clear hSw; go_simp; (try simp only [B1.out]); try with_reducible rfl))
      refine Still.t 5 [12] hHeld ?_ (hy := by (intro w' hSw; (try dsimp only at hSw); have q1 := (RW.out.up hSw RW.out.lt).cell (j := 13) (v := .int .i64 c.read) rfl; have q2 := bcl hSw hpbW PW.out; clear hSw; go_simp; (try simp only [B1.out]); try with_reducible rfl))
      refine Still.t 6 [12, 11, 10, 9, 8] hHeld ?_ (hy := by (intro w' hSw; (try dsimp only at hSw); have q1 := (RW.out.up hSw RW.out.lt).cell (j := 13) (v := .int .i64 c.read) rfl; have q2 := bcl hSw hpbW PW.out; clear hSw; go_simp; (try simp only [B1.out]); try with_reducible rfl))
      refine Still.t 7 [12, 11, 10, 9, 8] hHeld ?_ (hy := by (intro w' hSw; (try dsimp only at hSw); have q1 := (RW.out.up hSw RW.out.lt).cell (j := 13) (v := .int .i64 c.read) rfl; have q2 := bcl hSw hpbW PW.out; clear hSw; go_simp; (try simp only [B1.out]); try with_reducible rfl))
      refine Still.t 8 [12, 11, 10, 9] hHeld ?_ (hy := by (intro w' hSw; (try dsimp only at hSw); have q1 := (RW.out.up hSw RW.out.lt).cell (j := 13) (v := .int .i64 c.read) rfl; have q2 := bcl hSw hpbW PW.out; clear hSw; go_simp; (try simp only [B1.out]); try with_reducible rfl))
      refine Still.t 9 [12, 11, 10] hHeld ?_ (hy := by (intro w' hSw; (try dsimp only at hSw); have q1 := (RW.out.up hSw RW.out.lt).cell (j := 13) (v := .int .i64 c.read) rfl; have q2 := bcl hSw hpbW PW.out; clear hSw; go_simp; (try simp only [B1.out]); try with_reducible rfl))
      refine Still.t 10 [12, 11] hHeld ?_ (hy := by (intro w' hSw; (try dsimp only at hSw); have q1 := (RW.out.up hSw RW.out.lt).cell (j := 13) (v := .int .i64 c.read) rfl; have q2 := bcl hSw hpbW PW.out; clear hSw; go_simp; (try simp only [B1.out]); try with_reducible rfl))
      refine Still.t 11 [12] hHeld ?_ (hy := by (intro w' hSw; (try dsimp only at hSw); have q1 := (RW.out.up hSw RW.out.lt).cell (j := 13) (v := .int .i64 c.read) rfl; have q2 := bcl hSw hpbW PW.out; clear hSw; go_simp; (try simp only [B1.out]); try with_reducible rfl))
      refine Still.t 12 [] hHeld ?_ (hy := by (intro w' hSw; (try dsimp only at hSw); have q1 := (RW.out.up hSw RW.out.lt).cell (j := 13) (v := .int .i64 c.read) rfl; have q2 := bcl hSw hpbW PW.out; clear hSw; go_simp; (try simp only [B1.out]); try with_reducible rfl))
      refine Still.o 13 rfl rfl (fun K hK => ?_)
      go_simp
      refine hK _ _ ab (fun _ => Still.vv ?_)
      clear hK K
      have HL2 := Lib.hid (HBW.out.trans (hHeld.mono HBW.out.size))
      clear hHeld
      go_wp2
      go_roundw
      case rel => exact ⟨k + 1, by go_num, by omega, Lib.hid (fun j h h' hj => by
       rcases Nat.lt_or_ge j k with h1 | h1
       ·exact HZ.out j h h' h1
       ·obtain rfl : j = k := by omega
        exact HYES.out), HL2⟩
      case measure => simp [intOf]; omega
     ·have HNO := Lib.hid (show cellsB ps ds = false from cellsB_no k hlp hlt (by rw [HD.out, HPk.out]; simp [celB]; intro; omega))
      have B1 := Lib.hid (show decide ((inn.length : Int) < c.read) = true from decide_eq_true om)
      clear hf hrd
      go_wp2
      refine region_still (S := fun w' => Below W.heap.size W w') 13 kr (Below.refl _ _).drew (fun hHeld => ?_)
      refine Still.y 0 [3, 1] rfl (yields_load rfl _ _ rfl _ ev _ (fun w' hSw => Rw.loadAt (RW.out.up hSw RW.out.lt) Tryz.underlying35 rfl sizeCell)) hHeld ?_
      refine Still.o 1 rfl rfl (fun K hK => ?_)
      refine wp_call 115 _ _ rfl ent_cellCheck #[.agg (c.cs (.slice ao out.length oc))] ev ((HCK.out _).mono ?_)
      rintro e V1 ⟨rfl, bb⟩
      refine ⟨_, rfl, hK _ _ (fun _ => hHeld.trans (bb.mono hHeld.size)) (fun hh => ?_)⟩
      have hHeld := hh (by decide)
      clear hK K hh
      try simp only [Act.put, l1, l2, l3, l4, l5, l6]
      clear bb
      refine Still.t 2 [3] hHeld ?_
      refine Still.t 3 [] hHeld ?_
      refine Still.t 4 [12, 5] hHeld ?_ (hy := by (intro w' hSw; (try dsimp only at hSw); have q1 := (RW.out.up hSw RW.out.lt).cell (j := 13) (v := .int .i64 c.read) rfl; have q2 := bcl hSw hpbW PW.out; clear hSw; go_simp; (try simp only [B1.out]); try with_reducible rfl))
      refine Still.t 5 [12] hHeld ?_ (hy := by (intro w' hSw; (try dsimp only at hSw); have q1 := (RW.out.up hSw RW.out.lt).cell (j := 13) (v := .int .i64 c.read) rfl; have q2 := bcl hSw hpbW PW.out; clear hSw; go_simp; (try simp only [B1.out]); try with_reducible rfl))
      refine Still.t 6 [12, 11, 10, 9, 8] hHeld ?_ (hy := by (intro w' hSw; (try dsimp only at hSw); have q1 := (RW.out.up hSw RW.out.lt).cell (j := 13) (v := .int .i64 c.read) rfl; have q2 := bcl hSw hpbW PW.out; clear hSw; go_simp; (try simp only [B1.out]); try with_reducible rfl))
      refine Still.t 7 [12, 11, 10, 9, 8] hHeld ?_ (hy := by (intro w' hSw; (try dsimp only at hSw); have q1 := (RW.out.up hSw RW.out.lt).cell (j := 13) (v := .int .i64 c.read) rfl; have q2 := bcl hSw hpbW PW.out; clear hSw; go_simp; (try simp only [B1.out]); try with_reducible rfl))
      refine Still.t 8 [12, 11, 10, 9] hHeld ?_ (hy := by (intro w' hSw; (try dsimp only at hSw); have q1 := (RW.out.up hSw RW.out.lt).cell (j := 13) (v := .int .i64 c.read) rfl; have q2 := bcl hSw hpbW PW.out; clear hSw; go_simp; (try simp only [B1.out]); try with_reducible rfl))
      refine Still.t 9 [12, 11, 10] hHeld ?_ (hy := by (intro w' hSw; (try dsimp only at hSw); have q1 := (RW.out.up hSw RW.out.lt).cell (j := 13) (v := .int .i64 c.read) rfl; have q2 := bcl hSw hpbW PW.out; clear hSw; go_simp; (try simp only [B1.out]); try with_reducible rfl))
      refine Still.t 10 [12, 11] hHeld ?_ (hy := by (intro w' hSw; (try dsimp only at hSw); have q1 := (RW.out.up hSw RW.out.lt).cell (j := 13) (v := .int .i64 c.read) rfl; have q2 := bcl hSw hpbW PW.out; clear hSw; go_simp; (try simp only [B1.out]); try with_reducible rfl))
      refine Still.t 11 [12] hHeld ?_ (hy := by (intro w' hSw; (try dsimp only at hSw); have q1 := (RW.out.up hSw RW.out.lt).cell (j := 13) (v := .int .i64 c.read) rfl; have q2 := bcl hSw hpbW PW.out; clear hSw; go_simp; (try simp only [B1.out]); try with_reducible rfl))
      refine Still.t 12 [] hHeld ?_ (hy := by (intro w' hSw; (try dsimp only at hSw); have q1 := (RW.out.up hSw RW.out.lt).cell (j := 13) (v := .int .i64 c.read) rfl; have q2 := bcl hSw hpbW PW.out; clear hSw; go_simp; (try simp only [B1.out]); try with_reducible rfl))
      refine Still.o 13 rfl rfl (fun K hK => ?_)
      go_simp
      refine hK _ _ ab (fun _ => Still.vv ?_)
      clear hK K
      have HL2 := Lib.hid (HBW.out.trans (hHeld.mono HBW.out.size))
      clear hHeld
      go_wp2
      go_ret
      exact ⟨ret_bool (by rw [← HR.out, HNO.out]), HL2.out⟩
   ·have hli : ¬ (k : Int) < ds.length := by omega
    have HYES := Lib.hid (show cellsB ps ds = true from cellsB_yes HL.out (fun j h h' => HZ.out j h h' om))
    go_wp2
    go_ret
    exact ⟨ret_bool (by rw [← HR.out, HYES.out]), HB.out⟩
 ·have he' : ((ds.length : Int) != ps.length) = true := by simp; omega
  have HNO : Hid (cellsB ps ds = false) := by
   show _ = _
   cases e : cellsB ps ds with
   | false => rfl
   | true => exact absurd (cellsB_len e) he
  clear he
  go_enter Tryz.func74, Tryz.ntmps74
  go_wp2
  go_ret
  exact ⟨ret_bool (by rw [← HR.out, HNO.out]), Below.refl _ _⟩
theorem ent_lineCheck : Enters 116 := enters Tryz.func116 kr kr
theorem rightLines_any (cs : List Chn) (ls : List (List Int)) (v u : Value) (hl : cs.length ≤ 6) (w : World) (hP : Sl w 3 v cs.length (rowC chC cs)) (hC : LinesR w u ls) (r : Bool) (hr : linesB cs ls = r) :
  Calls Tryz.prog 75 #[v, u] w fun e w' => e = .returned (.bool r) ∧ Below w.heap.size w w' := by
 obtain ⟨pa, pc, rfl⟩ := hP.form
 obtain ⟨ca, cc, rfl⟩ := hC.form
 have HP := Lib.hid hP
 have HC := Lib.hid hC
 have HR := Lib.hid hr
 clear hP hC hr
 by_cases he : ls.length = cs.length
 ·have he' : ((ls.length : Int) != cs.length) = false := by simp; omega
  have HL := Lib.hid he
  clear he
  go_enter Tryz.func75, Tryz.ntmps75
  go_wp2
  go_loopw [14] (fun i wr => ∃ k : Nat, i = .int .i64 k ∧ k ≤ ls.length ∧ Hid (∀ j (h : j < cs.length) (h' : j < ls.length), j < k → chkL cs[j].kd ls[j].length = 0) ∧ Hid (Below w.heap.size w wr)) (fun i _ => ls.length - (intOf i).toNat)
  case atStart => exact ⟨0, rfl, Nat.zero_le _, Lib.hid (fun j h h' h0 => by omega), Lib.hid (Below.refl _ _)⟩
  case round =>
   obtain ⟨k, rfl, hk, HZ, HB⟩ := hrel
   by_cases hlt : k < ls.length
   ·have hli : (k : Int) < ls.length := by omega
    have hlp : k < cs.length := by have := HL.out; omega
    have hlip : (k : Int) < cs.length := by omega
    obtain ⟨b, off, cap, e1, hcap, hbw, hc⟩ := HC.out.open om
    cases e1
    obtain ⟨ao, oc, hra, hso⟩ := hc k hlt
    obtain ⟨pb, po, pcap, e2, hpcap, hpbw, hpc⟩ := HP.out.open om
    cases e2
    obtain ⟨hkd, _, _⟩ := chan_cells hpc k hlp
    have ra := bcl HB.out hbw hra
    have PC := Lib.hid (bcl HB.out hpbw hkd)
    have hws := HB.out.size
    have hbr : b < wr.heap.size := by omega
    have hbr' : b ≠ wr.heap.size := by omega
    generalize hd : ls[k] = l at ra
    generalize hp : cs[k] = p at PC
    obtain ⟨kd, fr, tt⟩ := p
    have HD := Lib.hid hd
    have HPk := Lib.hid hp
    simp only at PC
    clear hra hso hc hpc hkd hd hp
    go_wp2
    generalize hW : World.alloc _ _ = W
    have RW : Hid (Rw W wr.heap.size 81 #[.slice ao l.length oc]) := by
     show Rw _ _ _ _
     rw [← hW]
     exact rn0
    have b0 : Below wr.heap.size wr W := by rw [← hW]; exact (Below.refl _ _).alloc (Nat.le_refl _) _
    have hzW : W.heap.size = wr.heap.size + 1 := by rw [← hW]; simp
    have PW := Lib.hid (bcl b0 om PC.out)
    have HBW := Lib.hid (HB.out.trans (b0.mono om))
    have hpbW : pb < W.heap.size := by omega
    clear hW ra PC HB b0
    obtain ⟨e0, hce⟩ : ∃ e0, chkL kd l.length = e0 := ⟨_, rfl⟩
    have HCK := Lib.hid fun V => chkLine_any kd ao l.length oc V e0 hce
    have HCE := Lib.hid hce
    clear hce
    by_cases h0 : e0 = 0
    ·subst h0
     have HYES := Lib.hid (show chkL cs[k].kd ls[k].length = 0 by rw [HD.out, HPk.out]; exact HCE.out)
     refine region_still (S := fun w' => Below W.heap.size W w') 7 kr (Below.refl _ _).drew (fun hHeld => ?_)
     have hq := fun w' (hSw : (fun w' => Below W.heap.size W w') w') => And.intro ((RW.out.up hSw RW.out.lt).cell (j := 0) (v := .slice ao l.length oc) rfl) (bcl hSw hpbW PW.out)
     refine Still.u 0 [6, 4, 3, 2] hHeld hq ?_
     refine Still.u 1 [6, 4, 3, 2] hHeld hq ?_
     refine Still.u 2 [6, 4, 3] hHeld hq ?_
     refine Still.u 3 [6, 4] hHeld hq ?_
     refine Still.u 4 [6] hHeld hq ?_
     refine Still.u 5 [6] hHeld hq ?_
     refine Still.o 6 rfl rfl (fun K hK => ?_)
     refine wp_call 116 _ _ rfl ent_lineCheck #[.int .i64 kd, .agg #[.slice ao l.length oc]] ev ((HCK.out _).mono ?_)
     rintro e V1 ⟨rfl, bb⟩
     refine ⟨_, rfl, hK _ _ (fun _ => hHeld.trans (bb.mono hHeld.size)) (fun hh => ?_)⟩
     have hHeld := hh (by decide)
     clear hK K hh
     try simp only [Act.put, l1, l2, l3, l4, l5, l6]
     clear bb
     refine Still.o 7 rfl rfl (fun K hK => ?_)
     go_simp
     refine hK _ _ ab (fun _ => Still.vv ?_)
     clear hK K
     have HL2 := Lib.hid (HBW.out.trans (hHeld.mono HBW.out.size))
     clear hHeld
     go_wp2
     go_roundw
     case rel => exact ⟨k + 1, by go_num, by omega, Lib.hid (fun j h h' hj => by
      rcases Nat.lt_or_ge j k with h1 | h1
      ·exact HZ.out j h h' h1
      ·obtain rfl : j = k := by omega
       exact HYES.out), HL2⟩
     case measure => simp [intOf]; omega
    ·have h0' : (e0 != 0) = true := by simpa using h0
     have HNO := Lib.hid (show linesB cs ls = false from linesB_no k hlp hlt (by rw [HD.out, HPk.out]; show chkL kd l.length ≠ 0; rw [HCE.out]; exact h0))
     clear h0
     refine region_still (S := fun w' => Below W.heap.size W w') 7 kr (Below.refl _ _).drew (fun hHeld => ?_)
     have hq := fun w' (hSw : (fun w' => Below W.heap.size W w') w') => And.intro ((RW.out.up hSw RW.out.lt).cell (j := 0) (v := .slice ao l.length oc) rfl) (bcl hSw hpbW PW.out)
     refine Still.u 0 [6, 4, 3, 2] hHeld hq ?_
     refine Still.u 1 [6, 4, 3, 2] hHeld hq ?_
     refine Still.u 2 [6, 4, 3] hHeld hq ?_
     refine Still.u 3 [6, 4] hHeld hq ?_
     refine Still.u 4 [6] hHeld hq ?_
     refine Still.u 5 [6] hHeld hq ?_
     refine Still.o 6 rfl rfl (fun K hK => ?_)
     refine wp_call 116 _ _ rfl ent_lineCheck #[.int .i64 kd, .agg #[.slice ao l.length oc]] ev ((HCK.out _).mono ?_)
     rintro e V1 ⟨rfl, bb⟩
     refine ⟨_, rfl, hK _ _ (fun _ => hHeld.trans (bb.mono hHeld.size)) (fun hh => ?_)⟩
     have hHeld := hh (by decide)
     clear hK K hh
     try simp only [Act.put, l1, l2, l3, l4, l5, l6]
     clear bb
     refine Still.o 7 rfl rfl (fun K hK => ?_)
     go_simp
     refine hK _ _ ab (fun _ => Still.vv ?_)
     clear hK K
     have HL2 := Lib.hid (HBW.out.trans (hHeld.mono HBW.out.size))
     clear hHeld
     go_wp2
     go_ret
     exact ⟨ret_bool (by rw [← HR.out, HNO.out]), HL2.out⟩
   ·have hli : ¬ (k : Int) < ls.length := by omega
    have HYES := Lib.hid (show linesB cs ls = true from linesB_yes HL.out (fun j h h' => HZ.out j h h' om))
    go_wp2
    go_ret
    exact ⟨ret_bool (by rw [← HR.out, HYES.out]), HB.out⟩
 ·have he' : ((ls.length : Int) != cs.length) = true := by simp; omega
  have HNO : Hid (linesB cs ls = false) := by
   show _ = _
   cases e : linesB cs ls with
   | false => rfl
   | true => exact absurd (linesB_len e) he
  clear he
  go_enter Tryz.func75, Tryz.ntmps75
  go_wp2
  go_ret
  exact ⟨ret_bool (by rw [← HR.out, HNO.out]), Below.refl _ _⟩
theorem kernCheck_any (S : SysD) (D : WldD) (vp vc vs uc ul : Value) (w : World) (he : Env w) (hS : Sys w vp vc vs S) (hW : Wld w uc ul D) :
  Calls Tryz.prog 30 #[.agg #[vp, vc, vs], .agg #[.int .i64 D.tick, uc, ul]] w fun e w' => e = .returned (.int .i64 (chkW S D)) ∧ Below w.heap.size w w' := by
 obtain ⟨pa, pc, rfl⟩ := hS.p.form
 obtain ⟨ka, kc, rfl⟩ := hS.c.form
 obtain ⟨sa, sc, rfl⟩ := hS.s.form
 obtain ⟨ua, uc, rfl⟩ := hW.c.form
 obtain ⟨la, lc, rfl⟩ := hW.l.form
 have HC := hd fun w he hS => confCheck_any S (.slice pa S.parts.length pc) (.slice ka S.chans.length kc) (.slice sa S.slots.length sc) w he hS
 have HE := hd he
 have HS := hd hS
 have HW := hd hW
 clear he hS hW
 obtain ⟨e0, hce⟩ : ∃ e0, chkS S = e0 := ⟨_, rfl⟩
 rw [hce] at HC
 by_cases h0 : e0 = 0
 ·subst h0
  have hcl : S.parts.length ≤ 4 ∧ S.chans.length ≤ 6 := by
   unfold chkS at hce
   cases hb : countsB S with
   | false => rw [hb] at hce; simp at hce
   | true => simp [countsB] at hb; omega
  obtain ⟨hcl1, hcl2⟩ := hcl
  have HCE := hd hce
  clear hce
  go_enter Tryz.func30, Tryz.ntmps30
  go_wp2_with fail
  refine (HC.out _ (HE.out.up up0) (HS.out.up up0)).mono ?_
  rintro e w1 ⟨rfl, b1⟩
  have z1 := b1.size
  simp at z1
  have R0 : Hid (Rw w1 w.heap.size 26 #[.slice pa S.parts.length pc, .slice ka S.chans.length kc, .slice sa S.slots.length sc]) := Rw.up rn0 b1 o3
  have R1 : Hid (Rw w1 (w.heap.size + 1) 30 #[.int .i64 D.tick, .slice ua D.cells.length uc, .slice la D.lines.length lc]) := Rw.up rn0 b1 o3
  have HD : Hid (Below w.heap.size w w1) := by
   refine Below.trans ?_ (b1.mono o3)
   exact up0
  have q0 := R0.out.cell (j := 0) (v := .slice pa S.parts.length pc) rfl
  have q1 := R0.out.cell (j := 1) (v := .slice ka S.chans.length kc) rfl
  have q2 := R1.out.cell (j := 0) (v := .int .i64 D.tick) rfl
  have q3 := R1.out.cell (j := 1) (v := .slice ua D.cells.length uc) rfl
  have q4 := R1.out.cell (j := 2) (v := .slice la D.lines.length lc) rfl
  clear b1 HC
  have HI := hd fun V => isRun_any D.tick V
  cases hB : withinB D.tick 0 300
  ·have HN : Hid (chkW S D = 1) := by
    show _ = _
    unfold chkW
    rw [HCE.out, hB]
    rfl
   rw [hB] at HI
   clear hB
   go_wp2_with (go_at_call 73; refine (HI.out _).mono ?_; rintro e w2 ⟨rfl, rfl⟩)
   go_ret
   exact ⟨ret_int (by rw [HN.out]), HD.out⟩
  rw [hB] at HI
  have HTB := hd hB
  clear hB
  go_wp2_with (go_at_call 73; refine (HI.out _).mono ?_; rintro e w2 ⟨rfl, rfl⟩)
  obtain ⟨r, hr⟩ : ∃ r, cellsB S.parts D.cells = r := ⟨_, rfl⟩
  refine (rightCells_any S.parts D.cells _ _ hcl1 _ (HS.out.p.up HD.out) (HW.out.c.up HD.out) r hr).mono ?_
  rintro e w3 ⟨rfl, b3⟩
  have z3 := b3.size
  have HD3 := hd (HD.out.trans (b3.mono om))
  have p1 := bcl b3 om q1
  have p4 := bcl b3 om q4
  have HRC := hd hr
  clear b3 q0 q1 q2 q3 q4 HD R0 R1 hr
  cases r
  ·have HN : Hid (chkW S D = 1) := by
    show _ = _
    unfold chkW
    rw [HCE.out, HTB.out, HRC.out]
    rfl
   go_wp2
   go_ret
   exact ⟨ret_int (by rw [HN.out]), HD3.out⟩
  go_wp2_with fail
  obtain ⟨r, hr⟩ : ∃ r, linesB S.chans D.lines = r := ⟨_, rfl⟩
  refine (rightLines_any S.chans D.lines _ _ hcl2 _ (HS.out.c.up HD3.out) (HW.out.l.up HD3.out) r hr).mono ?_
  rintro e w4 ⟨rfl, b4⟩
  have HD4 := hd (HD3.out.trans (b4.mono HD3.out.size))
  have HN : Hid (chkW S D = if r = true then 0 else 1) := by
   show _ = _
   unfold chkW
   rw [HCE.out, HTB.out, HRC.out, hr]
   rfl
  clear b4 p1 p4 hr
  cases r
  ·go_wp2
   go_ret
   exact ⟨ret_int (by rw [HN.out]; rfl), HD4.out⟩
  ·go_wp2
   go_ret
   exact ⟨ret_int (by rw [HN.out]; rfl), HD4.out⟩
 ·have h0' : (e0 != 0) = true := by simpa using h0
  have HCE : Hid (chkW S D = e0) := by
   show _ = _
   unfold chkW
   rw [hce, if_pos h0]
  clear hce h0
  go_enter Tryz.func30, Tryz.ntmps30
  go_wp2_with fail
  refine (HC.out _ (HE.out.up up0) (HS.out.up up0)).mono ?_
  rintro e w1 ⟨rfl, b1⟩
  have HD : Hid (Below w.heap.size w w1) := by
   refine Below.trans ?_ (b1.mono o3)
   exact up0
  clear b1
  go_wp2
  go_ret
  exact ⟨ret_int (by rw [HCE.out]), HD.out⟩
end Go.Proofs.YtehhhiodfcdnmaaGreatDoor
