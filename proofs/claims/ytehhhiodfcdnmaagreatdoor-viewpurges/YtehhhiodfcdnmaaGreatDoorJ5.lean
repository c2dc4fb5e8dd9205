/- A region that draws its order, walked under a condition on the world that need not hold any more behind the last operation. -/
import Derived.Test.YtehhhiodfcdnmaaGreatDoorJ3
import Derived.Deep.RegionHeld3
import Derived.Test.YtehhhiodfcdnmaaGreatDoorJ4
import Derived.Test.YtehhhiodfcdnmaaGreatDoorJ1
namespace Go.Proofs.YtehhhiodfcdnmaaGreatDoor
set_option linter.unusedSimpArgs false
set_option linter.unusedVariables false
open Go.RowKit Go.Sort
section
variable {P : Program} {ops : Array Oper} {Q : Exit → Act → World → Prop} {md : Region.Mode} {S : World → Prop}
def Still (P : Program) (md : Region.Mode) (ops : Array Oper) (Q : Exit → Act → World → Prop) (S : World → Prop) (z : Nat) : Nat → Array Bool → Act → World → Prop
  | 0, done, a, w => Region.ready md ops done = [] ∧ Q .normal a w
  | n + 1, done, a, w => (Region.ready md ops done = [] → Q .normal a w) ∧
    ∀ i ∈ Region.ready md ops done, wpOp P ops Q i (fun a' w' => (i ≠ z → S w') ∧ Still P md ops Q S z n (done.setIfInBounds i true) a' w') a w
theorem Still.any {z : Nat} : ∀ (n : Nat) (done : Array Bool) (a : Act) (w : World), Still P md ops Q S z n done a w → wpAny P md ops Q n done a w
  | 0, _, _, _, h => h
  | n + 1, _, _, _, h => ⟨h.1, fun i hi => wpOp_mono (fun a' w' h' => Still.any n _ a' w' h'.2) (h.2 i hi)⟩
def waitsAll (md : Region.Mode) (ops : Array Oper) (z : Nat) : Bool :=
  match ops[z]? with
  | none => false
  | some o => (List.range ops.size).all fun i => i == z || o.after.any fun e => Region.binds md e && e.on == i
theorem waitsAll_spec {z i : Nat} {o : Oper} (h : waitsAll md ops z = true) (ho : ops[z]? = some o) (hi : i < ops.size) (hne : i ≠ z) : ∃ e ∈ o.after, Region.binds md e = true ∧ e.on = i := by
  simp only [waitsAll, ho, List.all_eq_true, List.mem_range] at h
  have h1 := h i hi
  simp only [Bool.or_eq_true, beq_iff_eq, hne, false_or] at h1
  obtain ⟨e, he, hb⟩ := Array.any_eq_true'.1 h1
  simp only [Bool.and_eq_true, beq_iff_eq] at hb
  exact ⟨e, he, hb.1, hb.2⟩
theorem unready {i : Nat} {done : Array Bool} {oj : Oper} (hr : i ∈ Region.ready md ops done) (hall : ∀ e ∈ oj.after, Region.binds md e = true → done.getD e.on false = true) :
    ∀ e ∈ oj.after, Region.binds md e = true → e.on ≠ i := by
  intro e he hb hei
  have h1 := hall e he hb
  have h0 := (mem_ready.1 hr).1
  rw [hei] at h1
  by_cases hl : i < done.size
  · simp [hl] at h0 h1
    simp [h0] at h1
  · simp [Array.getElem?_eq_none (Nat.le_of_not_lt hl)] at h1
theorem Still.first {z i : Nat} {oi : Oper} {v : Value} (hz : waitsAll md ops z = true) (hi : ops[i]? = some oi) (hs : Region.noSelect ops = true) (hQ : ∀ c a w, Q (.panic c) (a.put oi.dst v) w → Q (.panic c) a w) (n : Nat) :
    ∀ (done : Array Bool) (a : Act) (w : World),
      (∀ j oj, ops[j]? = some oj → j ≠ i → done.getD j true = false → (∀ e ∈ oj.after, Region.binds md e = true → e.on ≠ i) → oi.apart ops oj = true) →
      i ∈ Region.ready md ops done → YieldsIf P ops S oi v a → S w → Still P md ops Q S z n (done.setIfInBounds i true) (a.put oi.dst v) w → Still P md ops Q S z (n + 1) done a w := by
  have sel := Region.noSelect_spec hs
  have hlt : i < ops.size := (Array.getElem?_eq_some_iff.1 hi).1
  induction n with
  | zero =>
    intro done a w _ hr hy hS H
    refine ⟨fun e => by simp [e] at hr, fun j hj => ?_⟩
    rcases Decidable.em (j = i) with rfl | hne
    · exact hy.wpOp hi hS ⟨fun _ => hS, H⟩
    · have hm := ready_mono hj hne
      simp [H.1] at hm
  | succ n ih =>
    intro done a w hap hr hy hS H
    refine ⟨fun e => by simp [e] at hr, fun j hj => ?_⟩
    rcases Decidable.em (j = i) with rfl | hne
    · exact hy.wpOp hi hS ⟨fun _ => hS, H⟩
    · obtain ⟨hju, oj, hoj, hall⟩ := mem_ready.1 hj
      have hno := unready hr hall
      have hjz : j ≠ z := by
        rintro rfl
        obtain ⟨e, he, hb, hei⟩ := waitsAll_spec hz hoj hlt (Ne.symm hne)
        exact hno e he hb hei
      refine wpOp_mono (fun a' w' hK => ?_) (wpOp_putIf hoj (hap j oj hoj hne hju hno) (fun cs b => sel i oi cs b hi) (fun cs b => sel j oj cs b hoj) hQ hy (H.2 j (ready_mono hj hne)))
      obtain ⟨hy', hst, hrest⟩ := hK
      have hS' := hst hjz
      refine ⟨fun _ => hS', ih _ a' w' (fun k ok hk hki hun hno' => hap k ok hk hki ?_ hno') (ready_mono hr (Ne.symm hne)) hy' hS' (by rw [Array.setIfInBounds_comm _ _ hne]; exact hrest)⟩
      rcases Decidable.em (j = k) with rfl | hjk
      · exact hju
      · rwa [getD_set_ne true hjk] at hun
theorem Still.take {z i : Nat} {oi : Oper} {v : Value} {n : Nat} {done : Array Bool} {a : Act} {w : World} (hz : waitsAll md ops z = true) (hi : ops[i]? = some oi) (hs : Region.noSelect ops = true)
    (hf : Region.free md ops done i = true) (hr : (Region.ready md ops done).contains i = true) (hQ : ∀ c a w, Q (.panic c) (a.put oi.dst v) w → Q (.panic c) a w) (hy : YieldsIf P ops S oi v a) (hS : S w)
    (h : Still P md ops Q S z n (done.setIfInBounds i true) (a.put oi.dst v) w) : Still P md ops Q S z (n + 1) done a w :=
  Still.first hz hi hs hQ n done a w (Region.free_spec hi hf) (by simpa using hr) hy hS h
def waitsOn (md : Region.Mode) (ops : Array Oper) (z i : Nat) : Bool :=
  match ops[z]? with
  | none => false
  | some o => o.after.any fun e => Region.binds md e && e.on == i
def waitsBy (md : Region.Mode) (ops : Array Oper) : Nat → List Nat → Nat → Bool
  | z, [], i => waitsOn md ops z i
  | z, p :: ps, i => waitsOn md ops z p && waitsBy md ops p ps i
theorem waitsOn_ready {z i : Nat} {done : Array Bool} (h : waitsOn md ops z i = true) (hr : z ∈ Region.ready md ops done) : done.getD i false = true := by
  obtain ⟨_, o, ho, hall⟩ := mem_ready.1 hr
  simp only [waitsOn, ho] at h
  obtain ⟨e, he, hb⟩ := Array.any_eq_true'.1 h
  simp only [Bool.and_eq_true, beq_iff_eq] at hb
  have := hall e he hb.1
  rwa [hb.2] at this
theorem getD_both {done : Array Bool} {p : Nat} (h : done.getD p true = false) : done.getD p false = false := by
  by_cases hp : p < done.size
  · simp [hp] at h ⊢; exact h
  · simp [Array.getElem?_eq_none (Nat.le_of_not_lt hp)]
theorem waitsBy_ready {i j : Nat} {done : Array Bool} (hi : done.getD i true = false) (hj : j ∈ Region.ready md ops done) : ∀ (ps : List Nat) (z : Nat), waitsBy md ops z ps i = true → (∀ p ∈ ps, done.getD p true = false) → j ∉ z :: ps
  | [], z, h, _ => by
    intro hm
    simp at hm
    subst hm
    have := waitsOn_ready h hj
    rw [getD_both hi] at this
    cases this
  | p :: ps, z, h, hu => by
    simp only [waitsBy, Bool.and_eq_true] at h
    intro hm
    rcases List.mem_cons.1 hm with rfl | hm
    · have := waitsOn_ready h.1 hj
      rw [getD_both (hu p (by simp))] at this
      cases this
    · exact waitsBy_ready hi hj ps p h.2 (fun q hq => hu q (by simp [hq])) hm
theorem Still.firstBy {z i : Nat} {ps : List Nat} {oi : Oper} {v : Value} (hz : waitsBy md ops z ps i = true) (hi : ops[i]? = some oi) (hs : Region.noSelect ops = true) (hQ : ∀ c a w, Q (.panic c) (a.put oi.dst v) w → Q (.panic c) a w) (n : Nat) :
    ∀ (done : Array Bool) (a : Act) (w : World), (∀ p ∈ ps, done.getD p true = false) →
      (∀ j oj, ops[j]? = some oj → j ≠ i → done.getD j true = false → (∀ e ∈ oj.after, Region.binds md e = true → e.on ≠ i) → oi.apart ops oj = true) →
      i ∈ Region.ready md ops done → YieldsIf P ops S oi v a → S w → Still P md ops Q S z n (done.setIfInBounds i true) (a.put oi.dst v) w → Still P md ops Q S z (n + 1) done a w := by
  have sel := Region.noSelect_spec hs
  have hlt : i < ops.size := (Array.getElem?_eq_some_iff.1 hi).1
  induction n with
  | zero =>
    intro done a w _ _ hr hy hS H
    refine ⟨fun e => by simp [e] at hr, fun j hj => ?_⟩
    rcases Decidable.em (j = i) with rfl | hne
    · exact hy.wpOp hi hS ⟨fun _ => hS, H⟩
    · have hm := ready_mono hj hne
      simp [H.1] at hm
  | succ n ih =>
    intro done a w hu hap hr hy hS H
    refine ⟨fun e => by simp [e] at hr, fun j hj => ?_⟩
    rcases Decidable.em (j = i) with rfl | hne
    · exact hy.wpOp hi hS ⟨fun _ => hS, H⟩
    · obtain ⟨hju, oj, hoj, hall⟩ := mem_ready.1 hj
      have hno := unready hr hall
      have hnm := waitsBy_ready (mem_ready.1 hr).1 hj ps z hz hu
      have hjz : j ≠ z := fun e => hnm (by simp [e])
      refine wpOp_mono (fun a' w' hK => ?_) (wpOp_putIf hoj (hap j oj hoj hne hju hno) (fun cs b => sel i oi cs b hi) (fun cs b => sel j oj cs b hoj) hQ hy (H.2 j (ready_mono hj hne)))
      obtain ⟨hy', hst, hrest⟩ := hK
      have hS' := hst hjz
      refine ⟨fun _ => hS', ih _ a' w' (fun p hp => ?_) (fun k ok hk hki hun hno' => hap k ok hk hki ?_ hno') (ready_mono hr (Ne.symm hne)) hy' hS' (by rw [Array.setIfInBounds_comm _ _ hne]; exact hrest)⟩
      · rw [getD_set_ne true (fun e => hnm (by simp [e, hp]))]
        exact hu p hp
      · rcases Decidable.em (j = k) with rfl | hjk
        · exact hju
        · rwa [getD_set_ne true hjk] at hun
theorem Still.takeBy {z i : Nat} (ps : List Nat) {oi : Oper} {v : Value} {n : Nat} {done : Array Bool} {a : Act} {w : World} (hz : waitsBy md ops z ps i = true) (hu : ps.all (fun p => done.getD p true == false) = true) (hi : ops[i]? = some oi) (hs : Region.noSelect ops = true)
    (hf : Region.free md ops done i = true) (hr : (Region.ready md ops done).contains i = true) (hQ : ∀ c a w, Q (.panic c) (a.put oi.dst v) w → Q (.panic c) a w) (hy : YieldsIf P ops S oi v a) (hS : S w)
    (h : Still P md ops Q S z n (done.setIfInBounds i true) (a.put oi.dst v) w) : Still P md ops Q S z (n + 1) done a w :=
  Still.firstBy hz hi hs hQ n done a w (fun p hp => by simpa using (List.all_eq_true.1 hu) p hp) (Region.free_spec hi hf) (by simpa using hr) hy hS h
theorem Still.all {z : Nat} {rs : List Nat} {n : Nat} {done : Array Bool} {a : Act} {w : World} (hr : Region.ready md ops done = rs) (hne : rs ≠ [])
    (h : ∀ i ∈ rs, wpOp P ops Q i (fun a' w' => (i ≠ z → S w') ∧ Still P md ops Q S z n (done.setIfInBounds i true) a' w') a w) : Still P md ops Q S z (n + 1) done a w :=
  ⟨fun e => absurd (hr ▸ e) hne, hr ▸ h⟩
theorem Still.over {z : Nat} {done : Array Bool} {a : Act} {w : World} (hr : Region.ready md ops done = []) (h : Q .normal a w) (n : Nat) : Still P md ops Q S z n done a w := by
  cases n with
  | zero => exact ⟨hr, h⟩
  | succ n => exact ⟨fun _ => h, by rw [hr]; simp⟩
theorem region_still {id : Nat} {a : Act} {w : World} (z : Nat) (hm : P.follows .mixedOrders = true) (hS : S w.drew) (h : S w.drew → Still P .any ops Q S z ops.size (Array.replicate ops.size false) a w.drew) : (Code.region id ops true).wp P Q a w :=
  wp_region_any hm (Still.any _ _ _ _ (h hS))
theorem Still.one {z i : Nat} {o : Oper} {rs : List Nat} {n : Nat} {done : Array Bool} {a : Act} {w : World} (ho : ops[i]? = some o) (hg : o.guard = none)
    (h : ∀ K : Act → World → Prop, (∀ a' w', (i ≠ z → S w') → ((i ≠ z → S w') → Still P md ops Q S z n (done.setIfInBounds i true) a' w') → K a' w') → Oper.wp P o a w K Q)
    (hs : ∀ j ∈ rs, wpOp P ops Q j (fun a' w' => (j ≠ z → S w') ∧ Still P md ops Q S z n (done.setIfInBounds j true) a' w') a w) :
    ∀ j ∈ i :: rs, wpOp P ops Q j (fun a' w' => (j ≠ z → S w') ∧ Still P md ops Q S z n (done.setIfInBounds j true) a' w') a w := by
  intro j hj
  rcases List.mem_cons.1 hj with rfl | hj
  · unfold wpOp
    simp only [ho, Region.wanted, hg, if_true]
    exact .inl (h _ fun a' w' h1 h2 => ⟨h1, h2 h1⟩)
  · exact hs j hj
theorem yields_load {oi : Oper} {a : Act} (hg : oi.guard = none) (ty : TypeId) (x : Operand) (ho : oi.op = .load ty x) (p : Addr) (hx : a.eval x = .pointer (some p)) (v : Value) (hS : ∀ w, S w → (Instr.loadAt ty (.pointer (some p))).run P w = .ok v w) : YieldsIf P ops S oi v a :=
  .inl ⟨by simp [Region.wanted, hg], fun w hw => by
    unfold execOp
    simp only [ho, hx, Sem.run_bind, Sem.run_pure, Result.andThen_ok, hS w hw]⟩
theorem yields_build {oi : Oper} {a : Act} (hg : oi.guard = none) (t : TypeId) (parts : Array (Nat × Operand)) (ho : oi.op = .build t parts) (vs : Array (Nat × Value)) (hx : (parts.map fun (i, x) => (i, a.eval x)) = vs) (v : Value) (hb : ∀ w, (Instr.build t vs).run P w = .ok v w) : YieldsIf P ops S oi v a :=
  .inl ⟨by simp [Region.wanted, hg], fun w hw => by
    unfold execOp
    simp only [ho, hx, Sem.run_bind, Sem.run_pure, Result.andThen_ok, hb w]⟩
end
end Go.Proofs.YtehhhiodfcdnmaaGreatDoor

namespace Go.Proofs.YtehhhiodfcdnmaaGreatDoor
set_option linter.unusedSimpArgs false
set_option linter.unusedVariables false
open Go.RowKit Go.Sort
section
variable {P : Program} {ops : Array Oper} {Q : Exit → Act → World → Prop} {md : Region.Mode} {S : World → Prop}
end
end Go.Proofs.YtehhhiodfcdnmaaGreatDoor

namespace Go.Proofs.YtehhhiodfcdnmaaGreatDoor
set_option linter.unusedSimpArgs false
set_option linter.unusedVariables false
open Go.RowKit Go.Sort
theorem range_up {B : Nat} {w w' : World} {b o : Nat} {cs : List Value} (h : w.rangeAt b o cs) (hb : Below B w w') (hlt : b < B) : w'.rangeAt b o cs := fun j v hj => bcl hb hlt (h j v hj)
theorem wpList_load_midA {P : Program} {ops : Array Oper} {rest : List Oper} {op : Oper} {a : Act} {w : World} {Q : Exit → Act → World → Prop} (hgd : op.guard = none) (ty : TypeId) (x : Operand) (ho : op.op = .load ty x)
    (b o : Nat) (hx : a.eval x = .pointer (some ⟨b, o, none⟩)) (cs : Array Value) (d : TypeDesc) (hc : w.rangeAt b o cs.toList)
    (hu : P.underlying ty = some d) (hd : d.isRow = true) (hi : (P.info? ty).map (·.size) = some cs.size)
    (h : wpList P ops Q rest (a.put op.dst (.agg cs)) w) : wpList P ops Q (op :: rest) a w :=
  wpList_load_mid hgd ty x ho b o hx cs.toList d hc hu hd (by simpa using hi) (by simpa using h)
theorem ent_cellCheck : Enters 115 := enters Tryz.func115 (by kernel_rfl) (by kernel_rfl)
theorem isRun_any (n : Int) (w : World) : Calls Tryz.prog 73 #[.int .i64 n] w fun e w' => e = .returned (.bool (withinB n 0 300)) ∧ w' = w := by
  by_cases h : 0 ≤ n
  all_goals
    go_enter Tryz.func73, Tryz.ntmps73
    go_wp2
    go_ret
    exact ⟨ret_bool (by simp [withinB]; try omega), rfl⟩
set_option maxRecDepth 100000 in
set_option maxHeartbeats 8000000 in
theorem rightCells_any (ps : List Prt) (ds : List CelD) (v u : Value) (hl : ps.length ≤ 4) (w : World) (hP : PartsR w v ps) (hC : CellsR w u ds) (r : Bool) (hr : cellsB ps ds = r) :
    Calls Tryz.prog 74 #[v, u] w fun e w' => e = .returned (.bool r) ∧ Below w.heap.size w w' := by
  obtain ⟨pa, pc, rfl⟩ := hP.form
  obtain ⟨ca, cc, rfl⟩ := hC.form
  have HP := Lib.hid hP
  have HC := Lib.hid hC
  have HR := Lib.hid hr
  clear hP hC hr
  by_cases he : ds.length = ps.length
  · have he' : ((ds.length : Int) != ps.length) = false := by simp; omega
    have HL := Lib.hid he
    clear he
    go_enter Tryz.func74, Tryz.ntmps74
    go_wp2
    go_loopw [14] (fun i wr => ∃ k : Nat, i = .int .i64 k ∧ k ≤ ds.length ∧ Hid (∀ j (h : j < ps.length) (h' : j < ds.length), j < k → celB ps[j] ds[j] = true) ∧ Hid (Below w.heap.size w wr)) (fun i _ => ds.length - (intOf i).toNat)
    case atStart => exact ⟨0, rfl, Nat.zero_le _, Lib.hid (fun j h h' h0 => by omega), Lib.hid (Below.refl _ _)⟩
    case round =>
      obtain ⟨k, rfl, hk, HZ, HB⟩ := hrel
      by_cases hlt : k < ds.length
      · have hli : (k : Int) < ds.length := by omega
        have hlp : k < ps.length := by have := HL.out; omega
        have hlip : (k : Int) < ps.length := by omega
        obtain ⟨b, off, cap, e1, hcap, hbw, hc⟩ := HC.out.open (by omega)
        cases e1
        obtain ⟨ao, oc, hra, hso⟩ := hc k hlt
        obtain ⟨pb, po, pcap, e2, hpcap, hpbw, hpc⟩ := HP.out.open (by omega)
        cases e2
        obtain ⟨cv, iv, hcv, hiv, hpr⟩ := hpc k hlp
        obtain ⟨ia, ic, rfl⟩ := hpr.inn.form
        have RA := Lib.hid (range_up hra HB.out hbw)
        have PC := Lib.hid (bcl HB.out hpbw hiv)
        have hws := HB.out.size
        have hsz : ps[k].inn.length ≤ ic := by
          obtain ⟨_, _, _, e, h, _⟩ := hpr.inn
          injection e with _ _ e2
          omega
        generalize hd : ds[k] = d at RA
        obtain ⟨c, out⟩ := d
        generalize hp : ps[k] = p at PC
        obtain ⟨code, inn⟩ := p
        have HD := Lib.hid hd
        have HPk := Lib.hid hp
        simp only at RA PC
        clear hra hso hc hpc hcv hiv hpr hd hp hsz
        go_wp2_with (first | (refine wpList_load_midA rfl 35 (.tmp 17) rfl b (off + k * 16) rfl (c.cs (.slice ao out.length oc)) _ RA.out Tryz.underlying35 rfl sizeCell ?_) | (refine wpList_store_rowW rfl 35 (.tmp 6) (.tmp 18) rfl wr.heap.size (c.cs (.slice ao out.length oc)) rfl rfl 35 (celZ.cs (.slice none 0 0)) (by repeat (first | exact Rw.new _ _ _ (by first | rfl | (simp; done) | omega | (simp; omega)) | refine Rw.alloc ?_ _)) sizeCell rfl (Cel.cs_one _ _ rfl) ?_))
        intro W HW
        have RW : Hid (Rw W wr.heap.size 35 (c.cs (.slice ao out.length oc))) := by
          show Rw _ _ _ _
          rw [HW.out]
          exact Rw.row (cs := celZ.cs (.slice none 0 0)) (by repeat (first | exact Rw.new _ _ _ (by first | rfl | (simp; done) | omega | (simp; omega)) | refine Rw.alloc ?_ _)) _
        have hzW : W.heap.size = wr.heap.size + 1 := by rw [HW.out]; simp
        have b0 : Below wr.heap.size wr W := by
          rw [HW.out]
          exact below_row ((Below.refl _ _).alloc (Nat.le_refl _) _) (Nat.le_refl _) _
        have PW := Lib.hid (bcl b0 (by omega) PC.out)
        have HBW := Lib.hid (HB.out.trans (b0.mono (by omega)))
        have hpbW : pb < W.heap.size := by omega
        clear HW RA PC HB b0
        have HCK := Lib.hid fun V => cellCheck_any c ao out.length oc V
        cases hf : c.fine out.length
        · have hce : c.err out.length = 1 := by unfold Cel.err; rw [hf]; rfl
          have HNO := Lib.hid (show cellsB ps ds = false from cellsB_no k hlp hlt (by rw [HD.out]; simp [celB, hf]))
          rw [hce] at HCK
          rw [Cel.v_cs] at HCK
          clear hf hce
          go_wp2
          refine region_still (S := fun w' => Below W.heap.size W w') 13 (by kernel_rfl) (Below.refl _ _).drew (fun hHeld => ?_)
          refine Still.takeBy (i := 0) [3, 1] (by kernel_rfl) (by kernel_rfl) rfl (by kernel_rfl) (by kernel_rfl) (by kernel_rfl) (fun _ _ _ h => h) (yields_load rfl _ _ rfl _ (by first | rfl | simp [Act.eval, Act.put]) _ (fun w' hSw => Rw.loadAt (RW.out.up hSw RW.out.lt) Tryz.underlying35 rfl sizeCell)) hHeld ?r11
          simp only [Act.put, List.getElem_toArray, List.getElem_cons_zero, List.getElem_cons_succ, List.setIfInBounds_toArray, List.set_cons_zero, List.set_cons_succ]
          refine Still.all (rs := [1]) (by kernel_rfl) (by simp) (Still.one (i := 1) rfl rfl (fun K hK => ?_) (by simp))
          refine wp_call 115 _ _ rfl ent_cellCheck #[.agg (c.cs (.slice ao out.length oc))] (by first | rfl | simp [Act.eval, Act.put]) ((HCK.out _).mono ?_)
          rintro e V1 ⟨rfl, bb⟩
          refine ⟨_, rfl, hK _ _ (fun _ => hHeld.trans (bb.mono hHeld.size)) (fun hh => ?_)⟩
          have hHeld := hh (by decide)
          clear hK K hh
          try simp only [Act.put, List.getElem_toArray, List.getElem_cons_zero, List.getElem_cons_succ, List.setIfInBounds_toArray, List.set_cons_zero, List.set_cons_succ]
          clear bb
          refine Still.takeBy (i := 2) [3] (v := ?v12) (by kernel_rfl) (by kernel_rfl) rfl (by kernel_rfl) (by kernel_rfl) (by kernel_rfl) (fun _ _ _ h => h) (Or.inl ⟨by rfl, ?y12⟩) hHeld ?r12
          case y12 => (intro w' hSw; (try dsimp only at hSw); go_simp; try with_reducible rfl)
          simp only [Act.put, List.getElem_toArray, List.getElem_cons_zero, List.getElem_cons_succ, List.setIfInBounds_toArray, List.set_cons_zero, List.set_cons_succ]
          refine Still.takeBy (i := 3) [] (v := ?v13) (by kernel_rfl) (by kernel_rfl) rfl (by kernel_rfl) (by kernel_rfl) (by kernel_rfl) (fun _ _ _ h => h) (Or.inl ⟨by rfl, ?y13⟩) hHeld ?r13
          case y13 => (intro w' hSw; (try dsimp only at hSw); go_simp; try with_reducible rfl)
          simp only [Act.put, List.getElem_toArray, List.getElem_cons_zero, List.getElem_cons_succ, List.setIfInBounds_toArray, List.set_cons_zero, List.set_cons_succ]
          refine Still.takeBy (i := 4) [12, 5] (by kernel_rfl) (by kernel_rfl) rfl (by kernel_rfl) (by kernel_rfl) (by kernel_rfl) (fun _ _ _ h => h) (Or.inr ⟨by rfl, rfl⟩) hHeld ?r14
          simp only [Act.put, List.getElem_toArray, List.getElem_cons_zero, List.getElem_cons_succ, List.setIfInBounds_toArray, List.set_cons_zero, List.set_cons_succ]
          refine Still.takeBy (i := 5) [12] (by kernel_rfl) (by kernel_rfl) rfl (by kernel_rfl) (by kernel_rfl) (by kernel_rfl) (fun _ _ _ h => h) (Or.inr ⟨by rfl, rfl⟩) hHeld ?r15
          simp only [Act.put, List.getElem_toArray, List.getElem_cons_zero, List.getElem_cons_succ, List.setIfInBounds_toArray, List.set_cons_zero, List.set_cons_succ]
          refine Still.takeBy (i := 6) [12, 11, 10, 9, 8] (by kernel_rfl) (by kernel_rfl) rfl (by kernel_rfl) (by kernel_rfl) (by kernel_rfl) (fun _ _ _ h => h) (Or.inr ⟨by rfl, rfl⟩) hHeld ?r16
          simp only [Act.put, List.getElem_toArray, List.getElem_cons_zero, List.getElem_cons_succ, List.setIfInBounds_toArray, List.set_cons_zero, List.set_cons_succ]
          refine Still.takeBy (i := 7) [12, 11, 10, 9, 8] (by kernel_rfl) (by kernel_rfl) rfl (by kernel_rfl) (by kernel_rfl) (by kernel_rfl) (fun _ _ _ h => h) (Or.inr ⟨by rfl, rfl⟩) hHeld ?r17
          simp only [Act.put, List.getElem_toArray, List.getElem_cons_zero, List.getElem_cons_succ, List.setIfInBounds_toArray, List.set_cons_zero, List.set_cons_succ]
          refine Still.takeBy (i := 8) [12, 11, 10, 9] (by kernel_rfl) (by kernel_rfl) rfl (by kernel_rfl) (by kernel_rfl) (by kernel_rfl) (fun _ _ _ h => h) (Or.inr ⟨by rfl, rfl⟩) hHeld ?r18
          simp only [Act.put, List.getElem_toArray, List.getElem_cons_zero, List.getElem_cons_succ, List.setIfInBounds_toArray, List.set_cons_zero, List.set_cons_succ]
          refine Still.takeBy (i := 9) [12, 11, 10] (by kernel_rfl) (by kernel_rfl) rfl (by kernel_rfl) (by kernel_rfl) (by kernel_rfl) (fun _ _ _ h => h) (Or.inr ⟨by rfl, rfl⟩) hHeld ?r19
          simp only [Act.put, List.getElem_toArray, List.getElem_cons_zero, List.getElem_cons_succ, List.setIfInBounds_toArray, List.set_cons_zero, List.set_cons_succ]
          refine Still.takeBy (i := 10) [12, 11] (by kernel_rfl) (by kernel_rfl) rfl (by kernel_rfl) (by kernel_rfl) (by kernel_rfl) (fun _ _ _ h => h) (Or.inr ⟨by rfl, rfl⟩) hHeld ?r20
          simp only [Act.put, List.getElem_toArray, List.getElem_cons_zero, List.getElem_cons_succ, List.setIfInBounds_toArray, List.set_cons_zero, List.set_cons_succ]
          refine Still.takeBy (i := 11) [12] (by kernel_rfl) (by kernel_rfl) rfl (by kernel_rfl) (by kernel_rfl) (by kernel_rfl) (fun _ _ _ h => h) (Or.inr ⟨by rfl, rfl⟩) hHeld ?r21
          simp only [Act.put, List.getElem_toArray, List.getElem_cons_zero, List.getElem_cons_succ, List.setIfInBounds_toArray, List.set_cons_zero, List.set_cons_succ]
          refine Still.takeBy (i := 12) [] (by kernel_rfl) (by kernel_rfl) rfl (by kernel_rfl) (by kernel_rfl) (by kernel_rfl) (fun _ _ _ h => h) (Or.inr ⟨by rfl, rfl⟩) hHeld ?r22
          simp only [Act.put, List.getElem_toArray, List.getElem_cons_zero, List.getElem_cons_succ, List.setIfInBounds_toArray, List.set_cons_zero, List.set_cons_succ]
          refine Still.all (rs := [13]) (by kernel_rfl) (by simp) (Still.one (i := 13) rfl rfl (fun K hK => ?_) (by simp))
          go_simp
          refine hK _ _ (fun h => absurd rfl h) (fun _ => ?_)
          clear hK K
          refine Still.over (by kernel_rfl) ?_ _
          have HL2 := Lib.hid (HBW.out.trans (hHeld.mono HBW.out.size))
          clear hHeld
          go_wp2
          go_ret
          exact ⟨ret_bool (by rw [← HR.out, HNO.out]), HL2.out⟩
        · have hce : c.err out.length = 0 := by unfold Cel.err; rw [hf]; rfl
          rw [hce] at HCK
          rw [Cel.v_cs] at HCK
          clear hce
          by_cases hrd : c.read ≤ inn.length
          · have HYES := Lib.hid (show celB ps[k] ds[k] = true by rw [HD.out, HPk.out]; simp [celB, hf, hrd])
            have B1 := Lib.hid (show decide ((inn.length : Int) < c.read) = false from decide_eq_false (by omega))
            clear hf hrd
            go_wp2
            refine region_still (S := fun w' => Below W.heap.size W w') 13 (by kernel_rfl) (Below.refl _ _).drew (fun hHeld => ?_)
            refine Still.takeBy (i := 0) [3, 1] (by kernel_rfl) (by kernel_rfl) rfl (by kernel_rfl) (by kernel_rfl) (by kernel_rfl) (fun _ _ _ h => h) (yields_load rfl _ _ rfl _ (by first | rfl | simp [Act.eval, Act.put]) _ (fun w' hSw => Rw.loadAt (RW.out.up hSw RW.out.lt) Tryz.underlying35 rfl sizeCell)) hHeld ?r41
            simp only [Act.put, List.getElem_toArray, List.getElem_cons_zero, List.getElem_cons_succ, List.setIfInBounds_toArray, List.set_cons_zero, List.set_cons_succ]
            refine Still.all (rs := [1]) (by kernel_rfl) (by simp) (Still.one (i := 1) rfl rfl (fun K hK => ?_) (by simp))
            refine wp_call 115 _ _ rfl ent_cellCheck #[.agg (c.cs (.slice ao out.length oc))] (by first | rfl | simp [Act.eval, Act.put]) ((HCK.out _).mono ?_)
            rintro e V1 ⟨rfl, bb⟩
            refine ⟨_, rfl, hK _ _ (fun _ => hHeld.trans (bb.mono hHeld.size)) (fun hh => ?_)⟩
            have hHeld := hh (by decide)
            clear hK K hh
            try simp only [Act.put, List.getElem_toArray, List.getElem_cons_zero, List.getElem_cons_succ, List.setIfInBounds_toArray, List.set_cons_zero, List.set_cons_succ]
            clear bb
            refine Still.takeBy (i := 2) [3] (v := ?v42) (by kernel_rfl) (by kernel_rfl) rfl (by kernel_rfl) (by kernel_rfl) (by kernel_rfl) (fun _ _ _ h => h) (Or.inl ⟨by rfl, ?y42⟩) hHeld ?r42
            case y42 => (intro w' hSw; (try dsimp only at hSw); go_simp; try with_reducible rfl)
            simp only [Act.put, List.getElem_toArray, List.getElem_cons_zero, List.getElem_cons_succ, List.setIfInBounds_toArray, List.set_cons_zero, List.set_cons_succ]
            refine Still.takeBy (i := 3) [] (v := ?v43) (by kernel_rfl) (by kernel_rfl) rfl (by kernel_rfl) (by kernel_rfl) (by kernel_rfl) (fun _ _ _ h => h) (Or.inl ⟨by rfl, ?y43⟩) hHeld ?r43
            case y43 => (intro w' hSw; (try dsimp only at hSw); go_simp; try with_reducible rfl)
            simp only [Act.put, List.getElem_toArray, List.getElem_cons_zero, List.getElem_cons_succ, List.setIfInBounds_toArray, List.set_cons_zero, List.set_cons_succ]
            refine Still.takeBy (i := 4) [12, 5] (v := ?v44) (by kernel_rfl) (by kernel_rfl) rfl (by kernel_rfl) (by kernel_rfl) (by kernel_rfl) (fun _ _ _ h => h) (Or.inl ⟨by rfl, ?y44⟩) hHeld ?r44
            case y44 => (intro w' hSw; (try dsimp only at hSw); have q1 := (RW.out.up hSw RW.out.lt).cell (j := 13) (v := .int .i64 c.read) rfl; have q2 := bcl hSw hpbW PW.out; clear hSw; go_simp; (try simp only [B1.out]); try with_reducible rfl)
            simp only [Act.put, List.getElem_toArray, List.getElem_cons_zero, List.getElem_cons_succ, List.setIfInBounds_toArray, List.set_cons_zero, List.set_cons_succ]
            refine Still.takeBy (i := 5) [12] (v := ?v45) (by kernel_rfl) (by kernel_rfl) rfl (by kernel_rfl) (by kernel_rfl) (by kernel_rfl) (fun _ _ _ h => h) (Or.inl ⟨by rfl, ?y45⟩) hHeld ?r45
            case y45 => (intro w' hSw; (try dsimp only at hSw); have q1 := (RW.out.up hSw RW.out.lt).cell (j := 13) (v := .int .i64 c.read) rfl; have q2 := bcl hSw hpbW PW.out; clear hSw; go_simp; (try simp only [B1.out]); try with_reducible rfl)
            simp only [Act.put, List.getElem_toArray, List.getElem_cons_zero, List.getElem_cons_succ, List.setIfInBounds_toArray, List.set_cons_zero, List.set_cons_succ]
            refine Still.takeBy (i := 6) [12, 11, 10, 9, 8] (v := ?v46) (by kernel_rfl) (by kernel_rfl) rfl (by kernel_rfl) (by kernel_rfl) (by kernel_rfl) (fun _ _ _ h => h) (Or.inl ⟨by rfl, ?y46⟩) hHeld ?r46
            case y46 => (intro w' hSw; (try dsimp only at hSw); have q1 := (RW.out.up hSw RW.out.lt).cell (j := 13) (v := .int .i64 c.read) rfl; have q2 := bcl hSw hpbW PW.out; clear hSw; go_simp; (try simp only [B1.out]); try with_reducible rfl)
            simp only [Act.put, List.getElem_toArray, List.getElem_cons_zero, List.getElem_cons_succ, List.setIfInBounds_toArray, List.set_cons_zero, List.set_cons_succ]
            refine Still.takeBy (i := 7) [12, 11, 10, 9, 8] (v := ?v47) (by kernel_rfl) (by kernel_rfl) rfl (by kernel_rfl) (by kernel_rfl) (by kernel_rfl) (fun _ _ _ h => h) (Or.inl ⟨by rfl, ?y47⟩) hHeld ?r47
            case y47 => (intro w' hSw; (try dsimp only at hSw); have q1 := (RW.out.up hSw RW.out.lt).cell (j := 13) (v := .int .i64 c.read) rfl; have q2 := bcl hSw hpbW PW.out; clear hSw; go_simp; (try simp only [B1.out]); try with_reducible rfl)
            simp only [Act.put, List.getElem_toArray, List.getElem_cons_zero, List.getElem_cons_succ, List.setIfInBounds_toArray, List.set_cons_zero, List.set_cons_succ]
            refine Still.takeBy (i := 8) [12, 11, 10, 9] (v := ?v48) (by kernel_rfl) (by kernel_rfl) rfl (by kernel_rfl) (by kernel_rfl) (by kernel_rfl) (fun _ _ _ h => h) (Or.inl ⟨by rfl, ?y48⟩) hHeld ?r48
            case y48 => (intro w' hSw; (try dsimp only at hSw); have q1 := (RW.out.up hSw RW.out.lt).cell (j := 13) (v := .int .i64 c.read) rfl; have q2 := bcl hSw hpbW PW.out; clear hSw; go_simp; (try simp only [B1.out]); try with_reducible rfl)
            simp only [Act.put, List.getElem_toArray, List.getElem_cons_zero, List.getElem_cons_succ, List.setIfInBounds_toArray, List.set_cons_zero, List.set_cons_succ]
            refine Still.takeBy (i := 9) [12, 11, 10] (v := ?v49) (by kernel_rfl) (by kernel_rfl) rfl (by kernel_rfl) (by kernel_rfl) (by kernel_rfl) (fun _ _ _ h => h) (Or.inl ⟨by rfl, ?y49⟩) hHeld ?r49
            case y49 => (intro w' hSw; (try dsimp only at hSw); have q1 := (RW.out.up hSw RW.out.lt).cell (j := 13) (v := .int .i64 c.read) rfl; have q2 := bcl hSw hpbW PW.out; clear hSw; go_simp; (try simp only [B1.out]); try with_reducible rfl)
            simp only [Act.put, List.getElem_toArray, List.getElem_cons_zero, List.getElem_cons_succ, List.setIfInBounds_toArray, List.set_cons_zero, List.set_cons_succ]
            refine Still.takeBy (i := 10) [12, 11] (v := ?v50) (by kernel_rfl) (by kernel_rfl) rfl (by kernel_rfl) (by kernel_rfl) (by kernel_rfl) (fun _ _ _ h => h) (Or.inl ⟨by rfl, ?y50⟩) hHeld ?r50
            case y50 => (intro w' hSw; (try dsimp only at hSw); have q1 := (RW.out.up hSw RW.out.lt).cell (j := 13) (v := .int .i64 c.read) rfl; have q2 := bcl hSw hpbW PW.out; clear hSw; go_simp; (try simp only [B1.out]); try with_reducible rfl)
            simp only [Act.put, List.getElem_toArray, List.getElem_cons_zero, List.getElem_cons_succ, List.setIfInBounds_toArray, List.set_cons_zero, List.set_cons_succ]
            refine Still.takeBy (i := 11) [12] (v := ?v51) (by kernel_rfl) (by kernel_rfl) rfl (by kernel_rfl) (by kernel_rfl) (by kernel_rfl) (fun _ _ _ h => h) (Or.inl ⟨by rfl, ?y51⟩) hHeld ?r51
            case y51 => (intro w' hSw; (try dsimp only at hSw); have q1 := (RW.out.up hSw RW.out.lt).cell (j := 13) (v := .int .i64 c.read) rfl; have q2 := bcl hSw hpbW PW.out; clear hSw; go_simp; (try simp only [B1.out]); try with_reducible rfl)
            simp only [Act.put, List.getElem_toArray, List.getElem_cons_zero, List.getElem_cons_succ, List.setIfInBounds_toArray, List.set_cons_zero, List.set_cons_succ]
            refine Still.takeBy (i := 12) [] (v := ?v52) (by kernel_rfl) (by kernel_rfl) rfl (by kernel_rfl) (by kernel_rfl) (by kernel_rfl) (fun _ _ _ h => h) (Or.inl ⟨by rfl, ?y52⟩) hHeld ?r52
            case y52 => (intro w' hSw; (try dsimp only at hSw); have q1 := (RW.out.up hSw RW.out.lt).cell (j := 13) (v := .int .i64 c.read) rfl; have q2 := bcl hSw hpbW PW.out; clear hSw; go_simp; (try simp only [B1.out]); try with_reducible rfl)
            simp only [Act.put, List.getElem_toArray, List.getElem_cons_zero, List.getElem_cons_succ, List.setIfInBounds_toArray, List.set_cons_zero, List.set_cons_succ]
            refine Still.all (rs := [13]) (by kernel_rfl) (by simp) (Still.one (i := 13) rfl rfl (fun K hK => ?_) (by simp))
            go_simp
            refine hK _ _ (fun h => absurd rfl h) (fun _ => ?_)
            clear hK K
            refine Still.over (by kernel_rfl) ?_ _
            have HL2 := Lib.hid (HBW.out.trans (hHeld.mono HBW.out.size))
            clear hHeld
            go_wp2
            go_roundw
            case rel => exact ⟨k + 1, by go_num, by omega, Lib.hid (fun j h h' hj => by
              rcases Nat.lt_or_ge j k with h1 | h1
              · exact HZ.out j h h' h1
              · obtain rfl : j = k := by omega
                exact HYES.out), HL2⟩
            case measure => simp [intOf]; omega
          · have HNO := Lib.hid (show cellsB ps ds = false from cellsB_no k hlp hlt (by rw [HD.out, HPk.out]; simp [celB]; intro; omega))
            have B1 := Lib.hid (show decide ((inn.length : Int) < c.read) = true from decide_eq_true (by omega))
            clear hf hrd
            go_wp2
            refine region_still (S := fun w' => Below W.heap.size W w') 13 (by kernel_rfl) (Below.refl _ _).drew (fun hHeld => ?_)
            refine Still.takeBy (i := 0) [3, 1] (by kernel_rfl) (by kernel_rfl) rfl (by kernel_rfl) (by kernel_rfl) (by kernel_rfl) (fun _ _ _ h => h) (yields_load rfl _ _ rfl _ (by first | rfl | simp [Act.eval, Act.put]) _ (fun w' hSw => Rw.loadAt (RW.out.up hSw RW.out.lt) Tryz.underlying35 rfl sizeCell)) hHeld ?r71
            simp only [Act.put, List.getElem_toArray, List.getElem_cons_zero, List.getElem_cons_succ, List.setIfInBounds_toArray, List.set_cons_zero, List.set_cons_succ]
            refine Still.all (rs := [1]) (by kernel_rfl) (by simp) (Still.one (i := 1) rfl rfl (fun K hK => ?_) (by simp))
            refine wp_call 115 _ _ rfl ent_cellCheck #[.agg (c.cs (.slice ao out.length oc))] (by first | rfl | simp [Act.eval, Act.put]) ((HCK.out _).mono ?_)
            rintro e V1 ⟨rfl, bb⟩
            refine ⟨_, rfl, hK _ _ (fun _ => hHeld.trans (bb.mono hHeld.size)) (fun hh => ?_)⟩
            have hHeld := hh (by decide)
            clear hK K hh
            try simp only [Act.put, List.getElem_toArray, List.getElem_cons_zero, List.getElem_cons_succ, List.setIfInBounds_toArray, List.set_cons_zero, List.set_cons_succ]
            clear bb
            refine Still.takeBy (i := 2) [3] (v := ?v72) (by kernel_rfl) (by kernel_rfl) rfl (by kernel_rfl) (by kernel_rfl) (by kernel_rfl) (fun _ _ _ h => h) (Or.inl ⟨by rfl, ?y72⟩) hHeld ?r72
            case y72 => (intro w' hSw; (try dsimp only at hSw); go_simp; try with_reducible rfl)
            simp only [Act.put, List.getElem_toArray, List.getElem_cons_zero, List.getElem_cons_succ, List.setIfInBounds_toArray, List.set_cons_zero, List.set_cons_succ]
            refine Still.takeBy (i := 3) [] (v := ?v73) (by kernel_rfl) (by kernel_rfl) rfl (by kernel_rfl) (by kernel_rfl) (by kernel_rfl) (fun _ _ _ h => h) (Or.inl ⟨by rfl, ?y73⟩) hHeld ?r73
            case y73 => (intro w' hSw; (try dsimp only at hSw); go_simp; try with_reducible rfl)
            simp only [Act.put, List.getElem_toArray, List.getElem_cons_zero, List.getElem_cons_succ, List.setIfInBounds_toArray, List.set_cons_zero, List.set_cons_succ]
            refine Still.takeBy (i := 4) [12, 5] (v := ?v74) (by kernel_rfl) (by kernel_rfl) rfl (by kernel_rfl) (by kernel_rfl) (by kernel_rfl) (fun _ _ _ h => h) (Or.inl ⟨by rfl, ?y74⟩) hHeld ?r74
            case y74 => (intro w' hSw; (try dsimp only at hSw); have q1 := (RW.out.up hSw RW.out.lt).cell (j := 13) (v := .int .i64 c.read) rfl; have q2 := bcl hSw hpbW PW.out; clear hSw; go_simp; (try simp only [B1.out]); try with_reducible rfl)
            simp only [Act.put, List.getElem_toArray, List.getElem_cons_zero, List.getElem_cons_succ, List.setIfInBounds_toArray, List.set_cons_zero, List.set_cons_succ]
            refine Still.takeBy (i := 5) [12] (v := ?v75) (by kernel_rfl) (by kernel_rfl) rfl (by kernel_rfl) (by kernel_rfl) (by kernel_rfl) (fun _ _ _ h => h) (Or.inl ⟨by rfl, ?y75⟩) hHeld ?r75
            case y75 => (intro w' hSw; (try dsimp only at hSw); have q1 := (RW.out.up hSw RW.out.lt).cell (j := 13) (v := .int .i64 c.read) rfl; have q2 := bcl hSw hpbW PW.out; clear hSw; go_simp; (try simp only [B1.out]); try with_reducible rfl)
            simp only [Act.put, List.getElem_toArray, List.getElem_cons_zero, List.getElem_cons_succ, List.setIfInBounds_toArray, List.set_cons_zero, List.set_cons_succ]
            refine Still.takeBy (i := 6) [12, 11, 10, 9, 8] (v := ?v76) (by kernel_rfl) (by kernel_rfl) rfl (by kernel_rfl) (by kernel_rfl) (by kernel_rfl) (fun _ _ _ h => h) (Or.inl ⟨by rfl, ?y76⟩) hHeld ?r76
            case y76 => (intro w' hSw; (try dsimp only at hSw); have q1 := (RW.out.up hSw RW.out.lt).cell (j := 13) (v := .int .i64 c.read) rfl; have q2 := bcl hSw hpbW PW.out; clear hSw; go_simp; (try simp only [B1.out]); try with_reducible rfl)
            simp only [Act.put, List.getElem_toArray, List.getElem_cons_zero, List.getElem_cons_succ, List.setIfInBounds_toArray, List.set_cons_zero, List.set_cons_succ]
            refine Still.takeBy (i := 7) [12, 11, 10, 9, 8] (v := ?v77) (by kernel_rfl) (by kernel_rfl) rfl (by kernel_rfl) (by kernel_rfl) (by kernel_rfl) (fun _ _ _ h => h) (Or.inl ⟨by rfl, ?y77⟩) hHeld ?r77
            case y77 => (intro w' hSw; (try dsimp only at hSw); have q1 := (RW.out.up hSw RW.out.lt).cell (j := 13) (v := .int .i64 c.read) rfl; have q2 := bcl hSw hpbW PW.out; clear hSw; go_simp; (try simp only [B1.out]); try with_reducible rfl)
            simp only [Act.put, List.getElem_toArray, List.getElem_cons_zero, List.getElem_cons_succ, List.setIfInBounds_toArray, List.set_cons_zero, List.set_cons_succ]
            refine Still.takeBy (i := 8) [12, 11, 10, 9] (v := ?v78) (by kernel_rfl) (by kernel_rfl) rfl (by kernel_rfl) (by kernel_rfl) (by kernel_rfl) (fun _ _ _ h => h) (Or.inl ⟨by rfl, ?y78⟩) hHeld ?r78
            case y78 => (intro w' hSw; (try dsimp only at hSw); have q1 := (RW.out.up hSw RW.out.lt).cell (j := 13) (v := .int .i64 c.read) rfl; have q2 := bcl hSw hpbW PW.out; clear hSw; go_simp; (try simp only [B1.out]); try with_reducible rfl)
            simp only [Act.put, List.getElem_toArray, List.getElem_cons_zero, List.getElem_cons_succ, List.setIfInBounds_toArray, List.set_cons_zero, List.set_cons_succ]
            refine Still.takeBy (i := 9) [12, 11, 10] (v := ?v79) (by kernel_rfl) (by kernel_rfl) rfl (by kernel_rfl) (by kernel_rfl) (by kernel_rfl) (fun _ _ _ h => h) (Or.inl ⟨by rfl, ?y79⟩) hHeld ?r79
            case y79 => (intro w' hSw; (try dsimp only at hSw); have q1 := (RW.out.up hSw RW.out.lt).cell (j := 13) (v := .int .i64 c.read) rfl; have q2 := bcl hSw hpbW PW.out; clear hSw; go_simp; (try simp only [B1.out]); try with_reducible rfl)
            simp only [Act.put, List.getElem_toArray, List.getElem_cons_zero, List.getElem_cons_succ, List.setIfInBounds_toArray, List.set_cons_zero, List.set_cons_succ]
            refine Still.takeBy (i := 10) [12, 11] (v := ?v80) (by kernel_rfl) (by kernel_rfl) rfl (by kernel_rfl) (by kernel_rfl) (by kernel_rfl) (fun _ _ _ h => h) (Or.inl ⟨by rfl, ?y80⟩) hHeld ?r80
            case y80 => (intro w' hSw; (try dsimp only at hSw); have q1 := (RW.out.up hSw RW.out.lt).cell (j := 13) (v := .int .i64 c.read) rfl; have q2 := bcl hSw hpbW PW.out; clear hSw; go_simp; (try simp only [B1.out]); try with_reducible rfl)
            simp only [Act.put, List.getElem_toArray, List.getElem_cons_zero, List.getElem_cons_succ, List.setIfInBounds_toArray, List.set_cons_zero, List.set_cons_succ]
            refine Still.takeBy (i := 11) [12] (v := ?v81) (by kernel_rfl) (by kernel_rfl) rfl (by kernel_rfl) (by kernel_rfl) (by kernel_rfl) (fun _ _ _ h => h) (Or.inl ⟨by rfl, ?y81⟩) hHeld ?r81
            case y81 => (intro w' hSw; (try dsimp only at hSw); have q1 := (RW.out.up hSw RW.out.lt).cell (j := 13) (v := .int .i64 c.read) rfl; have q2 := bcl hSw hpbW PW.out; clear hSw; go_simp; (try simp only [B1.out]); try with_reducible rfl)
            simp only [Act.put, List.getElem_toArray, List.getElem_cons_zero, List.getElem_cons_succ, List.setIfInBounds_toArray, List.set_cons_zero, List.set_cons_succ]
            refine Still.takeBy (i := 12) [] (v := ?v82) (by kernel_rfl) (by kernel_rfl) rfl (by kernel_rfl) (by kernel_rfl) (by kernel_rfl) (fun _ _ _ h => h) (Or.inl ⟨by rfl, ?y82⟩) hHeld ?r82
            case y82 => (intro w' hSw; (try dsimp only at hSw); have q1 := (RW.out.up hSw RW.out.lt).cell (j := 13) (v := .int .i64 c.read) rfl; have q2 := bcl hSw hpbW PW.out; clear hSw; go_simp; (try simp only [B1.out]); try with_reducible rfl)
            simp only [Act.put, List.getElem_toArray, List.getElem_cons_zero, List.getElem_cons_succ, List.setIfInBounds_toArray, List.set_cons_zero, List.set_cons_succ]
            refine Still.all (rs := [13]) (by kernel_rfl) (by simp) (Still.one (i := 13) rfl rfl (fun K hK => ?_) (by simp))
            go_simp
            refine hK _ _ (fun h => absurd rfl h) (fun _ => ?_)
            clear hK K
            refine Still.over (by kernel_rfl) ?_ _
            have HL2 := Lib.hid (HBW.out.trans (hHeld.mono HBW.out.size))
            clear hHeld
            go_wp2
            go_ret
            exact ⟨ret_bool (by rw [← HR.out, HNO.out]), HL2.out⟩
      · have hli : ¬ (k : Int) < ds.length := by omega
        have HYES := Lib.hid (show cellsB ps ds = true from cellsB_yes HL.out (fun j h h' => HZ.out j h h' (by omega)))
        go_wp2
        go_ret
        exact ⟨ret_bool (by rw [← HR.out, HYES.out]), HB.out⟩
  · have he' : ((ds.length : Int) != ps.length) = true := by simp; omega
    have HNO : Hid (cellsB ps ds = false) := by
      show _ = _
      cases e : cellsB ps ds with
      | false => rfl
      | true => exact absurd (cellsB_len e) he
    clear he
    go_enter Tryz.func74, Tryz.ntmps74
    go_wp2
    go_ret
    exact ⟨ret_bool (by rw [← HR.out, HNO.out]), Below.refl _ _⟩
end Go.Proofs.YtehhhiodfcdnmaaGreatDoor

namespace Go.Proofs.YtehhhiodfcdnmaaGreatDoor
set_option linter.unusedSimpArgs false
set_option linter.unusedVariables false
open Go.RowKit Go.Sort
theorem ent_lineCheck : Enters 116 := enters Tryz.func116 (by kernel_rfl) (by kernel_rfl)
set_option maxRecDepth 100000 in
set_option maxHeartbeats 8000000 in
theorem rightLines_any (cs : List Chn) (ls : List (List Int)) (v u : Value) (hl : cs.length ≤ 6) (w : World) (hP : Sl w 3 v cs.length (rowC chC cs)) (hC : LinesR w u ls) (r : Bool) (hr : linesB cs ls = r) :
    Calls Tryz.prog 75 #[v, u] w fun e w' => e = .returned (.bool r) ∧ Below w.heap.size w w' := by
  obtain ⟨pa, pc, rfl⟩ := hP.form
  obtain ⟨ca, cc, rfl⟩ := hC.form
  have HP := Lib.hid hP
  have HC := Lib.hid hC
  have HR := Lib.hid hr
  clear hP hC hr
  by_cases he : ls.length = cs.length
  · have he' : ((ls.length : Int) != cs.length) = false := by simp; omega
    have HL := Lib.hid he
    clear he
    go_enter Tryz.func75, Tryz.ntmps75
    go_wp2
    go_loopw [14] (fun i wr => ∃ k : Nat, i = .int .i64 k ∧ k ≤ ls.length ∧ Hid (∀ j (h : j < cs.length) (h' : j < ls.length), j < k → chkL cs[j].kd ls[j].length = 0) ∧ Hid (Below w.heap.size w wr)) (fun i _ => ls.length - (intOf i).toNat)
    case atStart => exact ⟨0, rfl, Nat.zero_le _, Lib.hid (fun j h h' h0 => by omega), Lib.hid (Below.refl _ _)⟩
    case round =>
      obtain ⟨k, rfl, hk, HZ, HB⟩ := hrel
      by_cases hlt : k < ls.length
      · have hli : (k : Int) < ls.length := by omega
        have hlp : k < cs.length := by have := HL.out; omega
        have hlip : (k : Int) < cs.length := by omega
        obtain ⟨b, off, cap, e1, hcap, hbw, hc⟩ := HC.out.open (by omega)
        cases e1
        obtain ⟨ao, oc, hra, hso⟩ := hc k hlt
        obtain ⟨pb, po, pcap, e2, hpcap, hpbw, hpc⟩ := HP.out.open (by omega)
        cases e2
        obtain ⟨hkd, _, _⟩ := chan_cells hpc k hlp
        have ra := bcl HB.out hbw hra
        have PC := Lib.hid (bcl HB.out hpbw hkd)
        have hws := HB.out.size
        have hbr : b < wr.heap.size := by omega
        have hbr' : b ≠ wr.heap.size := by omega
        generalize hd : ls[k] = l at ra
        generalize hp : cs[k] = p at PC
        obtain ⟨kd, fr, tt⟩ := p
        have HD := Lib.hid hd
        have HPk := Lib.hid hp
        simp only at PC
        clear hra hso hc hpc hkd hd hp
        go_wp2
        generalize hW : World.alloc _ _ = W
        have RW : Hid (Rw W wr.heap.size 81 #[.slice ao l.length oc]) := by
          show Rw _ _ _ _
          rw [← hW]
          exact (by repeat (first | exact Rw.new _ _ _ (by first | rfl | (simp; done) | omega | (simp; omega)) | refine Rw.alloc ?_ _))
        have b0 : Below wr.heap.size wr W := by rw [← hW]; exact (Below.refl _ _).alloc (Nat.le_refl _) _
        have hzW : W.heap.size = wr.heap.size + 1 := by rw [← hW]; simp
        have PW := Lib.hid (bcl b0 (by omega) PC.out)
        have HBW := Lib.hid (HB.out.trans (b0.mono (by omega)))
        have hpbW : pb < W.heap.size := by omega
        clear hW ra PC HB b0
        obtain ⟨e0, hce⟩ : ∃ e0, chkL kd l.length = e0 := ⟨_, rfl⟩
        have HCK := Lib.hid fun V => chkLine_any kd ao l.length oc V e0 hce
        have HCE := Lib.hid hce
        clear hce
        by_cases h0 : e0 = 0
        · subst h0
          have HYES := Lib.hid (show chkL cs[k].kd ls[k].length = 0 by rw [HD.out, HPk.out]; exact HCE.out)
          refine region_still (S := fun w' => Below W.heap.size W w') 7 (by kernel_rfl) (Below.refl _ _).drew (fun hHeld => ?_)
          refine Still.takeBy (i := 0) [6, 4, 3, 2] (v := ?v11) (by kernel_rfl) (by kernel_rfl) rfl (by kernel_rfl) (by kernel_rfl) (by kernel_rfl) (fun _ _ _ h => h) (Or.inl ⟨by rfl, ?y11⟩) hHeld ?r11
          case y11 => (intro w' hSw; (try dsimp only at hSw); have q1 := (RW.out.up hSw RW.out.lt).cell (j := 0) (v := .slice ao l.length oc) rfl; have q2 := bcl hSw hpbW PW.out; clear hSw; go_simp; try with_reducible rfl)
          simp only [Act.put, List.getElem_toArray, List.getElem_cons_zero, List.getElem_cons_succ, List.setIfInBounds_toArray, List.set_cons_zero, List.set_cons_succ]
          refine Still.takeBy (i := 1) [6, 4, 3, 2] (v := ?v12) (by kernel_rfl) (by kernel_rfl) rfl (by kernel_rfl) (by kernel_rfl) (by kernel_rfl) (fun _ _ _ h => h) (Or.inl ⟨by rfl, ?y12⟩) hHeld ?r12
          case y12 => (intro w' hSw; (try dsimp only at hSw); have q1 := (RW.out.up hSw RW.out.lt).cell (j := 0) (v := .slice ao l.length oc) rfl; have q2 := bcl hSw hpbW PW.out; clear hSw; go_simp; try with_reducible rfl)
          simp only [Act.put, List.getElem_toArray, List.getElem_cons_zero, List.getElem_cons_succ, List.setIfInBounds_toArray, List.set_cons_zero, List.set_cons_succ]
          refine Still.takeBy (i := 2) [6, 4, 3] (v := ?v13) (by kernel_rfl) (by kernel_rfl) rfl (by kernel_rfl) (by kernel_rfl) (by kernel_rfl) (fun _ _ _ h => h) (Or.inl ⟨by rfl, ?y13⟩) hHeld ?r13
          case y13 => (intro w' hSw; (try dsimp only at hSw); have q1 := (RW.out.up hSw RW.out.lt).cell (j := 0) (v := .slice ao l.length oc) rfl; have q2 := bcl hSw hpbW PW.out; clear hSw; go_simp; try with_reducible rfl)
          simp only [Act.put, List.getElem_toArray, List.getElem_cons_zero, List.getElem_cons_succ, List.setIfInBounds_toArray, List.set_cons_zero, List.set_cons_succ]
          refine Still.takeBy (i := 3) [6, 4] (v := ?v14) (by kernel_rfl) (by kernel_rfl) rfl (by kernel_rfl) (by kernel_rfl) (by kernel_rfl) (fun _ _ _ h => h) (Or.inl ⟨by rfl, ?y14⟩) hHeld ?r14
          case y14 => (intro w' hSw; (try dsimp only at hSw); have q1 := (RW.out.up hSw RW.out.lt).cell (j := 0) (v := .slice ao l.length oc) rfl; have q2 := bcl hSw hpbW PW.out; clear hSw; go_simp; try with_reducible rfl)
          simp only [Act.put, List.getElem_toArray, List.getElem_cons_zero, List.getElem_cons_succ, List.setIfInBounds_toArray, List.set_cons_zero, List.set_cons_succ]
          refine Still.takeBy (i := 4) [6] (v := ?v15) (by kernel_rfl) (by kernel_rfl) rfl (by kernel_rfl) (by kernel_rfl) (by kernel_rfl) (fun _ _ _ h => h) (Or.inl ⟨by rfl, ?y15⟩) hHeld ?r15
          case y15 => (intro w' hSw; (try dsimp only at hSw); have q1 := (RW.out.up hSw RW.out.lt).cell (j := 0) (v := .slice ao l.length oc) rfl; have q2 := bcl hSw hpbW PW.out; clear hSw; go_simp; try with_reducible rfl)
          simp only [Act.put, List.getElem_toArray, List.getElem_cons_zero, List.getElem_cons_succ, List.setIfInBounds_toArray, List.set_cons_zero, List.set_cons_succ]
          refine Still.takeBy (i := 5) [6] (v := ?v16) (by kernel_rfl) (by kernel_rfl) rfl (by kernel_rfl) (by kernel_rfl) (by kernel_rfl) (fun _ _ _ h => h) (Or.inl ⟨by rfl, ?y16⟩) hHeld ?r16
          case y16 => (intro w' hSw; (try dsimp only at hSw); have q1 := (RW.out.up hSw RW.out.lt).cell (j := 0) (v := .slice ao l.length oc) rfl; have q2 := bcl hSw hpbW PW.out; clear hSw; go_simp; try with_reducible rfl)
          simp only [Act.put, List.getElem_toArray, List.getElem_cons_zero, List.getElem_cons_succ, List.setIfInBounds_toArray, List.set_cons_zero, List.set_cons_succ]
          refine Still.all (rs := [6]) (by kernel_rfl) (by simp) (Still.one (i := 6) rfl rfl (fun K hK => ?_) (by simp))
          refine wp_call 116 _ _ rfl ent_lineCheck #[.int .i64 kd, .agg #[.slice ao l.length oc]] (by first | rfl | simp [Act.eval, Act.put]) ((HCK.out _).mono ?_)
          rintro e V1 ⟨rfl, bb⟩
          refine ⟨_, rfl, hK _ _ (fun _ => hHeld.trans (bb.mono hHeld.size)) (fun hh => ?_)⟩
          have hHeld := hh (by decide)
          clear hK K hh
          try simp only [Act.put, List.getElem_toArray, List.getElem_cons_zero, List.getElem_cons_succ, List.setIfInBounds_toArray, List.set_cons_zero, List.set_cons_succ]
          clear bb
          refine Still.all (rs := [7]) (by kernel_rfl) (by simp) (Still.one (i := 7) rfl rfl (fun K hK => ?_) (by simp))
          go_simp
          refine hK _ _ (fun h => absurd rfl h) (fun _ => ?_)
          clear hK K
          refine Still.over (by kernel_rfl) ?_ _
          have HL2 := Lib.hid (HBW.out.trans (hHeld.mono HBW.out.size))
          clear hHeld
          go_wp2
          go_roundw
          case rel => exact ⟨k + 1, by go_num, by omega, Lib.hid (fun j h h' hj => by
            rcases Nat.lt_or_ge j k with h1 | h1
            · exact HZ.out j h h' h1
            · obtain rfl : j = k := by omega
              exact HYES.out), HL2⟩
          case measure => simp [intOf]; omega
        · have h0' : (e0 != 0) = true := by simpa using h0
          have HNO := Lib.hid (show linesB cs ls = false from linesB_no k hlp hlt (by rw [HD.out, HPk.out]; show chkL kd l.length ≠ 0; rw [HCE.out]; exact h0))
          clear h0
          refine region_still (S := fun w' => Below W.heap.size W w') 7 (by kernel_rfl) (Below.refl _ _).drew (fun hHeld => ?_)
          refine Still.takeBy (i := 0) [6, 4, 3, 2] (v := ?v41) (by kernel_rfl) (by kernel_rfl) rfl (by kernel_rfl) (by kernel_rfl) (by kernel_rfl) (fun _ _ _ h => h) (Or.inl ⟨by rfl, ?y41⟩) hHeld ?r41
          case y41 => (intro w' hSw; (try dsimp only at hSw); have q1 := (RW.out.up hSw RW.out.lt).cell (j := 0) (v := .slice ao l.length oc) rfl; have q2 := bcl hSw hpbW PW.out; clear hSw; go_simp; try with_reducible rfl)
          simp only [Act.put, List.getElem_toArray, List.getElem_cons_zero, List.getElem_cons_succ, List.setIfInBounds_toArray, List.set_cons_zero, List.set_cons_succ]
          refine Still.takeBy (i := 1) [6, 4, 3, 2] (v := ?v42) (by kernel_rfl) (by kernel_rfl) rfl (by kernel_rfl) (by kernel_rfl) (by kernel_rfl) (fun _ _ _ h => h) (Or.inl ⟨by rfl, ?y42⟩) hHeld ?r42
          case y42 => (intro w' hSw; (try dsimp only at hSw); have q1 := (RW.out.up hSw RW.out.lt).cell (j := 0) (v := .slice ao l.length oc) rfl; have q2 := bcl hSw hpbW PW.out; clear hSw; go_simp; try with_reducible rfl)
          simp only [Act.put, List.getElem_toArray, List.getElem_cons_zero, List.getElem_cons_succ, List.setIfInBounds_toArray, List.set_cons_zero, List.set_cons_succ]
          refine Still.takeBy (i := 2) [6, 4, 3] (v := ?v43) (by kernel_rfl) (by kernel_rfl) rfl (by kernel_rfl) (by kernel_rfl) (by kernel_rfl) (fun _ _ _ h => h) (Or.inl ⟨by rfl, ?y43⟩) hHeld ?r43
          case y43 => (intro w' hSw; (try dsimp only at hSw); have q1 := (RW.out.up hSw RW.out.lt).cell (j := 0) (v := .slice ao l.length oc) rfl; have q2 := bcl hSw hpbW PW.out; clear hSw; go_simp; try with_reducible rfl)
          simp only [Act.put, List.getElem_toArray, List.getElem_cons_zero, List.getElem_cons_succ, List.setIfInBounds_toArray, List.set_cons_zero, List.set_cons_succ]
          refine Still.takeBy (i := 3) [6, 4] (v := ?v44) (by kernel_rfl) (by kernel_rfl) rfl (by kernel_rfl) (by kernel_rfl) (by kernel_rfl) (fun _ _ _ h => h) (Or.inl ⟨by rfl, ?y44⟩) hHeld ?r44
          case y44 => (intro w' hSw; (try dsimp only at hSw); have q1 := (RW.out.up hSw RW.out.lt).cell (j := 0) (v := .slice ao l.length oc) rfl; have q2 := bcl hSw hpbW PW.out; clear hSw; go_simp; try with_reducible rfl)
          simp only [Act.put, List.getElem_toArray, List.getElem_cons_zero, List.getElem_cons_succ, List.setIfInBounds_toArray, List.set_cons_zero, List.set_cons_succ]
          refine Still.takeBy (i := 4) [6] (v := ?v45) (by kernel_rfl) (by kernel_rfl) rfl (by kernel_rfl) (by kernel_rfl) (by kernel_rfl) (fun _ _ _ h => h) (Or.inl ⟨by rfl, ?y45⟩) hHeld ?r45
          case y45 => (intro w' hSw; (try dsimp only at hSw); have q1 := (RW.out.up hSw RW.out.lt).cell (j := 0) (v := .slice ao l.length oc) rfl; have q2 := bcl hSw hpbW PW.out; clear hSw; go_simp; try with_reducible rfl)
          simp only [Act.put, List.getElem_toArray, List.getElem_cons_zero, List.getElem_cons_succ, List.setIfInBounds_toArray, List.set_cons_zero, List.set_cons_succ]
          refine Still.takeBy (i := 5) [6] (v := ?v46) (by kernel_rfl) (by kernel_rfl) rfl (by kernel_rfl) (by kernel_rfl) (by kernel_rfl) (fun _ _ _ h => h) (Or.inl ⟨by rfl, ?y46⟩) hHeld ?r46
          case y46 => (intro w' hSw; (try dsimp only at hSw); have q1 := (RW.out.up hSw RW.out.lt).cell (j := 0) (v := .slice ao l.length oc) rfl; have q2 := bcl hSw hpbW PW.out; clear hSw; go_simp; try with_reducible rfl)
          simp only [Act.put, List.getElem_toArray, List.getElem_cons_zero, List.getElem_cons_succ, List.setIfInBounds_toArray, List.set_cons_zero, List.set_cons_succ]
          refine Still.all (rs := [6]) (by kernel_rfl) (by simp) (Still.one (i := 6) rfl rfl (fun K hK => ?_) (by simp))
          refine wp_call 116 _ _ rfl ent_lineCheck #[.int .i64 kd, .agg #[.slice ao l.length oc]] (by first | rfl | simp [Act.eval, Act.put]) ((HCK.out _).mono ?_)
          rintro e V1 ⟨rfl, bb⟩
          refine ⟨_, rfl, hK _ _ (fun _ => hHeld.trans (bb.mono hHeld.size)) (fun hh => ?_)⟩
          have hHeld := hh (by decide)
          clear hK K hh
          try simp only [Act.put, List.getElem_toArray, List.getElem_cons_zero, List.getElem_cons_succ, List.setIfInBounds_toArray, List.set_cons_zero, List.set_cons_succ]
          clear bb
          refine Still.all (rs := [7]) (by kernel_rfl) (by simp) (Still.one (i := 7) rfl rfl (fun K hK => ?_) (by simp))
          go_simp
          refine hK _ _ (fun h => absurd rfl h) (fun _ => ?_)
          clear hK K
          refine Still.over (by kernel_rfl) ?_ _
          have HL2 := Lib.hid (HBW.out.trans (hHeld.mono HBW.out.size))
          clear hHeld
          go_wp2
          go_ret
          exact ⟨ret_bool (by rw [← HR.out, HNO.out]), HL2.out⟩
      · have hli : ¬ (k : Int) < ls.length := by omega
        have HYES := Lib.hid (show linesB cs ls = true from linesB_yes HL.out (fun j h h' => HZ.out j h h' (by omega)))
        go_wp2
        go_ret
        exact ⟨ret_bool (by rw [← HR.out, HYES.out]), HB.out⟩
  · have he' : ((ls.length : Int) != cs.length) = true := by simp; omega
    have HNO : Hid (linesB cs ls = false) := by
      show _ = _
      cases e : linesB cs ls with
      | false => rfl
      | true => exact absurd (linesB_len e) he
    clear he
    go_enter Tryz.func75, Tryz.ntmps75
    go_wp2
    go_ret
    exact ⟨ret_bool (by rw [← HR.out, HNO.out]), Below.refl _ _⟩
set_option maxRecDepth 100000 in
set_option maxHeartbeats 8000000 in
theorem kernCheck_any (S : SysD) (D : WldD) (vp vc vs uc ul : Value) (w : World) (he : Env w) (hS : Sys w vp vc vs S) (hW : Wld w uc ul D) :
    Calls Tryz.prog 30 #[.agg #[vp, vc, vs], .agg #[.int .i64 D.tick, uc, ul]] w fun e w' => e = .returned (.int .i64 (chkW S D)) ∧ Below w.heap.size w w' := by
  obtain ⟨pa, pc, rfl⟩ := hS.p.form
  obtain ⟨ka, kc, rfl⟩ := hS.c.form
  obtain ⟨sa, sc, rfl⟩ := hS.s.form
  obtain ⟨ua, uc, rfl⟩ := hW.c.form
  obtain ⟨la, lc, rfl⟩ := hW.l.form
  have HC := Lib.hid fun w he hS => confCheck_any S (.slice pa S.parts.length pc) (.slice ka S.chans.length kc) (.slice sa S.slots.length sc) w he hS
  have HE := Lib.hid he
  have HS := Lib.hid hS
  have HW := Lib.hid hW
  clear he hS hW
  obtain ⟨e0, hce⟩ : ∃ e0, chkS S = e0 := ⟨_, rfl⟩
  rw [hce] at HC
  by_cases h0 : e0 = 0
  · subst h0
    have hcl : S.parts.length ≤ 4 ∧ S.chans.length ≤ 6 := by
      unfold chkS at hce
      cases hb : countsB S with
      | false => rw [hb] at hce; simp at hce
      | true => simp [countsB] at hb; omega
    obtain ⟨hcl1, hcl2⟩ := hcl
    have HCE := Lib.hid hce
    clear hce
    go_enter Tryz.func30, Tryz.ntmps30
    go_wp2_with fail
    refine (HC.out _ (HE.out.up (by repeat (first | exact Below.refl _ _ | assumption | refine Below.drew ?_ | refine Below.alloc ?_ (by first | (simp; done) | (simp; omega)) _ | refine Below.setCell ?_ (by first | (simp; done) | (simp; omega)) _))) (HS.out.up (by repeat (first | exact Below.refl _ _ | assumption | refine Below.drew ?_ | refine Below.alloc ?_ (by first | (simp; done) | (simp; omega)) _ | refine Below.setCell ?_ (by first | (simp; done) | (simp; omega)) _)))).mono ?_
    rintro e w1 ⟨rfl, b1⟩
    have z1 := b1.size
    simp at z1
    have R0 : Hid (Rw w1 w.heap.size 26 #[.slice pa S.parts.length pc, .slice ka S.chans.length kc, .slice sa S.slots.length sc]) := Rw.up (by repeat (first | exact Rw.new _ _ _ (by first | rfl | (simp; done) | omega | (simp; omega)) | refine Rw.alloc ?_ _)) b1 (by first | omega | (simp; done) | (simp; omega))
    have R1 : Hid (Rw w1 (w.heap.size + 1) 30 #[.int .i64 D.tick, .slice ua D.cells.length uc, .slice la D.lines.length lc]) := Rw.up (by repeat (first | exact Rw.new _ _ _ (by first | rfl | (simp; done) | omega | (simp; omega)) | refine Rw.alloc ?_ _)) b1 (by first | omega | (simp; done) | (simp; omega))
    have HD : Hid (Below w.heap.size w w1) := by
      refine Below.trans ?_ (b1.mono (by first | omega | (simp; done) | (simp; omega)))
      exact (by repeat (first | exact Below.refl _ _ | assumption | refine Below.drew ?_ | refine Below.alloc ?_ (by first | (simp; done) | (simp; omega)) _ | refine Below.setCell ?_ (by first | (simp; done) | (simp; omega)) _))
    have q0 := R0.out.cell (j := 0) (v := .slice pa S.parts.length pc) rfl
    have q1 := R0.out.cell (j := 1) (v := .slice ka S.chans.length kc) rfl
    have q2 := R1.out.cell (j := 0) (v := .int .i64 D.tick) rfl
    have q3 := R1.out.cell (j := 1) (v := .slice ua D.cells.length uc) rfl
    have q4 := R1.out.cell (j := 2) (v := .slice la D.lines.length lc) rfl
    clear b1 HC
    have HI := Lib.hid fun V => isRun_any D.tick V
    cases hB : withinB D.tick 0 300
    · have HN : Hid (chkW S D = 1) := by
        show _ = _
        unfold chkW
        rw [HCE.out, hB]
        rfl
      rw [hB] at HI
      clear hB
      go_wp2_with (go_at_call 73; refine (HI.out _).mono ?_; rintro e w2 ⟨rfl, rfl⟩)
      go_ret
      exact ⟨ret_int (by rw [HN.out]), HD.out⟩
    rw [hB] at HI
    have HTB := Lib.hid hB
    clear hB
    go_wp2_with (go_at_call 73; refine (HI.out _).mono ?_; rintro e w2 ⟨rfl, rfl⟩)
    obtain ⟨r, hr⟩ : ∃ r, cellsB S.parts D.cells = r := ⟨_, rfl⟩
    refine (rightCells_any S.parts D.cells _ _ hcl1 _ (HS.out.p.up HD.out) (HW.out.c.up HD.out) r hr).mono ?_
    rintro e w3 ⟨rfl, b3⟩
    have z3 := b3.size
    have HD3 := Lib.hid (HD.out.trans (b3.mono (by omega)))
    have p1 := bcl b3 (by omega) q1
    have p4 := bcl b3 (by omega) q4
    have HRC := Lib.hid hr
    clear b3 q0 q1 q2 q3 q4 HD R0 R1 hr
    cases r
    · have HN : Hid (chkW S D = 1) := by
        show _ = _
        unfold chkW
        rw [HCE.out, HTB.out, HRC.out]
        rfl
      go_wp2
      go_ret
      exact ⟨ret_int (by rw [HN.out]), HD3.out⟩
    go_wp2_with fail
    obtain ⟨r, hr⟩ : ∃ r, linesB S.chans D.lines = r := ⟨_, rfl⟩
    refine (rightLines_any S.chans D.lines _ _ hcl2 _ (HS.out.c.up HD3.out) (HW.out.l.up HD3.out) r hr).mono ?_
    rintro e w4 ⟨rfl, b4⟩
    have HD4 := Lib.hid (HD3.out.trans (b4.mono HD3.out.size))
    have HN : Hid (chkW S D = if r = true then 0 else 1) := by
      show _ = _
      unfold chkW
      rw [HCE.out, HTB.out, HRC.out, hr]
      rfl
    clear b4 p1 p4 hr
    cases r
    · go_wp2
      go_ret
      exact ⟨ret_int (by rw [HN.out]; rfl), HD4.out⟩
    · go_wp2
      go_ret
      exact ⟨ret_int (by rw [HN.out]; rfl), HD4.out⟩
  · have h0' : (e0 != 0) = true := by simpa using h0
    have HCE : Hid (chkW S D = e0) := by
      show _ = _
      unfold chkW
      rw [hce, if_pos h0]
    clear hce h0
    go_enter Tryz.func30, Tryz.ntmps30
    go_wp2_with fail
    refine (HC.out _ (HE.out.up (by repeat (first | exact Below.refl _ _ | assumption | refine Below.drew ?_ | refine Below.alloc ?_ (by first | (simp; done) | (simp; omega)) _ | refine Below.setCell ?_ (by first | (simp; done) | (simp; omega)) _))) (HS.out.up (by repeat (first | exact Below.refl _ _ | assumption | refine Below.drew ?_ | refine Below.alloc ?_ (by first | (simp; done) | (simp; omega)) _ | refine Below.setCell ?_ (by first | (simp; done) | (simp; omega)) _)))).mono ?_
    rintro e w1 ⟨rfl, b1⟩
    have HD : Hid (Below w.heap.size w w1) := by
      refine Below.trans ?_ (b1.mono (by first | omega | (simp; done) | (simp; omega)))
      exact (by repeat (first | exact Below.refl _ _ | assumption | refine Below.drew ?_ | refine Below.alloc ?_ (by first | (simp; done) | (simp; omega)) _ | refine Below.setCell ?_ (by first | (simp; done) | (simp; omega)) _))
    clear b1
    go_wp2
    go_ret
    exact ⟨ret_int (by rw [HCE.out]), HD.out⟩
end Go.Proofs.YtehhhiodfcdnmaaGreatDoor
