/- ref.OwnWorld. -/
import Derived.Test.YtjhjaafoikadgaaDoorKn8
namespace Go.Proofs.YtjhjaafoikadgaaDoor
set_option linter.unusedSimpArgs false
set_option linter.unusedVariables false
open Go.RowKit Go.Sort

theorem ent_ownCell : Enters 50 := enters Tryd.func50 (by kernel_rfl) (by kernel_rfl)
theorem wp_buildOne {P : Program} {o : Oper} {a : Act} {w : World} {K : Act → World → Prop} {Q : Exit → Act → World → Prop} (t e : TypeId) (x : Operand) (ho : o.op = .buildSlice t 1 #[(0, x)])
    (cs : Array Value) (hx : a.eval x = .agg cs) (hu : P.underlying t = some (.slice e)) (hsz : (P.info? e).map (·.size) = some cs.size) (hz : ((P.info? e).bind (·.zero)).isSome = true) (hpos : 0 < cs.size) (hsmall : cs.size ≤ 2 ^ 24)
    (h : K (a.put o.dst (.slice (some ⟨w.heap.size, 0, none⟩) 1 1)) (w.alloc (.cells cs e))) : o.wp P a w K Q := by
  cases hie : P.info? e with
  | none => simp [hie] at hsz
  | some ie =>
    simp only [hie, Option.map_some, Option.some.injEq, Option.bind_some] at hsz hz
    obtain ⟨z, hzz⟩ := Option.isSome_iff_exists.1 hz
    refine wp_buildSlice t e 1 _ ho cs ie z hu hie hzz (by omega) (by omega) ?_ h
    have hf := Great.fill_whole (s := ie.size) (by omega) [.agg cs] ((Array.range (1 * ie.size)).map (z.cells[· % z.cells.size]!)) (fun v hv => by simp at hv; subst hv; simpa [Value.cells] using hsz.symm) (by simp)
    simpa [hx, Value.cells] using hf
theorem ownCell_agg (c : Cel) (xs : List Int) (hx : xs.length ≤ 1000) (v : Value) (w : World) (hS : Sl w 1 v xs.length (ints xs)) :
    Calls Tryd.prog 50 #[.agg (c.cs v)] w fun e w' => ∃ ao cap, e = .returned (.agg (c.cs (.slice ao xs.length cap))) ∧ w'.ownsRow w.heap.size 3 1 (.slice ao xs.length cap) xs.length (ints xs) ∧ Below w.heap.size w w' := by
  have h := ownCell_any c xs hx v w hS
  rw [Cel.v_cs] at h
  refine h.mono ?_
  rintro e w' ⟨v', rfl, h1, h2⟩
  obtain ⟨ao, cap, rfl⟩ := own_form h1
  exact ⟨ao, cap, by rw [Cel.v_cs], h1, h2⟩
set_option maxRecDepth 100000 in
set_option maxHeartbeats 8000000 in
theorem ownWorld_any (D : WldD) (uc ul : Value) (w : World) (hc : D.cells.length ≤ 4) (hl : D.lines.length ≤ 6) (ho : ∀ k (h : k < D.cells.length), D.cells[k].out.length ≤ 16) (hln : ∀ k (h : k < D.lines.length), D.lines[k].length ≤ 3) (hW : Wld w uc ul D) :
    Calls Tryd.prog 25 #[.agg #[.int .i64 D.tick, uc, ul]] w fun e w' => ∃ vc vl, e = .returned (.agg #[.int .i64 D.tick, vc, vl]) ∧ NewV w.heap.size 0 w' vc vl D.cells D.lines ∧ Below w.heap.size w w' := by
  obtain ⟨i0, hi0, hz0, hz1, hz2⟩ := info_parts infoInt
  obtain ⟨i1, hi1, hy0, hy1, hy2⟩ := info_parts infoCell
  obtain ⟨i2, hi2, hx0, hx1, hx2⟩ := info_parts infoLine
  obtain ⟨ca, cc, rfl⟩ := hW.c.form
  obtain ⟨la, lc, rfl⟩ := hW.l.form
  have HW := Lib.hid hW
  have HO := Lib.hid ho
  have HLN := Lib.hid hln
  clear hW ho hln
  go_enter Tryd.func25, Tryd.ntmps25
  go_wp2
  go_loopw [4] (fun i wr => ∃ k : Nat, i = .int .i64 k ∧ k ≤ D.cells.length ∧ Hid (∃ vc, Cp w wr D.tick (.slice ca D.cells.length cc) (.slice la D.lines.length lc) vc (.slice none 0 0) (D.cells.take k) [])) (fun i _ => D.cells.length - (intOf i).toNat)
  case atStart => exact ⟨0, rfl, Nat.zero_le _, Lib.hid ⟨_, (by repeat (first | exact Below.refl _ _ | assumption | refine Below.drew ?_ | refine Below.alloc ?_ (by first | (simp; done) | (simp; omega)) _ | refine Below.setCell ?_ (by first | (simp; done) | (simp; omega)) _)), by simp, (by repeat (first | exact Rw.new _ _ _ (by first | rfl | (simp; done) | omega | (simp; omega)) | refine Rw.alloc ?_ _)), (by repeat (first | exact Rw.new _ _ _ (by first | rfl | (simp; done) | omega | (simp; omega)) | refine Rw.alloc ?_ _)), (by repeat (first | exact Rw.new _ _ _ (by first | rfl | (simp; done) | omega | (simp; omega)) | refine Rw.alloc ?_ _)), NewV.nil _ _ _⟩⟩
  case round =>
    obtain ⟨k, rfl, hk, HC⟩ := hrel
    obtain ⟨vc, hC⟩ := HC.out
    clear HC
    generalize hlk : D.cells.take k = l at hC
    have HLK := Lib.hid hlk
    have HLL : Hid (l.length = k) := by
      show _ = _
      rw [← hlk]
      simp
      omega
    clear hlk
    have q0 := hC.r1.cell (j := 1) (v := .slice ca D.cells.length cc) rfl
    by_cases hlt : k < D.cells.length
    · have hli : (k : Int) < D.cells.length := by omega
      have h0i : (0 : Int) ≤ k := by omega
      have hz := hC.z
      have hws := hC.d.size
      obtain ⟨b, off, cap, e1, hcap, hbw, hcc⟩ := HW.out.c.open (by omega)
      cases e1
      obtain ⟨ao, oc, hra, hso⟩ := hcc k hlt
      have RA := Lib.hid (range_up hra hC.d hbw)
      have SO := Lib.hid (hso.up hC.d)
      have hol := HO.out k hlt
      generalize hd : D.cells[k] = d at RA SO hol
      obtain ⟨c, out⟩ := d
      have HD := Lib.hid hd
      simp only at RA SO hol
      have CP := Lib.hid hC
      have hcl := hC.n.formC
      clear hra hso hcc hd hC
      obtain ⟨a3, c3, rfl⟩ := hcl
      have HOC := Lib.hid fun V hS => ownCell_agg c out (by omega) (.slice ao out.length oc) V hS
      have hbw3 : b < w.heap.size + 3 := by omega
      go_wp2
      clear q0
      refine region_still (S := fun w' => Below (w.heap.size + 3) wr w') 11 (by kernel_rfl) (Below.refl _ _).drew (fun hHeld => ?_)
      refine Still.takeBy (i := 0) [] (v := ?v11) (by kernel_rfl) (by kernel_rfl) rfl (by kernel_rfl) (by kernel_rfl) (by kernel_rfl) (fun _ _ _ h => h) (Or.inl ⟨by rfl, ?y11⟩) hHeld ?r11
      case y11 => (intro w' hSw; (try dsimp only at hSw); have q1 := (CP.out.r3.up hSw (by omega)).cell (j := 1) (v := .slice a3 l.length c3) rfl; have q2 := (CP.out.r1.up hSw (by omega)).cell (j := 1) (v := .slice (some ⟨b, off, none⟩) D.cells.length cc) rfl; clear hSw; go_simp; try with_reducible rfl)
      simp only [Act.put, List.getElem_toArray, List.getElem_cons_zero, List.getElem_cons_succ, List.setIfInBounds_toArray, List.set_cons_zero, List.set_cons_succ]
      refine Still.takeBy (i := 1) [] (v := ?v12) (by kernel_rfl) (by kernel_rfl) rfl (by kernel_rfl) (by kernel_rfl) (by kernel_rfl) (fun _ _ _ h => h) (Or.inl ⟨by rfl, ?y12⟩) hHeld ?r12
      case y12 => (intro w' hSw; (try dsimp only at hSw); have q1 := (CP.out.r3.up hSw (by omega)).cell (j := 1) (v := .slice a3 l.length c3) rfl; have q2 := (CP.out.r1.up hSw (by omega)).cell (j := 1) (v := .slice (some ⟨b, off, none⟩) D.cells.length cc) rfl; clear hSw; go_simp; try with_reducible rfl)
      simp only [Act.put, List.getElem_toArray, List.getElem_cons_zero, List.getElem_cons_succ, List.setIfInBounds_toArray, List.set_cons_zero, List.set_cons_succ]
      refine Still.takeBy (i := 2) [] (v := ?v13) (by kernel_rfl) (by kernel_rfl) rfl (by kernel_rfl) (by kernel_rfl) (by kernel_rfl) (fun _ _ _ h => h) (Or.inl ⟨by rfl, ?y13⟩) hHeld ?r13
      case y13 => (intro w' hSw; (try dsimp only at hSw); have q1 := (CP.out.r3.up hSw (by omega)).cell (j := 1) (v := .slice a3 l.length c3) rfl; have q2 := (CP.out.r1.up hSw (by omega)).cell (j := 1) (v := .slice (some ⟨b, off, none⟩) D.cells.length cc) rfl; clear hSw; go_simp; try with_reducible rfl)
      simp only [Act.put, List.getElem_toArray, List.getElem_cons_zero, List.getElem_cons_succ, List.setIfInBounds_toArray, List.set_cons_zero, List.set_cons_succ]
      refine Still.takeBy (i := 3) [] (v := ?v14) (by kernel_rfl) (by kernel_rfl) rfl (by kernel_rfl) (by kernel_rfl) (by kernel_rfl) (fun _ _ _ h => h) (Or.inl ⟨by rfl, ?y14⟩) hHeld ?r14
      case y14 => (intro w' hSw; (try dsimp only at hSw); have q1 := (CP.out.r3.up hSw (by omega)).cell (j := 1) (v := .slice a3 l.length c3) rfl; have q2 := (CP.out.r1.up hSw (by omega)).cell (j := 1) (v := .slice (some ⟨b, off, none⟩) D.cells.length cc) rfl; clear hSw; go_simp; try with_reducible rfl)
      simp only [Act.put, List.getElem_toArray, List.getElem_cons_zero, List.getElem_cons_succ, List.setIfInBounds_toArray, List.set_cons_zero, List.set_cons_succ]
      refine Still.takeBy (i := 4) [] (v := ?v15) (by kernel_rfl) (by kernel_rfl) rfl (by kernel_rfl) (by kernel_rfl) (by kernel_rfl) (fun _ _ _ h => h) (Or.inl ⟨by rfl, ?y15⟩) hHeld ?r15
      case y15 => (intro w' hSw; (try dsimp only at hSw); have q1 := (CP.out.r3.up hSw (by omega)).cell (j := 1) (v := .slice a3 l.length c3) rfl; have q2 := (CP.out.r1.up hSw (by omega)).cell (j := 1) (v := .slice (some ⟨b, off, none⟩) D.cells.length cc) rfl; clear hSw; go_simp; try with_reducible rfl)
      simp only [Act.put, List.getElem_toArray, List.getElem_cons_zero, List.getElem_cons_succ, List.setIfInBounds_toArray, List.set_cons_zero, List.set_cons_succ]
      refine Still.takeBy (i := 5) [] (v := ?v16) (by kernel_rfl) (by kernel_rfl) rfl (by kernel_rfl) (by kernel_rfl) (by kernel_rfl) (fun _ _ _ h => h) (Or.inl ⟨by rfl, ?y16⟩) hHeld ?r16
      case y16 => (intro w' hSw; (try dsimp only at hSw); have q1 := (CP.out.r3.up hSw (by omega)).cell (j := 1) (v := .slice a3 l.length c3) rfl; have q2 := (CP.out.r1.up hSw (by omega)).cell (j := 1) (v := .slice (some ⟨b, off, none⟩) D.cells.length cc) rfl; clear hSw; go_simp; try with_reducible rfl)
      simp only [Act.put, List.getElem_toArray, List.getElem_cons_zero, List.getElem_cons_succ, List.setIfInBounds_toArray, List.set_cons_zero, List.set_cons_succ]
      refine Still.takeBy (i := 6) [] (by kernel_rfl) (by kernel_rfl) rfl (by kernel_rfl) (by kernel_rfl) (by kernel_rfl) (fun _ _ _ h => h) (yields_load_midA (by rfl) _ _ rfl b (off + k * 16) (by first | rfl | simp [Act.eval, Act.put]) (c.cs (.slice ao out.length oc)) _ (fun w' hSw => range_up RA.out hSw hbw3) Tryd.underlying54 rfl sizeCell) hHeld ?r17
      simp only [Act.put, List.getElem_toArray, List.getElem_cons_zero, List.getElem_cons_succ, List.setIfInBounds_toArray, List.set_cons_zero, List.set_cons_succ]
      refine Still.all (rs := [7]) (by kernel_rfl) (by simp) (Still.one (i := 7) rfl rfl (fun K hK => ?_) (by simp))
      refine wp_call 50 _ _ rfl ent_ownCell #[.agg (c.cs (.slice ao out.length oc))] (by first | rfl | simp [Act.eval, Act.put]) ((HOC.out _ (SO.out.up (Below.refl _ _).drew)).mono ?_)
      rintro e W2 ⟨a2, c2, rfl, hown, bb⟩
      have bW : Below wr.heap.size wr W2 := Below.trans (Below.refl _ _).drew bb
      have hob := own_block hown
      have hol2 := own_lt hown
      have z2 := bW.size
      have CP2 := Lib.hid (CP.out.up bW)
      have S2 := Lib.hid (own_sl hown)
      refine ⟨_, rfl, hK _ _ (fun _ => bW.mono (by omega)) (fun hh => ?_)⟩
      have hHeld := hh (by decide)
      clear hK K hh
      try simp only [Act.put, List.getElem_toArray, List.getElem_cons_zero, List.getElem_cons_succ, List.setIfInBounds_toArray, List.set_cons_zero, List.set_cons_succ]
      clear hown bb
      have IN : In (w.heap.size + 3) 0 (W2.alloc (.cells (c.cs (.slice a2 out.length c2)) 54)) (.slice a3 l.length c3) (.slice none 0 0) (.slice a2 out.length c2) := fun x e => by
        have h1 : wr.heap.size ≤ x := hob x e
        have h2 := hol2 x e
        refine ⟨by omega, by simp; omega, fun e' => ?_, fun e' => by cases e'⟩
        have := (CP.out.n.ltC x e').2; omega
      obtain ⟨ps, hps, hadd⟩ := (CP2.out.n.alloc (.cells (c.cs (.slice a2 out.length c2)) 54)).addC ⟨c, out⟩ (.slice a2 out.length c2) (S2.out.up ((Below.refl _ _).alloc (Nat.le_refl _) _)) IN
      refine Still.all (rs := [8]) (by kernel_rfl) (by simp) (Still.one (i := 8) rfl rfl (fun K hK => ?_) (by simp))
      refine wp_buildOne 27 54 (.tmp 23) rfl (c.cs (.slice a2 out.length c2)) (by first | rfl | simp [Act.eval, Act.put]) Tryd.underlying27 sizeCell zeroCell (by show 0 < 16; decide) (by show 16 ≤ 2 ^ 24; decide) ?_
      refine hK _ _ (fun _ => Below.alloc (bW.mono (by omega)) (by omega) _) (fun hh => ?_)
      have hHeld := hh (by decide)
      clear hK K hh
      try simp only [Act.put, List.getElem_toArray, List.getElem_cons_zero, List.getElem_cons_succ, List.setIfInBounds_toArray, List.set_cons_zero, List.set_cons_succ]
      refine Still.all (rs := [9]) (by kernel_rfl) (by simp) (Still.one (i := 9) rfl rfl (fun K hK => ?_) (by simp))
      refine wp_append_lies _ (.tmp 17) (.tmp 24) 27 rfl (w.heap.size + 3) 54 i1 _ 16 144 Tryd.underlying27 hi1 hy0 hy1 hy2 rfl (by decide) (.slice a3 l.length c3) l.length (rowC celC ps) (by first | rfl | simp [Act.eval, Act.put]) hps ⟨W2.heap.size, 0, none⟩ 1 1 (c.cs (.slice a2 out.length c2)).toList (by first | rfl | simp [Act.eval, Act.put]) (cs_len _ _) (new_range _ _ _ _ rfl) (cs_oneL _ _ rfl) (by decide) (by have := HLL.out; unfold maxLen; omega) (by have := HLL.out; omega) (by simp; omega) _ rfl ?_
      intro g4 cap4 W4 hown hgrow hat hg4
      have hn4 := hadd _ W4 hown hgrow (hat.imp (fun e => e) (fun e => ⟨g4, rfl, by rw [e]; simp⟩))
      have hltC := CP2.out.n.ltC
      obtain ⟨hC5, hr5⟩ := (CP2.out.up (wr' := W2.alloc (.cells (c.cs (.slice a2 out.length c2)) 54)) ((Below.refl _ _).alloc (Nat.le_refl _) _)).grow hgrow hn4
      have C5 := Lib.hid hC5
      have bS : Below (w.heap.size + 3) wr W4 := Below.grown (Below.alloc (bW.mono (by omega)) (by omega) _) hgrow (by simp; omega) (fun k e => (hltC k e).1)
      have q5 := hr5.cell (j := 1) (v := .slice a3 l.length c3) rfl
      have f5 := hr5.fr 1
      clear hown hgrow hat hn4 hC5 hps hadd IN hr5 hltC
      refine hK _ _ (fun _ => bS) (fun hh => ?_)
      have hHeld := hh (by decide)
      clear hK K hh
      try simp only [Act.put, List.getElem_toArray, List.getElem_cons_zero, List.getElem_cons_succ, List.setIfInBounds_toArray, List.set_cons_zero, List.set_cons_succ]
      clear bS bW
      refine Still.takeBy (i := 10) [] (v := ?v18) (by kernel_rfl) (by kernel_rfl) rfl (by kernel_rfl) (by kernel_rfl) (by kernel_rfl) (fun _ _ _ h => h) (Or.inl ⟨by rfl, ?y18⟩) hHeld ?r18
      case y18 => (intro w' hSw; (try dsimp only at hSw); go_simp; try with_reducible rfl)
      simp only [Act.put, List.getElem_toArray, List.getElem_cons_zero, List.getElem_cons_succ, List.setIfInBounds_toArray, List.set_cons_zero, List.set_cons_succ]
      refine Still.all (rs := [11]) (by kernel_rfl) (by simp) (Still.one (i := 11) rfl rfl (fun K hK => ?_) (by simp))
      clear hHeld
      go_simp
      refine hK _ _ (fun h => absurd rfl h) (fun _ => ?_)
      clear hK K
      refine Still.over (by kernel_rfl) ?_ _
      clear q5 f5
      go_wp2
      go_roundw
      case rel => exact ⟨k + 1, by go_num, by omega, Lib.hid ⟨_, by rw [List.take_succ_eq_append_getElem hlt, HLK.out, HD.out]; exact C5.out⟩⟩
      case measure => simp [intOf]; omega
    · have hli : ¬ (k : Int) < D.cells.length := by omega
      have hle : l = D.cells := by rw [← HLK.out]; exact List.take_of_length_le (by omega)
      subst hle
      have CP := Lib.hid hC
      clear hC HLK HLL
      go_wp2
      clear q0
      go_loopw [5] (fun i wr => ∃ k : Nat, i = .int .i64 k ∧ k ≤ D.lines.length ∧ Hid (∃ vl, Cp w wr D.tick (.slice ca D.cells.length cc) (.slice la D.lines.length lc) vc vl D.cells (D.lines.take k))) (fun i _ => D.lines.length - (intOf i).toNat)
      case atStart => exact ⟨0, rfl, Nat.zero_le _, Lib.hid ⟨_, CP.out⟩⟩
      case round =>
        clear CP hlt hli hk
        obtain ⟨j, rfl, hj, HC⟩ := hrel
        obtain ⟨vl, hC⟩ := HC.out
        clear HC
        generalize hlk : D.lines.take j = l at hC
        have HLK := Lib.hid hlk
        have HLL : Hid (l.length = j) := by
          show _ = _
          rw [← hlk]
          simp
          omega
        clear hlk
        have q0 := hC.r1.cell (j := 2) (v := .slice la D.lines.length lc) rfl
        by_cases hlt : j < D.lines.length
        · have hli : (j : Int) < D.lines.length := by omega
          have h0i : (0 : Int) ≤ j := by omega
          have hz := hC.z
          have hws := hC.d.size
          obtain ⟨b, off, cap, e1, hcap, hbw, hcc⟩ := HW.out.l.open (by omega)
          cases e1
          obtain ⟨ao, oc, hra, hso⟩ := hcc j hlt
          have RA := Lib.hid (bcl hC.d hbw hra)
          have SO := Lib.hid (hso.up hC.d)
          have hol := HLN.out j hlt
          generalize hd : D.lines[j] = d at RA SO hol
          have HD := Lib.hid hd
          have CP := Lib.hid hC
          obtain ⟨a3, c3, rfl⟩ := hC.n.formL
          have HVL := Lib.hid hC.n.ltL
          have hbw3 : b < w.heap.size + 3 := by omega
          clear hra hso hcc hd hC
          go_wp2
          clear q0
          refine region_still (S := fun w' => Below (w.heap.size + 3) wr w') 14 (by kernel_rfl) (Below.refl _ _).drew (fun hHeld => ?_)
          refine Still.takeBy (i := 0) [] (v := ?v51) (by kernel_rfl) (by kernel_rfl) rfl (by kernel_rfl) (by kernel_rfl) (by kernel_rfl) (fun _ _ _ h => h) (Or.inl ⟨by rfl, ?y51⟩) hHeld ?r51
          case y51 => (intro w' hSw; (try dsimp only at hSw); have q1 := (CP.out.r3.up hSw (by omega)).cell (j := 2) (v := .slice a3 l.length c3) rfl; have q2 := (CP.out.r1.up hSw (by omega)).cell (j := 2) (v := .slice (some ⟨b, off, none⟩) D.lines.length lc) rfl; have q3 := bcl hSw hbw3 RA.out; clear hSw; go_simp; try with_reducible rfl)
          simp only [Act.put, List.getElem_toArray, List.getElem_cons_zero, List.getElem_cons_succ, List.setIfInBounds_toArray, List.set_cons_zero, List.set_cons_succ]
          refine Still.takeBy (i := 1) [] (v := ?v52) (by kernel_rfl) (by kernel_rfl) rfl (by kernel_rfl) (by kernel_rfl) (by kernel_rfl) (fun _ _ _ h => h) (Or.inl ⟨by rfl, ?y52⟩) hHeld ?r52
          case y52 => (intro w' hSw; (try dsimp only at hSw); have q1 := (CP.out.r3.up hSw (by omega)).cell (j := 2) (v := .slice a3 l.length c3) rfl; have q2 := (CP.out.r1.up hSw (by omega)).cell (j := 2) (v := .slice (some ⟨b, off, none⟩) D.lines.length lc) rfl; have q3 := bcl hSw hbw3 RA.out; clear hSw; go_simp; try with_reducible rfl)
          simp only [Act.put, List.getElem_toArray, List.getElem_cons_zero, List.getElem_cons_succ, List.setIfInBounds_toArray, List.set_cons_zero, List.set_cons_succ]
          refine Still.takeBy (i := 3) [] (v := ?v53) (by kernel_rfl) (by kernel_rfl) rfl (by kernel_rfl) (by kernel_rfl) (by kernel_rfl) (fun _ _ _ h => h) (Or.inl ⟨by rfl, ?y53⟩) hHeld ?r53
          case y53 => (intro w' hSw; (try dsimp only at hSw); have q1 := (CP.out.r3.up hSw (by omega)).cell (j := 2) (v := .slice a3 l.length c3) rfl; have q2 := (CP.out.r1.up hSw (by omega)).cell (j := 2) (v := .slice (some ⟨b, off, none⟩) D.lines.length lc) rfl; have q3 := bcl hSw hbw3 RA.out; clear hSw; go_simp; try with_reducible rfl)
          simp only [Act.put, List.getElem_toArray, List.getElem_cons_zero, List.getElem_cons_succ, List.setIfInBounds_toArray, List.set_cons_zero, List.set_cons_succ]
          refine Still.takeBy (i := 4) [] (v := ?v54) (by kernel_rfl) (by kernel_rfl) rfl (by kernel_rfl) (by kernel_rfl) (by kernel_rfl) (fun _ _ _ h => h) (Or.inl ⟨by rfl, ?y54⟩) hHeld ?r54
          case y54 => (intro w' hSw; (try dsimp only at hSw); have q1 := (CP.out.r3.up hSw (by omega)).cell (j := 2) (v := .slice a3 l.length c3) rfl; have q2 := (CP.out.r1.up hSw (by omega)).cell (j := 2) (v := .slice (some ⟨b, off, none⟩) D.lines.length lc) rfl; have q3 := bcl hSw hbw3 RA.out; clear hSw; go_simp; try with_reducible rfl)
          simp only [Act.put, List.getElem_toArray, List.getElem_cons_zero, List.getElem_cons_succ, List.setIfInBounds_toArray, List.set_cons_zero, List.set_cons_succ]
          refine Still.takeBy (i := 5) [] (v := ?v55) (by kernel_rfl) (by kernel_rfl) rfl (by kernel_rfl) (by kernel_rfl) (by kernel_rfl) (fun _ _ _ h => h) (Or.inl ⟨by rfl, ?y55⟩) hHeld ?r55
          case y55 => (intro w' hSw; (try dsimp only at hSw); have q1 := (CP.out.r3.up hSw (by omega)).cell (j := 2) (v := .slice a3 l.length c3) rfl; have q2 := (CP.out.r1.up hSw (by omega)).cell (j := 2) (v := .slice (some ⟨b, off, none⟩) D.lines.length lc) rfl; have q3 := bcl hSw hbw3 RA.out; clear hSw; go_simp; try with_reducible rfl)
          simp only [Act.put, List.getElem_toArray, List.getElem_cons_zero, List.getElem_cons_succ, List.setIfInBounds_toArray, List.set_cons_zero, List.set_cons_succ]
          refine Still.takeBy (i := 6) [] (v := ?v56) (by kernel_rfl) (by kernel_rfl) rfl (by kernel_rfl) (by kernel_rfl) (by kernel_rfl) (fun _ _ _ h => h) (Or.inl ⟨by rfl, ?y56⟩) hHeld ?r56
          case y56 => (intro w' hSw; (try dsimp only at hSw); have q1 := (CP.out.r3.up hSw (by omega)).cell (j := 2) (v := .slice a3 l.length c3) rfl; have q2 := (CP.out.r1.up hSw (by omega)).cell (j := 2) (v := .slice (some ⟨b, off, none⟩) D.lines.length lc) rfl; have q3 := bcl hSw hbw3 RA.out; clear hSw; go_simp; try with_reducible rfl)
          simp only [Act.put, List.getElem_toArray, List.getElem_cons_zero, List.getElem_cons_succ, List.setIfInBounds_toArray, List.set_cons_zero, List.set_cons_succ]
          refine Still.takeBy (i := 7) [] (v := ?v57) (by kernel_rfl) (by kernel_rfl) rfl (by kernel_rfl) (by kernel_rfl) (by kernel_rfl) (fun _ _ _ h => h) (Or.inl ⟨by rfl, ?y57⟩) hHeld ?r57
          case y57 => (intro w' hSw; (try dsimp only at hSw); have q1 := (CP.out.r3.up hSw (by omega)).cell (j := 2) (v := .slice a3 l.length c3) rfl; have q2 := (CP.out.r1.up hSw (by omega)).cell (j := 2) (v := .slice (some ⟨b, off, none⟩) D.lines.length lc) rfl; have q3 := bcl hSw hbw3 RA.out; clear hSw; go_simp; try with_reducible rfl)
          simp only [Act.put, List.getElem_toArray, List.getElem_cons_zero, List.getElem_cons_succ, List.setIfInBounds_toArray, List.set_cons_zero, List.set_cons_succ]
          refine Still.takeBy (i := 8) [] (v := ?v58) (by kernel_rfl) (by kernel_rfl) rfl (by kernel_rfl) (by kernel_rfl) (by kernel_rfl) (fun _ _ _ h => h) (Or.inl ⟨by rfl, ?y58⟩) hHeld ?r58
          case y58 => (intro w' hSw; (try dsimp only at hSw); have q1 := (CP.out.r3.up hSw (by omega)).cell (j := 2) (v := .slice a3 l.length c3) rfl; have q2 := (CP.out.r1.up hSw (by omega)).cell (j := 2) (v := .slice (some ⟨b, off, none⟩) D.lines.length lc) rfl; have q3 := bcl hSw hbw3 RA.out; clear hSw; go_simp; try with_reducible rfl)
          simp only [Act.put, List.getElem_toArray, List.getElem_cons_zero, List.getElem_cons_succ, List.setIfInBounds_toArray, List.set_cons_zero, List.set_cons_succ]
          refine Still.all (rs := [2]) (by kernel_rfl) (by simp) (Still.one (i := 2) rfl rfl (fun K hK => ?_) (by simp))
          go_simp
          refine hK _ _ (fun _ => Below.alloc (Below.refl _ _).drew (by simpa using hz) _) (fun hh => ?_)
          have hHeld := hh (by decide)
          clear hK K hh
          try simp only [Act.put, List.getElem_toArray, List.getElem_cons_zero, List.getElem_cons_succ, List.setIfInBounds_toArray, List.set_cons_zero, List.set_cons_succ]
          refine Still.all (rs := [9]) (by kernel_rfl) (by simp) (Still.one (i := 9) rfl rfl (fun K hK => ?_) (by simp))
          refine wp_append_lit (.tmp 36) (.tmp 42) 52 rfl wr.heap.size 3 i0 _ 1 8 Tryd.underlying52 hi0 hz0 hz1 hz2 rfl (by decide) wr.heap.size (by first | rfl | simp [Act.eval, Act.put]) (Rw.new _ 3 _ rfl) (Nat.le_refl _) (.slice ao d.length oc) d.length (ints d) (by first | rfl | simp [Act.eval, Act.put]) (SO.out.up ((Below.refl _ _).drew.alloc (Nat.le_refl _) _)) (ints_cell d) (by unfold maxLen; omega) (by omega) ?_
          intro v' W2 hown hb2 hat2
          obtain ⟨a2, c2, rfl⟩ := own_form hown
          have hob := own_block hown
          have hol2 := own_lt hown
          have bW : Below wr.heap.size wr W2 := Below.trans ((Below.refl _ _).drew.alloc (Nat.le_refl _) _) (hb2.mono (by simp))
          have z2 := bW.size
          have CP2 := Lib.hid (CP.out.up bW)
          have S2 := Lib.hid (own_sl hown)
          refine hK _ _ (fun _ => bW.mono (by omega)) (fun hh => ?_)
          have hHeld := hh (by decide)
          clear hK K hh
          try simp only [Act.put, List.getElem_toArray, List.getElem_cons_zero, List.getElem_cons_succ, List.setIfInBounds_toArray, List.set_cons_zero, List.set_cons_succ]
          clear hown hb2 hat2
          refine Still.takeBy (i := 10) [] (v := ?v59) (by kernel_rfl) (by kernel_rfl) rfl (by kernel_rfl) (by kernel_rfl) (by kernel_rfl) (fun _ _ _ h => h) (Or.inl ⟨by rfl, ?y59⟩) hHeld ?r59
          case y59 => (intro w' hSw; (try dsimp only at hSw); go_simp; try with_reducible rfl)
          simp only [Act.put, List.getElem_toArray, List.getElem_cons_zero, List.getElem_cons_succ, List.setIfInBounds_toArray, List.set_cons_zero, List.set_cons_succ]
          refine Still.all (rs := [11]) (by kernel_rfl) (by simp) (Still.one (i := 11) rfl rfl (fun K hK => ?_) (by simp))
          go_simp
          refine hK _ _ (fun _ => Below.alloc (bW.mono (by omega)) (by omega) _) (fun hh => ?_)
          have hHeld := hh (by decide)
          clear hK K hh
          try simp only [Act.put, List.getElem_toArray, List.getElem_cons_zero, List.getElem_cons_succ, List.setIfInBounds_toArray, List.set_cons_zero, List.set_cons_succ]
          have IN : In (w.heap.size + 3) 0 (W2.alloc (.cells #[.slice a2 d.length c2] 59)) vc (.slice a3 l.length c3) (.slice a2 d.length c2) := fun x e => by
            have h1 : wr.heap.size ≤ x := hob x e
            have h2 := hol2 x e
            refine ⟨by omega, by simp; omega, fun e' => ?_, fun e' => ?_⟩
            · have := (CP.out.n.ltC x e').2; omega
            · have := (HVL.out x e').2; omega
          obtain ⟨vs, hvs, hadd⟩ := (CP2.out.n.alloc (.cells #[.slice a2 d.length c2] 59)).addL d (.slice a2 d.length c2) (S2.out.up ((Below.refl _ _).alloc (Nat.le_refl _) _)) IN
          refine Still.all (rs := [12]) (by kernel_rfl) (by simp) (Still.one (i := 12) rfl rfl (fun K hK => ?_) (by simp))
          refine wp_append_lies _ (.tmp 35) (.tmp 45) 28 rfl (w.heap.size + 3) 59 i2 _ 1 24 Tryd.underlying28 hi2 hx0 hx1 hx2 rfl (by decide) (.slice a3 l.length c3) l.length vs (by first | rfl | simp [Act.eval, Act.put]) hvs ⟨W2.heap.size, 0, none⟩ 1 1 [.slice a2 d.length c2] (by first | rfl | simp [Act.eval, Act.put]) rfl (new_range _ _ #[.slice a2 d.length c2] _ rfl) (fun u hu => by simp at hu; subst hu; rfl) (by decide) (by have := HLL.out; unfold maxLen; omega) (by have := HLL.out; omega) (by simp; omega) _ rfl ?_
          intro g4 cap4 W4 hown hgrow hat hg4
          have hn4 := hadd _ W4 hown hgrow (hat.imp (fun e => e) (fun e => ⟨g4, rfl, by rw [e]; simp⟩))
          have hltL := CP2.out.n.ltL
          obtain ⟨hC5, hr5⟩ := (CP2.out.up (wr' := W2.alloc (.cells #[.slice a2 d.length c2] 59)) ((Below.refl _ _).alloc (Nat.le_refl _) _)).growL hgrow hn4
          have C5 := Lib.hid hC5
          have bS : Below (w.heap.size + 3) wr W4 := Below.grown (Below.alloc (bW.mono (by omega)) (by omega) _) hgrow (by simp; omega) (fun k e => (hltL k e).1)
          have q5 := hr5.cell (j := 2) (v := .slice a3 l.length c3) rfl
          have f5 := hr5.fr 2
          clear hown hgrow hat hn4 hC5 hvs hadd IN hr5 hltL
          refine hK _ _ (fun _ => bS) (fun hh => ?_)
          have hHeld := hh (by decide)
          clear hK K hh
          try simp only [Act.put, List.getElem_toArray, List.getElem_cons_zero, List.getElem_cons_succ, List.setIfInBounds_toArray, List.set_cons_zero, List.set_cons_succ]
          clear bS bW
          refine Still.takeBy (i := 13) [] (v := ?v60) (by kernel_rfl) (by kernel_rfl) rfl (by kernel_rfl) (by kernel_rfl) (by kernel_rfl) (fun _ _ _ h => h) (Or.inl ⟨by rfl, ?y60⟩) hHeld ?r60
          case y60 => (intro w' hSw; (try dsimp only at hSw); go_simp; try with_reducible rfl)
          simp only [Act.put, List.getElem_toArray, List.getElem_cons_zero, List.getElem_cons_succ, List.setIfInBounds_toArray, List.set_cons_zero, List.set_cons_succ]
          refine Still.all (rs := [14]) (by kernel_rfl) (by simp) (Still.one (i := 14) rfl rfl (fun K hK => ?_) (by simp))
          clear hHeld
          go_simp
          refine hK _ _ (fun h => absurd rfl h) (fun _ => ?_)
          clear hK K
          refine Still.over (by kernel_rfl) ?_ _
          clear q5 f5
          go_wp2
          go_roundw
          case rel => exact ⟨j + 1, by go_num, by omega, Lib.hid ⟨_, by rw [List.take_succ_eq_append_getElem hlt, HLK.out, HD.out]; exact C5.out⟩⟩
          case measure => simp [intOf]; omega
        · have hli : ¬ (j : Int) < D.lines.length := by omega
          have hle : l = D.lines := by rw [← HLK.out]; exact List.take_of_length_le (by omega)
          subst hle
          have CP := Lib.hid hC
          obtain ⟨a3, c3, rfl⟩ := hC.n.formC
          obtain ⟨a4, c4, rfl⟩ := hC.n.formL
          clear hC HLK HLL
          go_wp2_with (first | (refine wpList_load_row rfl 30 (.tmp 3) rfl (w.heap.size + 1 + 1) rfl 30 _ (0, 0) _ CP.out.r3 Tryd.underlying30 rfl sizeWld ?_) | (refine wpList_store_row rfl 30 (.tmp 2) (.tmp 48) rfl (w.heap.size + 1) #[.int .i64 D.tick, .slice a3 D.cells.length c3, .slice a4 D.lines.length c4] rfl rfl 30 _ CP.out.r2 sizeWld rfl (by simp [Value.oneCell']) ?_))
          refine bodyPost_ret (results_cell_row Tryd.results25 _ _ (w.heap.size + 1) 30 #[.int .i64 D.tick, .slice a3 D.cells.length c3, .slice a4 D.lines.length c4] (0, 0) _ rfl (CP.out.r2.row _) Tryd.underlying30 rfl sizeWld) rfl ⟨_, _, rfl, (CP.out.n.row (by omega) _).low (by omega), below_row CP.out.d (by omega) _⟩
end Go.Proofs.YtjhjaafoikadgaaDoor
