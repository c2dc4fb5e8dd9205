/- ref.OwnWorld. -/
import Derived.Test.YtbkdoohhdkahiaaGreatDoorJ21
namespace Go.Proofs.YtbkdoohhdkahiaaGreatDoor
set_option linter.unusedSimpArgs false
set_option linter.unusedVariables false
set_option maxRecDepth 100000
set_option maxHeartbeats 8000000
open Go.RowKit Go.Sort
theorem xsf : xav 161 := xa8 Tryz.func161 kr kr
theorem xra {P : Program} {o : Oper} {a : Act} {w : World} {K : Act -> World -> Prop} {Q : Exit -> Act -> World -> Prop} (t e : TypeId) (x : Operand) (ho : o.op = .buildSlice t 1 #[(0, x)])
  (cs : Array Value) (hx : a.eval x = .agg cs) (hu : P.underlying t = some (.slice e)) (hsz : (P.info? e).map (·.size) = some cs.size) (hz : ((P.info? e).bind (·.zero)).isSome = true) (hpos : 0 < cs.size) (hsmall : cs.size <= 2 ^ 24)
  (h : K (a.put o.dst (.slice (some ⟨w.heap.size, 0, none⟩) 1 1)) (w.alloc (.cells cs e))) : o.wp P a w K Q := by
 cases hie : P.info? e with
 | none => simp [hie] at hsz
 | some ie =>
  simp only [hie, Option.map_some, Option.some.injEq, Option.bind_some] at hsz hz
  obtain ⟨z, hzz⟩ := Option.isSome_iff_exists.1 hz
  refine wp_buildSlice t e 1 _ ho cs ie z hu hie hzz om om ?_ h
  have hf := Great.fill_whole (s := ie.size) om [.agg cs] ((Array.range (1 * ie.size)).map (z.cells[· % z.cells.size]!)) (fun v hv => by simp at hv; subst hv; simpa [Value.cells] using hsz.symm) (by simp)
  simpa [hx, Value.cells] using hf
theorem xsd (c : Cel) (xs : List Int) (hx : xs.length <= 1000) (v : Value) (w : World) (hS : Sl w 1 v xs.length (xar xs)) :
  Calls Tryz.prog 161 #[.agg (c.cs v)] w fun e w' => ∃ ao cap, e = .returned (.agg (c.cs (.slice ao xs.length cap))) /\ w'.ownsRow w.heap.size 3 1 (.slice ao xs.length cap) xs.length (xar xs) /\ Below w.heap.size w w' := by
 have h := xha c xs hx v w hS
 rw [Cel.v_cs] at h
 refine h.mono ?_
 rintro e w' ⟨v', rfl, h1, h2⟩
 obtain ⟨ao, cap, rfl⟩ := xaq h1
 exact ⟨ao, cap, by rw [Cel.v_cs], h1, h2⟩
theorem xpz (D : WldD) (uc ul : Value) (w : World) (hc : D.cells.length <= 4) (hl : D.lines.length <= 6) (ho : ∀ k (h : k < D.cells.length), D.cells[k].out.length <= 16) (hln : ∀ k (h : k < D.lines.length), D.lines[k].length <= 3) (hW : Wld w uc ul D) :
  Calls Tryz.prog 109 #[.agg #[.int .i64 D.tick, uc, ul]] w fun e w' => ∃ vc vl, e = .returned (.agg #[.int .i64 D.tick, vc, vl]) /\ NewV w.heap.size 0 w' vc vl D.cells D.lines /\ Below w.heap.size w w' := by
 obtain ⟨i0, hi0, hz0, hz1, hz2⟩ := xaj xiw
 obtain ⟨i1, hi1, hy0, hy1, hy2⟩ := xaj xj3
 obtain ⟨i2, hi2, hx0, hx1, hx2⟩ := xaj xjt
 obtain ⟨ca, cc, rfl⟩ := hW.c.form
 obtain ⟨la, lc, rfl⟩ := hW.l.form
 have HW := Lib.hid hW
 have HO := Lib.hid ho
 have HLN := Lib.hid hln
 clear hW ho hln
 go_enter Tryz.func109, Tryz.ntmps109
 go_wp2
 go_loopw [4] (fun i wr => ∃ k : Nat, i = .int .i64 k /\ k <= D.cells.length /\ Hid (∃ vc, Cp w wr D.tick (.slice ca D.cells.length cc) (.slice la D.lines.length lc) vc (.slice none 0 0) (D.cells.take k) [])) (fun i _ => D.cells.length - (intOf i).toNat)
 case atStart => exact ⟨0, rfl, Nat.zero_le _, Lib.hid ⟨_, up0, by simp, rn0, rn0, rn0, NewV.nil _ _ _⟩⟩
 case round =>
  obtain ⟨k, rfl, hk, HC⟩ := hrel
  obtain ⟨vc, hC⟩ := HC.out
  clear HC
  generalize hlk : D.cells.take k = l at hC
  have HLK := Lib.hid hlk
  have HLL : Hid (l.length = k) := by
   show _ = _
   rw [<- hlk]
   simp
   omega
  clear hlk
  have q0 := hC.r1.cell (j := 1) (v := .slice ca D.cells.length cc) rfl
  by_cases hlt : k < D.cells.length
  .have hli : (k : Int) < D.cells.length := by omega
   have h0i : (0 : Int) <= k := by omega
   have hz := hC.z
   have hws := hC.d.size
   obtain ⟨b, off, cap, e1, hcap, hbw, hcc⟩ := HW.out.c.open om
   cases e1
   obtain ⟨ao, oc, hra, hso⟩ := hcc k hlt
   have RA := Lib.hid (xda hra hC.d hbw)
   have SO := Lib.hid (hso.up hC.d)
   have hol := HO.out k hlt
   generalize hd : D.cells[k] = d at RA SO hol
   obtain ⟨c, out⟩ := d
   have HD := Lib.hid hd
   simp only at RA SO hol
   have CP := Lib.hid hC
   have hcl := hC.n.formC
   clear hra hso hcc hd hC
   obtain ⟨a3, c3, rfl⟩ := hcl
   have HOC := Lib.hid fun V hS => xsd c out om (.slice ao out.length oc) V hS
   have hbw3 : b < w.heap.size + 3 := by omega
   go_wp2
   clear q0
   refine xad (S := fun w' => Below (w.heap.size + 3) wr w') 11 kr (Below.refl _ _).drew (fun hHeld => ?_)
   have hq := fun w' (hSw : (fun w' => Below (w.heap.size + 3) wr w') w') => And.intro ((CP.out.r3.up hSw om).cell (j := 1) (v := .slice a3 l.length c3) rfl) ((CP.out.r1.up hSw om).cell (j := 1) (v := .slice (some ⟨b, off, none⟩) D.cells.length cc) rfl)
   refine Still.u 0 [] hHeld hq ?_
   refine Still.u 1 [] hHeld hq ?_
   refine Still.u 2 [] hHeld hq ?_
   refine Still.u 3 [] hHeld hq ?_
   refine Still.u 4 [] hHeld hq ?_
   refine Still.u 5 [] hHeld hq ?_
   refine Still.y 6 [] rfl (xd0 (by rfl) _ _ rfl b (off + k * 16) ev (c.cs (.slice ao out.length oc)) _ (fun w' hSw => xda RA.out hSw hbw3) Tryz.underlying77 rfl xac) hHeld ?_
   refine Still.o 7 rfl rfl (fun K hK => ?_)
   refine xap 161 _ _ rfl xsf #[.agg (c.cs (.slice ao out.length oc))] ev ((HOC.out _ (SO.out.up (Below.refl _ _).drew)).mono ?_)
   rintro e W2 ⟨a2, c2, rfl, hown, bb⟩
   have bW : Below wr.heap.size wr W2 := Below.trans (Below.refl _ _).drew bb
   have hob := xab hown
   have hol2 := xbc hown
   have z2 := bW.size
   have CP2 := Lib.hid (CP.out.up bW)
   have S2 := Lib.hid (xa7 hown)
   refine ⟨_, rfl, hK _ _ (fun _ => bW.mono om) (fun hh => ?_)⟩
   have hHeld := hh (by decide)
   clear hK K hh
   try simp only [Act.put, l1, l2, l3, l4, l5, l6]
   clear hown bb
   have IN : In (w.heap.size + 3) 0 (W2.alloc (.cells (c.cs (.slice a2 out.length c2)) 77)) (.slice a3 l.length c3) (.slice none 0 0) (.slice a2 out.length c2) := fun x e => by
    have h1 : wr.heap.size <= x := hob x e
    have h2 := hol2 x e
    refine ⟨by omega, by simp; omega, fun e' => ?_, fun e' => by cases e'⟩
    have := (CP.out.n.ltC x e').2; omega
   obtain ⟨ps, hps, hadd⟩ := (CP2.out.n.alloc (.cells (c.cs (.slice a2 out.length c2)) 77)).addC ⟨c, out⟩ (.slice a2 out.length c2) (S2.out.up ((Below.refl _ _).alloc (Nat.le_refl _) _)) IN
   refine Still.o 8 rfl rfl (fun K hK => ?_)
   refine xra 58 77 (.tmp 23) rfl (c.cs (.slice a2 out.length c2)) ev Tryz.underlying58 xac xs5 (by show 0 < 16; decide) (by show 16 <= 2 ^ 24; decide) ?_
   refine hK _ _ (fun _ => Below.alloc (bW.mono om) om _) (fun hh => ?_)
   have hHeld := hh (by decide)
   clear hK K hh
   try simp only [Act.put, l1, l2, l3, l4, l5, l6]
   refine Still.o 9 rfl rfl (fun K hK => ?_)
   refine wp_append_lies _ (.tmp 17) (.tmp 24) 58 rfl (w.heap.size + 3) 77 i1 _ 16 144 Tryz.underlying58 hi1 hy0 hy1 hy2 rfl (by decide) (.slice a3 l.length c3) l.length (xbe xml ps) ev hps ⟨W2.heap.size, 0, none⟩ 1 1 (c.cs (.slice a2 out.length c2)).toList ev (x2f _ _) (xim _ _ _ _ rfl) (xwm _ _ rfl) (by decide) (by have := HLL.out; unfold maxLen; omega) (by have := HLL.out; omega) so _ rfl ?_
   intro g4 cap4 W4 hown hgrow hat hg4
   have hn4 := hadd _ W4 hown hgrow (hat.imp (fun e => e) (fun e => ⟨g4, rfl, by rw [e]; simp⟩))
   have hltC := CP2.out.n.ltC
   obtain ⟨hC5, hr5⟩ := (CP2.out.up (wr' := W2.alloc (.cells (c.cs (.slice a2 out.length c2)) 77)) ((Below.refl _ _).alloc (Nat.le_refl _) _)).grow hgrow hn4
   have C5 := Lib.hid hC5
   have bS : Below (w.heap.size + 3) wr W4 := Below.grown (Below.alloc (bW.mono om) om _) hgrow so (fun k e => (hltC k e).1)
   have q5 := hr5.cell (j := 1) (v := .slice a3 l.length c3) rfl
   have f5 := hr5.fr 1
   clear hown hgrow hat hn4 hC5 hps hadd IN hr5 hltC
   refine hK _ _ (fun _ => bS) (fun hh => ?_)
   have hHeld := hh (by decide)
   clear hK K hh
   try simp only [Act.put, l1, l2, l3, l4, l5, l6]
   clear bS bW
   refine Still.t 10 [] hHeld ?_
   refine Still.o 11 rfl rfl (fun K hK => ?_)
   clear hHeld
   go_simp
   refine hK _ _ ab (fun _ => Still.vv ?_)
   clear hK K
   clear q5 f5
   go_wp2
   go_roundw
   case rel => exact ⟨k + 1, by go_num, by omega, Lib.hid ⟨_, by rw [List.take_succ_eq_append_getElem hlt, HLK.out, HD.out]; exact C5.out⟩⟩
   case measure => simp [intOf]; omega
  .have hli : ¬ (k : Int) < D.cells.length := by omega
   have hle : l = D.cells := by rw [<- HLK.out]; exact List.take_of_length_le om
   subst hle
   have CP := Lib.hid hC
   clear hC HLK HLL
   go_wp2
   clear q0
   go_loopw [5] (fun i wr => ∃ k : Nat, i = .int .i64 k /\ k <= D.lines.length /\ Hid (∃ vl, Cp w wr D.tick (.slice ca D.cells.length cc) (.slice la D.lines.length lc) vc vl D.cells (D.lines.take k))) (fun i _ => D.lines.length - (intOf i).toNat)
   case atStart => exact ⟨0, rfl, Nat.zero_le _, Lib.hid ⟨_, CP.out⟩⟩
   case round =>
    clear CP hlt hli hk
    obtain ⟨j, rfl, hj, HC⟩ := hrel
    obtain ⟨vl, hC⟩ := HC.out
    clear HC
    generalize hlk : D.lines.take j = l at hC
    have HLK := Lib.hid hlk
    have HLL : Hid (l.length = j) := by
     show _ = _
     rw [<- hlk]
     simp
     omega
    clear hlk
    have q0 := hC.r1.cell (j := 2) (v := .slice la D.lines.length lc) rfl
    by_cases hlt : j < D.lines.length
    .have hli : (j : Int) < D.lines.length := by omega
     have h0i : (0 : Int) <= j := by omega
     have hz := hC.z
     have hws := hC.d.size
     obtain ⟨b, off, cap, e1, hcap, hbw, hcc⟩ := HW.out.l.open om
     cases e1
     obtain ⟨ao, oc, hra, hso⟩ := hcc j hlt
     have RA := Lib.hid (bcl hC.d hbw hra)
     have SO := Lib.hid (hso.up hC.d)
     have hol := HLN.out j hlt
     generalize hd : D.lines[j] = d at RA SO hol
     have HD := Lib.hid hd
     have CP := Lib.hid hC
     obtain ⟨a3, c3, rfl⟩ := hC.n.formL
     have HVL := Lib.hid hC.n.ltL
     have hbw3 : b < w.heap.size + 3 := by omega
     clear hra hso hcc hd hC
     go_wp2
     clear q0
     refine xad (S := fun w' => Below (w.heap.size + 3) wr w') 14 kr (Below.refl _ _).drew (fun hHeld => ?_)
     have hq := fun w' (hSw : (fun w' => Below (w.heap.size + 3) wr w') w') => And.intro ((CP.out.r3.up hSw om).cell (j := 2) (v := .slice a3 l.length c3) rfl) (And.intro ((CP.out.r1.up hSw om).cell (j := 2) (v := .slice (some ⟨b, off, none⟩) D.lines.length lc) rfl) (bcl hSw hbw3 RA.out))
     refine Still.u 0 [] hHeld hq ?_
     refine Still.u 1 [] hHeld hq ?_
     refine Still.u 3 [] hHeld hq ?_
     refine Still.u 4 [] hHeld hq ?_
     refine Still.u 5 [] hHeld hq ?_
     refine Still.u 6 [] hHeld hq ?_
     refine Still.u 7 [] hHeld hq ?_
     refine Still.u 8 [] hHeld hq ?_
     refine Still.o 2 rfl rfl (fun K hK => ?_)
     go_simp
     refine hK _ _ (fun _ => Below.alloc (Below.refl _ _).drew (by simpa using hz) _) (fun hh => ?_)
     have hHeld := hh (by decide)
     clear hK K hh
     try simp only [Act.put, l1, l2, l3, l4, l5, l6]
     refine Still.o 9 rfl rfl (fun K hK => ?_)
     refine xhs (.tmp 36) (.tmp 42) 41 rfl wr.heap.size 3 i0 _ 1 8 Tryz.underlying41 hi0 hz0 hz1 hz2 rfl (by decide) wr.heap.size ev (Rw.new _ 3 _ rfl) (Nat.le_refl _) (.slice ao d.length oc) d.length (xar d) ev (SO.out.up ((Below.refl _ _).drew.alloc (Nat.le_refl _) _)) (xcg d) (by unfold maxLen; omega) om ?_
     intro v' W2 hown hb2 hat2
     obtain ⟨a2, c2, rfl⟩ := xaq hown
     have hob := xab hown
     have hol2 := xbc hown
     have bW : Below wr.heap.size wr W2 := Below.trans ((Below.refl _ _).drew.alloc (Nat.le_refl _) _) (hb2.mono (by simp))
     have z2 := bW.size
     have CP2 := Lib.hid (CP.out.up bW)
     have S2 := Lib.hid (xa7 hown)
     refine hK _ _ (fun _ => bW.mono om) (fun hh => ?_)
     have hHeld := hh (by decide)
     clear hK K hh
     try simp only [Act.put, l1, l2, l3, l4, l5, l6]
     clear hown hb2 hat2
     refine Still.t 10 [] hHeld ?_
     refine Still.o 11 rfl rfl (fun K hK => ?_)
     go_simp
     refine hK _ _ (fun _ => Below.alloc (bW.mono om) om _) (fun hh => ?_)
     have hHeld := hh (by decide)
     clear hK K hh
     try simp only [Act.put, l1, l2, l3, l4, l5, l6]
     have IN : In (w.heap.size + 3) 0 (W2.alloc (.cells #[.slice a2 d.length c2] 171)) vc (.slice a3 l.length c3) (.slice a2 d.length c2) := fun x e => by
      have h1 : wr.heap.size <= x := hob x e
      have h2 := hol2 x e
      refine ⟨by omega, by simp; omega, fun e' => ?_, fun e' => ?_⟩
      .have := (CP.out.n.ltC x e').2; omega
      .have := (HVL.out x e').2; omega
     obtain ⟨vs, hvs, hadd⟩ := (CP2.out.n.alloc (.cells #[.slice a2 d.length c2] 171)).addL d (.slice a2 d.length c2) (S2.out.up ((Below.refl _ _).alloc (Nat.le_refl _) _)) IN
     refine Still.o 12 rfl rfl (fun K hK => ?_)
     refine wp_append_lies _ (.tmp 35) (.tmp 45) 59 rfl (w.heap.size + 3) 171 i2 _ 1 24 Tryz.underlying59 hi2 hx0 hx1 hx2 rfl (by decide) (.slice a3 l.length c3) l.length vs ev hvs ⟨W2.heap.size, 0, none⟩ 1 1 [.slice a2 d.length c2] ev rfl (xim _ _ #[.slice a2 d.length c2] _ rfl) (fun u hu => by simp at hu; subst hu; rfl) (by decide) (by have := HLL.out; unfold maxLen; omega) (by have := HLL.out; omega) so _ rfl ?_
     intro g4 cap4 W4 hown hgrow hat hg4
     have hn4 := hadd _ W4 hown hgrow (hat.imp (fun e => e) (fun e => ⟨g4, rfl, by rw [e]; simp⟩))
     have hltL := CP2.out.n.ltL
     obtain ⟨hC5, hr5⟩ := (CP2.out.up (wr' := W2.alloc (.cells #[.slice a2 d.length c2] 171)) ((Below.refl _ _).alloc (Nat.le_refl _) _)).growL hgrow hn4
     have C5 := Lib.hid hC5
     have bS : Below (w.heap.size + 3) wr W4 := Below.grown (Below.alloc (bW.mono om) om _) hgrow so (fun k e => (hltL k e).1)
     have q5 := hr5.cell (j := 2) (v := .slice a3 l.length c3) rfl
     have f5 := hr5.fr 2
     clear hown hgrow hat hn4 hC5 hvs hadd IN hr5 hltL
     refine hK _ _ (fun _ => bS) (fun hh => ?_)
     have hHeld := hh (by decide)
     clear hK K hh
     try simp only [Act.put, l1, l2, l3, l4, l5, l6]
     clear bS bW
     refine Still.t 13 [] hHeld ?_
     refine Still.o 14 rfl rfl (fun K hK => ?_)
     clear hHeld
     go_simp
     refine hK _ _ ab (fun _ => Still.vv ?_)
     clear hK K
     clear q5 f5
     go_wp2
     go_roundw
     case rel => exact ⟨j + 1, by go_num, by omega, Lib.hid ⟨_, by rw [List.take_succ_eq_append_getElem hlt, HLK.out, HD.out]; exact C5.out⟩⟩
     case measure => simp [intOf]; omega
    .have hli : ¬ (j : Int) < D.lines.length := by omega
     have hle : l = D.lines := by rw [<- HLK.out]; exact List.take_of_length_le om
     subst hle
     have CP := Lib.hid hC
     obtain ⟨a3, c3, rfl⟩ := hC.n.formC
     obtain ⟨a4, c4, rfl⟩ := hC.n.formL
     clear hC HLK HLL
     go_wp2_with (first | (refine wpList_load_row rfl 61 (.tmp 3) rfl (w.heap.size + 1 + 1) rfl 61 _ (0, 0) _ CP.out.r3 Tryz.underlying61 rfl xa3 ?_) | (refine wpList_store_row rfl 61 (.tmp 2) (.tmp 48) rfl (w.heap.size + 1) #[.int .i64 D.tick, .slice a3 D.cells.length c3, .slice a4 D.lines.length c4] rfl rfl 61 _ CP.out.r2 xa3 rfl (by simp [Value.oneCell']) ?_))
     refine bodyPost_ret (results_cell_row Tryz.results109 _ _ (w.heap.size + 1) 61 #[.int .i64 D.tick, .slice a3 D.cells.length c3, .slice a4 D.lines.length c4] (0, 0) _ rfl (CP.out.r2.row _) Tryz.underlying61 rfl xa3) rfl ⟨_, _, rfl, (CP.out.n.row om _).low om, xaa CP.out.d om _⟩
end Go.Proofs.YtbkdoohhdkahiaaGreatDoor
