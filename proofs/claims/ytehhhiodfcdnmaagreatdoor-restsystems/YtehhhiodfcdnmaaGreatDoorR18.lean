/- ref.OwnWorld. -/
import Derived.Test.YtehhhiodfcdnmaaGreatDoorR17
namespace Go.Proofs.YtehhhiodfcdnmaaGreatDoor
set_option linter.unusedSimpArgs false
set_option linter.unusedVariables false
set_option maxRecDepth 100000
set_option maxHeartbeats 8000000
open Go.RowKit Go.Sort
theorem ent_ownCell : Enters 38 := enters Tryz.func38 kr kr
theorem wp_buildOne {P : Program} {o : Oper} {a : Act} {w : World} {K : Act → World → Prop} {Q : Exit → Act → World → Prop} (t e : TypeId) (x : Operand) (ho : o.op = .buildSlice t 1 #[(0, x)])
  (cs : Array Value) (hx : a.eval x = .agg cs) (hu : P.underlying t = some (.slice e)) (hsz : (P.info? e).map (·.size) = some cs.size) (hz : ((P.info? e).bind (·.zero)).isSome = true) (hpos : 0 < cs.size) (hsmall : cs.size ≤ 2 ^ 24)
  (h : K (a.put o.dst (.slice (some ⟨w.heap.size, 0, none⟩) 1 1)) (w.alloc (.cells cs e))) : o.wp P a w K Q := by
 cases hie : P.info? e with
 | none => simp [hie] at hsz
 | some ie =>
  simp only [hie, Option.map_some, Option.some.injEq, Option.bind_some] at hsz hz
  obtain ⟨z, hzz⟩ := Option.isSome_iff_exists.1 hz
  refine wp_buildSlice t e 1 _ ho cs ie z hu hie hzz om om ?_ h
  have hf := Great.fill_whole (s := ie.size) om [.agg cs] ((Array.range (1 * ie.size)).map (z.cells[· % z.cells.size]!)) (fun v hv => by simp at hv; subst hv; simpa [Value.cells] using hsz.symm) (by simp)
  simpa [hx, Value.cells] using hf
theorem ownCell_agg (c : Cel) (xs : List Int) (hx : xs.length ≤ 1000) (v : Value) (w : World) (hS : Sl w 1 v xs.length (ints xs)) :
  Calls Tryz.prog 38 #[.agg (c.cs v)] w fun e w' => ∃ ao cap, e = .returned (.agg (c.cs (.slice ao xs.length cap))) ∧ w'.ownsRow w.heap.size 3 1 (.slice ao xs.length cap) xs.length (ints xs) ∧ Below w.heap.size w w' := by
 have h := ownCell_any c xs hx v w hS
 rw [Cel.v_cs] at h
 refine h.mono ?_
 rintro e w' ⟨v', rfl, h1, h2⟩
 obtain ⟨ao, cap, rfl⟩ := own_form h1
 exact ⟨ao, cap, by rw [Cel.v_cs], h1, h2⟩
theorem ownWorld_any (D : WldD) (uc ul : Value) (w : World) (hc : D.cells.length ≤ 4) (hl : D.lines.length ≤ 6) (ho : ∀ k (h : k < D.cells.length), D.cells[k].out.length ≤ 16) (hln : ∀ k (h : k < D.lines.length), D.lines[k].length ≤ 3) (hW : Wld w uc ul D) :
  Calls Tryz.prog 26 #[.agg #[.int .i64 D.tick, uc, ul]] w fun e w' => ∃ vc vl, e = .returned (.agg #[.int .i64 D.tick, vc, vl]) ∧ NewV w.heap.size 0 w' vc vl D.cells D.lines ∧ Below w.heap.size w w' := by
 obtain ⟨i0, hi0, hz0, hz1, hz2⟩ := info_parts infoInt
 obtain ⟨i1, hi1, hy0, hy1, hy2⟩ := info_parts infoCell
 obtain ⟨i2, hi2, hx0, hx1, hx2⟩ := info_parts infoLine
 obtain ⟨ca, cc, rfl⟩ := hW.c.form
 obtain ⟨la, lc, rfl⟩ := hW.l.form
 have HW := Lib.hid hW
 have HO := Lib.hid ho
 have HLN := Lib.hid hln
 clear hW ho hln
 go_enter Tryz.func26, Tryz.ntmps26
 go_wp2
 go_loopw [4] (fun i wr => ∃ k : Nat, i = .int .i64 k ∧ k ≤ D.cells.length ∧ Hid (∃ vc, Cp w wr D.tick (.slice ca D.cells.length cc) (.slice la D.lines.length lc) vc (.slice none 0 0) (D.cells.take k) [])) (fun i _ => D.cells.length - (intOf i).toNat)
 case atStart => exact ⟨0, rfl, Nat.zero_le _, Lib.hid ⟨_, up0, by simp, rn0, rn0, rn0, NewV.nil _ _ _⟩⟩
 case round =>
  obtain ⟨k, rfl, hk, HC⟩ := hrel
  obtain ⟨vc, hC⟩ := HC.out
  clear HC
  generalize hlk : D.cells.take k = l at hC
  have HLK := Lib.hid hlk
  have HLL : Hid (l.length = k) := by
   show _ = _
   rw [← hlk]
   simp
   omega
  clear hlk
  have q0 := hC.r1.cell (j := 1) (v := .slice ca D.cells.length cc) rfl
  by_cases hlt : k < D.cells.length
  ·have hli : (k : Int) < D.cells.length := by omega
   have h0i : (0 : Int) ≤ k := by omega
   have hz := hC.z
   have hws := hC.d.size
   obtain ⟨b, off, cap, e1, hcap, hbw, hcc⟩ := HW.out.c.open om
   cases e1
   obtain ⟨ao, oc, hra, hso⟩ := hcc k hlt
   have RA := Lib.hid (range_up hra hC.d hbw)
   have SO := Lib.hid (hso.up hC.d)
   have hol := HO.out k hlt
   generalize hd : D.cells[k] = d at RA SO hol
   obtain ⟨c, out⟩ := d
   have HD := Lib.hid hd
   simp only at RA SO hol
   have CP := Lib.hid hC
   have hcl := hC.n.formC
   clear hra hso hcc hd hC
   obtain ⟨a3, c3, rfl⟩ := hcl
   have HOC := Lib.hid fun V hS => ownCell_agg c out om (.slice ao out.length oc) V hS
   have hbw3 : b < w.heap.size + 3 := by omega
   go_wp2
   clear q0
   refine region_still (S := fun w' => Below (w.heap.size + 3) wr w') 11 kr (Below.refl _ _).drew (fun hHeld => ?_)
   have hq := fun w' (hSw : (fun w' => Below (w.heap.size + 3) wr w') w') => And.intro ((CP.out.r3.up hSw om).cell (j := 1) (v := .slice a3 l.length c3) rfl) ((CP.out.r1.up hSw om).cell (j := 1) (v := .slice (some ⟨b, off, none⟩) D.cells.length cc) rfl)
   refine Still.u 0 [] hHeld hq ?_
   refine Still.u 1 [] hHeld hq ?_
   refine Still.u 2 [] hHeld hq ?_
   refine Still.u 3 [] hHeld hq ?_
   refine Still.u 4 [] hHeld hq ?_
   refine Still.u 5 [] hHeld hq ?_
   refine Still.y 6 [] rfl (yields_load_midA (by rfl) _ _ rfl b (off + k * 16) ev (c.cs (.slice ao out.length oc)) _ (fun w' hSw => range_up RA.out hSw hbw3) Tryz.underlying35 rfl sizeCell) hHeld ?_
   refine Still.o 7 rfl rfl (fun K hK => ?_)
   refine wp_call 38 _ _ rfl ent_ownCell #[.agg (c.cs (.slice ao out.length oc))] ev ((HOC.out _ (SO.out.up (Below.refl _ _).drew)).mono ?_)
   rintro e W2 ⟨a2, c2, rfl, hown, bb⟩
   have bW : Below wr.heap.size wr W2 := Below.trans (Below.refl _ _).drew bb
   have hob := own_block hown
   have hol2 := own_lt hown
   have z2 := bW.size
   have CP2 := Lib.hid (CP.out.up bW)
   have S2 := Lib.hid (own_sl hown)
   refine ⟨_, rfl, hK _ _ (fun _ => bW.mono om) (fun hh => ?_)⟩
   have hHeld := hh (by decide)
   clear hK K hh
   try simp only [Act.put, l1, l2, l3, l4, l5, l6]
   clear hown bb
   have IN : In (w.heap.size + 3) 0 (W2.alloc (.cells (c.cs (.slice a2 out.length c2)) 35)) (.slice a3 l.length c3) (.slice none 0 0) (.slice a2 out.length c2) := fun x e => by
    have h1 : wr.heap.size ≤ x := hob x e
    have h2 := hol2 x e
    refine ⟨by omega, by simp; omega, fun e' => ?_, fun e' => by cases e'⟩
    have := (CP.out.n.ltC x e').2; omega
   obtain ⟨ps, hps, hadd⟩ := (CP2.out.n.alloc (.cells (c.cs (.slice a2 out.length c2)) 35)).addC ⟨c, out⟩ (.slice a2 out.length c2) (S2.out.up ((Below.refl _ _).alloc (Nat.le_refl _) _)) IN
   refine Still.o 8 rfl rfl (fun K hK => ?_)
   refine wp_buildOne 27 35 (.tmp 23) rfl (c.cs (.slice a2 out.length c2)) ev Tryz.underlying27 sizeCell zeroCell (by show 0 < 16; decide) (by show 16 ≤ 2 ^ 24; decide) ?_
   refine hK _ _ (fun _ => Below.alloc (bW.mono om) om _) (fun hh => ?_)
   have hHeld := hh (by decide)
   clear hK K hh
   try simp only [Act.put, l1, l2, l3, l4, l5, l6]
   refine Still.o 9 rfl rfl (fun K hK => ?_)
   refine wp_append_lies _ (.tmp 17) (.tmp 24) 27 rfl (w.heap.size + 3) 35 i1 _ 16 144 Tryz.underlying27 hi1 hy0 hy1 hy2 rfl (by decide) (.slice a3 l.length c3) l.length (rowC celC ps) ev hps ⟨W2.heap.size, 0, none⟩ 1 1 (c.cs (.slice a2 out.length c2)).toList ev (cs_len _ _) (new_range _ _ _ _ rfl) (cs_oneL _ _ rfl) (by decide) (by have := HLL.out; unfold maxLen; omega) (by have := HLL.out; omega) so _ rfl ?_
   intro g4 cap4 W4 hown hgrow hat hg4
   have hn4 := hadd _ W4 hown hgrow (hat.imp (fun e => e) (fun e => ⟨g4, rfl, by rw [e]; simp⟩))
   have hltC := CP2.out.n.ltC
   obtain ⟨hC5, hr5⟩ := (CP2.out.up (wr' := W2.alloc (.cells (c.cs (.slice a2 out.length c2)) 35)) ((Below.refl _ _).alloc (Nat.le_refl _) _)).grow hgrow hn4
   have C5 := Lib.hid hC5
   have bS : Below (w.heap.size + 3) wr W4 := Below.grown (Below.alloc (bW.mono om) om _) hgrow so (fun k e => (hltC k e).1)
   have q5 := hr5.cell (j := 1) (v := .slice a3 l.length c3) rfl
   have f5 := hr5.fr 1
   clear hown hgrow hat hn4 hC5 hps hadd IN hr5 hltC
   refine hK _ _ (fun _ => bS) (fun hh => ?_)
   have hHeld := hh (by decide)
   clear hK K hh
   try simp only [Act.put, l1, l2, l3, l4, l5, l6]
   clear bS bW
   refine Still.t 10 [] hHeld ?_
   refine Still.o 11 rfl rfl (fun K hK => ?_)
   clear hHeld
   go_simp
   refine hK _ _ ab (fun _ => Still.vv ?_)
   clear hK K
   clear q5 f5
   go_wp2
   go_roundw
   case rel => exact ⟨k + 1, by go_num, by omega, Lib.hid ⟨_, by rw [List.take_succ_eq_append_getElem hlt, HLK.out, HD.out]; exact C5.out⟩⟩
   case measure => simp [intOf]; omega
  ·have hli : ¬ (k : Int) < D.cells.length := by omega
   have hle : l = D.cells := by rw [← HLK.out]; exact List.take_of_length_le om
   subst hle
   have CP := Lib.hid hC
   clear hC HLK HLL
   go_wp2
   clear q0
   go_loopw [5] (fun i wr => ∃ k : Nat, i = .int .i64 k ∧ k ≤ D.lines.length ∧ Hid (∃ vl, Cp w wr D.tick (.slice ca D.cells.length cc) (.slice la D.lines.length lc) vc vl D.cells (D.lines.take k))) (fun i _ => D.lines.length - (intOf i).toNat)
   case atStart => exact ⟨0, rfl, Nat.zero_le _, Lib.hid ⟨_, CP.out⟩⟩
   case round =>
    clear CP hlt hli hk
    obtain ⟨j, rfl, hj, HC⟩ := hrel
    obtain ⟨vl, hC⟩ := HC.out
    clear HC
    generalize hlk : D.lines.take j = l at hC
    have HLK := Lib.hid hlk
    have HLL : Hid (l.length = j) := by
     show _ = _
     rw [← hlk]
     simp
     omega
    clear hlk
    have q0 := hC.r1.cell (j := 2) (v := .slice la D.lines.length lc) rfl
    by_cases hlt : j < D.lines.length
    ·have hli : (j : Int) < D.lines.length := by omega
     have h0i : (0 : Int) ≤ j := by omega
     have hz := hC.z
     have hws := hC.d.size
     obtain ⟨b, off, cap, e1, hcap, hbw, hcc⟩ := HW.out.l.open om
     cases e1
     obtain ⟨ao, oc, hra, hso⟩ := hcc j hlt
     have RA := Lib.hid (bcl hC.d hbw hra)
     have SO := Lib.hid (hso.up hC.d)
     have hol := HLN.out j hlt
     generalize hd : D.lines[j] = d at RA SO hol
     have HD := Lib.hid hd
     have CP := Lib.hid hC
     obtain ⟨a3, c3, rfl⟩ := hC.n.formL
     have HVL := Lib.hid hC.n.ltL
     have hbw3 : b < w.heap.size + 3 := by omega
     clear hra hso hcc hd hC
     go_wp2
     clear q0
     refine region_still (S := fun w' => Below (w.heap.size + 3) wr w') 14 kr (Below.refl _ _).drew (fun hHeld => ?_)
     have hq := fun w' (hSw : (fun w' => Below (w.heap.size + 3) wr w') w') => And.intro ((CP.out.r3.up hSw om).cell (j := 2) (v := .slice a3 l.length c3) rfl) (And.intro ((CP.out.r1.up hSw om).cell (j := 2) (v := .slice (some ⟨b, off, none⟩) D.lines.length lc) rfl) (bcl hSw hbw3 RA.out))
     refine Still.u 0 [] hHeld hq ?_
     refine Still.u 1 [] hHeld hq ?_
     refine Still.u 3 [] hHeld hq ?_
     refine Still.u 4 [] hHeld hq ?_
     refine Still.u 5 [] hHeld hq ?_
     refine Still.u 6 [] hHeld hq ?_
     refine Still.u 7 [] hHeld hq ?_
     refine Still.u 8 [] hHeld hq ?_
     refine Still.o 2 rfl rfl (fun K hK => ?_)
     go_simp
     refine hK _ _ (fun _ => Below.alloc (Below.refl _ _).drew (by simpa using hz) _) (fun hh => ?_)
     have hHeld := hh (by decide)
     clear hK K hh
     try simp only [Act.put, l1, l2, l3, l4, l5, l6]
     refine Still.o 9 rfl rfl (fun K hK => ?_)
     refine wp_append_lit (.tmp 36) (.tmp 42) 33 rfl wr.heap.size 3 i0 _ 1 8 Tryz.underlying33 hi0 hz0 hz1 hz2 rfl (by decide) wr.heap.size ev (Rw.new _ 3 _ rfl) (Nat.le_refl _) (.slice ao d.length oc) d.length (ints d) ev (SO.out.up ((Below.refl _ _).drew.alloc (Nat.le_refl _) _)) (ints_cell d) (by unfold maxLen; omega) om ?_
     intro v' W2 hown hb2 hat2
     obtain ⟨a2, c2, rfl⟩ := own_form hown
     have hob := own_block hown
     have hol2 := own_lt hown
     have bW : Below wr.heap.size wr W2 := Below.trans ((Below.refl _ _).drew.alloc (Nat.le_refl _) _) (hb2.mono (by simp))
     have z2 := bW.size
     have CP2 := Lib.hid (CP.out.up bW)
     have S2 := Lib.hid (own_sl hown)
     refine hK _ _ (fun _ => bW.mono om) (fun hh => ?_)
     have hHeld := hh (by decide)
     clear hK K hh
     try simp only [Act.put, l1, l2, l3, l4, l5, l6]
     clear hown hb2 hat2
     refine Still.t 10 [] hHeld ?_
     refine Still.o 11 rfl rfl (fun K hK => ?_)
     go_simp
     refine hK _ _ (fun _ => Below.alloc (bW.mono om) om _) (fun hh => ?_)
     have hHeld := hh (by decide)
     clear hK K hh
     try simp only [Act.put, l1, l2, l3, l4, l5, l6]
     have IN : In (w.heap.size + 3) 0 (W2.alloc (.cells #[.slice a2 d.length c2] 81)) vc (.slice a3 l.length c3) (.slice a2 d.length c2) := fun x e => by
      have h1 : wr.heap.size ≤ x := hob x e
      have h2 := hol2 x e
      refine ⟨by omega, by simp; omega, fun e' => ?_, fun e' => ?_⟩
      ·have := (CP.out.n.ltC x e').2; omega
      ·have := (HVL.out x e').2; omega
     obtain ⟨vs, hvs, hadd⟩ := (CP2.out.n.alloc (.cells #[.slice a2 d.length c2] 81)).addL d (.slice a2 d.length c2) (S2.out.up ((Below.refl _ _).alloc (Nat.le_refl _) _)) IN
     refine Still.o 12 rfl rfl (fun K hK => ?_)
     refine wp_append_lies _ (.tmp 35) (.tmp 45) 28 rfl (w.heap.size + 3) 81 i2 _ 1 24 Tryz.underlying28 hi2 hx0 hx1 hx2 rfl (by decide) (.slice a3 l.length c3) l.length vs ev hvs ⟨W2.heap.size, 0, none⟩ 1 1 [.slice a2 d.length c2] ev rfl (new_range _ _ #[.slice a2 d.length c2] _ rfl) (fun u hu => by simp at hu; subst hu; rfl) (by decide) (by have := HLL.out; unfold maxLen; omega) (by have := HLL.out; omega) so _ rfl ?_
     intro g4 cap4 W4 hown hgrow hat hg4
     have hn4 := hadd _ W4 hown hgrow (hat.imp (fun e => e) (fun e => ⟨g4, rfl, by rw [e]; simp⟩))
     have hltL := CP2.out.n.ltL
     obtain ⟨hC5, hr5⟩ := (CP2.out.up (wr' := W2.alloc (.cells #[.slice a2 d.length c2] 81)) ((Below.refl _ _).alloc (Nat.le_refl _) _)).growL hgrow hn4
     have C5 := Lib.hid hC5
     have bS : Below (w.heap.size + 3) wr W4 := Below.grown (Below.alloc (bW.mono om) om _) hgrow so (fun k e => (hltL k e).1)
     have q5 := hr5.cell (j := 2) (v := .slice a3 l.length c3) rfl
     have f5 := hr5.fr 2
     clear hown hgrow hat hn4 hC5 hvs hadd IN hr5 hltL
     refine hK _ _ (fun _ => bS) (fun hh => ?_)
     have hHeld := hh (by decide)
     clear hK K hh
     try simp only [Act.put, l1, l2, l3, l4, l5, l6]
     clear bS bW
     refine Still.t 13 [] hHeld ?_
     refine Still.o 14 rfl rfl (fun K hK => ?_)
     clear hHeld
     go_simp
     refine hK _ _ ab (fun _ => Still.vv ?_)
     clear hK K
     clear q5 f5
     go_wp2
     go_roundw
     case rel => exact ⟨j + 1, by go_num, by omega, Lib.hid ⟨_, by rw [List.take_succ_eq_append_getElem hlt, HLK.out, HD.out]; exact C5.out⟩⟩
     case measure => simp [intOf]; omega
    ·have hli : ¬ (j : Int) < D.lines.length := by omega
     have hle : l = D.lines := by rw [← HLK.out]; exact List.take_of_length_le om
     subst hle
     have CP := Lib.hid hC
     obtain ⟨a3, c3, rfl⟩ := hC.n.formC
     obtain ⟨a4, c4, rfl⟩ := hC.n.formL
     clear hC HLK HLL
     go_wp2_with (first | (refine wpList_load_row rfl 30 (.tmp 3) rfl (w.heap.size + 1 + 1) rfl 30 _ (0, 0) _ CP.out.r3 Tryz.underlying30 rfl sizeWld ?_) | (refine wpList_store_row rfl 30 (.tmp 2) (.tmp 48) rfl (w.heap.size + 1) #[.int .i64 D.tick, .slice a3 D.cells.length c3, .slice a4 D.lines.length c4] rfl rfl 30 _ CP.out.r2 sizeWld rfl (by simp [Value.oneCell']) ?_))
     refine bodyPost_ret (results_cell_row Tryz.results26 _ _ (w.heap.size + 1) 30 #[.int .i64 D.tick, .slice a3 D.cells.length c3, .slice a4 D.lines.length c4] (0, 0) _ rfl (CP.out.r2.row _) Tryz.underlying30 rfl sizeWld) rfl ⟨_, _, rfl, (CP.out.n.row om _).low om, below_row CP.out.d om _⟩
structure Right (S : SysD) (D : WldD) : Prop where
 t0 : 0 ≤ D.tick
 t1 : D.tick ≤ 300
 c : cellsB S.parts D.cells = true
 l : linesB S.chans D.lines = true
theorem chkW_zero {S : SysD} {D : WldD} (h : chkW S D = 0) : chkS S = 0 ∧ Right S D := by
 unfold chkW at h
 split at h
 ·exact absurd h (by assumption)
 ·rename_i h1
  split at h
  ·rename_i h2
   rw [Bool.and_eq_true, Bool.and_eq_true] at h2
   obtain ⟨⟨h2, h3⟩, h4⟩ := h2
   unfold withinB at h2
   rw [Bool.and_eq_true, decide_eq_true_eq, decide_eq_true_eq] at h2
   exact ⟨by simpa using h1, h2.1, h2.2, h3, h4⟩
  ·omega
theorem chkW_right {S : SysD} {D : WldD} (hs : chkS S = 0) (h : Right S D) : chkW S D = 0 := by
 unfold chkW
 rw [if_neg (by simpa using hs), if_pos]
 rw [Bool.and_eq_true, Bool.and_eq_true]
 refine ⟨⟨?_, h.c⟩, h.l⟩
 unfold withinB
 rw [Bool.and_eq_true, decide_eq_true_eq, decide_eq_true_eq]
 exact ⟨h.t0, h.t1⟩
theorem replied_at (c : Cel) (k reg flag kind val : Int) (is : Bool) : (c.replied k reg flag kind val is).at_ = c.at_ ∧ (c.replied k reg flag kind val is).read = c.read ∧ (c.replied k reg flag kind val is).en = c.en := by
 unfold Cel.replied
 split
 ·exact ⟨setReg_at .., setReg_read .., setReg_en ..⟩
 ·split
  ·cases is
   ·exact ⟨setReg_at .., setReg_read .., setReg_en ..⟩
   ·exact ⟨(setReg_at ..).trans (setReg_at ..), (setReg_read ..).trans (setReg_read ..), (setReg_en ..).trans (setReg_en ..)⟩
  ·exact ⟨rfl, rfl, rfl⟩
theorem servR_len {kind : Int} {l : List Int} (h : chkL kind l.length = 0) (x : Wnt) : chkL kind (servR kind l x).1.length = 0 := by
 unfold servR
 split
 ·unfold putR
  rw [if_pos h]
  unfold putS
  rcases chkL_zero h with ⟨rfl, _⟩ | ⟨rfl, _⟩
  ·rfl
  ·simp only [show ¬((2 : Int) = 1) by decide, if_false]
   split
   ·exact h
   ·simp [chkL]
    omega
 ·unfold getR
  rw [if_pos h]
  cases l with
  | nil => exact h
  | cons a r =>
   simp only []
   split
   ·exact h
   ·rcases chkL_zero h with ⟨rfl, _⟩ | ⟨rfl, h2⟩
    ·contradiction
    ·simp at h2
     simp [chkL]
     omega
theorem cellsB_set {ps : List Prt} {ds : List CelD} (h : cellsB ps ds = true) {k : Nat} {d : CelD} (hd : ∀ h : k < ps.length, celB ps[k] d = true) : cellsB ps (ds.set k d) = true := by
 have hl := cellsB_len h
 refine cellsB_yes (by simpa using hl) fun j h1 h2 => ?_
 by_cases e : k = j
 ·subst e
  simpa using hd h1
 ·rw [List.getElem_set_ne e]
  exact cellsB_at h j h1 om
theorem linesB_set {cs : List Chn} {ls : List (List Int)} (h : linesB cs ls = true) {k : Nat} {l : List Int} (hd : ∀ h : k < cs.length, chkL cs[k].kd l.length = 0) : linesB cs (ls.set k l) = true := by
 have hl := linesB_len h
 refine linesB_yes (by simpa using hl) fun j h1 h2 => ?_
 by_cases e : k = j
 ·subst e
  simpa using hd h1
 ·rw [List.getElem_set_ne e]
  exact linesB_at h j h1 om
theorem celB_is {p : Prt} {d : CelD} (h : celB p d = true) : d.c.fine d.out.length = true ∧ d.c.read ≤ p.inn.length := by
 unfold celB at h
 rw [Bool.and_eq_true] at h
 exact ⟨h.1, by simpa using h.2⟩
theorem celB_of {p : Prt} {d : CelD} (h : d.c.fine d.out.length = true) (h2 : d.c.read ≤ p.inn.length) : celB p d = true := by
 unfold celB
 rw [Bool.and_eq_true]
 exact ⟨h, by simpa using h2⟩
theorem step_home {S : SysD} (h : chkS S = 0) {p : Nat} (hp : p < S.parts.length) {inn xs : List Int} {c : Cel} : (stepC S.parts[p].code inn xs c).2.2 = wntZ ∨ ∃ ch, S.chans[(stepC S.parts[p].code inn xs c).2.2.ch.toNat]? = some ch ∧ (ch.fr = p ∨ ch.tt = p) := by
 obtain ⟨-, hc, -, -, hn⟩ := chkS_zero h
 have hcode := hc p hp
 have hnb := names_at (l := S.chans) (k := 0) hn p hp
 unfold nameBad at hnb
 rw [Bool.or_eq_false_iff, List.any_eq_false, List.any_eq_false] at hnb
 have hfe : firstE S.parts[p].code = 0 := by
  unfold chkC at hcode
  split at hcode
  ·omega
  ·exact hcode
 unfold stepC
 split
 ·unfold runC
  split
  ·exact .inl rfl
  ·rename_i i hi
   have hlt : c.at_.toNat < S.parts[p].code.length := (List.getElem?_eq_some_iff.1 hi).1
   have hmem : i ∈ S.parts[p].code := List.mem_of_getElem? hi
   have hck : i.chk = 0 := by
    have := firstE_zero hfe _ hlt
    rw [(List.getElem?_eq_some_iff.1 hi).2] at this
    exact this
   obtain ⟨hop, ⟨ha0, ha1⟩, ⟨hb0, hb1⟩, hj, hch⟩ := chk0 (op := i.op) (a := i.a) (b := i.b) (n := i.n) hck
   cases hd : doC i inn xs c wntZ with
   | none => exact .inl rfl
   | some r =>
    obtain ⟨c', ys, x'⟩ := r
    rcases doC_want hd with e | ⟨ho, e⟩ | ⟨ho, e⟩
    ·exact .inl e
    ·right
     have hn5 := hch (.inl ho)
     have hb := hnb.1 _ (chan_named hmem ho hn5.1 hn5.2)
     subst e
     simp only [Option.getD_some]
     unfold putBad at hb
     split at hb
     ·simp at hb
     ·rename_i y hy
      exact ⟨y, hy, .inl (by simpa using hb)⟩
    ·right
     have hn5 := hch (.inr ho)
     have hb := hnb.2 _ (chan_named hmem ho hn5.1 hn5.2)
     subst e
     simp only [Option.getD_some]
     unfold getBad at hb
     split at hb
     ·simp at hb
     ·rename_i y hy
      exact ⟨y, hy, .inr (by simpa using hb)⟩
 ·exact .inl rfl
structure Tick (S : SysD) (D : WldD) (pn : Nat) (d : CelD) (D' : WldD) : Prop where
 p : pn < S.parts.length
 w : whoS S D.tick = pn
 e : nextC S D = D'
 t : D'.tick = D.tick + 1
 c : D'.cells = D.cells.set pn d
 f : celB (S.parts[pn]'p) d = true
 o : ∀ h : pn < D.cells.length, Goes (S.parts[pn]'p).inn D.cells[pn].out D.cells[pn].c d.c d.out
 s : ∀ h : pn < D.cells.length, D.cells[pn].c.en ≠ 0 → d = D.cells[pn]
 l : D'.lines = D.lines ∨ ∃ kn, ∃ h : kn < S.chans.length, ∃ l, D'.lines = D.lines.set kn l ∧ chkL (S.chans[kn]'h).kd l.length = 0 ∧ ((S.chans[kn]'h).fr = pn ∨ (S.chans[kn]'h).tt = pn)
theorem goes_replied {inn xs : List Int} {c c' : Cel} {ys : List Int} (h : Goes inn xs c c' ys) (k reg flag kind val : Int) (is : Bool) : Goes inn xs c (c'.replied k reg flag kind val is) ys := by
 obtain ⟨h1, h2, h3⟩ := replied_at c' k reg flag kind val is
 exact ⟨h1 ▸ h.at0, h1 ▸ h.at1, h3 ▸ h.en0, h3 ▸ h.en1, h2 ▸ h.rd0, h2 ▸ h.rd1, h2 ▸ h.rd2, h.out, h.len, h.len2⟩
theorem stepC_ended (l : List Ins) (inn xs : List Int) (c : Cel) (h : c.en ≠ 0) : stepC l inn xs c = (c, xs, wntZ) := by
 unfold stepC
 rw [if_neg h]
theorem tick_any {S : SysD} {D : WldD} (hk : chkS S = 0) (hR : Right S D) (ht : D.tick < 300) : ∃ pn d, Tick S D pn d (nextC S D) := by
 obtain ⟨hct, hco, -, -, -⟩ := chkS_zero hk
 obtain ⟨hcs, hin⟩ := countsB_is hct
 obtain ⟨hw0, hw1⟩ := who_range hk hR.t0
 obtain ⟨pn, hpn⟩ := Int.eq_ofNat_of_zero_le hw0
 have hlc := cellsB_len hR.c
 have hll := linesB_len hR.l
 have hp : pn < S.parts.length := by omega
 have hpd : pn < D.cells.length := by omega
 have hcel := celB_is (cellsB_at hR.c pn hp hpd)
 have hg := stepC_goes (hco pn hp) hcel.1 hcel.2
 have hw := step_want hk hp (inn := S.parts[pn].inn) (xs := D.cells[pn].out) (c := D.cells[pn].c) ((fine_iff _ _).1 hcel.1).1
 have hh := step_home hk hp (inn := S.parts[pn].inn) (xs := D.cells[pn].out) (c := D.cells[pn].c)
 have hen := stepC_ended S.parts[pn].code S.parts[pn].inn D.cells[pn].out D.cells[pn].c
 have hr0 := ((fine_iff _ _).1 hcel.1).2.2.1
 have hi := hin pn hp
 have e1 : S.parts[(whoS S D.tick).toNat]? = some S.parts[pn] := by rw [hpn]; simp [hp]
 have e2 : D.cells[(whoS S D.tick).toNat]? = some D.cells[pn] := by rw [hpn]; simp [hpd]
 have hz : wntZ.k = 0 := rfl
 cases hst : stepC S.parts[pn].code S.parts[pn].inn D.cells[pn].out D.cells[pn].c with
 | mk c' r =>
  obtain ⟨ys, x⟩ := r
  rw [hst] at hg hw hh hen
  simp only at hg hw hh
  by_cases hx : x.k = 0
  ·refine ⟨pn, ⟨c', ys⟩, hp, hpn, rfl, ?_, ?_, celB_of (hg.fine hr0 hi) hg.rd2, fun _ => hg, fun _ h => ?_, .inl ?_⟩
   ·unfold nextC; rw [e1, e2]; simp only [hst, hx, if_true]
   ·unfold nextC; rw [e1, e2]; simp only [hst, hx, if_true]; rw [hpn]; rfl
   ·have := hen h
    injection this with h1 h2
    injection h2 with h2 h3
    rw [h1, h2]
   ·unfold nextC; rw [e1, e2]; simp only [hst, hx, if_true]
  ·have hwo : WantOk S x := by
    rcases hw with e | h
    ·rw [e] at hx; exact absurd hz hx
    ·exact h
   obtain ⟨hkn, hft⟩ : ∃ hk : x.ch.toNat < S.chans.length, S.chans[x.ch.toNat].fr = pn ∨ S.chans[x.ch.toNat].tt = pn := by
    rcases hh with e | ⟨ch, h, h'⟩
    ·rw [e] at hx; exact absurd hz hx
    ·obtain ⟨h1, h2⟩ := List.getElem?_eq_some_iff.1 h
     exact ⟨h1, by rw [h2]; exact h'⟩
   have hln : x.ch.toNat < D.lines.length := by omega
   have e3 : S.chans[x.ch.toNat]? = some S.chans[x.ch.toNat] := by simp [hkn]
   have e4 : D.lines[x.ch.toNat]? = some D.lines[x.ch.toNat] := by simp [hln]
   have hlk := linesB_at hR.l _ hkn hln
   have E : nextC S D = ⟨D.tick + 1, D.cells.set pn ⟨c'.replied x.k x.reg x.flag S.chans[x.ch.toNat].kd (servR S.chans[x.ch.toNat].kd D.lines[x.ch.toNat] x).2.1 (servR S.chans[x.ch.toNat].kd D.lines[x.ch.toNat] x).2.2, ys⟩, D.lines.set x.ch.toNat (servR S.chans[x.ch.toNat].kd D.lines[x.ch.toNat] x).1⟩ := by
    unfold nextC
    rw [e1, e2]
    simp only [hst]
    rw [if_neg hx, e3, e4]
    simp only []
    rw [hpn]
    rfl
   have hg' := goes_replied hg x.k x.reg x.flag S.chans[x.ch.toNat].kd (servR S.chans[x.ch.toNat].kd D.lines[x.ch.toNat] x).2.1 (servR S.chans[x.ch.toNat].kd D.lines[x.ch.toNat] x).2.2
   refine ⟨pn, ⟨c'.replied x.k x.reg x.flag S.chans[x.ch.toNat].kd (servR S.chans[x.ch.toNat].kd D.lines[x.ch.toNat] x).2.1 (servR S.chans[x.ch.toNat].kd D.lines[x.ch.toNat] x).2.2, ys⟩, hp, hpn, rfl, by rw [E], by rw [E], celB_of (hg'.fine hr0 hi) hg'.rd2, fun _ => hg', fun _ h => ?_, .inr ⟨x.ch.toNat, hkn, (servR S.chans[x.ch.toNat].kd D.lines[x.ch.toNat] x).1, by rw [E], servR_len hlk x, hft⟩⟩
   have := hen h
   injection this with h1 h2
   injection h2 with h2 h3
   rw [h3] at hx
   exact absurd hz hx
theorem next_right {S : SysD} {D : WldD} (hk : chkS S = 0) (hR : Right S D) (ht : D.tick < 300) : Right S (nextC S D) ∧ (nextC S D).tick = D.tick + 1 := by
 obtain ⟨pn, d, T⟩ := tick_any hk hR ht
 refine ⟨⟨by rw [T.t]; have := hR.t0; omega, by rw [T.t]; omega, by rw [T.c]; exact cellsB_set hR.c (fun _ => T.f), ?_⟩, T.t⟩
 rcases T.l with e | ⟨kn, h, l, e, h2, -⟩
 ·rw [e]; exact hR.l
 ·rw [e]; exact linesB_set hR.l (fun _ => h2)
def runN (S : SysD) : Nat → WldD → WldD
 | 0, D => D
 | n + 1, D => runN S n (nextC S D)
theorem runN_right {S : SysD} (hk : chkS S = 0) : ∀ (n : Nat) {D : WldD}, Right S D → D.tick + n ≤ 300 → Right S (runN S n D) ∧ (runN S n D).tick = D.tick + n
 | 0, D, h, _ => ⟨h, by simp [runN]⟩
 | n + 1, D, h, ht => by
  obtain ⟨h1, h2⟩ := next_right hk h om
  obtain ⟨h3, h4⟩ := runN_right hk n h1 om
  exact ⟨h3, by rw [runN, h4, h2]; omega⟩
theorem runN_add (S : SysD) : ∀ (n m : Nat) (D : WldD), runN S (n + m) D = runN S m (runN S n D)
 | 0, m, D => by rw [Nat.zero_add]; rfl
 | n + 1, m, D => by rw [show n + 1 + m = (n + m) + 1 by omega]; exact runN_add S n m _
theorem runN_last (S : SysD) (n : Nat) (D : WldD) : runN S (n + 1) D = nextC S (runN S n D) := runN_add S n 1 D
def celD0 : CelD := ⟨celZ, []⟩
def beginC (S : SysD) : WldD := ⟨0, List.replicate S.parts.length celD0, List.replicate S.chans.length []⟩
theorem begin_right {S : SysD} (hk : chkS S = 0) : Right S (beginC S) := by
 obtain ⟨-, -, hch, -, -⟩ := chkS_zero hk
 refine ⟨Int.le_refl _, by show (0 : Int) ≤ 300; omega, cellsB_yes (by simp [beginC]) fun k h h' => ?_, linesB_yes (by simp [beginC]) fun k h h' => ?_⟩
 ·simp only [beginC, List.getElem_replicate]
  exact celB_of (by decide) (by show (0 : Int) ≤ _; omega)
 ·simp only [beginC, List.getElem_replicate]
  rw [List.any_eq_false] at hch
  have := hch _ (List.getElem_mem h)
  unfold kindBad at this
  unfold chkL
  simp at this
  by_cases h1 : S.chans[k].kd = 1
  ·simp [h1]
  ·simp [h1, this h1]
end Go.Proofs.YtehhhiodfcdnmaaGreatDoor
