/- A tick changes of a row nothing but what is owned: plain mathematics. -/
import Derived.Test.YtnnnljfdjdehaaaDoorFa24
import Derived.Test.YtnnnljfdjdehaaaDoorJ14
import Derived.Test.YtnnnljfdjdehaaaDoorJ15
namespace Go.Proofs.YtnnnljfdjdehaaaDoor
set_option linter.unusedSimpArgs false
set_option linter.unusedVariables false
open Go.RowKit Go.Sort

/-- Where the two rows differ, it is owned. -/
structure Fine (a b : List Int) (o : List Bool) : Prop where
  l : a.length = b.length
  m : o.length = a.length
  d : ∀ (k : Nat) (x y : Int), a[k]? = some x → b[k]? = some y → x ≠ y → o[k]? = some true
theorem Fine.append {a b a' b' : List Int} {o o' : List Bool} (h : Fine a b o) (h' : Fine a' b' o') : Fine (a ++ a') (b ++ b') (o ++ o') := by
  refine ⟨by simp [h.l, h'.l], by simp [h.m, h'.m], fun k x y hx hy hne => ?_⟩
  by_cases hk : k < a.length
  · rw [List.getElem?_append_left hk] at hx
    rw [List.getElem?_append_left (by rw [← h.l]; exact hk)] at hy
    rw [List.getElem?_append_left (by rw [h.m]; exact hk)]
    exact h.d k x y hx hy hne
  · rw [List.getElem?_append_right (by omega)] at hx
    rw [List.getElem?_append_right (by rw [← h.l]; omega), ← h.l] at hy
    rw [List.getElem?_append_right (by rw [h.m]; omega), h.m]
    exact h'.d _ x y hx hy hne
theorem Fine.same (a : List Int) {n : Nat} (h : a.length = n) (c : Bool) : Fine a a (List.replicate n c) :=
  ⟨rfl, by simp [h], fun k x y hx hy hne => absurd (by rw [hx] at hy; injection hy) hne⟩
theorem Fine.own {a b : List Int} {n : Nat} (h : a.length = n) (h' : b.length = n) : Fine a b (List.replicate n true) :=
  ⟨by omega, by simp [h], fun k x y hx _ _ => by
    have := (List.getElem?_eq_some_iff.1 hx).1
    rw [List.getElem?_replicate, if_pos (by omega)]⟩
theorem fine_cells {ds es : List CelD} {pn : Nat} (hl : es.length = ds.length) (h1 : ∀ d ∈ ds, d.out.length ≤ 16) (h2 : ∀ d ∈ es, d.out.length ≤ 16) (he : ∀ k (h : k < ds.length) (h' : k < es.length), k ≠ pn → es[k] = ds[k]) :
    ∀ k, k ≤ ds.length → Fine (cellsF (ds.take k)) (cellsF (es.take k)) (partO k (pn : Int))
  | 0, _ => ⟨rfl, rfl, fun k x y hx => by simp [cellsF] at hx⟩
  | k + 1, hk => by
    rw [cellsF_step (by omega), cellsF_step (by omega), partO_step]
    refine (fine_cells hl h1 h2 he k (by omega)).append ?_
    by_cases h : k = pn
    · subst h
      rw [show (((k : Int) == (k : Int))) = true by simp]
      exact Fine.own (cellR_len (h1 _ (List.getElem_mem _))) (cellR_len (h2 _ (List.getElem_mem _)))
    · rw [he k (by omega) (by omega) h]
      exact Fine.same _ (cellR_len (h1 _ (List.getElem_mem _))) _
theorem fine_lines {cs : List Chn} {ls ms : List (List Int)} {pn : Nat} (hc : ls.length = cs.length) (hl : ms.length = ls.length) (h1 : ∀ l ∈ ls, l.length ≤ 3) (h2 : ∀ l ∈ ms, l.length ≤ 3)
    (he : ∀ k (h : k < ls.length) (h' : k < ms.length) (hk : k < cs.length), cs[k].fr ≠ pn → cs[k].tt ≠ pn → ms[k] = ls[k]) : ∀ k, k ≤ cs.length → Fine (linesF (ls.take k)) (linesF (ms.take k)) (chanO (cs.take k) (pn : Int))
  | 0, _ => ⟨rfl, rfl, fun k x y hx => by simp [linesF] at hx⟩
  | k + 1, hk => by
    rw [linesF_step (by omega), linesF_step (by omega), chanO_step (by omega)]
    refine (fine_lines hc hl h1 h2 he k (by omega)).append ?_
    cases h : (cs[k].fr == (pn : Int) || cs[k].tt == (pn : Int)) with
    | true => exact Fine.own (padL_len (h1 _ (List.getElem_mem _))) (padL_len (h2 _ (List.getElem_mem _)))
    | false =>
      simp at h
      rw [he k (by omega) (by omega) (by omega) h.1 h.2]
      exact Fine.same _ (padL_len (h1 _ (List.getElem_mem _))) _
theorem safe_row {S : SysD} {D : WldD} (hk : chkS S = 0) (hR : Right S D) (ht : D.tick < 300) : Fine (rowF D) (rowF (nextC S D)) (ownF S (whoS S D.tick)) ∧ (0 ≤ whoS S D.tick ∧ whoS S D.tick < S.parts.length) ∧ chkW S (nextC S D) = 0 := by
  obtain ⟨pn, d, T⟩ := tick_any hk hR ht
  have hR' := (next_right hk hR ht).1
  have c1 := chkW_right hk hR
  have c2 := chkW_right hk hR'
  have s1 := chkW_small c1
  have s2 := chkW_small c2
  have l1 := cellsB_len hR.c
  have l2 := linesB_len hR.l
  have l3 := cellsB_len hR'.c
  have l4 := linesB_len hR'.l
  have hp := T.p
  refine ⟨?_, by rw [T.w]; omega, c2⟩
  rw [T.w]
  unfold rowF ownF
  have fc := fine_cells (pn := pn) (ds := D.cells) (es := (nextC S D).cells) (by omega) s1.out s2.out (fun k h h' hne => by
    have he : (nextC S D).cells[k] = (D.cells.set pn d)[k]'(by rw [← T.c]; exact h') := by congr 1; exact T.c
    rw [he, List.getElem_set_ne (Ne.symm hne)]) S.parts.length (by omega)
  have fl := fine_lines (pn := pn) (cs := S.chans) (ls := D.lines) (ms := (nextC S D).lines) (by omega) (by omega) s1.vals s2.vals (fun k h h' hk h1 h2 => by
    rcases T.l with e | ⟨kn, hkn, l, e, _, hft⟩
    · congr 1
    · have hne : kn ≠ k := fun e' => by
        subst e'
        rcases hft with h' | h'
        · exact h1 h'
        · exact h2 h'
      have he : (nextC S D).lines[k] = (D.lines.set kn l)[k]'(by rw [← e]; exact h') := by congr 1
      rw [he, List.getElem_set_ne hne]) S.chans.length (Nat.le_refl _)
  rw [List.take_of_length_le (by omega), List.take_of_length_le (by omega)] at fc
  rw [List.take_of_length_le (by omega), List.take_of_length_le (by omega), List.take_of_length_le (Nat.le_refl _)] at fl
  exact ((Fine.own (n := 1) rfl rfl).append fc).append fl
end Go.Proofs.YtnnnljfdjdehaaaDoor

namespace Go.Proofs.YtnnnljfdjdehaaaDoor
set_option linter.unusedSimpArgs false
set_option linter.unusedVariables false
open Go.RowKit Go.Sort

theorem stepW_is {S : SysD} {D : WldD} (h : stepW S D = 0) : chkW S D = 0 ∧ chkS S = 0 ∧ Right S D ∧ D.tick < 300 := by
  obtain ⟨h1, h2, h3⟩ := stepW_zero h
  exact ⟨chkW_right h1 h2, h1, h2, h3⟩
set_option maxRecDepth 100000 in
set_option maxHeartbeats 16000000 in
theorem flatSafe_any (S : SysD) (D : WldD) (vp vc vs uc ul : Value) (w : World) (he : Env w) (hS : Sys w vp vc vs S) (hW : Wld w uc ul D) :
    Calls Tryd.prog 6 #[.agg #[vp, vc, vs], .agg #[.int .i64 D.tick, uc, ul]] w fun e w' => e = .returned (.bool true) ∧ Below w.heap.size w w' := by
  obtain ⟨pa, pc, rfl⟩ := hS.p.form
  obtain ⟨ka, kc, rfl⟩ := hS.c.form
  obtain ⟨sa, sc, rfl⟩ := hS.s.form
  obtain ⟨ua, uc, rfl⟩ := hW.c.form
  obtain ⟨la, lc, rfl⟩ := hW.l.form
  obtain ⟨v2, hv2⟩ : ∃ v2, stepW S D = v2 := ⟨_, rfl⟩
  obtain ⟨D2, hD2⟩ : ∃ D2, stepR S D = D2 := ⟨_, rfl⟩
  have HST := Lib.hid fun w he hS hW => kernStep_any S D (.slice pa S.parts.length pc) (.slice ka S.chans.length kc) (.slice sa S.slots.length sc) (.slice ua D.cells.length uc) (.slice la D.lines.length lc) w he hS hW v2 hv2 D2 hD2
  have HV2 := Lib.hid hv2
  have HD2 := Lib.hid hD2
  have HE := Lib.hid he
  have HS := Lib.hid hS
  have HW := Lib.hid hW
  clear he hS hW hv2 hD2
  go_enter Tryd.func6, Tryd.ntmps6
  go_wp2_with fail
  refine (HST.out _ (HE.out.up (by repeat (first | exact Below.refl _ _ | assumption | refine Below.drew ?_ | refine Below.alloc ?_ (by first | (simp; done) | (simp; omega)) _ | refine Below.setCell ?_ (by first | (simp; done) | (simp; omega)) _))) (HS.out.up (by repeat (first | exact Below.refl _ _ | assumption | refine Below.drew ?_ | refine Below.alloc ?_ (by first | (simp; done) | (simp; omega)) _ | refine Below.setCell ?_ (by first | (simp; done) | (simp; omega)) _))) (HW.out.up (by repeat (first | exact Below.refl _ _ | assumption | refine Below.drew ?_ | refine Below.alloc ?_ (by first | (simp; done) | (simp; omega)) _ | refine Below.setCell ?_ (by first | (simp; done) | (simp; omega)) _)))).mono ?_
  rintro e w1 ⟨xc, xl, rfl, hN, b1⟩
  obtain ⟨ya, yb, rfl⟩ := hN.wld.c.form
  obtain ⟨ea, ec, rfl⟩ := hN.wld.l.form
  have z1 := b1.size
  simp at z1
  have R01 : Hid (Rw w1 w.heap.size 26 #[.slice pa S.parts.length pc, .slice ka S.chans.length kc, .slice sa S.slots.length sc]) := Rw.up (by repeat (first | exact Rw.new _ _ _ (by first | rfl | (simp; done) | omega | (simp; omega)) | refine Rw.alloc ?_ _)) b1 (by first | omega | (simp; done) | (simp; omega))
  have R11 : Hid (Rw w1 (w.heap.size + 1) 30 #[.int .i64 D.tick, .slice ua D.cells.length uc, .slice la D.lines.length lc]) := Rw.up (by repeat (first | exact Rw.new _ _ _ (by first | rfl | (simp; done) | omega | (simp; omega)) | refine Rw.alloc ?_ _)) b1 (by first | omega | (simp; done) | (simp; omega))
  have HB1 : Hid (Below w.heap.size w w1) := by
    refine Below.trans ?_ (b1.mono (by first | omega | (simp; done) | (simp; omega)))
    exact (by repeat (first | exact Below.refl _ _ | assumption | refine Below.drew ?_ | refine Below.alloc ?_ (by first | (simp; done) | (simp; omega)) _ | refine Below.setCell ?_ (by first | (simp; done) | (simp; omega)) _))
  have HN := Lib.hid hN
  clear b1 hN HST
  go_wp2_with (refine wpList_store_rowW rfl 30 (.tmp 5) (.tmp 20) rfl w1.heap.size #[.int .i64 D2.tick, .slice ya D2.cells.length yb, .slice ea D2.lines.length ec] rfl rfl 30 #[.int .i64 0, .slice none 0 0, .slice none 0 0] (by repeat (first | exact Rw.new _ _ _ (by first | rfl | (simp; done) | omega | (simp; omega)) | refine Rw.alloc ?_ _)) sizeWld rfl (by simp [Value.oneCell']) ?_)
  intro W2 HW2
  have b2 : Below w1.heap.size w1 W2 := by rw [HW2.out]; exact below_row ((Below.refl _ _).alloc (Nat.le_refl _) _) (Nat.le_refl _) _
  have RX : Hid (Rw W2 w1.heap.size 30 #[.int .i64 D2.tick, .slice ya D2.cells.length yb, .slice ea D2.lines.length ec]) := by
    show Rw _ _ _ _
    rw [HW2.out]
    exact Rw.row (cs := #[.int .i64 0, .slice none 0 0, .slice none 0 0]) (by repeat (first | exact Rw.new _ _ _ (by first | rfl | (simp; done) | omega | (simp; omega)) | refine Rw.alloc ?_ _)) _
  have NX : Hid (Wld W2 (.slice ya D2.cells.length yb) (.slice ea D2.lines.length ec) D2) := by
    show Wld _ _ _ _
    rw [HW2.out]
    exact (HN.out.fresh _ _).wld
  have R0 := Lib.hid (R01.out.up b2 R01.out.lt)
  have R1 := Lib.hid (R11.out.up b2 R11.out.lt)
  have HB := Lib.hid (HB1.out.trans (b2.mono HB1.out.size))
  clear HW2 b2 HN R01 R11 HB1
  by_cases hv : v2 = 0
  rotate_left
  · have hvb : (v2 == 0) = false := by simpa using hv
    clear hv
    go_wp2_with fail
    refine (flatBegun_any _ (HE.out.up HB.out)).mono ?_
    rintro e x4 ⟨rfl, b4⟩
    have HB4 := Lib.hid (HB.out.trans (b4.mono HB.out.size))
    clear b4
    go_wp2
    go_ret
    exact ⟨rfl, HB4.out⟩
  subst hv
  obtain ⟨hcw, hcs, hR, htk⟩ := stepW_is HV2.out
  obtain ⟨hF, ⟨hw0, hw1⟩, hc2⟩ := safe_row hcs hR htk
  have e2 : D2 = nextC S D := by rw [← HD2.out]; unfold stepR; rw [if_pos HV2.out]
  rw [← e2] at hF hc2
  obtain ⟨A, hA⟩ : ∃ A, rowF D = A := ⟨_, rfl⟩
  obtain ⟨B, hB⟩ : ∃ B, rowF D2 = B := ⟨_, rfl⟩
  obtain ⟨p, hp⟩ : ∃ p, whoS S D.tick = p := ⟨_, rfl⟩
  obtain ⟨O, hO⟩ : ∃ O, ownF S p = O := ⟨_, rfl⟩
  rw [hA, hB, hp, hO] at hF
  have ho0 : ownE S p = 0 := by
    unfold ownE
    rw [if_neg (by rw [hcs]; simp), if_neg (by rw [hp] at hw0 hw1; omega)]
  have HWH := Lib.hid fun w he hS => who_any S (.slice pa S.parts.length pc) (.slice ka S.chans.length kc) (.slice sa S.slots.length sc) D.tick w he hS 0 (by rw [if_pos hcs, if_neg (by have := hR.t0; omega)]) p (by rw [if_pos rfl]; exact hp)
  have HL1 := Lib.hid fun w he hS hW => flatLay_any S D (.slice pa S.parts.length pc) (.slice ka S.chans.length kc) (.slice sa S.slots.length sc) (.slice ua D.cells.length uc) (.slice la D.lines.length lc) w he hS hW
  rw [hcw, show laidF S D = A from (if_pos hcw).trans hA] at HL1
  have HL2 := Lib.hid fun w he hS hW => flatLay_any S D2 (.slice pa S.parts.length pc) (.slice ka S.chans.length kc) (.slice sa S.slots.length sc) (.slice ya D2.cells.length yb) (.slice ea D2.lines.length ec) w he hS hW
  rw [hc2, show laidF S D2 = B from (if_pos hc2).trans hB] at HL2
  have HOW := Lib.hid fun w he hS => flatOwn_any S p (.slice pa S.parts.length pc) (.slice ka S.chans.length kc) (.slice sa S.slots.length sc) w he hS
  rw [ho0, show ownsF S p = O from (if_pos ho0).trans hO] at HOW
  have hAl : A.length ≤ 1000 := by
    have h2 := rowF_len (chkW_small hcw)
    have h3 := (chkW_small hcw).cells
    have h4 := (chkW_small hcw).lines
    rw [hA] at h2
    omega
  have HF := Lib.hid hF
  have HFL := Lib.hid hF.l
  have HFM := Lib.hid hF.m
  clear hcw hcs hR htk hF hw0 hw1 hc2 e2 hA hB hp hO ho0 HV2 HD2
  have s0 := R0.out.cell (j := 0) (v := .slice pa S.parts.length pc) rfl
  have s1 := R0.out.cell (j := 1) (v := .slice ka S.chans.length kc) rfl
  have s2 := R0.out.cell (j := 2) (v := .slice sa S.slots.length sc) rfl
  have t0 := R1.out.cell (j := 0) (v := .int .i64 D.tick) rfl
  have t1 := R1.out.cell (j := 1) (v := .slice ua D.cells.length uc) rfl
  have t2 := R1.out.cell (j := 2) (v := .slice la D.lines.length lc) rfl
  go_wp2_with fail
  refine (HWH.out _ (HE.out.up HB.out) (HS.out.up HB.out)).mono ?_
  rintro e w3 ⟨rfl, b3⟩
  clear s0 s1 s2 t0 t1 t2
  have NX' := Lib.hid (NX.out.up b3)
  have R0' := Lib.hid (R0.out.up b3 R0.out.lt)
  have R1' := Lib.hid (R1.out.up b3 R1.out.lt)
  have RX' := Lib.hid (RX.out.up b3 RX.out.lt)
  have HB' := Lib.hid (HB.out.trans (b3.mono HB.out.size))
  clear b3 HB NX R0 R1 RX
  have NX := NX'
  clear NX'
  have R0 := R0'
  clear R0'
  have R1 := R1'
  clear R1'
  have RX := RX'
  clear RX'
  have HB := HB'
  clear HB'
  have s0 := R0.out.cell (j := 0) (v := .slice pa S.parts.length pc) rfl
  have s1 := R0.out.cell (j := 1) (v := .slice ka S.chans.length kc) rfl
  have s2 := R0.out.cell (j := 2) (v := .slice sa S.slots.length sc) rfl
  have t0 := R1.out.cell (j := 0) (v := .int .i64 D.tick) rfl
  have t1 := R1.out.cell (j := 1) (v := .slice ua D.cells.length uc) rfl
  have t2 := R1.out.cell (j := 2) (v := .slice la D.lines.length lc) rfl
  go_wp2_with fail
  refine (HL1.out _ (HE.out.up HB.out) (HS.out.up HB.out) (HW.out.up HB.out)).mono ?_
  rintro e w4 ⟨v4, rfl, ho4, b4⟩
  obtain ⟨a4, c4, rfl⟩ := own_form ho4
  have SA := Lib.hid (own_sl ho4)
  clear s0 s1 s2 t0 t1 t2 ho4
  have NX' := Lib.hid (NX.out.up b4)
  have R0' := Lib.hid (R0.out.up b4 R0.out.lt)
  have R1' := Lib.hid (R1.out.up b4 R1.out.lt)
  have RX' := Lib.hid (RX.out.up b4 RX.out.lt)
  have HB' := Lib.hid (HB.out.trans (b4.mono HB.out.size))
  clear b4 HB NX R0 R1 RX
  have NX := NX'
  clear NX'
  have R0 := R0'
  clear R0'
  have R1 := R1'
  clear R1'
  have RX := RX'
  clear RX'
  have HB := HB'
  clear HB'
  have s0 := R0.out.cell (j := 0) (v := .slice pa S.parts.length pc) rfl
  have s1 := R0.out.cell (j := 1) (v := .slice ka S.chans.length kc) rfl
  have s2 := R0.out.cell (j := 2) (v := .slice sa S.slots.length sc) rfl
  have x0 := RX.out.cell (j := 0) (v := .int .i64 D2.tick) rfl
  have x1 := RX.out.cell (j := 1) (v := .slice ya D2.cells.length yb) rfl
  have x2 := RX.out.cell (j := 2) (v := .slice ea D2.lines.length ec) rfl
  go_wp2_with fail
  refine (HL2.out _ (HE.out.up HB.out) (HS.out.up HB.out) NX.out).mono ?_
  rintro e w5 ⟨v5, rfl, ho5, b5⟩
  obtain ⟨a5, c5, rfl⟩ := own_form ho5
  have SB := Lib.hid (own_sl ho5)
  clear s0 s1 s2 x0 x1 x2 ho5
  have SA' := Lib.hid (SA.out.up b5)
  have R0' := Lib.hid (R0.out.up b5 R0.out.lt)
  have HB' := Lib.hid (HB.out.trans (b5.mono HB.out.size))
  clear b5 HB SA R0
  have SA := SA'
  clear SA'
  have R0 := R0'
  clear R0'
  have HB := HB'
  clear HB'
  have s0 := R0.out.cell (j := 0) (v := .slice pa S.parts.length pc) rfl
  have s1 := R0.out.cell (j := 1) (v := .slice ka S.chans.length kc) rfl
  have s2 := R0.out.cell (j := 2) (v := .slice sa S.slots.length sc) rfl
  go_wp2_with fail
  refine (HOW.out _ (HE.out.up HB.out) (HS.out.up HB.out)).mono ?_
  rintro e w6 ⟨v6, rfl, ho6, b6⟩
  obtain ⟨a6, c6, rfl⟩ := own_form ho6
  have SO := Lib.hid (own_sl ho6)
  clear s0 s1 s2 ho6
  have SA' := Lib.hid (SA.out.up b6)
  have SB' := Lib.hid (SB.out.up b6)
  have HB' := Lib.hid (HB.out.trans (b6.mono HB.out.size))
  clear b6 HB SA SB
  have SA := SA'
  clear SA'
  have SB := SB'
  clear SB'
  have HB := HB'
  clear HB'
  have hn1 : ((A.length : Int) != B.length) = false := by simp; have := HFL.out; omega
  have hn2 : ((O.length : Int) != A.length) = false := by simp; have := HFM.out; omega
  clear R0 R1 RX NX HL1 HL2 HOW HWH
  go_wp2
  go_loopw [15] (fun i wr => ∃ k : Nat, i = .int .i64 k ∧ k ≤ A.length ∧ Hid (Below w6.heap.size w6 wr)) (fun i _ => A.length - (intOf i).toNat)
  case atStart => exact ⟨0, rfl, Nat.zero_le _, Lib.hid (Below.refl _ _)⟩
  case round =>
    clear hn1 hn2
    obtain ⟨k, rfl, hk, HBW⟩ := hrel
    by_cases hlt : k < A.length
    · have hli : (k : Int) < A.length := by omega
      have hltB : k < B.length := by have := HFL.out; omega
      have hliB : (k : Int) < B.length := by omega
      have hltO : k < O.length := by have := HFM.out; omega
      have hliO : (k : Int) < O.length := by omega
      obtain ⟨b1, o1, p1, e1, _, _, hc1⟩ := (SA.out.up HBW.out).open (by omega)
      obtain ⟨b2, o2, p2, e2, _, _, hc2⟩ := (SB.out.up HBW.out).open (by omega)
      obtain ⟨b3, o3, p3, e3, _, _, hc3⟩ := (SO.out.up HBW.out).open (by omega)
      cases e1
      cases e2
      cases e3
      have c1 := hc1 k (.int .i64 A[k]) (by simp [ints, hlt])
      have c2 := hc2 k (.int .i64 B[k]) (by simp [ints, hltB])
      have c3 := hc3 k (.bool O[k]) (by simp [bolL, hltO])
      have hd := HF.out.d k A[k] B[k] (List.getElem?_eq_getElem hlt) (List.getElem?_eq_getElem hltB)
      rw [List.getElem?_eq_getElem hltO] at hd
      have HDD := Lib.hid hd
      clear hc1 hc2 hc3 hd
      generalize A[k] = x at c1 HDD
      generalize B[k] = y at c2 HDD
      generalize O[k] = z at c3 HDD
      by_cases hxy : x = y
      · subst hxy
        clear HDD
        go_wp2
        go_quiet (fail)
        go_wp2
        go_roundw
        case rel => exact ⟨k + 1, by go_num, by omega, Lib.hid (HBW.out.trans (Below.drewN (Below.refl _ _) _))⟩
        case measure => simp [intOf]; omega
      · have hz : z = true := by injection HDD.out hxy
        subst hz
        have hnb : (x != y) = true := by simpa using hxy
        clear HDD hxy
        go_wp2
        go_quiet (fail)
        go_wp2
        go_roundw
        case rel => exact ⟨k + 1, by go_num, by omega, Lib.hid (HBW.out.trans (Below.drewN (Below.refl _ _) _))⟩
        case measure => simp [intOf]; omega
    · have hli : ¬ (k : Int) < A.length := by omega
      have HDB := Lib.hid (HB.out.trans (HBW.out.mono HB.out.size))
      go_wp2_with fail
      refine (flatBegun_any _ (HE.out.up HDB.out)).mono ?_
      rintro e wz ⟨rfl, bz⟩
      have HZ := Lib.hid (HDB.out.trans (bz.mono HDB.out.size))
      clear bz
      go_wp2
      go_ret
      exact ⟨rfl, HZ.out⟩
end Go.Proofs.YtnnnljfdjdehaaaDoor
