/- pairs, and the closures that are handed on. -/
import Derived.Test.YtehhhiodfcdnmaaGreatDoorJ20
import Derived.Test.YtehhhiodfcdnmaaGreatDoorJ19
import Derived.Test.YtehhhiodfcdnmaaGreatDoorJ18
namespace Go.Proofs.YtehhhiodfcdnmaaGreatDoor
set_option linter.unusedSimpArgs false
set_option linter.unusedVariables false
open Go.RowKit Go.Sort Go.Shelf Go.Lib Go.Maps
theorem ent_closed1 : Enters 105 := enters Tryz.func105 (by kernel_rfl) (by kernel_rfl)
theorem ent_verify1 : Enters 64 := enters Tryz.func64 (by kernel_rfl) (by kernel_rfl)
set_option maxHeartbeats 1000000 in
theorem closed1_any (e : Edg) (l : List Int) (hl : l.length < 4294967281) (g : Nat) (vl : Value) (w : World) (hg : w.cell? ⟨g, 0, none⟩ = some vl) (hgl : g < w.heap.size) (hS : Sl w 1 vl l.length (ints l)) :
    Calls Tryz.prog 105 #[e.v, .pointer (some ⟨g, 0, none⟩)] w fun r w' => r = .returned (.bool (inB l e.tt && !(inB l e.fr))) ∧ RowKit.Below w.heap.size w w' := by
  obtain ⟨ef, et⟩ := e
  unfold Edg.v
  simp only
  obtain ⟨la, lc, rfl⟩ := hS.form
  have HS := Lib.hid hS
  clear hS
  have hg1 := cl_alloc (.cells #[.int .i64 ef, .int .i64 et] 74) hgl hg
  go_enter Tryz.func105, Tryz.ntmps105
  go_wp2_with fail
  refine (slContains_any l et _ _ (HS.out.up ((RowKit.Below.refl _ _).alloc (Nat.le_refl _) _)) hl).mono ?_
  rintro r w1 ⟨rfl, rfl⟩
  cases ht : inB l et with
  | false =>
    go_wp2
    go_ret
    exact ⟨ret_bool (by rw [ht]; rfl), (by repeat (first | exact Below.refl _ _ | assumption | refine Below.drew ?_ | refine Below.alloc ?_ (by first | (simp; done) | (simp; omega)) _ | refine Below.setCell ?_ (by first | (simp; done) | (simp; omega)) _))⟩
  | true =>
    go_wp2_with fail
    refine (slContains_any l ef _ _ (HS.out.up ((RowKit.Below.refl _ _).alloc (Nat.le_refl _) _)) hl).mono ?_
    rintro r w1 ⟨rfl, rfl⟩
    cases hf : inB l ef
    all_goals
      go_wp2
      go_ret
      exact ⟨ret_bool (by rw [ht, hf]; rfl), (by repeat (first | exact Below.refl _ _ | assumption | refine Below.drew ?_ | refine Below.alloc ?_ (by first | (simp; done) | (simp; omega)) _ | refine Below.setCell ?_ (by first | (simp; done) | (simp; omega)) _))⟩
def closedB (E : List Edg) (l : List Int) : Bool := !(E.any fun e => inB l e.tt && !(inB l e.fr))
set_option maxHeartbeats 1000000 in
theorem closed_any (E : List Edg) (hE : E.length < 4294967281) (l : List Int) (hl : l.length < 4294967281) (ve vl : Value) (w : World) (hSE : Sl w 2 ve E.length (rowC Edg.cells E)) (hS : Sl w 1 vl l.length (ints l)) :
    Calls Tryz.prog 62 #[ve, vl] w fun r w' => r = .returned (.bool (closedB E l)) ∧ RowKit.Below w.heap.size w w' := by
  obtain ⟨la, lc, rfl⟩ := hS.form
  obtain ⟨ea, ec, rfl⟩ := hSE.form
  have HS := Lib.hid hS
  have HE := Lib.hid hSE
  clear hS hSE
  go_enter Tryz.func62, Tryz.ntmps62
  go_wp2_with fail
  refine (slContE_any E _ 105 ent_closed1 #[.pointer (some ⟨w.heap.size, 0, none⟩)] (fun e => inB l e.tt && !(inB l e.fr)) _ (HE.out.up ((RowKit.Below.refl _ _).alloc (Nat.le_refl _) _)) hE (fun k hk w1 hb => closed1_any E[k] l hl w.heap.size _ w1 (bcl hb (by simp) (by simp)) (Nat.lt_of_lt_of_le (by simp) hb.size) ((HS.out.up ((RowKit.Below.refl _ _).alloc (Nat.le_refl _) _)).up hb))).mono ?_
  rintro r w1 ⟨rfl, bb⟩
  have D := Lib.hid (RowKit.Below.trans (show RowKit.Below w.heap.size w _ from (by repeat (first | exact Below.refl _ _ | assumption | refine Below.drew ?_ | refine Below.alloc ?_ (by first | (simp; done) | (simp; omega)) _ | refine Below.setCell ?_ (by first | (simp; done) | (simp; omega)) _))) (bb.mono (by simp)))
  clear bb
  go_wp2
  go_ret
  exact ⟨rfl, D.out⟩
set_option maxHeartbeats 1000000 in
theorem verify1_any (n sb sn g g2 : Nat) (hn : n ≤ 4) (L : List Edg) (x : Int) (hx : 0 ≤ x ∧ x < n) (me : Nat) (hme : me < n) (w : World) (hg : w.cell? ⟨g, 0, none⟩ = some (.map (some sb))) (hg2 : w.cell? ⟨g2, 0, none⟩ = some (.int .i64 (me : Int))) (hSy : SaysM w sb sn (selfL n ++ L)) :
    Calls Tryz.prog 64 #[.int .i64 x, .pointer (some ⟨g, 0, none⟩), .pointer (some ⟨g2, 0, none⟩)] w fun r w' => r = .returned (.bool (!(mayB L x me))) ∧ RowKit.Below w.heap.size w w' := by
  have HSY := Lib.hid hSy
  have we : (⟨x, me⟩ : Edg).wf := ⟨wf_small hx.1 (by simp; omega), wf_small (by simp) (by simp; omega)⟩
  have HMY := Lib.hid (allowed_has (n := n) (L := L) (a := x) (b := me) hx)
  clear hSy
  go_enter Tryz.func64, Tryz.ntmps64
  go_wp2_with fail
  refine (saysHas_any sb sn (selfL n ++ L) ⟨x, me⟩ we _ HSY.out).mono ?_
  rw [HMY.out]
  rintro e w1 ⟨rfl, bb⟩
  have D := Lib.hid bb
  clear bb
  go_wp2
  go_ret
  exact ⟨rfl, D.out⟩
end Go.Proofs.YtehhhiodfcdnmaaGreatDoor

namespace Go.Proofs.YtehhhiodfcdnmaaGreatDoor
set_option linter.unusedSimpArgs false
set_option linter.unusedVariables false
open Go.RowKit Go.Sort Go.Shelf Go.Lib Go.Maps
def SetsR (w : World) (v : Value) (ss : List (List Int)) : Prop :=
  ∃ vs : List Value, vs.length = ss.length ∧ Sl w 1 v ss.length vs ∧ ∀ k (h : k < vs.length) (h' : k < ss.length), Sl w 1 vs[k] ss[k].length (ints ss[k])
theorem SetsR.up {w w' : World} {v : Value} {ss : List (List Int)} (h : SetsR w v ss) (hb : RowKit.Below w.heap.size w w') : SetsR w' v ss := by
  obtain ⟨vs, h1, h2, h3⟩ := h
  exact ⟨vs, h1, h2.up hb, fun k hk hk' => (h3 k hk hk').up hb⟩
theorem SetsR.form {w : World} {v : Value} {ss : List (List Int)} (h : SetsR w v ss) : ∃ ao cap, v = .slice ao ss.length cap := let ⟨_, _, h2, _⟩ := h; h2.form
theorem SetsR.nil (w : World) : SetsR w (.slice none 0 0) [] := ⟨[], rfl, Sl.nil _ _, fun k h => absurd h (Nat.not_lt_zero _)⟩
theorem SetsR.open {w : World} {v : Value} {ss : List (List Int)} (h : SetsR w v ss) (h0 : 0 < ss.length) : ∃ b off cap, v = .slice (some ⟨b, off, none⟩) ss.length cap ∧ b < w.heap.size ∧ ∀ k (hk : k < ss.length), ∃ la lc, w.cell? ⟨b, off + k, none⟩ = some (.slice la ss[k].length lc) ∧ Sl w 1 (.slice la ss[k].length lc) ss[k].length (ints ss[k]) := by
  obtain ⟨vs, h1, h2, h3⟩ := h
  obtain ⟨b, off, cap, rfl, hcap, hb, hc⟩ := h2.open h0
  refine ⟨b, off, cap, rfl, hb, fun k hk => ?_⟩
  have h4 := h3 k (by omega) hk
  obtain ⟨la, lc, e⟩ := h4.form
  refine ⟨la, lc, ?_, e ▸ h4⟩
  exact hc k _ (by rw [List.getElem?_eq_getElem (by omega), e])
def SetRight (S : SysD) (L : List Edg) (l : List Int) (u : Nat) : Prop := SetUp S.parts.length l l.length ∧ inB l u = true ∧ closedB (edgesL S) l = true ∧ ∀ x ∈ l, mayB L x u = true
def CertRight (S : SysD) (L : List Edg) (ss : List (List Int)) : Prop := ss.length = S.parts.length ∧ ∀ u (h : u < ss.length), SetRight S L ss[u] u
noncomputable def verB (S : SysD) (L : List Edg) (ss : List (List Int)) : Bool := @decide (CertRight S L ss) (Classical.propDecidable _)
theorem verB_true {S : SysD} {L : List Edg} {ss : List (List Int)} (h : CertRight S L ss) : verB S L ss = true := by unfold verB; simpa using h
theorem verB_is {S : SysD} {L : List Edg} {ss : List (List Int)} (h : verB S L ss = true) : CertRight S L ss := by unfold verB at h; simpa using h
theorem verB_false {S : SysD} {L : List Edg} {ss : List (List Int)} (h : ¬ CertRight S L ss) : verB S L ss = false := by unfold verB; simpa using h
theorem verB_bad {S : SysD} {L : List Edg} {ss : List (List Int)} {u : Nat} (hu : u < ss.length) (h : ¬ SetRight S L ss[u] u) : verB S L ss = false := verB_false (fun hh => h (hh.2 u hu))
noncomputable def verQ (S : SysD) (L : List Edg) (ss : List (List Int)) : Bool := if polE S L = 0 then verB S L ss else false
theorem polE_is {S : SysD} {L : List Edg} (h : polE S L = 0) : chkS S = 0 ∧ PolUp S.parts.length L L.length := by
  unfold polE at h
  split at h
  · rename_i h0
    split at h
    · rename_i h1
      exact ⟨h0, polB_is h1⟩
    · omega
  · rename_i h0
    exact absurd h h0
set_option maxRecDepth 100000 in
set_option maxHeartbeats 8000000 in
theorem ceVerify_any (S : SysD) (L : List Edg) (ss : List (List Int)) (vp vc vs vL vC : Value) (w : World) (he : Env w) (hS : Sys w vp vc vs S) (hL : Sl w 2 vL L.length (rowC Edg.cells L)) (hC : SetsR w vC ss) :
    Calls Tryz.prog 23 #[.agg #[vp, vc, vs], .agg #[vL], .agg #[vC]] w fun e w' => e = .returned (.tuple #[.bool (verQ S L ss), .int .i64 (polE S L)]) ∧ RowKit.Below w.heap.size w w' := by
  generalize hv : verQ S L ss = vq
  generalize hc : polE S L = c
  unfold verQ at hv
  rw [hc] at hv
  obtain ⟨pa, pc, rfl⟩ := hS.p.form
  obtain ⟨ca, cc, rfl⟩ := hS.c.form
  obtain ⟨sa, sc, rfl⟩ := hS.s.form
  obtain ⟨la, lc, rfl⟩ := hL.form
  obtain ⟨ta, tc, rfl⟩ := hC.form
  have HS := Lib.hid hS
  have HC := Lib.hid hc
  have HL := Lib.hid hL
  have HCS := Lib.hid hC
  clear hS hc hL hC
  go_enter Tryz.func23, Tryz.ntmps23
  go_wp2_with fail
  refine (ceCheck_any S L _ _ _ _ _ (he.up (by repeat (first | exact Below.refl _ _ | assumption | refine Below.drew ?_ | refine Below.alloc ?_ (by first | (simp; done) | (simp; omega)) _ | refine Below.setCell ?_ (by first | (simp; done) | (simp; omega)) _))) (HS.out.up (by repeat (first | exact Below.refl _ _ | assumption | refine Below.drew ?_ | refine Below.alloc ?_ (by first | (simp; done) | (simp; omega)) _ | refine Below.setCell ?_ (by first | (simp; done) | (simp; omega)) _))) (HL.out.up (by repeat (first | exact Below.refl _ _ | assumption | refine Below.drew ?_ | refine Below.alloc ?_ (by first | (simp; done) | (simp; omega)) _ | refine Below.setCell ?_ (by first | (simp; done) | (simp; omega)) _)))).mono ?_
  rw [HC.out]
  rintro e w1 ⟨rfl, bb⟩
  have HB := Lib.hid (((box_new w (.slice pa S.parts.length pc) (.slice ca S.chans.length cc) (.slice sa S.slots.length sc) 26 _ rfl).up (((RowKit.Below.refl _ _).alloc (Nat.le_refl _) (.cells #[.slice la L.length lc] 67)).alloc (by simp) (.cells #[.slice ta ss.length tc] 70))).up bb)
  have b3 : RowKit.Below ((w.alloc (.cells #[.slice pa S.parts.length pc, .slice ca S.chans.length cc, .slice sa S.slots.length sc] 26)).alloc (.cells #[.slice la L.length lc] 67)).heap.size ((w.alloc (.cells #[.slice pa S.parts.length pc, .slice ca S.chans.length cc, .slice sa S.slots.length sc] 26)).alloc (.cells #[.slice la L.length lc] 67)) w1 := RowKit.Below.trans ((RowKit.Below.refl _ _).alloc (Nat.le_refl _) _) (bb.mono (by simp))
  have k3 : w1.cell? ⟨w.heap.size + 1, 0, none⟩ = some (.slice la L.length lc) := bcl b3 (by simp) (by simp)
  clear b3
  have k4 : w1.cell? ⟨w.heap.size + 1 + 1, 0, none⟩ = some (.slice ta ss.length tc) := bcl bb (by simp) ((Rw.new _ _ _ (by simp)).cell (j := 0) rfl)
  have hw1 : w.heap.size + 2 < w1.heap.size := by have := bb.size; simp at this; omega
  have D := Lib.hid (RowKit.Below.trans (show RowKit.Below w.heap.size w _ from (by repeat (first | exact Below.refl _ _ | assumption | refine Below.drew ?_ | refine Below.alloc ?_ (by first | (simp; done) | (simp; omega)) _ | refine Below.setCell ?_ (by first | (simp; done) | (simp; omega)) _))) (bb.mono (by simp; omega)))
  clear bb
  by_cases h0 : c = 0
  · subst h0
    rw [if_pos rfl] at hv
    have HV := Lib.hid hv
    clear hv
    obtain ⟨hch, hpu⟩ := polE_is HC.out
    obtain ⟨h4, h1, hcl, _⟩ := chk_flow hch
    have hLl := polUp_len h4 hpu (Nat.le_refl _)
    have HCH := Lib.hid hch
    have HPU := Lib.hid hpu
    clear hch hpu
    have k0 := HB.out.p
    have k1 := HB.out.c
    have k2 := HB.out.s
    by_cases hsl : ss.length = S.parts.length
    · have hsl' : ((ss.length : Int) != (S.parts.length : Int)) = false := by simp; omega
      have HSL := Lib.hid hsl
      clear hsl
      go_wp2_with fail
      refine (flEdges_any S _ _ _ _ (he.up D.out) (HS.out.up D.out)).mono ?_
      rw [HCH.out, show edgesQ S = edgesL S by unfold edgesQ; rw [if_pos HCH.out]]
      rintro e w2 ⟨ve, rfl, hse, bb⟩
      have HSE := Lib.hid hse
      have HB2 := Lib.hid (HB.out.up bb)
      have k3b := bcl bb (by omega) k3
      have k4b := bcl bb (by omega) k4
      have hw2 : w.heap.size + 2 < w2.heap.size := by have := bb.size; omega
      have D2 := Lib.hid (D.out.trans (bb.mono D.out.size))
      clear bb hse HB k0 k1 k2 k3 k4 hw1 D
      have k0 := HB2.out.p
      go_wp2_with fail
      refine (allowed_any S.parts.length h4 L hLl (fun e he => polUp_wf h4 HPU.out he) _ _ (HL.out.up D2.out)).mono ?_
      rintro e w3 ⟨sb, rfl, ⟨sn, hsy⟩, bb⟩
      have HSY := Lib.hid hsy
      have HSE3 := Lib.hid (HSE.out.up bb)
      have HB3 := Lib.hid (HB2.out.up bb)
      have k4c := bcl bb (by omega) k4b
      have hw3 : w.heap.size + 2 < w3.heap.size := by have := bb.size; omega
      have D3 := Lib.hid (D2.out.trans (bb.mono D2.out.size))
      clear bb hsy HB2 HSE k0 k3b k4b hw2 D2
      have k4d := cl_alloc (.cells #[.map (some sb)] 114) (show (⟨w.heap.size + 1 + 1, 0, none⟩ : Addr).block < w3.heap.size by show w.heap.size + 1 + 1 < _; omega) k4c
      go_wp2
      go_loopw [40] (fun i wr => ∃ k : Nat, i = .int .i64 k ∧ k ≤ ss.length ∧ Hid (∀ u (h : u < ss.length), u < k → SetRight S L ss[u] u) ∧ wr.cell? ⟨w3.heap.size, 0, none⟩ = some (.map (some sb)) ∧ w3.heap.size < wr.heap.size ∧ Hid (RowKit.Below w3.heap.size w3 wr)) (fun i _ => ss.length - (intOf i).toNat)
      case atStart => exact ⟨0, rfl, Nat.zero_le _, Lib.hid (fun u _ h => by omega), by simp, by simp, (by repeat (first | exact Below.refl _ _ | assumption | refine Below.drew ?_ | refine Below.alloc ?_ (by first | (simp; done) | (simp; omega)) _ | refine Below.setCell ?_ (by first | (simp; done) | (simp; omega)) _))⟩
      case round =>
        clear k4d k4c
        obtain ⟨k, rfl, hk, HP, hmp, hws, HT⟩ := hrel
        by_cases hlt : k < ss.length
        · have hli : (k : Int) < ss.length := by omega
          have hkn : k < S.parts.length := by have := HSL.out; omega
          have HBB := Lib.hid (HB3.out.up HT.out)
          have k0 := HBB.out.p
          obtain ⟨tb, tof, tcap, e1, htb, hts⟩ := (HCS.out.up (D3.out.trans (HT.out.mono D3.out.size))).open (by omega)
          cases e1
          obtain ⟨xa, xc, hx0, hxs⟩ := hts k hlt
          have HXS := Lib.hid hxs
          have HBAD := Lib.hid (fun h => HV.out.symm.trans (verB_bad (S := S) (L := L) hlt h))
          have HST : Hid (SetRight S L ss[k] k → ∀ u (h : u < ss.length), u < k + 1 → SetRight S L ss[u] u) := Lib.hid (fun hr u hu huk => by
            by_cases e : u = k
            · subst e; exact hr
            · exact HP.out u hu (by omega))
          clear hts hxs
          generalize ss[k] = l at hx0 HXS HBAD HST
          have k0a := cl_alloc (.cells #[.int .i64 (k : Int)] 3) (show (⟨w.heap.size, 0, none⟩ : Addr).block < wr.heap.size by show w.heap.size < _; have := HT.out.size; omega) k0
          have HT1 : Hid (RowKit.Below w3.heap.size w3 (wr.alloc (.cells #[.int .i64 (k : Int)] 3))) := Lib.hid (HT.out.alloc HT.out.size _)
          have HXS1 := Lib.hid (HXS.out.up ((RowKit.Below.refl _ _).alloc (Nat.le_refl _) (.cells #[.int .i64 (k : Int)] 3)))
          go_wp2_with fail
          refine (isSet_any S.parts.length h4 l _ _ HXS1.out).mono ?_
          rintro e W1 ⟨rfl, rfl⟩
          cases hset : setB S.parts.length l with
          | false =>
            have HB1 := Lib.hid (HBAD.out (fun h => by rw [setB_true h.1] at hset; cases hset))
            go_wp2
            go_ret2
            exact ⟨by rw [HB1.out]; rfl, D3.out.trans (HT1.out.mono D3.out.size)⟩
          | true =>
          have hup := setB_is hset
          have hl4 := setUp_len hup (Nat.le_refl _)
          have HUP := Lib.hid hup
          clear hup
          go_wp2_with fail
          refine (slContains_any l k _ _ HXS1.out (by omega)).mono ?_
          rintro e W1 ⟨rfl, rfl⟩
          cases hin : inB l k with
          | false =>
            have HB1 := Lib.hid (HBAD.out (fun h => by have := h.2.1; rw [hin] at this; cases this))
            go_wp2
            go_ret2
            exact ⟨by rw [HB1.out]; rfl, D3.out.trans (HT1.out.mono D3.out.size)⟩
          | true =>
          have hE16 : (edgesL S).length ≤ 16 := by
            have := outL_len S S.parts.length S.parts.length
            have h2 : S.parts.length * S.parts.length ≤ 4 * 4 := Nat.mul_le_mul h4 h4
            unfold edgesL
            omega
          have c12 : (wr.alloc (.cells #[.int .i64 (k : Int)] 3)).cell? ⟨wr.heap.size, 0, none⟩ = some (.int .i64 (k : Int)) := by simp
          have cmp := cl_alloc (.cells #[.int .i64 (k : Int)] 3) (show (⟨w3.heap.size, 0, none⟩ : Addr).block < wr.heap.size from hws) hmp
          have hX1 : wr.heap.size < (wr.alloc (.cells #[.int .i64 (k : Int)] 3)).heap.size := by simp
          obtain ⟨ea, ec, hef⟩ := HSE3.out.form
          subst hef
          generalize wr.alloc (.cells #[.int .i64 (k : Int)] 3) = X at HT1 HXS1 c12 cmp k0a hX1 ⊢
          go_wp2_with fail
          refine (closed_any (edgesL S) (by omega) l (by omega) _ _ _ (HSE3.out.up HT1.out) HXS1.out).mono ?_
          rintro e W2 ⟨rfl, bb⟩
          have HT2 := Lib.hid (HT1.out.trans (bb.mono HT1.out.size))
          have HXS2 := Lib.hid (HXS1.out.up bb)
          have c12b := bcl bb hX1 c12
          have cmpb := bcl bb (by show w3.heap.size < X.heap.size; omega) cmp
          have hX2 : wr.heap.size < W2.heap.size := by have := bb.size; omega
          clear bb HT1 HXS1 c12 cmp hX1 k0a
          cases hcl : closedB (edgesL S) l with
          | false =>
            have HB1 := Lib.hid (HBAD.out (fun h => by have := h.2.2.1; rw [hcl] at this; cases this))
            go_wp2
            go_ret2
            exact ⟨by rw [HB1.out]; rfl, D3.out.trans (HT2.out.mono D3.out.size)⟩
          | true =>
          have HSY2 := Lib.hid (HSY.out.up HT2.out)
          have hsz3 := HT2.out.size
          go_wp2_with fail
          refine (slContF_any l _ 64 ent_verify1 #[.pointer (some ⟨w3.heap.size, 0, none⟩), .pointer (some ⟨wr.heap.size, 0, none⟩)] (fun x => !(mayB L x k)) _ HXS2.out (by omega) (fun j hj V hb => verify1_any S.parts.length sb sn _ _ h4 L l[j] (by have := (HUP.out j hj hj).1; unfold withinB at this; simp at this; omega) k hkn V (bcl hb (by show w3.heap.size < W2.heap.size; omega) cmpb) (bcl hb hX2 c12b) (HSY2.out.up hb))).mono ?_
          rintro e W3 ⟨rfl, bb⟩
          have HT3 := Lib.hid (HT2.out.trans (bb.mono HT2.out.size))
          have cmpc := bcl bb (by show w3.heap.size < W2.heap.size; omega) cmpb
          have hX3 : w3.heap.size < W3.heap.size := by have := bb.size; omega
          clear bb HT2 HXS2 c12b cmpb HSY2
          cases hmy : l.any (fun x => !(mayB L x k)) with
          | true =>
            have HB1 := Lib.hid (HBAD.out (fun h => by
              obtain ⟨x, hx, hm⟩ := List.any_eq_true.1 hmy
              rw [h.2.2.2 x hx] at hm
              cases hm))
            go_wp2
            go_ret2
            exact ⟨by rw [HB1.out]; rfl, D3.out.trans (HT3.out.mono D3.out.size)⟩
          | false =>
            have HG := Lib.hid (HST.out ⟨HUP.out, hin, hcl, fun x hx => by
              rw [List.any_eq_false] at hmy
              have := hmy x hx
              simpa using this⟩)
            clear HST HBAD
            go_wp2
            go_roundw
            case rel => exact ⟨k + 1, by go_num, by omega, HG, cmpc, hX3, HT3⟩
            case measure => simp [intOf]; omega
        · have hli : ¬ (k : Int) < ss.length := by omega
          have HG := Lib.hid (HV.out.symm.trans (verB_true ⟨HSL.out, fun u hu => HP.out u hu (by omega)⟩))
          go_wp2
          go_ret2
          exact ⟨by rw [HG.out]; rfl, D3.out.trans (HT.out.mono D3.out.size)⟩
    · have hsl' : ((ss.length : Int) != (S.parts.length : Int)) = true := by simp; omega
      have HG := Lib.hid (HV.out.symm.trans (verB_false (fun h => hsl h.1)))
      clear hsl
      go_wp2
      go_ret2
      exact ⟨by rw [HG.out]; rfl, D.out⟩
  · have h0' : (c != 0) = true := by simpa using h0
    rw [if_neg h0] at hv
    subst hv
    clear h0
    go_wp2
    go_ret2
    exact ⟨rfl, D.out⟩
end Go.Proofs.YtehhhiodfcdnmaaGreatDoor

namespace Go.Proofs.YtehhhiodfcdnmaaGreatDoor
set_option linter.unusedSimpArgs false
set_option linter.unusedVariables false
open Go.RowKit Go.Sort
theorem closed_stepV {E : List Edg} {l : List Int} (hc : closedB E l = true) {y x : Int} (he : (⟨y, x⟩ : Edg) ∈ E) (hx : x ∈ l) : y ∈ l := by
  unfold closedB at hc
  rw [Bool.not_eq_true', List.any_eq_false] at hc
  have := hc _ he
  simp only [Bool.and_eq_true, Bool.not_eq_true', not_and, Bool.not_eq_false] at this
  exact inB_iff.1 (this (inB_iff.2 hx))
theorem walk_intoV {E : List Edg} {l : List Int} (hc : closedB E l = true) {a : Int} {p : List Int} (h : WalkR E a p) : ∀ x, p.head? = some x → x ∈ l → a ∈ l := by
  induction h with
  | one =>
    intro x hx hl
    simp at hx
    exact hx ▸ hl
  | @step x y q hw he ih =>
    intro z hz hl
    simp at hz
    subst hz
    exact ih y rfl (closed_stepV hc he hl)
theorem pol_lenV {S : SysD} {L : List Edg} (h : polE S L = 0) : S.parts.length ≤ 4 ∧ S.chans.length ≤ 6 ∧ L.length ≤ 16 := by
  obtain ⟨hch, hpu⟩ := polE_is h
  obtain ⟨h4, _, hcl, _⟩ := chk_flow hch
  exact ⟨h4, hcl, polUp_len h4 hpu (Nat.le_refl _)⟩
theorem cert_alone {S : SysD} {L : List Edg} {ss : List (List Int)} (h : CertRight S L ss) {u v : Nat} (hu : u < S.parts.length) (hv : v < S.parts.length) (hne : v ≠ u) (hL : ∀ j (hj : j < L.length), L[j] ≠ ⟨(v : Int), (u : Int)⟩) : reachB S v u = false := by
  cases hr : reachB S v u with
  | false => rfl
  | true =>
    exfalso
    have hul : u < ss.length := by rw [h.1]; exact hu
    obtain ⟨_, hin, hcl, hmy⟩ := h.2 u hul
    obtain ⟨q, hw, _⟩ := (reachN_iff S _ v u ⟨by omega, by omega⟩).1 hr
    have hm := hmy v (walk_intoV hcl hw u rfl (inB_iff.1 hin))
    unfold mayB at hm
    rw [Bool.or_eq_true] at hm
    rcases hm with hm | hm
    · simp at hm; omega
    · obtain ⟨e, he, heq⟩ := List.any_eq_true.1 hm
      obtain ⟨j, hj, rfl⟩ := List.getElem_of_mem he
      refine hL j hj ?_
      unfold edIs at heq
      simpa using heq
set_option maxRecDepth 100000 in
set_option maxHeartbeats 8000000 in
theorem viewCert_any (S : SysD) (L : List Edg) (ss : List (List Int)) (a b n : Int) (hab : in64 a) (hbb : in64 b) (p : Prt) (vp vc vs vL vC pv iv : Value) (w : World) (he : Env w) (hS : Sys w vp vc vs S) (hL : Sl w 2 vL L.length (rowC Edg.cells L)) (hC : SetsR w vC ss) (hp : PrtR w pv iv p) :
    Calls Tryz.prog 7 #[.agg #[vp, vc, vs], .agg #[vL], .agg #[vC], .int .i64 a, .int .i64 b, .int .i64 n, .agg #[pv, iv]] w fun e w' => e = .returned (.bool true) ∧ Below w.heap.size w w' := by
  obtain ⟨pa, pc, rfl⟩ := hS.p.form
  obtain ⟨ka, kc, rfl⟩ := hS.c.form
  obtain ⟨sa, sc, rfl⟩ := hS.s.form
  obtain ⟨qa, qc, rfl⟩ := hp.code.form
  obtain ⟨ia, ic, rfl⟩ := hp.inn.form
  obtain ⟨ea, ec, rfl⟩ := hL.form
  obtain ⟨fa, fc, rfl⟩ := hC.form
  have HE := Lib.hid he
  have HS := Lib.hid hS
  have HP := Lib.hid hp
  have HL := Lib.hid hL
  have HC := Lib.hid hC
  have HA := Lib.hid hab
  have HBB := Lib.hid hbb
  generalize hr : polE S L = r
  have HPE := Lib.hid hr
  generalize hq : verQ S L ss = q
  have HVQ := Lib.hid hq
  clear he hS hp hab hbb hr hL hC hq
  go_enter Tryz.func7, Tryz.ntmps7
  go_upto_region 1 with fail
  generalize hX : World.alloc _ _ = X
  have hXX : X = (((w.alloc (.cells #[.slice pa S.parts.length pc, .slice ka S.chans.length kc, .slice sa S.slots.length sc] 26)).alloc (.cells #[.slice ea L.length ec] 67)).alloc (.cells #[.slice fa ss.length fc] 70)).alloc (.cells #[.slice qa p.code.length qc, .slice ia p.inn.length ic] 49) := by rw [← hX] <;> rfl
  have d0 : Below w.heap.size w X := by rw [hXX]; exact (by repeat (first | exact Below.refl _ _ | assumption | refine Below.drew ?_ | refine Below.alloc ?_ (by first | (simp; done) | (simp; omega)) _ | refine Below.setCell ?_ (by first | (simp; done) | (simp; omega)) _))
  have R0 : Hid (Rw X w.heap.size 26 #[.slice pa S.parts.length pc, .slice ka S.chans.length kc, .slice sa S.slots.length sc]) := Lib.hid (by rw [hXX]; exact (by repeat (first | exact Rw.new _ _ _ (by first | rfl | (simp; done) | omega | (simp; omega)) | refine Rw.alloc ?_ _)))
  have R8 : Hid (Rw X (w.heap.size + 1) 67 #[.slice ea L.length ec]) := Lib.hid (by rw [hXX]; exact (by repeat (first | exact Rw.new _ _ _ (by first | rfl | (simp; done) | omega | (simp; omega)) | refine Rw.alloc ?_ _)))
  have R9 : Hid (Rw X (w.heap.size + 2) 70 #[.slice fa ss.length fc]) := Lib.hid (by rw [hXX]; exact (by repeat (first | exact Rw.new _ _ _ (by first | rfl | (simp; done) | omega | (simp; omega)) | refine Rw.alloc ?_ _)))
  have R13 : Hid (Rw X (w.heap.size + 3) 49 #[.slice qa p.code.length qc, .slice ia p.inn.length ic]) := Lib.hid (by rw [hXX]; exact (by repeat (first | exact Rw.new _ _ _ (by first | rfl | (simp; done) | omega | (simp; omega)) | refine Rw.alloc ?_ _)))
  have HB := Lib.hid d0
  clear hX hXX d0
  have s0 := R0.out.cell (j := 0) (v := .slice pa S.parts.length pc) rfl
  have s1 := R0.out.cell (j := 1) (v := .slice ka S.chans.length kc) rfl
  have s2 := R0.out.cell (j := 2) (v := .slice sa S.slots.length sc) rfl
  have l0 := R8.out.cell (j := 0) (v := .slice ea L.length ec) rfl
  have c0 := R9.out.cell (j := 0) (v := .slice fa ss.length fc) rfl
  go_wp2_with fail
  refine (ceVerify_any S L ss _ _ _ _ _ _ (HE.out.up HB.out) (HS.out.up HB.out) (HL.out.up HB.out) (HC.out.up HB.out)).mono ?_
  rw [HPE.out, HVQ.out]
  rintro e w1 ⟨rfl, b1⟩
  clear s0 s1 s2 l0 c0 R9
  have R0' := Lib.hid (R0.out.up b1 R0.out.lt)
  have R8' := Lib.hid (R8.out.up b1 R8.out.lt)
  have R13' := Lib.hid (R13.out.up b1 R13.out.lt)
  have HB' := Lib.hid (HB.out.trans (b1.mono HB.out.size))
  clear b1 HB R0 R8 R13
  have R0 := R0'
  clear R0'
  have R8 := R8'
  clear R8'
  have R13 := R13'
  clear R13'
  have HB := HB'
  clear HB'
  by_cases h0 : r = 0
  · subst h0
    cases q with
    | false =>
      clear HVQ
      go_wp2_with fail
      refine (viewBegun_any _ (HE.out.up HB.out)).mono ?_
      rintro e f1 ⟨rfl, bb⟩
      have HB' := Lib.hid (HB.out.trans (bb.mono HB.out.size))
      clear bb HB 
      have HB := HB'
      clear HB'
      go_wp2
      go_ret
      exact ⟨rfl, HB.out⟩
    | true =>
      have HCR : Hid (CertRight S L ss) := Lib.hid (verB_is (by have h := HVQ.out; unfold verQ at h; rw [if_pos HPE.out] at h; exact h))
      have HR := Lib.hid (polE_is HPE.out).1
      obtain ⟨h4, -, hl16⟩ := pol_lenV HPE.out
      have h1 : 1 ≤ S.parts.length := (chk_flow HR.out).2.1
      clear HVQ HPE
      by_cases hn1 : n < 0
      · clear HCR
        go_wp2_with fail
        refine (viewBegun_any _ (HE.out.up HB.out)).mono ?_
        rintro e f1 ⟨rfl, bb⟩
        have HB' := Lib.hid (HB.out.trans (bb.mono HB.out.size))
        clear bb HB 
        have HB := HB'
        clear HB'
        go_wp2
        go_ret
        exact ⟨rfl, HB.out⟩
      · by_cases hn2 : 300 < n
        · clear HCR
          go_wp2_with fail
          refine (viewBegun_any _ (HE.out.up HB.out)).mono ?_
          rintro e f1 ⟨rfl, bb⟩
          have HB' := Lib.hid (HB.out.trans (bb.mono HB.out.size))
          clear bb HB 
          have HB := HB'
          clear HB'
          go_wp2
          go_ret
          exact ⟨rfl, HB.out⟩
        · have h1i : ((S.parts.length : Int) == 0) = false := by rw [beq_eq_false_iff_ne]; omega
          have s0 := R0.out.cell (j := 0) (v := .slice pa S.parts.length pc) rfl
          have s1 := R0.out.cell (j := 1) (v := .slice ka S.chans.length kc) rfl
          have s2 := R0.out.cell (j := 2) (v := .slice sa S.slots.length sc) rfl
          go_upto_region 4 with fail
          refine region_still (S := fun w' => w'.cell? ⟨w.heap.size, 0, none⟩ = some (.slice pa S.parts.length pc)) 11 (by kernel_rfl) s0 (fun hHeld => ?_)
          refine Still.takeBy (i := 0) [] (v := ?v1) (by kernel_rfl) (by kernel_rfl) rfl (by kernel_rfl) (by kernel_rfl) (by kernel_rfl) (fun _ _ _ h => h) (Or.inl ⟨by rfl, ?y1⟩) hHeld ?r1
          case y1 => (intro w' hSw; (try dsimp only at hSw); go_simp; try with_reducible rfl)
          simp only [Act.put, List.getElem_toArray, List.getElem_cons_zero, List.getElem_cons_succ, List.setIfInBounds_toArray, List.set_cons_zero, List.set_cons_succ]
          refine Still.takeBy (i := 1) [] (v := ?v2) (by kernel_rfl) (by kernel_rfl) rfl (by kernel_rfl) (by kernel_rfl) (by kernel_rfl) (fun _ _ _ h => h) (Or.inl ⟨by rfl, ?y2⟩) hHeld ?r2
          case y2 => (intro w' hSw; (try dsimp only at hSw); go_simp; try with_reducible rfl)
          simp only [Act.put, List.getElem_toArray, List.getElem_cons_zero, List.getElem_cons_succ, List.setIfInBounds_toArray, List.set_cons_zero, List.set_cons_succ]
          refine Still.takeBy (i := 2) [] (v := ?v3) (by kernel_rfl) (by kernel_rfl) rfl (by kernel_rfl) (by kernel_rfl) (by kernel_rfl) (fun _ _ _ h => h) (Or.inl ⟨by rfl, ?y3⟩) hHeld ?r3
          case y3 => (intro w' hSw; (try dsimp only at hSw); go_simp; try with_reducible rfl)
          simp only [Act.put, List.getElem_toArray, List.getElem_cons_zero, List.getElem_cons_succ, List.setIfInBounds_toArray, List.set_cons_zero, List.set_cons_succ]
          refine Still.takeBy (i := 3) [] (v := ?v4) (by kernel_rfl) (by kernel_rfl) rfl (by kernel_rfl) (by kernel_rfl) (by kernel_rfl) (fun _ _ _ h => h) (Or.inl ⟨by rfl, ?y4⟩) hHeld ?r4
          case y4 => (intro w' hSw; (try dsimp only at hSw); go_simp; try with_reducible rfl)
          simp only [Act.put, List.getElem_toArray, List.getElem_cons_zero, List.getElem_cons_succ, List.setIfInBounds_toArray, List.set_cons_zero, List.set_cons_succ]
          refine Still.takeBy (i := 5) [] (v := ?v5) (by kernel_rfl) (by kernel_rfl) rfl (by kernel_rfl) (by kernel_rfl) (by kernel_rfl) (fun _ _ _ h => h) (Or.inl ⟨by rfl, ?y5⟩) hHeld ?r5
          case y5 => (intro w' hSw; (try dsimp only at hSw); go_simp; try with_reducible rfl)
          simp only [Act.put, List.getElem_toArray, List.getElem_cons_zero, List.getElem_cons_succ, List.setIfInBounds_toArray, List.set_cons_zero, List.set_cons_succ]
          refine Still.takeBy (i := 6) [] (v := ?v6) (by kernel_rfl) (by kernel_rfl) rfl (by kernel_rfl) (by kernel_rfl) (by kernel_rfl) (fun _ _ _ h => h) (Or.inl ⟨by rfl, ?y6⟩) hHeld ?r6
          case y6 => (intro w' hSw; (try dsimp only at hSw); go_simp; try with_reducible rfl)
          simp only [Act.put, List.getElem_toArray, List.getElem_cons_zero, List.getElem_cons_succ, List.setIfInBounds_toArray, List.set_cons_zero, List.set_cons_succ]
          refine Still.takeBy (i := 7) [] (v := ?v7) (by kernel_rfl) (by kernel_rfl) rfl (by kernel_rfl) (by kernel_rfl) (by kernel_rfl) (fun _ _ _ h => h) (Or.inl ⟨by rfl, ?y7⟩) hHeld ?r7
          case y7 => (intro w' hSw; (try dsimp only at hSw); go_simp; try with_reducible rfl)
          simp only [Act.put, List.getElem_toArray, List.getElem_cons_zero, List.getElem_cons_succ, List.setIfInBounds_toArray, List.set_cons_zero, List.set_cons_succ]
          refine Still.takeBy (i := 8) [] (v := ?v8) (by kernel_rfl) (by kernel_rfl) rfl (by kernel_rfl) (by kernel_rfl) (by kernel_rfl) (fun _ _ _ h => h) (Or.inl ⟨by rfl, ?y8⟩) hHeld ?r8
          case y8 => (intro w' hSw; (try dsimp only at hSw); go_simp; try with_reducible rfl)
          simp only [Act.put, List.getElem_toArray, List.getElem_cons_zero, List.getElem_cons_succ, List.setIfInBounds_toArray, List.set_cons_zero, List.set_cons_succ]
          refine Still.all (rs := [4]) (by kernel_rfl) (by simp) (Still.one (i := 4) rfl rfl (fun K hK => ?_) (by simp))
          refine wp_call 22 _ _ rfl ent_chooseV #[.int .i64 a, .int .i64 (S.parts.length : Int)] (by first | rfl | simp [Act.eval, Act.put]) ((chooseV_any a HA.out S.parts.length h1 (by omega) _).mono ?_)
          rintro e V' ⟨u, rfl, hu, rfl⟩
          refine ⟨_, rfl, hK _ _ (fun _ => hHeld) (fun hh => ?_)⟩
          clear hK K hh
          try simp only [Act.put, List.getElem_toArray, List.getElem_cons_zero, List.getElem_cons_succ, List.setIfInBounds_toArray, List.set_cons_zero, List.set_cons_succ]
          refine Still.all (rs := [9]) (by kernel_rfl) (by simp) (Still.one (i := 9) rfl rfl (fun K hK => ?_) (by simp))
          refine wp_call 22 _ _ rfl ent_chooseV #[.int .i64 b, .int .i64 (S.parts.length : Int)] (by first | rfl | simp [Act.eval, Act.put]) ((chooseV_any b HBB.out S.parts.length h1 (by omega) _).mono ?_)
          rintro e V' ⟨v, rfl, hv, rfl⟩
          refine ⟨_, rfl, hK _ _ (fun _ => hHeld) (fun hh => ?_)⟩
          clear hK K hh
          try simp only [Act.put, List.getElem_toArray, List.getElem_cons_zero, List.getElem_cons_succ, List.setIfInBounds_toArray, List.set_cons_zero, List.set_cons_succ]
          refine Still.takeBy (i := 10) [] (v := ?v9) (by kernel_rfl) (by kernel_rfl) rfl (by kernel_rfl) (by kernel_rfl) (by kernel_rfl) (fun _ _ _ h => h) (Or.inl ⟨by rfl, ?y9⟩) hHeld ?r9
          case y9 => (intro w' hSw; (try dsimp only at hSw); go_simp; try with_reducible rfl)
          simp only [Act.put, List.getElem_toArray, List.getElem_cons_zero, List.getElem_cons_succ, List.setIfInBounds_toArray, List.set_cons_zero, List.set_cons_succ]
          refine Still.all (rs := [11]) (by kernel_rfl) (by simp) (Still.one (i := 11) rfl rfl (fun K hK => ?_) (by simp))
          go_simp
          refine hK _ _ (fun h => absurd rfl h) (fun _ => ?_)
          clear hK K
          refine Still.over (by kernel_rfl) ?_ _
          clear hHeld
          have bw : Below w1.heap.size w1 w1.drew := (Below.refl _ _).drew
          clear s0 s1 s2
          have R0' := Lib.hid (R0.out.up bw R0.out.lt)
          have R8' := Lib.hid (R8.out.up bw R8.out.lt)
          have R13' := Lib.hid (R13.out.up bw R13.out.lt)
          have HB' := Lib.hid (HB.out.trans (bw.mono HB.out.size))
          clear bw HB R0 R8 R13
          have R0 := R0'
          clear R0'
          have R8 := R8'
          clear R8'
          have R13 := R13'
          clear R13'
          have HB := HB'
          clear HB'
          have hui : (u : Int) < S.parts.length := by omega
          have hvi : (v : Int) < S.parts.length := by omega
          obtain ⟨e0, he0⟩ : ∃ e0, otherE S (v : Int) p = e0 := ⟨_, rfl⟩
          obtain ⟨Z, hZ⟩ : ∃ Z, otherR S (v : Int) p = Z := ⟨_, rfl⟩
          have HOT := Lib.hid fun w he hS hp => other_any S (v : Int) p (.slice pa S.parts.length pc) (.slice ka S.chans.length kc) (.slice sa S.slots.length sc) (.slice qa p.code.length qc) (.slice ia p.inn.length ic) w he hS hp e0 he0 Z hZ
          have HE0 := Lib.hid he0
          have HZ := Lib.hid hZ
          clear he0 hZ
          go_upto_region 5 with fail
          generalize hw3 : World.drew w1 = w3 at R0 R8 R13 HB ⊢
          clear hw3
          go_wp2
          go_loopw [19] (fun i wr => ∃ k : Nat, i = .int .i64 k ∧ k ≤ L.length ∧ Hid (∀ j (hj : j < L.length), j < k → L[j] ≠ ⟨(v : Int), (u : Int)⟩) ∧ Hid (Below w3.heap.size w3 wr)) (fun i _ => L.length - (intOf i).toNat)
          case atStart => exact ⟨0, rfl, Nat.zero_le _, Lib.hid (fun j hj h => absurd h (Nat.not_lt_zero _)), Lib.hid (Below.refl _ _)⟩
          case round =>
            obtain ⟨k, rfl, hk, HNE, HT⟩ := hrel
            have HB' := Lib.hid (HB.out.trans (HT.out.mono HB.out.size))
            have R0' := Lib.hid (R0.out.up HT.out R0.out.lt)
            have R8' := Lib.hid (R8.out.up HT.out R8.out.lt)
            have R13' := Lib.hid (R13.out.up HT.out R13.out.lt)
            have l0 := R8'.out.cell (j := 0) (v := .slice ea L.length ec) rfl
            by_cases hlt : k < L.length
            · have hli : (k : Int) < L.length := by omega
              obtain ⟨lb, lo, lcap, e1, hlc, hlb, hlx⟩ := (HL.out.up HB'.out).open (by omega)
              cases e1
              obtain ⟨c0, c1⟩ := edge_cells hlx k hlt
              clear hlx
              have HNX : Hid (L[k] ≠ ⟨(v : Int), (u : Int)⟩ → ∀ j (hj : j < L.length), j < k + 1 → L[j] ≠ ⟨(v : Int), (u : Int)⟩) := Lib.hid fun h j hj hjk => by
                rcases Nat.lt_or_eq_of_le (Nat.le_of_lt_succ hjk) with h' | rfl
                · exact HNE.out j hj h'
                · exact h
              generalize L[k] = ed at c0 c1 HNX
              obtain ⟨ef, et⟩ := ed
              simp only at c0 c1
              clear HNE R0 R8 R13 HB
              by_cases h1e : ef = (v : Int)
              · by_cases h2e : et = (u : Int)
                · subst h1e
                  subst h2e
                  have HB := HB'
                  clear HNX HE0 HZ HOT HCR HB' R0' R8' R13'
                  go_wp2_with fail
                  refine (viewBegun_any _ (HE.out.up HB.out)).mono ?_
                  rintro e f1 ⟨rfl, bb⟩
                  have HB' := Lib.hid (HB.out.trans (bb.mono HB.out.size))
                  clear bb HB 
                  have HB := HB'
                  clear HB'
                  go_wp2
                  go_ret
                  exact ⟨rfl, HB.out⟩
                · have h2' : (et == (u : Int)) = false := by simpa using h2e
                  subst h1e
                  have HN2 := Lib.hid (HNX.out (by simpa using h2e))
                  clear HNX
                  go_wp2
                  go_roundw
                  case rel => exact ⟨k + 1, by go_num, by omega, HN2, HT⟩
                  case measure => simp [intOf]; omega
              · have h1' : (ef == (v : Int)) = false := by simpa using h1e
                have HN2 := Lib.hid (HNX.out (by simp [h1e]))
                clear HNX
                go_wp2
                go_roundw
                case rel => exact ⟨k + 1, by go_num, by omega, HN2, HT⟩
                case measure => simp [intOf]; omega
            · obtain rfl : k = L.length := by omega
              have hnl : ¬ ((L.length : Int) < L.length) := by omega
              have HNE' := Lib.hid fun j hj => HNE.out j hj hj
              clear HNE R0 R8 R13 HB
              have HNE := HNE'
              have R0 := R0'
              have R13 := R13'
              have HB := HB'
              clear HNE' R0' R8' R13' HB'
              have s0 := R0.out.cell (j := 0) (v := .slice pa S.parts.length pc) rfl
              have s1 := R0.out.cell (j := 1) (v := .slice ka S.chans.length kc) rfl
              have s2 := R0.out.cell (j := 2) (v := .slice sa S.slots.length sc) rfl
              have p0 := R13.out.cell (j := 0) (v := .slice qa p.code.length qc) rfl
              have p1 := R13.out.cell (j := 1) (v := .slice ia p.inn.length ic) rfl
              go_wp2_with fail
              refine (HOT.out _ (HE.out.up HB.out) (HS.out.up HB.out) (HP.out.up HB.out)).mono ?_
              rintro e w5 ⟨yp, yk, ys, rfl, hN', b3⟩
              have hN := hN'.sys
              obtain ⟨ya, yc, rfl⟩ := hN.p.form
              obtain ⟨xa, xc, rfl⟩ := hN.c.form
              obtain ⟨za, zc, rfl⟩ := hN.s.form
              have HN := Lib.hid hN'
              clear hN hN' s0 s1 s2 p0 p1 R13
              have R0' := Lib.hid (R0.out.up b3 R0.out.lt)
              have HB' := Lib.hid (HB.out.trans (b3.mono HB.out.size))
              clear b3 HB R0
              have R0 := R0'
              clear R0'
              have HB := HB'
              clear HB'
              go_wp2_with (refine wpList_store_rowW rfl 26 (.tmp 20) (.tmp 86) rfl w5.heap.size #[.slice ya Z.parts.length yc, .slice xa Z.chans.length xc, .slice za Z.slots.length zc] rfl rfl 26 #[.slice none 0 0, .slice none 0 0, .slice none 0 0] (by repeat (first | exact Rw.new _ _ _ (by first | rfl | (simp; done) | omega | (simp; omega)) | refine Rw.alloc ?_ _)) sizeSys rfl (by simp [Value.oneCell']) ?_)
              intro W6 HW6
              have b4 : Below w5.heap.size w5 W6 := by rw [HW6.out]; exact below_row ((Below.refl _ _).alloc (Nat.le_refl _) _) (Nat.le_refl _) _
              have R7 : Hid (Rw W6 w5.heap.size 26 #[.slice ya Z.parts.length yc, .slice xa Z.chans.length xc, .slice za Z.slots.length zc]) := by
                show Rw _ _ _ _
                rw [HW6.out]
                exact Rw.row (cs := #[.slice none 0 0, .slice none 0 0, .slice none 0 0]) (by repeat (first | exact Rw.new _ _ _ (by first | rfl | (simp; done) | omega | (simp; omega)) | refine Rw.alloc ?_ _)) _
              have NS : Hid (Sys W6 (.slice ya Z.parts.length yc) (.slice xa Z.chans.length xc) (.slice za Z.slots.length zc) Z) := by
                show Sys _ _ _ _ _
                rw [HW6.out]
                exact (HN.out.fresh _ _).sys
              clear HW6
              have R0' := Lib.hid (R0.out.up b4 R0.out.lt)
              have HB' := Lib.hid (HB.out.trans (b4.mono HB.out.size))
              clear b4 HB R0
              have R0 := R0'
              clear R0'
              have HB := HB'
              clear HB'
              clear HN HOT
              by_cases huv : u = v
              · subst huv
                clear HE0 HZ HNE HCR
                go_wp2_with fail
                refine (viewBegun_any _ (HE.out.up HB.out)).mono ?_
                rintro e f1 ⟨rfl, bb⟩
                have HB' := Lib.hid (HB.out.trans (bb.mono HB.out.size))
                clear bb HB 
                have HB := HB'
                clear HB'
                go_wp2
                go_ret
                exact ⟨rfl, HB.out⟩
              · have hvu := cert_alone HCR.out hu hv (Ne.symm huv) HNE.out
                have huv' : ((u : Int) == (v : Int)) = false := by rw [beq_eq_false_iff_ne]; omega
                by_cases h5 : e0 = 0
                · subst h5
                  obtain ⟨hk', hZ'⟩ := otherE_ok HR.out HE0.out
                  have hZ := HZ.out
                  rw [hZ'] at hZ
                  obtain ⟨e1, e2, e3, e4, e5⟩ := view_same (other_alike HR.out hk' hvu) (u := u) (by omega) n (by omega) (by omega)
                  rw [hZ] at e2 e4 e5
                  obtain ⟨V, hV⟩ : ∃ V, viewR S (runR S n) u = V := ⟨_, rfl⟩
                  rw [hV] at e5
                  have HSV : Hid (SmallV V) := Lib.hid (hV ▸ small_view S _ _)
                  have HSA := Lib.hid fun w he hS => seen_any S u n _ e1 rfl e3 V hV (.slice pa S.parts.length pc) (.slice ka S.chans.length kc) (.slice sa S.slots.length sc) w he hS
                  have HSB := Lib.hid fun vp vc vs w he hS => seen_any Z u n _ e2 rfl e4 V e5 vp vc vs w he hS
                  clear hZ hZ' hk' e1 e2 e3 e4 e5 hV HE0 HZ hvu HNE HCR
                  have s0 := R0.out.cell (j := 0) (v := .slice pa S.parts.length pc) rfl
                  have s1 := R0.out.cell (j := 1) (v := .slice ka S.chans.length kc) rfl
                  have s2 := R0.out.cell (j := 2) (v := .slice sa S.slots.length sc) rfl
                  go_wp2_with fail
                  refine (HSA.out _ (HE.out.up HB.out) (HS.out.up HB.out)).mono ?_
                  rintro e wa ⟨o, vl, rfl, hVa, ba⟩
                  obtain ⟨oa, oc, rfl⟩ := hVa.so.form
                  obtain ⟨ma, mc, rfl⟩ := hVa.l.form
                  have HVa := Lib.hid (hVa.low (Nat.zero_le _))
                  clear hVa s0 s1 s2
                  have NS' := Lib.hid (NS.out.up ba)
                  have R0' := Lib.hid (R0.out.up ba R0.out.lt)
                  have R7' := Lib.hid (R7.out.up ba R7.out.lt)
                  have HB' := Lib.hid (HB.out.trans (ba.mono HB.out.size))
                  clear ba HB NS R0 R7
                  have NS := NS'
                  clear NS'
                  have R0 := R0'
                  clear R0'
                  have R7 := R7'
                  clear R7'
                  have HB := HB'
                  clear HB'
                  go_wp2_with (refine wpList_store_rowW rfl 37 (.tmp 22) (.tmp 101) rfl wa.heap.size (vwC V.d.c (.slice oa V.d.out.length oc) (.slice ma V.ls.length mc)) rfl rfl 37 (vwC celZ (.slice none 0 0) (.slice none 0 0)) (by repeat (first | exact Rw.new _ _ _ (by first | rfl | (simp; done) | omega | (simp; omega)) | refine Rw.alloc ?_ _)) sizeView rfl (vwC_one _ _ _ rfl rfl) ?_)
                  intro Wb HWb
                  have bc : Below wa.heap.size wa Wb := by rw [HWb.out]; exact below_row ((Below.refl _ _).alloc (Nat.le_refl _) _) (Nat.le_refl _) _
                  have RA : Hid (Rw Wb wa.heap.size 37 (vwC V.d.c (.slice oa V.d.out.length oc) (.slice ma V.ls.length mc))) := by
                    show Rw _ _ _ _
                    rw [HWb.out]
                    exact Rw.row (cs := (vwC celZ (.slice none 0 0) (.slice none 0 0))) (by repeat (first | exact Rw.new _ _ _ (by first | rfl | (simp; done) | omega | (simp; omega)) | refine Rw.alloc ?_ _)) _
                  have VA : Hid (VwR 0 Wb (.slice oa V.d.out.length oc) (.slice ma V.ls.length mc) V) := by
                    show VwR _ _ _ _ _
                    rw [HWb.out]
                    exact HVa.out.fresh _ _
                  clear HWb
                  have NS' := Lib.hid (NS.out.up bc)
                  have R0' := Lib.hid (R0.out.up bc R0.out.lt)
                  have R7' := Lib.hid (R7.out.up bc R7.out.lt)
                  have HB' := Lib.hid (HB.out.trans (bc.mono HB.out.size))
                  clear bc HB NS R0 R7
                  have NS := NS'
                  clear NS'
                  have R0 := R0'
                  clear R0'
                  have R7 := R7'
                  clear R7'
                  have HB := HB'
                  clear HB'
                  clear HVa
                  have z0 := R7.out.cell (j := 0) (v := .slice ya Z.parts.length yc) rfl
                  have z1 := R7.out.cell (j := 1) (v := .slice xa Z.chans.length xc) rfl
                  have z2 := R7.out.cell (j := 2) (v := .slice za Z.slots.length zc) rfl
                  go_wp2_with fail
                  refine (HSB.out _ _ _ _ (HE.out.up HB.out) NS.out).mono ?_
                  rintro e wd ⟨o2, vl2, rfl, hVd, bd⟩
                  obtain ⟨ra, rc, rfl⟩ := hVd.so.form
                  obtain ⟨na, nc, rfl⟩ := hVd.l.form
                  have HVd := Lib.hid (hVd.low (Nat.zero_le _))
                  clear hVd z0 z1 z2 NS R0 R7
                  have VA' := Lib.hid (VA.out.up bd)
                  have RA' := Lib.hid (RA.out.up bd RA.out.lt)
                  have HB' := Lib.hid (HB.out.trans (bd.mono HB.out.size))
                  clear bd HB VA RA
                  have VA := VA'
                  clear VA'
                  have RA := RA'
                  clear RA'
                  have HB := HB'
                  clear HB'
                  go_wp2_with (refine wpList_store_rowW rfl 37 (.tmp 24) (.tmp 108) rfl wd.heap.size (vwC V.d.c (.slice ra V.d.out.length rc) (.slice na V.ls.length nc)) rfl rfl 37 (vwC celZ (.slice none 0 0) (.slice none 0 0)) (by repeat (first | exact Rw.new _ _ _ (by first | rfl | (simp; done) | omega | (simp; omega)) | refine Rw.alloc ?_ _)) sizeView rfl (vwC_one _ _ _ rfl rfl) ?_)
                  intro We HWe
                  have be : Below wd.heap.size wd We := by rw [HWe.out]; exact below_row ((Below.refl _ _).alloc (Nat.le_refl _) _) (Nat.le_refl _) _
                  have RB : Hid (Rw We wd.heap.size 37 (vwC V.d.c (.slice ra V.d.out.length rc) (.slice na V.ls.length nc))) := by
                    show Rw _ _ _ _
                    rw [HWe.out]
                    exact Rw.row (cs := (vwC celZ (.slice none 0 0) (.slice none 0 0))) (by repeat (first | exact Rw.new _ _ _ (by first | rfl | (simp; done) | omega | (simp; omega)) | refine Rw.alloc ?_ _)) _
                  have VB : Hid (VwR 0 We (.slice ra V.d.out.length rc) (.slice na V.ls.length nc) V) := by
                    show VwR _ _ _ _ _
                    rw [HWe.out]
                    exact HVd.out.fresh _ _
                  clear HWe
                  have VA' := Lib.hid (VA.out.up be)
                  have RA' := Lib.hid (RA.out.up be RA.out.lt)
                  have HB' := Lib.hid (HB.out.trans (be.mono HB.out.size))
                  clear be HB VA RA
                  have VA := VA'
                  clear VA'
                  have RA := RA'
                  clear RA'
                  have HB := HB'
                  clear HB'
                  clear HVd
                  go_wp2_with fail
                  refine (viewBegun_any _ (HE.out.up HB.out)).mono ?_
                  rintro e f1 ⟨rfl, bb⟩
                  have VA' := Lib.hid (VA.out.up bb)
                  have VB' := Lib.hid (VB.out.up bb)
                  have RA' := Lib.hid (RA.out.up bb RA.out.lt)
                  have RB' := Lib.hid (RB.out.up bb RB.out.lt)
                  have HB' := Lib.hid (HB.out.trans (bb.mono HB.out.size))
                  clear bb HB VA VB RA RB
                  have VA := VA'
                  clear VA'
                  have VB := VB'
                  clear VB'
                  have RA := RA'
                  clear RA'
                  have RB := RB'
                  clear RB'
                  have HB := HB'
                  clear HB'
                  go_wp2_with (first | (refine loadRowG rfl 37 (.tmp 22) rfl wa.heap.size rfl 37 _ (0, 0) _ RA.out Tryz.underlying37 rfl sizeView ?_) | (refine loadRowG rfl 37 (.tmp 24) rfl wd.heap.size rfl 37 _ (0, 0) _ RB.out Tryz.underlying37 rfl sizeView ?_))
                  refine (sameViews_yes V HSV.out.o HSV.out.l HSV.out.n _ _ _ _ _ _ _ VA.out VB.out).mono ?_
                  rintro e f2 ⟨rfl, bb⟩
                  have HB' := Lib.hid (HB.out.trans (bb.mono HB.out.size))
                  clear bb HB 
                  have HB := HB'
                  clear HB'
                  go_wp2
                  go_ret
                  exact ⟨rfl, HB.out⟩
                · clear HE0 HZ hvu HNE HCR
                  go_wp2_with fail
                  refine (viewBegun_any _ (HE.out.up HB.out)).mono ?_
                  rintro e f1 ⟨rfl, bb⟩
                  have HB' := Lib.hid (HB.out.trans (bb.mono HB.out.size))
                  clear bb HB 
                  have HB := HB'
                  clear HB'
                  go_wp2
                  go_ret
                  exact ⟨rfl, HB.out⟩
  · clear HVQ
    go_wp2_with fail
    refine (viewBegun_any _ (HE.out.up HB.out)).mono ?_
    rintro e f1 ⟨rfl, bb⟩
    have HB' := Lib.hid (HB.out.trans (bb.mono HB.out.size))
    clear bb HB 
    have HB := HB'
    clear HB'
    go_wp2
    go_ret
    exact ⟨rfl, HB.out⟩
end Go.Proofs.YtehhhiodfcdnmaaGreatDoor

namespace Go.Proofs.YtehhhiodfcdnmaaGreatDoor
set_option linter.unusedSimpArgs false
set_option linter.unusedVariables false
open Go.ChangeShapes Go.WideShapes Go.ChangeAt Go.RowKit Go.Joins Go.Deep
set_option maxRecDepth 100000 in
theorem edges_of {H : Type} {enc : TypeId × Value → H} {W : World} {base : Nat} {sp : Nat → Bool} {held : Bool} {v : Value} {fuel : Nat} {x : DataW H × List MemPlace} (hf : DataW.trod enc Tryz.prog W base sp held fuel 65 [v] = some x) :
    ∃ l : List Edg, Sl W 2 v l.length (rowC Edg.cells l) := by
  haveI : Inhabited Edg := ⟨⟨0, 0⟩⟩
  obtain ⟨l, h1, _⟩ := sl_of (size := 2) (α := Edg) Edg.cells (fun _ => True) Tryz.underlying65 (by kernel_rfl) (by decide) (fun _ => rfl) (fun n cs y hl h => by
    obtain ⟨y0, y1, k, hxy, _, g0, g1⟩ := trod_struct2 Tryz.underlying74 h
    match cs, hl with
    | [v0, v1], _ =>
      obtain ⟨a, e0, -, w0⟩ := DataW.trod_int Tryz.underlying3 g0
      obtain ⟨b, e1, -, w1⟩ := DataW.trod_int Tryz.underlying3 g1
      simp [cellsInt] at e0 e1
      subst e0 e1
      exact ⟨⟨a, b⟩, rfl, trivial⟩) hf
  exact ⟨l, h1⟩
theorem len_of {H : Type} {enc : TypeId × Value → H} {P : Program} {W : World} {base : Nat} {sp : Nat → Bool} {held : Bool} {t e : TypeId} {size n : Nat} {xs : List Value} {v : Value} {fuel : Nat} {x : DataW H × List MemPlace} (ht : P.underlying t = some (.slice e)) (hf : DataW.trod enc P W base sp held fuel t [v] = some x) (hS : Sl W size v n xs) : n ≤ 9223372036854775807 := by
  obtain ⟨ao, c, rfl⟩ := hS.form
  rcases open_slice ht hf with ⟨h1, _⟩ | ⟨a, len, cap, m, n', D, Pl, e1, hb, hl, hm, hmm, _, hx⟩
  · simp at h1
    omega
  · simp at e1
    unfold maxLen at hm
    omega
set_option maxRecDepth 100000 in
theorem sets_of {H : Type} {enc : TypeId × Value → H} {W : World} {base : Nat} {sp : Nat → Bool} {held : Bool} {v : Value} {fuel : Nat} {x : DataW H × List MemPlace} (hf : DataW.trod enc Tryz.prog W base sp held fuel 68 [v] = some x) :
    ∃ ss : List (List Int), SetsR W v ss ∧ ∀ l ∈ ss, l.length ≤ 9223372036854775807 := by
  obtain ⟨l, h1, h2⟩ := sl_of (size := 1) (α := Value) (fun v => [v]) (fun q => ∃ xs : List Int, Sl W 1 q xs.length (ints xs) ∧ xs.length ≤ 9223372036854775807) Tryz.underlying68 (by kernel_rfl) (by decide) (fun _ => rfl) (fun n cs y hl h => by
    match cs, hl with
    | [v0], _ =>
      obtain ⟨xs, hS, -⟩ := ints_of h
      exact ⟨v0, rfl, xs, hS, len_of Tryz.underlying33 h hS⟩) hf
  have hrow : ∀ l : List Value, rowC (fun v => [v]) l = l := fun l => by
    induction l with
    | nil => rfl
    | cons a r ih => simp [rowC, ih]
  rw [hrow] at h1
  obtain ⟨g, hg⟩ := choose_lt (n := l.length) (p := fun j (xs : List Int) => ∀ hj : j < l.length, Sl W 1 l[j] xs.length (ints xs) ∧ xs.length ≤ 9223372036854775807) (fun j hj => by
    obtain ⟨p, hp⟩ := h2 j hj
    exact ⟨p, fun _ => hp⟩)
  refine ⟨(List.range l.length).map g, ⟨l, by simp, by simpa using h1, fun k hk hk' => ?_⟩, fun xs hx => ?_⟩
  · have := (hg k hk hk).1
    simpa using this
  · obtain ⟨j, hj, rfl⟩ := List.mem_map.1 hx
    exact (hg j (List.mem_range.1 hj) (List.mem_range.1 hj)).2
theorem arr_one {cs : Array Value} (h : cs.size = 1) : ∃ c, cs = #[c] := by
  obtain ⟨l⟩ := cs
  match l, h with
  | [c], _ => exact ⟨c, rfl⟩
set_option maxRecDepth 100000 in
theorem open_policy {H : Type} {enc : TypeId × Value → H} {W : World} {r : Reach} {b0 base : Nat} {sp : Nat → Bool} {held : Bool} {v : Value} {d : DataW H} {p : List MemPlace} (hv : Value.okWide Tryz.prog W r b0 67 v) (h : DataW.Trod enc Tryz.prog W base sp held 67 v d p) :
    ∃ (vL : Value) (L : List Edg), v = .agg #[vL] ∧ Sl W 2 vL L.length (rowC Edg.cells L) := by
  obtain ⟨cs, rfl, hsz⟩ := okWide_struct Tryz.underlying67 hv
  obtain ⟨c, rfl⟩ := arr_one (hsz.trans (by kernel_rfl))
  obtain ⟨fuel, hf⟩ := h
  obtain ⟨ys, m, _, _, _, hlen, h⟩ := DataW.trod_struct Tryz.underlying67 hf
  have f0 := h 0 _ rfl
  match ys, hlen with
  | [y0], _ =>
    obtain ⟨L, hL⟩ := edges_of f0
    exact ⟨c, L, rfl, hL⟩
set_option maxRecDepth 100000 in
theorem open_cert {H : Type} {enc : TypeId × Value → H} {W : World} {r : Reach} {b0 base : Nat} {sp : Nat → Bool} {held : Bool} {v : Value} {d : DataW H} {p : List MemPlace} (hv : Value.okWide Tryz.prog W r b0 70 v) (h : DataW.Trod enc Tryz.prog W base sp held 70 v d p) :
    ∃ (vC : Value) (ss : List (List Int)), v = .agg #[vC] ∧ SetsR W vC ss ∧ ∀ l ∈ ss, l.length ≤ 9223372036854775807 := by
  obtain ⟨cs, rfl, hsz⟩ := okWide_struct Tryz.underlying70 hv
  obtain ⟨c, rfl⟩ := arr_one (hsz.trans (by kernel_rfl))
  obtain ⟨fuel, hf⟩ := h
  obtain ⟨ys, m, _, _, _, hlen, h⟩ := DataW.trod_struct Tryz.underlying70 hf
  have f0 := h 0 _ rfl
  match ys, hlen with
  | [y0], _ =>
    obtain ⟨ss, hs, hl⟩ := sets_of f0
    exact ⟨c, ss, rfl, hs, hl⟩
end Go.Proofs.YtehhhiodfcdnmaaGreatDoor

namespace Go.Proofs.YtehhhiodfcdnmaaGreatDoor
set_option linter.unusedSimpArgs false
set_option linter.unusedVariables false
open Go.RowKit Go.Sort
end Go.Proofs.YtehhhiodfcdnmaaGreatDoor
