/- The law CertTrue, walked. -/
import Derived.Test.YthpljbbhpbijgaaDoorCe16
namespace Go.Proofs.YthpljbbhpbijgaaDoor
set_option linter.unusedSimpArgs false
set_option linter.unusedVariables false
open Go.RowKit Go.Sort Go.Shelf Go.Lib Go.Maps

set_option maxRecDepth 100000 in
set_option maxHeartbeats 8000000 in
theorem certTrue_any (S : SysD) (L : List Edg) (ss : List (List Int)) (vp vc vs vL vC : Value) (w : World) (he : Env w) (hS : Sys w vp vc vs S) (hL : Sl w 2 vL L.length (rowC Edg.cells L)) (hC : SetsR w vC ss) :
    Calls Tryd.prog 8 #[.agg #[vp, vc, vs], .agg #[vL], .agg #[vC]] w fun e w' => e = .returned (.bool true) ∧ RowKit.Below w.heap.size w w' := by
  obtain ⟨pa, pc, rfl⟩ := hS.p.form
  obtain ⟨ca, cc, rfl⟩ := hS.c.form
  obtain ⟨sa, sc, rfl⟩ := hS.s.form
  obtain ⟨la, lc, rfl⟩ := hL.form
  obtain ⟨ta, tc, rfl⟩ := hC.form
  have HS := Lib.hid hS
  have HL := Lib.hid hL
  have HCS := Lib.hid hC
  clear hS hL hC
  by_cases h0 : polE S L = 0
  · obtain ⟨h4, hcl, hLl⟩ := pol_len h0
    have HC := Lib.hid h0
    have HCH := Lib.hid (polE_is h0).1
    have hp1 := (chk_flow HCH.out).2.1
    cases hk : leakL S L with
    | nil =>
      have HLK := Lib.hid hk
      have HOE : Hid (certO S L = ⟨certS S, [], true⟩) := Lib.hid (by unfold certO; rw [if_pos h0]; exact certG_nil hk)
      generalize hvq : verQ S L ss = vq
      have HVQ := Lib.hid hvq
      clear hvq h0 hk
      go_enter Tryd.func8, Tryd.ntmps8
      go_upto_region 1 with fail
      have HB := Lib.hid ((box_new w (.slice pa S.parts.length pc) (.slice ca S.chans.length cc) (.slice sa S.slots.length sc) 26 _ rfl).up (((RowKit.Below.refl _ _).alloc (Nat.le_refl _) (.cells #[.slice la L.length lc] 52)).alloc (by simp) (.cells #[.slice ta ss.length tc] 55)))
      have y3 : (((w.alloc (.cells #[.slice pa S.parts.length pc, .slice ca S.chans.length cc, .slice sa S.slots.length sc] 26)).alloc (.cells #[.slice la L.length lc] 52)).alloc (.cells #[.slice ta ss.length tc] 55)).cell? ⟨w.heap.size + 1, 0, none⟩ = some (.slice la L.length lc) := bcl ((RowKit.Below.refl _ _).alloc (Nat.le_refl _) _) (by simp) (by simp)
      have y4 : (((w.alloc (.cells #[.slice pa S.parts.length pc, .slice ca S.chans.length cc, .slice sa S.slots.length sc] 26)).alloc (.cells #[.slice la L.length lc] 52)).alloc (.cells #[.slice ta ss.length tc] 55)).cell? ⟨w.heap.size + 1 + 1, 0, none⟩ = some (.slice ta ss.length tc) := (Rw.new _ _ _ (by simp)).cell (j := 0) rfl
      have hw0 : w.heap.size + 2 < (((w.alloc (.cells #[.slice pa S.parts.length pc, .slice ca S.chans.length cc, .slice sa S.slots.length sc] 26)).alloc (.cells #[.slice la L.length lc] 52)).alloc (.cells #[.slice ta ss.length tc] 55)).heap.size := by simp
      have D0 : Hid (RowKit.Below w.heap.size w (((w.alloc (.cells #[.slice pa S.parts.length pc, .slice ca S.chans.length cc, .slice sa S.slots.length sc] 26)).alloc (.cells #[.slice la L.length lc] 52)).alloc (.cells #[.slice ta ss.length tc] 55))) := Lib.hid (by repeat (first | exact Below.refl _ _ | assumption | refine Below.drew ?_ | refine Below.alloc ?_ (by first | (simp; done) | (simp; omega)) _ | refine Below.setCell ?_ (by first | (simp; done) | (simp; omega)) _))
      generalize (((w.alloc (.cells #[.slice pa S.parts.length pc, .slice ca S.chans.length cc, .slice sa S.slots.length sc] 26)).alloc (.cells #[.slice la L.length lc] 52)).alloc (.cells #[.slice ta ss.length tc] 55)) = W0 at HB y3 y4 hw0 D0 ⊢
      have k0 := HB.out.p
      have k1 := HB.out.c
      have k2 := HB.out.s
      go_wp2_with fail
      refine (certify_any S L _ _ _ _ _ (he.up D0.out) (HS.out.up D0.out) (HL.out.up D0.out)).mono ?_
      rw [HC.out, HOE.out]
      rintro e w1 ⟨vS, vP, rfl, hss, hsp, bb, HSRQ⟩
      have hss : SetsF W0.heap.size w1 vS (certS S) := hss
      have hsp : Sl w1 1 vP ([] : List Int).length (ints ([] : List Int)) := hsp
      obtain ⟨s1, s2, rfl⟩ := hss.form
      obtain ⟨p1, p2, rfl⟩ := hsp.form
      have A1 : RowKit.Below w1.heap.size w1 (w1.alloc (.cells #[.slice s1 (certS S).length s2] 55)) := (RowKit.Below.refl _ _).alloc (Nat.le_refl _) _
      have BA : RowKit.Below W0.heap.size W0 (w1.alloc (.cells #[.slice s1 (certS S).length s2] 55)) := bb.trans (A1.mono bb.size)
      have HB2 := Lib.hid (HB.out.up BA)
      have y3b := bcl BA (by show w.heap.size + 1 < _; omega) y3
      have y4b := bcl BA (by show w.heap.size + 1 + 1 < _; omega) y4
      have D2 := Lib.hid (D0.out.trans (BA.mono D0.out.size))
      have HSS2 := Lib.hid (hss.r.up A1)
      have HSP2 := Lib.hid (hsp.up A1)
      have c7 : (w1.alloc (.cells #[.slice s1 (certS S).length s2] 55)).cell? ⟨w1.heap.size, 0, none⟩ = some (.slice s1 (certS S).length s2) := by simp
      have hX : w1.heap.size < (w1.alloc (.cells #[.slice s1 (certS S).length s2] 55)).heap.size := by simp
      have hw1 : w.heap.size + 2 < w1.heap.size := by have := bb.size; omega
      clear A1 BA bb hss hsp HB y3 y4 D0 hw0 k0 k1 k2
      go_upto_region 2 with fail
      generalize w1.alloc (.cells #[.slice s1 (certS S).length s2] 55) = X at HB2 y3b y4b D2 HSS2 HSP2 c7 hX ⊢
      have k0 := HB2.out.p
      have k1 := HB2.out.c
      have k2 := HB2.out.s
      go_wp2_with fail
      refine (ceVerify_any S L ss _ _ _ _ _ _ (he.up D2.out) (HS.out.up D2.out) (HL.out.up D2.out) (HCS.out.up D2.out)).mono ?_
      rw [HC.out, HVQ.out]
      rintro e w2 ⟨rfl, bb⟩
      have HB3 := Lib.hid (HB2.out.up bb)
      have y3c := bcl bb (by show w.heap.size + 1 < _; omega) y3b
      have D3 := Lib.hid (D2.out.trans (bb.mono D2.out.size))
      have HSS3 := Lib.hid (HSS2.out.up bb)
      have HSP3 := Lib.hid (HSP2.out.up bb)
      have c7b := bcl bb hX c7
      have hw2 : w1.heap.size < w2.heap.size := by have := bb.size; omega
      clear bb HB2 y3b y4b D2 HSS2 HSP2 c7 hX k0 k1 k2
      have HVD : Hid (verQ S L (certS S) = true) := Lib.hid (by unfold verQ; rw [if_pos HC.out]; exact verB_true (cert_right (by omega) HLK.out (HSRQ.out (by first | rfl | trivial))))
      cases vq with
      | false =>
        have k0 := HB3.out.p
        have k1 := HB3.out.c
        have k2 := HB3.out.s
        go_wp2_with fail
        refine (ceVerify_any S L (certS S) _ _ _ _ _ _ (he.up D3.out) (HS.out.up D3.out) (HL.out.up D3.out) HSS3.out).mono ?_
        rw [HC.out, HVD.out]
        rintro e w4 ⟨rfl, bb⟩
        have D4 := Lib.hid (D3.out.trans (bb.mono D3.out.size))
        clear bb k0 k1 k2
        go_wp2_with fail
        refine (certBegun_any _ (he.up D4.out)).mono ?_
        rintro e w9 ⟨rfl, bb⟩
        have D9 := Lib.hid (D4.out.trans (bb.mono D4.out.size))
        clear bb
        go_wp2
        go_ret
        exact ⟨rfl, D9.out⟩
      | true =>
        have k0 := HB3.out.p
        have k1 := HB3.out.c
        have k2 := HB3.out.s
        go_wp2_with fail
        refine (ceVerify_any S L (certS S) _ _ _ _ _ _ (he.up D3.out) (HS.out.up D3.out) (HL.out.up D3.out) HSS3.out).mono ?_
        rw [HC.out, HVD.out]
        rintro e w4 ⟨rfl, bb⟩
        have D4 := Lib.hid (D3.out.trans (bb.mono D3.out.size))
        clear bb k0 k1 k2
        go_wp2_with fail
        refine (certBegun_any _ (he.up D4.out)).mono ?_
        rintro e w9 ⟨rfl, bb⟩
        have D9 := Lib.hid (D4.out.trans (bb.mono D4.out.size))
        clear bb
        go_wp2
        go_ret
        exact ⟨rfl, D9.out⟩
    | cons ed rest =>
      obtain ⟨a, b, ha, hb, rfl, hre, hmy⟩ := leak_in (S := S) (L := L) (e := ed) (by rw [hk]; simp)
      have HOE : Hid (certO S L = ⟨[], pathL S a b, false⟩) := Lib.hid (by unfold certO; rw [if_pos h0]; exact certG_head (by rw [hk]; rfl))
      have HVQ : Hid (verQ S L ss = false) := Lib.hid (by
        unfold verQ
        rw [if_pos h0]
        exact verB_false (fun h => by rw [cert_no_leak h] at hk; cases hk))
      have HRE := Lib.hid hre
      have HMY := Lib.hid hmy
      have HMN : Hid (∀ k (h : k < L.length), L[k] ≠ ⟨a, b⟩) := Lib.hid (fun k h => may_not hmy h)
      have hqn := Lib.hid (pathL_len (S := S) (a := a) (b := b))
      clear h0 hk hre hmy
      go_enter Tryd.func8, Tryd.ntmps8
      go_upto_region 1 with fail
      have HB := Lib.hid ((box_new w (.slice pa S.parts.length pc) (.slice ca S.chans.length cc) (.slice sa S.slots.length sc) 26 _ rfl).up (((RowKit.Below.refl _ _).alloc (Nat.le_refl _) (.cells #[.slice la L.length lc] 52)).alloc (by simp) (.cells #[.slice ta ss.length tc] 55)))
      have y3 : (((w.alloc (.cells #[.slice pa S.parts.length pc, .slice ca S.chans.length cc, .slice sa S.slots.length sc] 26)).alloc (.cells #[.slice la L.length lc] 52)).alloc (.cells #[.slice ta ss.length tc] 55)).cell? ⟨w.heap.size + 1, 0, none⟩ = some (.slice la L.length lc) := bcl ((RowKit.Below.refl _ _).alloc (Nat.le_refl _) _) (by simp) (by simp)
      have y4 : (((w.alloc (.cells #[.slice pa S.parts.length pc, .slice ca S.chans.length cc, .slice sa S.slots.length sc] 26)).alloc (.cells #[.slice la L.length lc] 52)).alloc (.cells #[.slice ta ss.length tc] 55)).cell? ⟨w.heap.size + 1 + 1, 0, none⟩ = some (.slice ta ss.length tc) := (Rw.new _ _ _ (by simp)).cell (j := 0) rfl
      have hw0 : w.heap.size + 2 < (((w.alloc (.cells #[.slice pa S.parts.length pc, .slice ca S.chans.length cc, .slice sa S.slots.length sc] 26)).alloc (.cells #[.slice la L.length lc] 52)).alloc (.cells #[.slice ta ss.length tc] 55)).heap.size := by simp
      have D0 : Hid (RowKit.Below w.heap.size w (((w.alloc (.cells #[.slice pa S.parts.length pc, .slice ca S.chans.length cc, .slice sa S.slots.length sc] 26)).alloc (.cells #[.slice la L.length lc] 52)).alloc (.cells #[.slice ta ss.length tc] 55))) := Lib.hid (by repeat (first | exact Below.refl _ _ | assumption | refine Below.drew ?_ | refine Below.alloc ?_ (by first | (simp; done) | (simp; omega)) _ | refine Below.setCell ?_ (by first | (simp; done) | (simp; omega)) _))
      generalize (((w.alloc (.cells #[.slice pa S.parts.length pc, .slice ca S.chans.length cc, .slice sa S.slots.length sc] 26)).alloc (.cells #[.slice la L.length lc] 52)).alloc (.cells #[.slice ta ss.length tc] 55)) = W0 at HB y3 y4 hw0 D0 ⊢
      have k0 := HB.out.p
      have k1 := HB.out.c
      have k2 := HB.out.s
      go_wp2_with fail
      refine (certify_any S L _ _ _ _ _ (he.up D0.out) (HS.out.up D0.out) (HL.out.up D0.out)).mono ?_
      rw [HC.out, HOE.out]
      rintro e w1 ⟨vS, vP, rfl, hss, hsp, bb, HSRQ⟩
      have hss : SetsF W0.heap.size w1 vS ([] : List (List Int)) := hss
      have hsp : Sl w1 1 vP (pathL S a b).length (ints (pathL S a b)) := hsp
      obtain ⟨s1, s2, rfl⟩ := hss.form
      obtain ⟨p1, p2, rfl⟩ := hsp.form
      have A1 : RowKit.Below w1.heap.size w1 (w1.alloc (.cells #[.slice s1 ([] : List (List Int)).length s2] 55)) := (RowKit.Below.refl _ _).alloc (Nat.le_refl _) _
      have BA : RowKit.Below W0.heap.size W0 (w1.alloc (.cells #[.slice s1 ([] : List (List Int)).length s2] 55)) := bb.trans (A1.mono bb.size)
      have HB2 := Lib.hid (HB.out.up BA)
      have y3b := bcl BA (by show w.heap.size + 1 < _; omega) y3
      have y4b := bcl BA (by show w.heap.size + 1 + 1 < _; omega) y4
      have D2 := Lib.hid (D0.out.trans (BA.mono D0.out.size))
      have HSS2 := Lib.hid (hss.r.up A1)
      have HSP2 := Lib.hid (hsp.up A1)
      have c7 : (w1.alloc (.cells #[.slice s1 ([] : List (List Int)).length s2] 55)).cell? ⟨w1.heap.size, 0, none⟩ = some (.slice s1 ([] : List (List Int)).length s2) := by simp
      have hX : w1.heap.size < (w1.alloc (.cells #[.slice s1 ([] : List (List Int)).length s2] 55)).heap.size := by simp
      have hw1 : w.heap.size + 2 < w1.heap.size := by have := bb.size; omega
      clear A1 BA bb hss hsp HB y3 y4 D0 hw0 k0 k1 k2
      go_upto_region 2 with fail
      generalize w1.alloc (.cells #[.slice s1 ([] : List (List Int)).length s2] 55) = X at HB2 y3b y4b D2 HSS2 HSP2 c7 hX ⊢
      have k0 := HB2.out.p
      have k1 := HB2.out.c
      have k2 := HB2.out.s
      go_wp2_with fail
      refine (ceVerify_any S L ss _ _ _ _ _ _ (he.up D2.out) (HS.out.up D2.out) (HL.out.up D2.out) (HCS.out.up D2.out)).mono ?_
      rw [HC.out, HVQ.out]
      rintro e w2 ⟨rfl, bb⟩
      have HB3 := Lib.hid (HB2.out.up bb)
      have y3c := bcl bb (by show w.heap.size + 1 < _; omega) y3b
      have D3 := Lib.hid (D2.out.trans (bb.mono D2.out.size))
      have HSS3 := Lib.hid (HSS2.out.up bb)
      have HSP3 := Lib.hid (HSP2.out.up bb)
      have c7b := bcl bb hX c7
      have hw2 : w1.heap.size < w2.heap.size := by have := bb.size; omega
      clear bb HB2 y3b y4b D2 HSS2 HSP2 c7 hX k0 k1 k2
      have HPT := Lib.hid (leak_path (by omega) ha HRE.out HMY.out (HSRQ.out (by first | rfl | trivial) a b ha hb))
      have k0 := HB3.out.p
      have k1 := HB3.out.c
      have k2 := HB3.out.s
      go_wp2_with fail
      refine (flReach_any S _ _ _ _ (he.up D3.out) (HS.out.up D3.out)).mono ?_
      rw [HCH.out, show reachQ S = S.parts.length by unfold reachQ; rw [if_pos HCH.out]]
      rintro e w4 ⟨vm, rfl, hm4, bb, _⟩
      obtain ⟨mb, mo, mc, rfl, hmc, hmb, hrows⟩ := hm4.row (by omega) (by omega)
      obtain ⟨rb, ro, rc, hm0, hrc, hrb, hrr⟩ := hrows a ha
      have hm1 := hrr b hb
      have HSP4 := Lib.hid (HSP3.out.up bb)
      have y4c := bcl bb (by show w.heap.size + 1 < _; omega) y3c
      have D4 := Lib.hid (D3.out.trans (bb.mono D3.out.size))
      have hw4 : w.heap.size + 1 < w4.heap.size := by have := bb.size; omega
      clear bb hm4 hrows hrr k0 k1 k2 HB3 y3c HSS3 HSP3 c7b D3
      have hm1 : w4.cell? ⟨rb, ro + b, none⟩ = some (.bool true) := by rw [hm1]; exact congrArg (fun x => some (Value.bool x)) HRE.out
      obtain ⟨q0, qf, ql, hne⟩ := HPT.out
      obtain ⟨qb, qo, qcap, e1, hqc, hqb, hqx⟩ := HSP4.out.open (by omega)
      cases e1
      have f0 := hqx 0 _ (ints_at (pathL S a b) 0 (by omega))
      have f1 := hqx ((pathL S a b).length - 1) _ (ints_at (pathL S a b) _ (by omega))
      rw [ql] at f1
      rw [qf, Nat.add_zero] at f0
      have hq2 : (2 : Int) ≤ (pathL S a b).length := by omega
      have hq3 : (0 : Int) ≤ ((pathL S a b).length : Int) - 1 := by omega
      have hq4 : ((pathL S a b).length : Int) - 1 < (pathL S a b).length := by omega
      have hq5 : (0 : Int) < (pathL S a b).length := by omega
      have hqw : IntKind.i64.wrap (((pathL S a b).length : Int) - 1) = (((pathL S a b).length - 1 : Nat) : Int) := by
        have := hqn.out
        simp [IntKind.wrap, IntKind.bits, IntKind.signed]
        omega
      have hai : (a : Int) < S.parts.length := by omega
      have hbi : (b : Int) < S.parts.length := by omega
      have hne' : ((a : Int) == (b : Int)) = false := by rw [beq_eq_false_iff_ne]; omega
      clear hqx ql qf
      go_wp2
      go_region
      all_goals go_wp2
      go_loopw [19] (fun i wr => ∃ k : Nat, i = .int .i64 k ∧ k ≤ L.length ∧ Hid (RowKit.Below w4.heap.size w4 wr)) (fun i _ => L.length - (intOf i).toNat)
      case atStart => exact ⟨0, rfl, Nat.zero_le _, Lib.hid (by first | exact RowKit.Below.refl _ _ | exact (RowKit.Below.refl _ _).drew)⟩
      case round =>
        obtain ⟨k, rfl, hk, HT⟩ := hrel
        have y5 := bcl HT.out (by show w.heap.size + 1 < _; omega) y4c
        have D5 := Lib.hid (D4.out.trans (HT.out.mono D4.out.size))
        by_cases hlt : k < L.length
        · have hli : (k : Int) < L.length := by omega
          obtain ⟨lb, lo, lcap, e2, hlc, hlb, hlx⟩ := (HL.out.up D5.out).open (by omega)
          cases e2
          obtain ⟨g0, g1⟩ := edge_cells hlx k hlt
          have hnn := HMN.out k hlt
          generalize L[k] = ed at g0 g1 hnn
          obtain ⟨ef, et⟩ := ed
          simp only at g0 g1
          clear hlx
          by_cases h1e : ef = (a : Int)
          · have h2e : (et == (b : Int)) = false := by
              rw [beq_eq_false_iff_ne]
              intro e
              exact hnn (by rw [h1e, e])
            clear hnn
            subst h1e
            go_wp2
            go_roundw
            case rel => exact ⟨k + 1, by go_num, by omega, HT⟩
            case measure => simp [intOf]; omega
          · have h1' : (ef == (a : Int)) = false := by simpa using h1e
            clear hnn
            go_wp2
            go_roundw
            case rel => exact ⟨k + 1, by go_num, by omega, HT⟩
            case measure => simp [intOf]; omega
        · have hli : ¬ (k : Int) < L.length := by omega
          go_wp2_with fail
          refine (certBegun_any _ (he.up D5.out)).mono ?_
          rintro e w9 ⟨rfl, bb⟩
          have D9 := Lib.hid (D5.out.trans (bb.mono D5.out.size))
          clear bb
          go_wp2
          go_ret
          exact ⟨rfl, D9.out⟩
  · have HOE : Hid (certO S L = ⟨[], [], false⟩) := Lib.hid (by unfold certO; rw [if_neg h0])
    have HVQ : Hid (verQ S L ss = false) := Lib.hid (by unfold verQ; rw [if_neg h0])
    generalize hcc : polE S L = c at h0
    have HC := Lib.hid hcc
    have h0' : (c != 0) = true := by simpa using h0
    clear hcc h0
    go_enter Tryd.func8, Tryd.ntmps8
    go_upto_region 1 with fail
    have HB := Lib.hid ((box_new w (.slice pa S.parts.length pc) (.slice ca S.chans.length cc) (.slice sa S.slots.length sc) 26 _ rfl).up (((RowKit.Below.refl _ _).alloc (Nat.le_refl _) (.cells #[.slice la L.length lc] 52)).alloc (by simp) (.cells #[.slice ta ss.length tc] 55)))
    have y3 : (((w.alloc (.cells #[.slice pa S.parts.length pc, .slice ca S.chans.length cc, .slice sa S.slots.length sc] 26)).alloc (.cells #[.slice la L.length lc] 52)).alloc (.cells #[.slice ta ss.length tc] 55)).cell? ⟨w.heap.size + 1, 0, none⟩ = some (.slice la L.length lc) := bcl ((RowKit.Below.refl _ _).alloc (Nat.le_refl _) _) (by simp) (by simp)
    have y4 : (((w.alloc (.cells #[.slice pa S.parts.length pc, .slice ca S.chans.length cc, .slice sa S.slots.length sc] 26)).alloc (.cells #[.slice la L.length lc] 52)).alloc (.cells #[.slice ta ss.length tc] 55)).cell? ⟨w.heap.size + 1 + 1, 0, none⟩ = some (.slice ta ss.length tc) := (Rw.new _ _ _ (by simp)).cell (j := 0) rfl
    have hw0 : w.heap.size + 2 < (((w.alloc (.cells #[.slice pa S.parts.length pc, .slice ca S.chans.length cc, .slice sa S.slots.length sc] 26)).alloc (.cells #[.slice la L.length lc] 52)).alloc (.cells #[.slice ta ss.length tc] 55)).heap.size := by simp
    have D0 : Hid (RowKit.Below w.heap.size w (((w.alloc (.cells #[.slice pa S.parts.length pc, .slice ca S.chans.length cc, .slice sa S.slots.length sc] 26)).alloc (.cells #[.slice la L.length lc] 52)).alloc (.cells #[.slice ta ss.length tc] 55))) := Lib.hid (by repeat (first | exact Below.refl _ _ | assumption | refine Below.drew ?_ | refine Below.alloc ?_ (by first | (simp; done) | (simp; omega)) _ | refine Below.setCell ?_ (by first | (simp; done) | (simp; omega)) _))
    generalize (((w.alloc (.cells #[.slice pa S.parts.length pc, .slice ca S.chans.length cc, .slice sa S.slots.length sc] 26)).alloc (.cells #[.slice la L.length lc] 52)).alloc (.cells #[.slice ta ss.length tc] 55)) = W0 at HB y3 y4 hw0 D0 ⊢
    have k0 := HB.out.p
    have k1 := HB.out.c
    have k2 := HB.out.s
    go_wp2_with fail
    refine (certify_any S L _ _ _ _ _ (he.up D0.out) (HS.out.up D0.out) (HL.out.up D0.out)).mono ?_
    rw [HC.out, HOE.out]
    rintro e w1 ⟨vS, vP, rfl, hss, hsp, bb, HSRQ⟩
    have hss : SetsF W0.heap.size w1 vS ([] : List (List Int)) := hss
    have hsp : Sl w1 1 vP ([] : List Int).length (ints ([] : List Int)) := hsp
    obtain ⟨s1, s2, rfl⟩ := hss.form
    obtain ⟨p1, p2, rfl⟩ := hsp.form
    have A1 : RowKit.Below w1.heap.size w1 (w1.alloc (.cells #[.slice s1 ([] : List (List Int)).length s2] 55)) := (RowKit.Below.refl _ _).alloc (Nat.le_refl _) _
    have BA : RowKit.Below W0.heap.size W0 (w1.alloc (.cells #[.slice s1 ([] : List (List Int)).length s2] 55)) := bb.trans (A1.mono bb.size)
    have HB2 := Lib.hid (HB.out.up BA)
    have y3b := bcl BA (by show w.heap.size + 1 < _; omega) y3
    have y4b := bcl BA (by show w.heap.size + 1 + 1 < _; omega) y4
    have D2 := Lib.hid (D0.out.trans (BA.mono D0.out.size))
    have HSS2 := Lib.hid (hss.r.up A1)
    have HSP2 := Lib.hid (hsp.up A1)
    have c7 : (w1.alloc (.cells #[.slice s1 ([] : List (List Int)).length s2] 55)).cell? ⟨w1.heap.size, 0, none⟩ = some (.slice s1 ([] : List (List Int)).length s2) := by simp
    have hX : w1.heap.size < (w1.alloc (.cells #[.slice s1 ([] : List (List Int)).length s2] 55)).heap.size := by simp
    have hw1 : w.heap.size + 2 < w1.heap.size := by have := bb.size; omega
    clear A1 BA bb hss hsp HB y3 y4 D0 hw0 k0 k1 k2
    go_upto_region 2 with fail
    generalize w1.alloc (.cells #[.slice s1 ([] : List (List Int)).length s2] 55) = X at HB2 y3b y4b D2 HSS2 HSP2 c7 hX ⊢
    have k0 := HB2.out.p
    have k1 := HB2.out.c
    have k2 := HB2.out.s
    go_wp2_with fail
    refine (ceVerify_any S L ss _ _ _ _ _ _ (he.up D2.out) (HS.out.up D2.out) (HL.out.up D2.out) (HCS.out.up D2.out)).mono ?_
    rw [HC.out, HVQ.out]
    rintro e w2 ⟨rfl, bb⟩
    have HB3 := Lib.hid (HB2.out.up bb)
    have y3c := bcl bb (by show w.heap.size + 1 < _; omega) y3b
    have D3 := Lib.hid (D2.out.trans (bb.mono D2.out.size))
    have HSS3 := Lib.hid (HSS2.out.up bb)
    have HSP3 := Lib.hid (HSP2.out.up bb)
    have c7b := bcl bb hX c7
    have hw2 : w1.heap.size < w2.heap.size := by have := bb.size; omega
    clear bb HB2 y3b y4b D2 HSS2 HSP2 c7 hX k0 k1 k2
    go_wp2_with fail
    refine (certBegun_any _ (he.up D3.out)).mono ?_
    rintro e w9 ⟨rfl, bb⟩
    have D9 := Lib.hid (D3.out.trans (bb.mono D3.out.size))
    clear bb
    go_wp2
    go_ret
    exact ⟨rfl, D9.out⟩
end Go.Proofs.YthpljbbhpbijgaaDoor
