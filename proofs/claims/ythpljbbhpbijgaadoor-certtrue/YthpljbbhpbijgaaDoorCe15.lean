/- The law CertMakes, walked. -/
import Derived.Test.YthpljbbhpbijgaaDoorCe14
namespace Go.Proofs.YthpljbbhpbijgaaDoor
set_option linter.unusedSimpArgs false
set_option linter.unusedVariables false
open Go.RowKit Go.Sort Go.Shelf Go.Lib Go.Maps

theorem pathL_len {S : SysD} {a b : Int} : (pathL S a b).length ≤ S.parts.length + 1 := by
  have hf : ∀ n x, (fwd S b n x).length ≤ n + 1 := by
    intro n
    induction n with
    | zero => intro x; simp [fwd]
    | succ n ih =>
      intro x
      rw [fwd]
      split
      · rename_i c _
        have := ih c
        simp
        omega
      · simp
  unfold pathL
  split
  · rename_i n hn
    have := hf n a
    unfold pathN at hn
    have := List.mem_range.1 (List.mem_of_find?_eq_some hn)
    omega
  · simp
theorem certO_small (S : SysD) (L : List Edg) : (certO S L).sets.length ≤ 100 ∧ (∀ l ∈ (certO S L).sets, l.length < 4294967281) ∧ (certO S L).path.length < 4294967281 := by
  unfold certO
  split
  · rename_i h
    obtain ⟨h4, _, _⟩ := pol_len h
    unfold certG
    split
    · unfold certS
      rw [gath_is]
      refine ⟨by simp; omega, fun l hl => ?_, by simp⟩
      obtain ⟨b, _, rfl⟩ := List.mem_map.1 hl
      have := setF_len (fun a b => reachB S a b) S.parts.length b
      omega
    · rename_i e _ _
      have := pathL_len (S := S) (a := e.fr) (b := e.tt)
      exact ⟨by simp, by simp, by show (pathL S e.fr e.tt).length < _; omega⟩
  · exact ⟨by simp, by simp, by simp⟩
set_option maxRecDepth 100000 in
set_option maxHeartbeats 8000000 in
theorem certMakes_any (S : SysD) (hok : S.ok) (L : List Edg) (vp vc vs vL : Value) (w : World) (he : Env w) (hS : Sys w vp vc vs S) (hL : Sl w 2 vL L.length (rowC Edg.cells L)) :
    Calls Tryd.prog 6 #[.agg #[vp, vc, vs], .agg #[vL]] w fun e w' => e = .returned (.bool true) ∧ RowKit.Below w.heap.size w w' := by
  obtain ⟨pa, pc, rfl⟩ := hS.p.form
  obtain ⟨ca, cc, rfl⟩ := hS.c.form
  obtain ⟨sa, sc, rfl⟩ := hS.s.form
  obtain ⟨la, lc, rfl⟩ := hL.form
  have HS := Lib.hid hS
  have HL := Lib.hid hL
  clear hS hL
  go_enter Tryd.func6, Tryd.ntmps6
  go_upto_region 1 with fail
  have HB := Lib.hid ((box_new w (.slice pa S.parts.length pc) (.slice ca S.chans.length cc) (.slice sa S.slots.length sc) 26 _ rfl).up ((RowKit.Below.refl _ _).alloc (Nat.le_refl _) (.cells #[.slice la L.length lc] 52)))
  have y3 : ((w.alloc (.cells #[.slice pa S.parts.length pc, .slice ca S.chans.length cc, .slice sa S.slots.length sc] 26)).alloc (.cells #[.slice la L.length lc] 52)).cell? ⟨w.heap.size + 1, 0, none⟩ = some (.slice la L.length lc) := (Rw.new _ _ _ (by simp)).cell (j := 0) rfl
  have hw0 : w.heap.size + 1 < ((w.alloc (.cells #[.slice pa S.parts.length pc, .slice ca S.chans.length cc, .slice sa S.slots.length sc] 26)).alloc (.cells #[.slice la L.length lc] 52)).heap.size := by simp
  have D0 : Hid (RowKit.Below w.heap.size w ((w.alloc (.cells #[.slice pa S.parts.length pc, .slice ca S.chans.length cc, .slice sa S.slots.length sc] 26)).alloc (.cells #[.slice la L.length lc] 52))) := Lib.hid (by repeat (first | exact Below.refl _ _ | assumption | refine Below.drew ?_ | refine Below.alloc ?_ (by first | (simp; done) | (simp; omega)) _ | refine Below.setCell ?_ (by first | (simp; done) | (simp; omega)) _))
  generalize ((w.alloc (.cells #[.slice pa S.parts.length pc, .slice ca S.chans.length cc, .slice sa S.slots.length sc] 26)).alloc (.cells #[.slice la L.length lc] 52)) = W0 at HB y3 hw0 D0 ⊢
  have HSM := Lib.hid (certO_small S L)
  have HOG : Hid (polE S L = 0 → certG S L = certO S L) := Lib.hid (fun h => by unfold certO; rw [if_pos h])
  have HON : Hid (polE S L ≠ 0 → certO S L = ⟨[], [], false⟩) := Lib.hid (fun h => by unfold certO; rw [if_neg h])
  generalize hc : polE S L = c at HOG HON
  have HC := Lib.hid hc
  clear hc
  have k0 := HB.out.p
  have k1 := HB.out.c
  have k2 := HB.out.s
  go_wp2_with fail
  refine (certify_any S L _ _ _ _ _ (he.up D0.out) (HS.out.up D0.out) (HL.out.up D0.out)).mono ?_
  rw [HC.out]
  generalize certO S L = O at HSM HOG HON ⊢
  rintro e w1 ⟨vS, vP, rfl, hss, hsp, bb, _⟩
  obtain ⟨s1, s2, rfl⟩ := hss.form
  obtain ⟨p1, p2, rfl⟩ := hsp.form
  have HB1 := Lib.hid (HB.out.up bb)
  have y3a := bcl bb (by show w.heap.size + 1 < _; omega) y3
  have D1 := Lib.hid (D0.out.trans (bb.mono D0.out.size))
  have hw1 : w.heap.size + 1 < w1.heap.size := by have := bb.size; omega
  have HSS := Lib.hid hss.r
  have HSP := Lib.hid hsp
  clear bb hss hsp HB y3 D0 hw0 k0 k1 k2
  have A1 : RowKit.Below w1.heap.size w1 (w1.alloc (.cells #[.slice s1 O.sets.length s2] 55)) := (RowKit.Below.refl _ _).alloc (Nat.le_refl _) _
  have HB2 := Lib.hid (HB1.out.up A1)
  have y3b := bcl A1 (by show w.heap.size + 1 < _; omega) y3a
  have D2 := Lib.hid (D1.out.trans (A1.mono D1.out.size))
  have HSS2 := Lib.hid (HSS.out.up A1)
  have HSP2 := Lib.hid (HSP.out.up A1)
  have c5 : (w1.alloc (.cells #[.slice s1 O.sets.length s2] 55)).cell? ⟨w1.heap.size, 0, none⟩ = some (.slice s1 O.sets.length s2) := by simp
  have hX : w1.heap.size < (w1.alloc (.cells #[.slice s1 O.sets.length s2] 55)).heap.size := by simp
  clear A1 HB1 y3a D1 HSS HSP
  go_upto_region 2 with fail
  generalize w1.alloc (.cells #[.slice s1 O.sets.length s2] 55) = X at HB2 y3b D2 HSS2 HSP2 c5 hX ⊢
  have k0 := HB2.out.p
  have k1 := HB2.out.c
  have k2 := HB2.out.s
  go_wp2_with fail
  refine (checkPolicy_any S hok L _ _ _ _ _ (HS.out.up D2.out) (HL.out.up D2.out)).mono ?_
  rw [HC.out]
  rintro e w2 ⟨rfl, bb⟩
  have HB3 := Lib.hid (HB2.out.up bb)
  have y3c := bcl bb (by show w.heap.size + 1 < _; omega) y3b
  have D3 := Lib.hid (D2.out.trans (bb.mono D2.out.size))
  have HSS3 := Lib.hid (HSS2.out.up bb)
  have HSP3 := Lib.hid (HSP2.out.up bb)
  have c5b := bcl bb hX c5
  have hw2 : w1.heap.size < w2.heap.size := by have := bb.size; omega
  have HSW := HSS3
  have HPW := HSP3
  clear bb HB2 y3b D2 HSS2 HSP2 c5 hX k0 k1 k2
  have A1 : RowKit.Below w2.heap.size w2 (w2.alloc (.cells #[.slice none 0 0] 55)) := (RowKit.Below.refl _ _).alloc (Nat.le_refl _) _
  have HB2 := Lib.hid (HB3.out.up A1)
  have y3b := bcl A1 (by show w.heap.size + 1 < _; omega) y3c
  have D2 := Lib.hid (D3.out.trans (A1.mono D3.out.size))
  have HSS2 := Lib.hid (HSS3.out.up A1)
  have HSP2 := Lib.hid (HSP3.out.up A1)
  have c5 := bcl A1 hw2 c5b
  have R10 : Rw (w2.alloc (.cells #[.slice none 0 0] 55)) w2.heap.size 55 #[.slice none 0 0] := Rw.new _ _ _ rfl
  have hX : w2.heap.size < (w2.alloc (.cells #[.slice none 0 0] 55)).heap.size := by simp
  have HA1 := Lib.hid A1
  clear A1 HB3 y3c D3 HSS3 HSP3 c5b
  go_upto_region 4 with fail
  generalize w2.alloc (.cells #[.slice none 0 0] 55) = X at HB2 y3b D2 HSS2 HSP2 c5 R10 hX HA1 ⊢
  have HR10 := Lib.hid R10
  clear R10
  by_cases h0 : c = 0
  · subst h0
    have hog := HOG.out rfl
    have HOE := Lib.hid hog
    clear hog HOG HON
    obtain ⟨h4, hcl, hLl⟩ := pol_len HC.out
    have k0 := HB2.out.p
    have k1 := HB2.out.c
    have k2 := HB2.out.s
    go_wp2_with fail
    refine (certifyOf_any S h4 hcl L hLl _ _ _ _ _ (HS.out.up D2.out) (HL.out.up D2.out)).mono ?_
    rw [HOE.out]
    rintro e w3 ⟨vT, vQ, rfl, hst, hsq, hnq, bb⟩
    obtain ⟨t1, t2, rfl⟩ := hst.form
    obtain ⟨q1, q2, rfl⟩ := hsq.form
    have HR3 := Lib.hid (HR10.out.up bb hX)
    have c10 := HR3.out.cell (j := 0) rfl
    have f10 := HR3.out.fr 0
    have B3 : RowKit.Below X.heap.size X w3 := bb
    have hsz3 := bb.size
    have HB5 := Lib.hid (HB2.out.up B3)
    have y5 := bcl B3 (by show w.heap.size + 1 < _; omega) y3b
    have c5a := bcl B3 (by omega) c5
    have D5 := Lib.hid (D2.out.trans (B3.mono D2.out.size))
    have HST0 := Lib.hid (hst.set (c := w2.heap.size) (j := 0) hX (.slice t1 O.sets.length t2))
    have HSQ0 := Lib.hid (hsq.far (c := w2.heap.size) (j := 0) hnq hX (.slice t1 O.sets.length t2))
    have HBW : Hid (RowKit.Below w2.heap.size w2 w3) := Lib.hid (HA1.out.trans (B3.mono HA1.out.size))
    clear bb hst hsq hnq k0 k1 k2 HB2 y3b c5 D2 HSS2 HSP2 B3
    go_upto_region 8 with fail
    have HB3 : Hid (Box (w3.setCell ⟨w2.heap.size, 0, none⟩ (.slice t1 O.sets.length t2)) w.heap.size (.slice pa S.parts.length pc) (.slice ca S.chans.length cc) (.slice sa S.slots.length sc)) := Lib.hid ⟨cl_set (Or.inl (by omega)) HB5.out.p, cl_set (Or.inl (by omega)) HB5.out.c, cl_set (Or.inl (by omega)) HB5.out.s, by rw [size_set]; exact HB5.out.lt⟩
    have y3c := cl_set (u := .slice t1 O.sets.length t2) (c := w2.heap.size) (j := 0) (Or.inl (by omega)) y5
    have c5 := cl_set (u := .slice t1 O.sets.length t2) (c := w2.heap.size) (j := 0) (Or.inl (by omega)) c5a
    have c10 := (HR3.out.set 0 (.slice t1 O.sets.length t2)).cell (j := 0) (v := .slice t1 O.sets.length t2) rfl
    have D3 := Lib.hid (D5.out.setCell (p := ⟨w2.heap.size, 0, none⟩) (by show w.heap.size ≤ w2.heap.size; omega) (.slice t1 O.sets.length t2))
    have HSS3 := Lib.hid (HSW.out.up (show RowKit.Below w2.heap.size w2 _ from (HBW.out.setCell (p := ⟨w2.heap.size, 0, none⟩) (by show w2.heap.size ≤ w2.heap.size; omega) (.slice t1 O.sets.length t2))))
    have HSP3 := Lib.hid (HPW.out.up (show RowKit.Below w2.heap.size w2 _ from (HBW.out.setCell (p := ⟨w2.heap.size, 0, none⟩) (by show w2.heap.size ≤ w2.heap.size; omega) (.slice t1 O.sets.length t2))))
    have h5 : w1.heap.size < (w3.setCell ⟨w2.heap.size, 0, none⟩ (.slice t1 O.sets.length t2)).heap.size := by rw [size_set]; omega
    have h10 : w2.heap.size < (w3.setCell ⟨w2.heap.size, 0, none⟩ (.slice t1 O.sets.length t2)).heap.size := by rw [size_set]; omega
    have HST3 := Lib.hid HST0.out.r
    have HSQ3 := HSQ0
    generalize w3.setCell ⟨w2.heap.size, 0, none⟩ (.slice t1 O.sets.length t2) = X3 at HB3 y3c c5 c10 D3 HSS3 HSP3 h5 h10 HST3 HSQ3 ⊢
    clear HST0 HSQ0 HR3 f10 HB5 y5 c5a D5
    go_wp2_with fail
    refine (certBegun_any _ (he.up D3.out)).mono ?_
    rintro e w4 ⟨rfl, bb⟩
    have HB4 := Lib.hid (HB3.out.up bb)
    have y4 := bcl bb (by show w.heap.size + 1 < _; omega) y3c
    have c5b := bcl bb h5 c5
    have c10b := bcl bb h10 c10
    have HS4 := Lib.hid (HSS3.out.up bb)
    have HT4 := Lib.hid (HST3.out.up bb)
    have HP4 := Lib.hid (HSP3.out.up bb)
    have HQ4 := Lib.hid (HSQ3.out.up bb)
    have D4 := Lib.hid (D3.out.trans (bb.mono D3.out.size))
    have hsz4 := bb.size
    clear bb HB3 y3c c5 c10 HSS3 HST3 HSP3 HSQ3 D3
    have k0 := HB4.out.p
    have k1 := HB4.out.c
    have k2 := HB4.out.s
    go_wp2_with fail
    refine (ceCheck_any S L _ _ _ _ _ (he.up D4.out) (HS.out.up D4.out) (HL.out.up D4.out)).mono ?_
    rw [HC.out]
    rintro e w5 ⟨rfl, bb⟩
    have c5c := bcl bb (by omega) c5b
    have c10c := bcl bb (by omega) c10b
    have HS5 := Lib.hid (HS4.out.up bb)
    have HT5 := Lib.hid (HT4.out.up bb)
    have HP5 := Lib.hid (HP4.out.up bb)
    have HQ5 := Lib.hid (HQ4.out.up bb)
    have D5 := Lib.hid (D4.out.trans (bb.mono D4.out.size))
    have hsz5 := bb.size
    clear bb HB4 y4 c5b c10b HS4 HT4 HP4 HQ4 D4 k0 k1 k2
    go_wp2_with fail
    refine (sameInts_any O.path O.path _ _ _ HP5.out HQ5.out HSM.out.2.2 true (by simp)).mono ?_
    rintro e w6 ⟨rfl, bb⟩
    have c5d := bcl bb (by omega) c5c
    have c10d := bcl bb (by omega) c10c
    have HS6 := Lib.hid (HS5.out.up bb)
    have HT6 := Lib.hid (HT5.out.up bb)
    have D6 := Lib.hid (D5.out.trans (bb.mono D5.out.size))
    clear bb c5c c10c HS5 HT5 HP5 HQ5 D5
    go_wp2_with fail
    refine (sameCerts_yes O.sets HSM.out.1 HSM.out.2.1 _ _ _ HS6.out HT6.out).mono ?_
    rintro e w7 ⟨rfl, bb⟩
    have D7 := Lib.hid (D6.out.trans (bb.mono D6.out.size))
    clear bb
    go_wp2
    go_ret
    exact ⟨rfl, D7.out⟩
  · have h0' : (c == 0) = false := by simpa using h0
    have hog := HON.out h0
    subst hog
    clear h0 HOG HON
    have HB3 := HB2
    have y3c := y3b
    have D3 := D2
    have HSS3 := HSS2
    have HSP3 := HSP2
    have c10 := HR10.out.cell (j := 0) (v := .slice none 0 0) rfl
    have h5 : w1.heap.size < X.heap.size := by omega
    have h10 : w2.heap.size < X.heap.size := hX
    have HST3 := Lib.hid (SetsR.nil X)
    have HSQ3 : Hid (Sl X 1 (.slice none 0 0) 0 (ints [])) := Lib.hid (Sl.nil _ _)
    clear HB2 y3b D2 HSS2 HSP2
    go_wp2_with fail
    refine (certBegun_any _ (he.up D3.out)).mono ?_
    rintro e w4 ⟨rfl, bb⟩
    have HB4 := Lib.hid (HB3.out.up bb)
    have y4 := bcl bb (by show w.heap.size + 1 < _; omega) y3c
    have c5b := bcl bb h5 c5
    have c10b := bcl bb h10 c10
    have HS4 := Lib.hid (HSS3.out.up bb)
    have HT4 := Lib.hid (HST3.out.up bb)
    have HP4 := Lib.hid (HSP3.out.up bb)
    have HQ4 := Lib.hid (HSQ3.out.up bb)
    have D4 := Lib.hid (D3.out.trans (bb.mono D3.out.size))
    have hsz4 := bb.size
    clear bb HB3 y3c c5 c10 HSS3 HST3 HSP3 HSQ3 D3
    have k0 := HB4.out.p
    have k1 := HB4.out.c
    have k2 := HB4.out.s
    go_wp2_with fail
    refine (ceCheck_any S L _ _ _ _ _ (he.up D4.out) (HS.out.up D4.out) (HL.out.up D4.out)).mono ?_
    rw [HC.out]
    rintro e w5 ⟨rfl, bb⟩
    have c5c := bcl bb (by omega) c5b
    have c10c := bcl bb (by omega) c10b
    have HS5 := Lib.hid (HS4.out.up bb)
    have HT5 := Lib.hid (HT4.out.up bb)
    have HP5 := Lib.hid (HP4.out.up bb)
    have HQ5 := Lib.hid (HQ4.out.up bb)
    have D5 := Lib.hid (D4.out.trans (bb.mono D4.out.size))
    have hsz5 := bb.size
    clear bb HB4 y4 c5b c10b HS4 HT4 HP4 HQ4 D4 k0 k1 k2
    go_wp2_with fail
    refine (sameInts_any [] [] _ _ _ HP5.out HQ5.out (by decide) true (by simp)).mono ?_
    rintro e w6 ⟨rfl, bb⟩
    have c5d := bcl bb (by omega) c5c
    have c10d := bcl bb (by omega) c10c
    have HS6 := Lib.hid (HS5.out.up bb)
    have HT6 := Lib.hid (HT5.out.up bb)
    have D6 := Lib.hid (D5.out.trans (bb.mono D5.out.size))
    clear bb c5c c10c HS5 HT5 HP5 HQ5 D5
    go_wp2_with fail
    refine (sameCerts_yes [] (by decide) (by simp) _ _ _ HS6.out HT6.out).mono ?_
    rintro e w7 ⟨rfl, bb⟩
    have D7 := Lib.hid (D6.out.trans (bb.mono D6.out.size))
    clear bb
    go_wp2
    go_ret
    exact ⟨rfl, D7.out⟩
end Go.Proofs.YthpljbbhpbijgaaDoor
