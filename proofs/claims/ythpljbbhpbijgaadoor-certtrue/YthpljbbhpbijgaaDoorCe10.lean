/- cert.Certify. -/
import Derived.Test.YthpljbbhpbijgaaDoorCe9
namespace Go.Proofs.YthpljbbhpbijgaaDoor
set_option linter.unusedSimpArgs false
set_option linter.unusedVariables false
open Go.RowKit Go.Sort Go.Shelf Go.Lib Go.Maps

theorem ent_flPath : Enters 15 := enters Tryd.func15 (by kernel_rfl) (by kernel_rfl)
theorem sizeCert : (Tryd.prog.info? 55).map (·.size) = some 1 := by kernel_rfl
theorem results_row_tmp3 {P : Program} {fn : Func} {p q r s : Tmp} {ty : TypeId} (h : fn.results = #[.cell p ty, .tmp q, .tmp r, .tmp s]) (tmps : Array Value) (w : World) (g : Nat) (v u x y : Value)
    (hp : tmps.getD p undef = .pointer (some ⟨g, 0, none⟩)) (hq : tmps.getD q undef = u) (hr : tmps.getD r undef = x) (hs : tmps.getD s undef = y) (hl : (loadVar ty ⟨g, 0, none⟩).run P w = .ok v w) : (results fn tmps).run P w = .ok (.tuple #[v, u, x, y]) w := by
  have hp' : tmps[p]?.getD undef = .pointer (some ⟨g, 0, none⟩) := by simpa using hp
  have hq' : tmps[q]?.getD undef = u := by simpa using hq
  have hr' : tmps[r]?.getD undef = x := by simpa using hr
  have hs' : tmps[s]?.getD undef = y := by simpa using hs
  simp [results, h, hp', hq', hr', hs', asAddr, hl]
theorem results_row_tmp2 {P : Program} {fn : Func} {p q r : Tmp} {ty : TypeId} (h : fn.results = #[.cell p ty, .tmp q, .tmp r]) (tmps : Array Value) (w : World) (g : Nat) (v u x : Value)
    (hp : tmps.getD p undef = .pointer (some ⟨g, 0, none⟩)) (hq : tmps.getD q undef = u) (hr : tmps.getD r undef = x) (hl : (loadVar ty ⟨g, 0, none⟩).run P w = .ok v w) : (results fn tmps).run P w = .ok (.tuple #[v, u, x]) w := by
  have hp' : tmps[p]?.getD undef = .pointer (some ⟨g, 0, none⟩) := by simpa using hp
  have hq' : tmps[q]?.getD undef = u := by simpa using hq
  have hr' : tmps[r]?.getD undef = x := by simpa using hr
  simp [results, h, hp', hq', hr', asAddr, hl]
/-- What stands there is stored there anew. -/
theorem Sl.same {w : World} {size : Nat} {v : Value} {n : Nat} {xs : List Value} (h : Sl w size v n xs) {c j : Nat} {u : Value} (hu : w.cell? ⟨c, j, none⟩ = some u) : Sl (w.setCell ⟨c, j, none⟩ u) size v n xs := by
  obtain ⟨h1, ao, cap, rfl, h3, h4⟩ := h
  refine ⟨h1, ao, cap, rfl, h3, fun hn => ?_⟩
  obtain ⟨b, off, rfl, hlt, hc⟩ := h4 hn
  refine ⟨b, off, rfl, by rw [size_set]; exact hlt, fun k u' hk => ?_⟩
  have h5 := hc k u' hk
  by_cases e : b = c ∧ off + k = j
  · obtain ⟨rfl, rfl⟩ := e
    rw [h5] at hu
    injection hu with hu
    subst hu
    exact cl_same h5
  · exact cl_set (by omega) h5
def leakL (S : SysD) (L : List Edg) : List Edg := pairsL S.parts.length fun a b => reachB S a b && !(mayB L a b)
def certS (S : SysD) : List (List Int) := gath S.parts.length (pairsL S.parts.length fun a b => reachB S a b)
structure CertOut where
  sets : List (List Int)
  path : List Int
  is : Bool
def certG (S : SysD) (L : List Edg) : CertOut := match leakL S L with
  | [] => ⟨certS S, [], true⟩
  | e :: _ => ⟨[], pathL S e.fr e.tt, false⟩
noncomputable def certO (S : SysD) (L : List Edg) : CertOut := if polE S L = 0 then certG S L else ⟨[], [], false⟩
theorem leak_in {S : SysD} {L : List Edg} {e : Edg} (h : e ∈ leakL S L) : ∃ a b : Nat, a < S.parts.length ∧ b < S.parts.length ∧ e = ⟨a, b⟩ ∧ reachB S a b = true ∧ mayB L a b = false := by
  obtain ⟨a, b, ha, hb, rfl, hp⟩ := pairs_in h
  simp only [Bool.and_eq_true, Bool.not_eq_true'] at hp
  exact ⟨a, b, ha, hb, rfl, hp.1, hp.2⟩
theorem path_there {S : SysD} {a b : Nat} (h : chkS S = 0) (ha : a < S.parts.length) (hb : b < S.parts.length) : pathE S a b = 0 := by
  refine pathE_ok h ?_ ?_
  · unfold withinB; simp; omega
  · unfold withinB; simp; omega
set_option maxRecDepth 100000 in
set_option maxHeartbeats 8000000 in
theorem certify_any (S : SysD) (L : List Edg) (vp vc vs vL : Value) (w : World) (he : Env w) (hS : Sys w vp vc vs S) (hL : Sl w 2 vL L.length (rowC Edg.cells L)) :
    Calls Tryd.prog 20 #[.agg #[vp, vc, vs], .agg #[vL]] w fun e w' => ∃ vS vP, e = .returned (.tuple #[.agg #[vS], vP, .bool (certO S L).is, .int .i64 (polE S L)]) ∧ SetsF w.heap.size w' vS (certO S L).sets ∧ Sl w' 1 vP (certO S L).path.length (ints (certO S L).path) ∧ RowKit.Below w.heap.size w w' ∧ Hid (polE S L = 0 → ∀ a b : Nat, a < S.parts.length → b < S.parts.length → ∃ l, SearchR (edgesL S) a b l (reachB S a b)) := by
  generalize hc : polE S L = c
  obtain ⟨pa, pc, rfl⟩ := hS.p.form
  obtain ⟨ca, cc, rfl⟩ := hS.c.form
  obtain ⟨sa, sc, rfl⟩ := hS.s.form
  obtain ⟨la, lc, rfl⟩ := hL.form
  have HS := Lib.hid hS
  have HC := Lib.hid hc
  have HL := Lib.hid hL
  clear hS hc hL
  go_enter Tryd.func20, Tryd.ntmps20
  go_wp2_with fail
  refine (ceCheck_any S L _ _ _ _ _ (he.up (by repeat (first | exact Below.refl _ _ | assumption | refine Below.drew ?_ | refine Below.alloc ?_ (by first | (simp; done) | (simp; omega)) _ | refine Below.setCell ?_ (by first | (simp; done) | (simp; omega)) _))) (HS.out.up (by repeat (first | exact Below.refl _ _ | assumption | refine Below.drew ?_ | refine Below.alloc ?_ (by first | (simp; done) | (simp; omega)) _ | refine Below.setCell ?_ (by first | (simp; done) | (simp; omega)) _))) (HL.out.up (by repeat (first | exact Below.refl _ _ | assumption | refine Below.drew ?_ | refine Below.alloc ?_ (by first | (simp; done) | (simp; omega)) _ | refine Below.setCell ?_ (by first | (simp; done) | (simp; omega)) _)))).mono ?_
  rw [HC.out]
  rintro e w1 ⟨rfl, bb⟩
  have HB := Lib.hid (((box_new w (.slice pa S.parts.length pc) (.slice ca S.chans.length cc) (.slice sa S.slots.length sc) 26 _ rfl).up (((RowKit.Below.refl _ _).alloc (Nat.le_refl _) (.cells #[.slice la L.length lc] 52)).alloc (by simp) (.cells #[.slice none 0 0] 55))).up bb)
  have b3 : RowKit.Below ((w.alloc (.cells #[.slice pa S.parts.length pc, .slice ca S.chans.length cc, .slice sa S.slots.length sc] 26)).alloc (.cells #[.slice la L.length lc] 52)).heap.size ((w.alloc (.cells #[.slice pa S.parts.length pc, .slice ca S.chans.length cc, .slice sa S.slots.length sc] 26)).alloc (.cells #[.slice la L.length lc] 52)) w1 := RowKit.Below.trans ((RowKit.Below.refl _ _).alloc (Nat.le_refl _) _) (bb.mono (by simp))
  have k3 : w1.cell? ⟨w.heap.size + 1, 0, none⟩ = some (.slice la L.length lc) := bcl b3 (by simp) (by simp)
  have R4 : Rw w1 (w.heap.size + 1 + 1) 55 #[.slice none 0 0] := Rw.up (Rw.new _ _ _ (by simp)) bb (by simp)
  have hw1 : w.heap.size + 2 < w1.heap.size := by have := bb.size; simp at this; omega
  have D := Lib.hid (RowKit.Below.trans (show RowKit.Below w.heap.size w _ from (by repeat (first | exact Below.refl _ _ | assumption | refine Below.drew ?_ | refine Below.alloc ?_ (by first | (simp; done) | (simp; omega)) _ | refine Below.setCell ?_ (by first | (simp; done) | (simp; omega)) _))) (bb.mono (by simp; omega)))
  have k4 := R4.cell (j := 0) rfl
  have f4 := R4.fr 0
  have HR4 := Lib.hid R4
  clear bb b3 R4
  by_cases h0 : c = 0
  · subst h0
    obtain ⟨hch, hpu⟩ := polE_is HC.out
    obtain ⟨h4, h1, hcl, _⟩ := chk_flow hch
    have hLl := polUp_len h4 hpu (Nat.le_refl _)
    have HCH := Lib.hid hch
    have HPU := Lib.hid hpu
    have HO : Hid (certO S L = certG S L) := Lib.hid (by unfold certO; rw [if_pos HC.out])
    clear hch hpu
    have k0 := HB.out.p
    have k1 := HB.out.c
    have k2 := HB.out.s
    go_wp2_with fail
    refine (flReach_any S _ _ _ _ (he.up D.out) (HS.out.up D.out)).mono ?_
    rw [HCH.out, show reachQ S = S.parts.length by unfold reachQ; rw [if_pos HCH.out]]
    rintro e w2 ⟨vm, rfl, hm, bb, HSRQ⟩
    obtain ⟨ma, mc, rfl⟩ := hm.form
    have HM := Lib.hid hm
    have HB2 := Lib.hid (HB.out.up bb)
    have k3b := bcl bb (by show w.heap.size + 1 < _; omega) k3
    have HR42 := Lib.hid (HR4.out.up bb HR4.out.lt)
    have hw2 : w.heap.size + 2 < w2.heap.size := by have := bb.size; omega
    have D2 := Lib.hid (D.out.trans (bb.mono D.out.size))
    clear bb hm HB k0 k1 k2 k3 k4 f4 hw1 D HR4
    have A2 : RowKit.Below w2.heap.size w2 (w2.alloc (.cells #[.slice ma S.parts.length mc] 31)) := (RowKit.Below.refl _ _).alloc (Nat.le_refl _) _
    have HB3 := Lib.hid (HB2.out.up A2)
    have k3c := bcl A2 (by show w.heap.size + 1 < _; omega) k3b
    have HR43 := Lib.hid (HR42.out.up A2 HR42.out.lt)
    have HM3 := Lib.hid (HM.out.up A2)
    have D3 := Lib.hid (D2.out.trans (A2.mono D2.out.size))
    have t9 : (w2.alloc (.cells #[.slice ma S.parts.length mc] 31)).cell? ⟨w2.heap.size, 0, none⟩ = some (.slice ma S.parts.length mc) := by simp
    have hX : w2.heap.size < (w2.alloc (.cells #[.slice ma S.parts.length mc] 31)).heap.size := by simp
    clear A2 HB2 k3b HR42 HM D2
    have k0 := HB3.out.p
    go_upto_region 5 with fail
    generalize w2.alloc (.cells #[.slice ma S.parts.length mc] 31) = X at HB3 k3c HR43 HM3 D3 t9 hX k0 ⊢
    go_wp2_with fail
    refine (allowed_any S.parts.length h4 L hLl (fun e he => polUp_wf h4 HPU.out he) _ _ (HL.out.up D3.out)).mono ?_
    rintro e w3 ⟨sb, rfl, ⟨sn, hsy⟩, bb⟩
    have HB4 := Lib.hid (HB3.out.up bb)
    have HR44 := Lib.hid (HR43.out.up bb HR43.out.lt)
    have HM4 := Lib.hid (HM3.out.up bb)
    have HSY := Lib.hid hsy
    have t9b := bcl bb hX t9
    have D4 := Lib.hid (D3.out.trans (bb.mono D3.out.size))
    have hw3 : w2.heap.size < w3.heap.size := by have := bb.size; omega
    clear bb hsy HB3 HR43 HM3 t9 hX k0 k3c D3
    have A2 : RowKit.Below w3.heap.size w3 (w3.alloc (.cells #[.map (some sb)] 83)) := (RowKit.Below.refl _ _).alloc (Nat.le_refl _) _
    have HB3 := Lib.hid (HB4.out.up A2)
    have HR43 := Lib.hid (HR44.out.up A2 HR44.out.lt)
    have HM3 := Lib.hid (HM4.out.up A2)
    have HSY3 := Lib.hid (HSY.out.up A2)
    have t9c := bcl A2 hw3 t9b
    have D3 := Lib.hid (D4.out.trans (A2.mono D4.out.size))
    have t11 : (w3.alloc (.cells #[.map (some sb)] 83)).cell? ⟨w3.heap.size, 0, none⟩ = some (.map (some sb)) := by simp
    have hX : w3.heap.size < (w3.alloc (.cells #[.map (some sb)] 83)).heap.size := by simp
    clear A2 HB4 HR44 HM4 HSY t9b D4
    have k0 := HB3.out.p
    go_upto_region 6 with fail
    generalize w3.alloc (.cells #[.map (some sb)] 83) = Y at HB3 HR43 HM3 HSY3 D3 t9c t11 hX k0 ⊢
    go_wp2_with fail
    refine (pairs_any S.parts.length h4 (fun a b => reachB S a b && !(mayB L a b)) 43 ent_certify1 #[.pointer (some ⟨w2.heap.size, 0, none⟩), .pointer (some ⟨w3.heap.size, 0, none⟩)] _ (fun a b ha hb w1 hbl => certify1_any S.parts.length a b _ _ sb sn h4 ha hb (fun a b => reachB S a b) L _ w1 (bcl hbl (by show w2.heap.size < Y.heap.size; omega) t9c) (bcl hbl hX t11) (HM3.out.up hbl) (HSY3.out.up hbl))).mono ?_
    rintro e w5 ⟨vP, rfl, hP, _, bb⟩
    have hP0 : Sl w5 2 vP (leakL S L).length (rowC Edg.cells (leakL S L)) := hP
    obtain ⟨qa, qc, rfl⟩ := hP0.form
    have HP := Lib.hid hP0
    have HB5 := Lib.hid (HB3.out.up bb)
    have HR45 := Lib.hid (HR43.out.up bb HR43.out.lt)
    have HM5 := Lib.hid (HM3.out.up bb)
    have t9d := bcl bb (by show w2.heap.size < Y.heap.size; omega) t9c
    have D5 := Lib.hid (D3.out.trans (bb.mono D3.out.size))
    have hw5 : w2.heap.size < w5.heap.size := by have := bb.size; omega
    clear bb hP hP0 HB3 HR43 HM3 HSY3 D3 t9c t11 hX k0
    have HLI : Hid (∀ e ∈ leakL S L, ∃ a b : Nat, a < S.parts.length ∧ b < S.parts.length ∧ e = ⟨a, b⟩ ∧ reachB S a b = true ∧ mayB L a b = false) := Lib.hid (fun e he => leak_in he)
    have HG : Hid (certO S L = match leakL S L with | [] => ⟨certS S, [], true⟩ | e :: _ => ⟨[], pathL S e.fr e.tt, false⟩) := HO
    generalize leakL S L = K0 at HP HLI HG ⊢
    cases K0 with
    | cons ed rest =>
      obtain ⟨x, y, hx, hy, rfl, _, _⟩ := HLI.out ed (by simp)
      obtain ⟨lb, lo, lcap, e1, hlc, hlb, hlx⟩ := HP.out.open (by simp)
      cases e1
      obtain ⟨l0, l1⟩ := edge_cells hlx 0 (by simp)
      simp only [List.getElem_cons_zero, Nat.zero_mul, Nat.add_zero] at l0 l1
      have HPE := Lib.hid (path_there HCH.out hx hy)
      have HPQ := Lib.hid ((pathQ_ok (S := S) (a := x) (b := y) HPE.out).1)
      generalize hef : (x : Int) = ef at l0 HG HPQ HPE
      generalize het : (y : Int) = et at l1 HG HPQ HPE
      clear hef het hlx HP
      have hlen : (0 : Int) < (((⟨ef, et⟩ : Edg) :: rest).length : Int) := by first | (simp; done) | (simp; omega)
      go_upto_region 8 with fail
      refine region_still (S := fun w' => Box w' w.heap.size (.slice pa S.parts.length pc) (.slice ca S.chans.length cc) (.slice sa S.slots.length sc) ∧ w'.cell? ⟨lb, lo, none⟩ = some (.int .i64 ef) ∧ w'.cell? ⟨lb, lo + 1, none⟩ = some (.int .i64 et)) 16 (by kernel_rfl) ⟨HB5.out.up (RowKit.Below.refl _ _).drew, l0, l1⟩ (fun hHeld => ?_)
      refine Still.takeBy (i := 0) [] (v := ?v1) (by kernel_rfl) (by kernel_rfl) rfl (by kernel_rfl) (by kernel_rfl) (by kernel_rfl) (fun _ _ _ h => h) (Or.inl ⟨by rfl, ?y1⟩) hHeld ?r1
      case y1 => (intro w' hSw; (try dsimp only at hSw); obtain ⟨hbx, q3, q4⟩ := hSw; have q0 := hbx.p; have q1 := hbx.c; have q2 := hbx.s; clear hbx; go_simp; try with_reducible rfl)
      simp only [Act.put, List.getElem_toArray, List.getElem_cons_zero, List.getElem_cons_succ, List.setIfInBounds_toArray, List.set_cons_zero, List.set_cons_succ]
      refine Still.takeBy (i := 1) [] (v := ?v2) (by kernel_rfl) (by kernel_rfl) rfl (by kernel_rfl) (by kernel_rfl) (by kernel_rfl) (fun _ _ _ h => h) (Or.inl ⟨by rfl, ?y2⟩) hHeld ?r2
      case y2 => (intro w' hSw; (try dsimp only at hSw); obtain ⟨hbx, q3, q4⟩ := hSw; have q0 := hbx.p; have q1 := hbx.c; have q2 := hbx.s; clear hbx; go_simp; try with_reducible rfl)
      simp only [Act.put, List.getElem_toArray, List.getElem_cons_zero, List.getElem_cons_succ, List.setIfInBounds_toArray, List.set_cons_zero, List.set_cons_succ]
      refine Still.takeBy (i := 2) [] (v := ?v3) (by kernel_rfl) (by kernel_rfl) rfl (by kernel_rfl) (by kernel_rfl) (by kernel_rfl) (fun _ _ _ h => h) (Or.inl ⟨by rfl, ?y3⟩) hHeld ?r3
      case y3 => (intro w' hSw; (try dsimp only at hSw); obtain ⟨hbx, q3, q4⟩ := hSw; have q0 := hbx.p; have q1 := hbx.c; have q2 := hbx.s; clear hbx; go_simp; try with_reducible rfl)
      simp only [Act.put, List.getElem_toArray, List.getElem_cons_zero, List.getElem_cons_succ, List.setIfInBounds_toArray, List.set_cons_zero, List.set_cons_succ]
      refine Still.takeBy (i := 3) [] (v := ?v4) (by kernel_rfl) (by kernel_rfl) rfl (by kernel_rfl) (by kernel_rfl) (by kernel_rfl) (fun _ _ _ h => h) (Or.inl ⟨by rfl, ?y4⟩) hHeld ?r4
      case y4 => (intro w' hSw; (try dsimp only at hSw); obtain ⟨hbx, q3, q4⟩ := hSw; have q0 := hbx.p; have q1 := hbx.c; have q2 := hbx.s; clear hbx; go_simp; try with_reducible rfl)
      simp only [Act.put, List.getElem_toArray, List.getElem_cons_zero, List.getElem_cons_succ, List.setIfInBounds_toArray, List.set_cons_zero, List.set_cons_succ]
      refine Still.takeBy (i := 4) [] (v := ?v5) (by kernel_rfl) (by kernel_rfl) rfl (by kernel_rfl) (by kernel_rfl) (by kernel_rfl) (fun _ _ _ h => h) (Or.inl ⟨by rfl, ?y5⟩) hHeld ?r5
      case y5 => (intro w' hSw; (try dsimp only at hSw); obtain ⟨hbx, q3, q4⟩ := hSw; have q0 := hbx.p; have q1 := hbx.c; have q2 := hbx.s; clear hbx; go_simp; try with_reducible rfl)
      simp only [Act.put, List.getElem_toArray, List.getElem_cons_zero, List.getElem_cons_succ, List.setIfInBounds_toArray, List.set_cons_zero, List.set_cons_succ]
      refine Still.takeBy (i := 5) [] (v := ?v6) (by kernel_rfl) (by kernel_rfl) rfl (by kernel_rfl) (by kernel_rfl) (by kernel_rfl) (fun _ _ _ h => h) (Or.inl ⟨by rfl, ?y6⟩) hHeld ?r6
      case y6 => (intro w' hSw; (try dsimp only at hSw); obtain ⟨hbx, q3, q4⟩ := hSw; have q0 := hbx.p; have q1 := hbx.c; have q2 := hbx.s; clear hbx; go_simp; try with_reducible rfl)
      simp only [Act.put, List.getElem_toArray, List.getElem_cons_zero, List.getElem_cons_succ, List.setIfInBounds_toArray, List.set_cons_zero, List.set_cons_succ]
      refine Still.takeBy (i := 6) [] (v := ?v7) (by kernel_rfl) (by kernel_rfl) rfl (by kernel_rfl) (by kernel_rfl) (by kernel_rfl) (fun _ _ _ h => h) (Or.inl ⟨by rfl, ?y7⟩) hHeld ?r7
      case y7 => (intro w' hSw; (try dsimp only at hSw); obtain ⟨hbx, q3, q4⟩ := hSw; have q0 := hbx.p; have q1 := hbx.c; have q2 := hbx.s; clear hbx; go_simp; try with_reducible rfl)
      simp only [Act.put, List.getElem_toArray, List.getElem_cons_zero, List.getElem_cons_succ, List.setIfInBounds_toArray, List.set_cons_zero, List.set_cons_succ]
      refine Still.takeBy (i := 7) [] (v := ?v8) (by kernel_rfl) (by kernel_rfl) rfl (by kernel_rfl) (by kernel_rfl) (by kernel_rfl) (fun _ _ _ h => h) (Or.inl ⟨by rfl, ?y8⟩) hHeld ?r8
      case y8 => (intro w' hSw; (try dsimp only at hSw); obtain ⟨hbx, q3, q4⟩ := hSw; have q0 := hbx.p; have q1 := hbx.c; have q2 := hbx.s; clear hbx; go_simp; try with_reducible rfl)
      simp only [Act.put, List.getElem_toArray, List.getElem_cons_zero, List.getElem_cons_succ, List.setIfInBounds_toArray, List.set_cons_zero, List.set_cons_succ]
      refine Still.takeBy (i := 8) [] (v := ?v9) (by kernel_rfl) (by kernel_rfl) rfl (by kernel_rfl) (by kernel_rfl) (by kernel_rfl) (fun _ _ _ h => h) (Or.inl ⟨by rfl, ?y9⟩) hHeld ?r9
      case y9 => (intro w' hSw; (try dsimp only at hSw); obtain ⟨hbx, q3, q4⟩ := hSw; have q0 := hbx.p; have q1 := hbx.c; have q2 := hbx.s; clear hbx; go_simp; try with_reducible rfl)
      simp only [Act.put, List.getElem_toArray, List.getElem_cons_zero, List.getElem_cons_succ, List.setIfInBounds_toArray, List.set_cons_zero, List.set_cons_succ]
      refine Still.all (rs := [9]) (by kernel_rfl) (by simp) (Still.one (i := 9) rfl rfl (fun K hK => ?_) (by simp))
      refine wp_call 15 _ _ rfl ent_flPath #[.agg #[.slice pa S.parts.length pc, .slice ca S.chans.length cc, .slice sa S.slots.length sc], .int .i64 ef, .int .i64 et] (by first | rfl | simp [Act.eval, Act.put]) ((flPath_any S ef et _ _ _ _ (he.up (D5.out.trans (RowKit.Below.refl _ _).drew)) (HS.out.up (D5.out.trans (RowKit.Below.refl _ _).drew))).mono ?_)
      rintro e V1 ⟨vq, rfl, hqs, bb, _⟩
      have HV : Hid (RowKit.Below w5.heap.size w5 V1) := Lib.hid (RowKit.Below.trans (RowKit.Below.refl _ _).drew bb)
      obtain ⟨qa, qc, rfl⟩ := hqs.form
      have HQS := Lib.hid hqs
      refine ⟨_, rfl, hK _ _ (fun _ => ⟨HB5.out.up HV.out, bcl HV.out hlb l0, bcl HV.out hlb l1⟩) (fun hh => ?_)⟩
      have hHeld := hh (by decide)
      clear hK K hh hqs bb
      try simp only [Act.put, List.getElem_toArray, List.getElem_cons_zero, List.getElem_cons_succ, List.setIfInBounds_toArray, List.set_cons_zero, List.set_cons_succ]
      refine Still.takeBy (i := 10) [] (v := ?v10) (by kernel_rfl) (by kernel_rfl) rfl (by kernel_rfl) (by kernel_rfl) (by kernel_rfl) (fun _ _ _ h => h) (Or.inl ⟨by rfl, ?y10⟩) hHeld ?r10
      case y10 => (intro w' hSw; (try dsimp only at hSw); obtain ⟨hbx, q3, q4⟩ := hSw; have q0 := hbx.p; have q1 := hbx.c; have q2 := hbx.s; clear hbx; go_simp; try with_reducible rfl)
      simp only [Act.put, List.getElem_toArray, List.getElem_cons_zero, List.getElem_cons_succ, List.setIfInBounds_toArray, List.set_cons_zero, List.set_cons_succ]
      refine Still.takeBy (i := 11) [] (v := ?v11) (by kernel_rfl) (by kernel_rfl) rfl (by kernel_rfl) (by kernel_rfl) (by kernel_rfl) (fun _ _ _ h => h) (Or.inl ⟨by rfl, ?y11⟩) hHeld ?r11
      case y11 => (intro w' hSw; (try dsimp only at hSw); obtain ⟨hbx, q3, q4⟩ := hSw; have q0 := hbx.p; have q1 := hbx.c; have q2 := hbx.s; clear hbx; go_simp; try with_reducible rfl)
      simp only [Act.put, List.getElem_toArray, List.getElem_cons_zero, List.getElem_cons_succ, List.setIfInBounds_toArray, List.set_cons_zero, List.set_cons_succ]
      refine Still.takeBy (i := 12) [] (v := ?v12) (by kernel_rfl) (by kernel_rfl) rfl (by kernel_rfl) (by kernel_rfl) (by kernel_rfl) (fun _ _ _ h => h) (Or.inl ⟨by rfl, ?y12⟩) hHeld ?r12
      case y12 => (intro w' hSw; (try dsimp only at hSw); obtain ⟨hbx, q3, q4⟩ := hSw; have q0 := hbx.p; have q1 := hbx.c; have q2 := hbx.s; clear hbx; go_simp; try with_reducible rfl)
      simp only [Act.put, List.getElem_toArray, List.getElem_cons_zero, List.getElem_cons_succ, List.setIfInBounds_toArray, List.set_cons_zero, List.set_cons_succ]
      refine Still.takeBy (i := 13) [] (v := ?v13) (by kernel_rfl) (by kernel_rfl) rfl (by kernel_rfl) (by kernel_rfl) (by kernel_rfl) (fun _ _ _ h => h) (Or.inl ⟨by rfl, ?y13⟩) hHeld ?r13
      case y13 => (intro w' hSw; (try dsimp only at hSw); obtain ⟨hbx, q3, q4⟩ := hSw; have q0 := hbx.p; have q1 := hbx.c; have q2 := hbx.s; clear hbx; go_simp; try with_reducible rfl)
      simp only [Act.put, List.getElem_toArray, List.getElem_cons_zero, List.getElem_cons_succ, List.setIfInBounds_toArray, List.set_cons_zero, List.set_cons_succ]
      refine Still.takeBy (i := 14) [] (v := ?v14) (by kernel_rfl) (by kernel_rfl) rfl (by kernel_rfl) (by kernel_rfl) (by kernel_rfl) (fun _ _ _ h => h) (Or.inl ⟨by rfl, ?y14⟩) hHeld ?r14
      case y14 => (intro w' hSw; (try dsimp only at hSw); obtain ⟨hbx, q3, q4⟩ := hSw; have q0 := hbx.p; have q1 := hbx.c; have q2 := hbx.s; clear hbx; go_simp; try with_reducible rfl)
      simp only [Act.put, List.getElem_toArray, List.getElem_cons_zero, List.getElem_cons_succ, List.setIfInBounds_toArray, List.set_cons_zero, List.set_cons_succ]
      refine Still.takeBy (i := 15) [] (v := ?v15) (by kernel_rfl) (by kernel_rfl) rfl (by kernel_rfl) (by kernel_rfl) (by kernel_rfl) (fun _ _ _ h => h) (Or.inl ⟨by rfl, ?y15⟩) hHeld ?r15
      case y15 => (intro w' hSw; (try dsimp only at hSw); obtain ⟨hbx, q3, q4⟩ := hSw; have q0 := hbx.p; have q1 := hbx.c; have q2 := hbx.s; clear hbx; go_simp; try with_reducible rfl)
      simp only [Act.put, List.getElem_toArray, List.getElem_cons_zero, List.getElem_cons_succ, List.setIfInBounds_toArray, List.set_cons_zero, List.set_cons_succ]
      refine Still.all (rs := [16]) (by kernel_rfl) (by simp) (Still.one (i := 16) rfl rfl (fun K hK => ?_) (by simp))
      go_simp
      refine hK _ _ (fun h => absurd rfl h) (fun _ => ?_)
      clear hK K
      refine Still.over (by kernel_rfl) ?_ _
      clear hHeld
      have HR46 := Lib.hid (HR45.out.up HV.out HR45.out.lt)
      have k4 := HR46.out.cell (j := 0) rfl
      have f4 := HR46.out.fr 0
      go_wp2
      refine bodyPost_ret (results_row_tmp3 Tryd.results20 _ _ (w.heap.size + 1 + 1) _ _ _ _ rfl rfl rfl rfl (run_loadVar_row _ _ 55 _ #[.slice none 0 0] (0, 0) _ (HR46.out.set 0 _) Tryd.underlying55 rfl sizeCert)) rfl ⟨.slice none 0 0, .slice qa (pathQ S ef et).length qc, by rw [HG.out]; rfl, by rw [HG.out]; exact SetsF.nil _ _, by rw [HG.out, ← HPQ.out]; exact HQS.out.same k4, (D5.out.trans (HV.out.mono D5.out.size)).setCell (by show w.heap.size ≤ w.heap.size + 1 + 1; omega) _⟩
    | nil =>
      clear HP
      go_wp2_with fail
      refine (reachers_any S.parts.length h4 (fun a b => reachB S a b) _ _ HM5.out).mono ?_
      rintro e w6 ⟨v6, rfl, hs6, bb⟩
      obtain ⟨sa6, sc6, rfl⟩ := hs6.form
      have HS6 := Lib.hid hs6
      have HR46 := Lib.hid (HR45.out.up bb HR45.out.lt)
      have D6 := Lib.hid (D5.out.trans (bb.mono D5.out.size))
      have k4 := HR46.out.cell (j := 0) rfl
      have f4 := HR46.out.fr 0
      clear hs6 bb t9d
      go_wp2
      refine bodyPost_ret (results_row_tmp3 Tryd.results20 _ _ (w.heap.size + 1 + 1) _ _ _ _ rfl rfl rfl rfl (run_loadVar_row _ _ 55 _ #[.slice sa6 (gath S.parts.length (pairsL S.parts.length fun a b => reachB S a b)).length sc6] (0, 0) _ (HR46.out.set 0 _) Tryd.underlying55 rfl sizeCert)) rfl ⟨.slice sa6 (gath S.parts.length (pairsL S.parts.length fun a b => reachB S a b)).length sc6, .slice none 0 0, by rw [HG.out]; rfl, by rw [HG.out]; exact (HS6.out.set (by omega) _).mono (by omega), by rw [HG.out]; exact Sl.nil _ _, D6.out.setCell (by show w.heap.size ≤ w.heap.size + 1 + 1; omega) _⟩
  · have h0' : (c != 0) = true := by simpa using h0
    have HO : Hid (certO S L = ⟨[], [], false⟩) := Lib.hid (by unfold certO; rw [if_neg (by rw [HC.out]; exact h0)])
    have H0 := Lib.hid h0
    clear h0
    go_wp2
    refine bodyPost_ret (results_row_tmp3 Tryd.results20 _ _ (w.heap.size + 1 + 1) _ _ _ _ rfl rfl rfl rfl (run_loadVar_row _ _ 55 _ #[.slice none 0 0] (0, 0) _ (HR4.out.set 0 _) Tryd.underlying55 rfl sizeCert)) rfl ⟨.slice none 0 0, .slice none 0 0, by rw [HO.out]; rfl, by rw [HO.out]; exact SetsF.nil _ _, by rw [HO.out]; exact Sl.nil _ _, D.out.setCell (by show w.heap.size ≤ w.heap.size + 1 + 1; omega) _, Lib.hid (fun h => absurd h H0.out)⟩
end Go.Proofs.YthpljbbhpbijgaaDoor
