/- cert.Certify. -/
import Derived.Test.YtbkdoohhdkahiaaGreatDoorJ23
namespace Go.Proofs.YtbkdoohhdkahiaaGreatDoor
set_option linter.unusedSimpArgs false
set_option linter.unusedVariables false
set_option maxRecDepth 100000
set_option maxHeartbeats 8000000
open Go.RowKit Go.Sort Go.Shelf Go.Lib Go.Maps
variable {P : Program} {fn : Func} {p q r : Tmp} {ty : TypeId} {w w' : World} {v : Value} {B a b j k n : Nat} {S : SysD} {L : List Edg}
theorem xwa : xav 40 := xa8 Tryz.func40 kr kr
theorem xhr : (Tryz.prog.info? 46).map (·.size) = some 1 := by kernel_rfl
theorem xd1 {s : Tmp} (h : fn.results = #[.cell p ty, .tmp q, .tmp r, .tmp s]) (tmps : Array Value) (w : World) (g : Nat) (v u x y : Value)
  (hp : tmps.getD p undef = .pointer (some ⟨g, 0, none⟩)) (hq : tmps.getD q undef = u) (hr : tmps.getD r undef = x) (hs : tmps.getD s undef = y) (hl : (loadVar ty ⟨g, 0, none⟩).run P w = .ok v w) : (results fn tmps).run P w = .ok (.tuple #[v, u, x, y]) w := by
 have hp' : tmps[p]?.getD undef = .pointer (some ⟨g, 0, none⟩) := by simpa using hp
 have hq' : tmps[q]?.getD undef = u := by simpa using hq
 have hr' : tmps[r]?.getD undef = x := by simpa using hr
 have hs' : tmps[s]?.getD undef = y := by simpa using hs
 simp [results, h, hp', hq', hr', hs', asAddr, hl]
theorem xfv (h : fn.results = #[.cell p ty, .tmp q, .tmp r]) (tmps : Array Value) (w : World) (g : Nat) (v u x : Value)
  (hp : tmps.getD p undef = .pointer (some ⟨g, 0, none⟩)) (hq : tmps.getD q undef = u) (hr : tmps.getD r undef = x) (hl : (loadVar ty ⟨g, 0, none⟩).run P w = .ok v w) : (results fn tmps).run P w = .ok (.tuple #[v, u, x]) w := by
 have hp' : tmps[p]?.getD undef = .pointer (some ⟨g, 0, none⟩) := by simpa using hp
 have hq' : tmps[q]?.getD undef = u := by simpa using hq
 have hr' : tmps[r]?.getD undef = x := by simpa using hr
 simp [results, h, hp', hq', hr', asAddr, hl]
theorem Sl.same {size : Nat} {xs : List Value} (h : Sl w size v n xs) {c j : Nat} {u : Value} (hu : w.cell? ⟨c, j, none⟩ = some u) : Sl (w.setCell ⟨c, j, none⟩ u) size v n xs := by
 obtain ⟨h1, ao, cap, rfl, h3, h4⟩ := h
 refine ⟨h1, ao, cap, rfl, h3, fun hn => ?_⟩
 obtain ⟨b, off, rfl, hlt, hc⟩ := h4 hn
 refine ⟨b, off, rfl, by rw [xba]; exact hlt, fun k u' hk => ?_⟩
 have h5 := hc k u' hk
 by_cases e : b = c /\ off + k = j
 .obtain ⟨rfl, rfl⟩ := e
  rw [h5] at hu
  injection hu with hu
  subst hu
  exact xym h5
 .exact xlw om h5
def xh3 (S : SysD) (L : List Edg) : List Edg := xee S.parts.length fun a b => xbf S a b && !(xlx L a b)
def xr5 (S : SysD) : List (List Int) := xjk S.parts.length (xee S.parts.length fun a b => xbf S a b)
structure CertOut where
 sets : List (List Int)
 path : List Int
 is : Bool
def xh5 (S : SysD) (L : List Edg) : CertOut := match xh3 S L with
 | [] => ⟨xr5 S, [], true⟩
 | e :: _ => ⟨[], xes S e.fr e.tt, false⟩
noncomputable def xdk (S : SysD) (L : List Edg) : CertOut := if xiq S L = 0 then xh5 S L else ⟨[], [], false⟩
theorem xwe {e : Edg} (h : e ∈ xh3 S L) : ∃ a b : Nat, a < S.parts.length /\ b < S.parts.length /\ e = ⟨a, b⟩ /\ xbf S a b = true /\ xlx L a b = false := by
 obtain ⟨a, b, ha, hb, rfl, hp⟩ := xtu h
 simp only [Bool.and_eq_true, Bool.not_eq_true'] at hp
 exact ⟨a, b, ha, hb, rfl, hp.1, hp.2⟩
theorem xvo (h : xb3 S = 0) (ha : a < S.parts.length) (hb : b < S.parts.length) : xfn S a b = 0 := by
 refine xsm h ?_ ?_
 .unfold xaf; simp; omega
 .unfold xaf; simp; omega
theorem xrm (S : SysD) (L : List Edg) (vp vc vs vL : Value) (w : World) (he : Env w) (hS : Sys w vp vc vs S) (hL : Sl w 2 vL L.length (xbe Edg.cells L)) :
  Calls Tryz.prog 11 #[.agg #[vp, vc, vs], .agg #[vL]] w fun e w' => ∃ vS vP, e = .returned (.tuple #[.agg #[vS], vP, .bool (xdk S L).is, .int .i64 (xiq S L)]) /\ SetsF w.heap.size w' vS (xdk S L).sets /\ Sl w' 1 vP (xdk S L).path.length (xar (xdk S L).path) /\ Below w.heap.size w w' /\ Hid (xiq S L = 0 -> ∀ a b : Nat, a < S.parts.length -> b < S.parts.length -> ∃ l, xdj (xcq S) a b l (xbf S a b)) := by
 generalize hc : xiq S L = c
 obtain ⟨pa, pc, rfl⟩ := hS.p.form
 obtain ⟨ca, cc, rfl⟩ := hS.c.form
 obtain ⟨sa, sc, rfl⟩ := hS.s.form
 obtain ⟨la, lc, rfl⟩ := hL.form
 have HS := hd hS
 have HC := hd hc
 have HL := hd hL
 clear hS hc hL
 go_enter Tryz.func11, Tryz.ntmps11
 go_wp2_with fail
 refine (xrh S L _ _ _ _ _ (he.up up0) (HS.out.up up0) (HL.out.up up0)).mono ?_
 rw [HC.out]
 rintro e w1 ⟨rfl, bb⟩
 have HB := hd (((xci w (.slice pa S.parts.length pc) (.slice ca S.chans.length cc) (.slice sa S.slots.length sc) 39 _ rfl).up (((Below.refl _ _).alloc (Nat.le_refl _) (.cells #[.slice la L.length lc] 27)).alloc (by simp) (.cells #[.slice none 0 0] 46))).up bb)
 have b3 : Below ((w.alloc (.cells #[.slice pa S.parts.length pc, .slice ca S.chans.length cc, .slice sa S.slots.length sc] 39)).alloc (.cells #[.slice la L.length lc] 27)).heap.size ((w.alloc (.cells #[.slice pa S.parts.length pc, .slice ca S.chans.length cc, .slice sa S.slots.length sc] 39)).alloc (.cells #[.slice la L.length lc] 27)) w1 := Below.trans ((Below.refl _ _).alloc (Nat.le_refl _) _) (bb.mono (by simp))
 have k3 : w1.cell? ⟨w.heap.size + 1, 0, none⟩ = some (.slice la L.length lc) := bcl b3 (by simp) (by simp)
 have R4 : Rw w1 (w.heap.size + 1 + 1) 46 #[.slice none 0 0] := Rw.up (Rw.new _ _ _ (by simp)) bb (by simp)
 have hw1 : w.heap.size + 2 < w1.heap.size := by have := bb.size; simp at this; omega
 have D := hd (Below.trans (show Below w.heap.size w _ from up0) (bb.mono so))
 have k4 := R4.cell (j := 0) rfl
 have f4 := R4.fr 0
 have HR4 := hd R4
 clear bb b3 R4
 by_cases h0 : c = 0
 .subst h0
  obtain ⟨hch, hpu⟩ := xyj HC.out
  obtain ⟨h4, h1, hcl, _⟩ := xgv hch
  have hLl := xhq h4 hpu (Nat.le_refl _)
  have HCH := hd hch
  have HPU := hd hpu
  have HO : Hid (xdk S L = xh5 S L) := hd (by unfold xdk; rw [if_pos HC.out])
  clear hch hpu
  have k0 := HB.out.p
  have k1 := HB.out.c
  have k2 := HB.out.s
  go_wp2_with fail
  refine (xre S _ _ _ _ (he.up D.out) (HS.out.up D.out)).mono ?_
  rw [HCH.out, show xg7 S = S.parts.length by unfold xg7; rw [if_pos HCH.out]]
  rintro e w2 ⟨vm, rfl, hm, bb, HSRQ⟩
  obtain ⟨ma, mc, rfl⟩ := hm.form
  have HM := hd hm
  have HB2 := hd (HB.out.up bb)
  have k3b := bcl bb (by show w.heap.size + 1 < _; omega) k3
  have HR42 := hd (HR4.out.up bb HR4.out.lt)
  have hw2 : w.heap.size + 2 < w2.heap.size := by have := bb.size; omega
  have D2 := hd (D.out.trans (bb.mono D.out.size))
  clear bb hm HB k0 k1 k2 k3 k4 f4 hw1 D HR4
  have A2 : Below w2.heap.size w2 (w2.alloc (.cells #[.slice ma S.parts.length mc] 88)) := (Below.refl _ _).alloc (Nat.le_refl _) _
  have HB3 := hd (HB2.out.up A2)
  have k3c := bcl A2 (by show w.heap.size + 1 < _; omega) k3b
  have HR43 := hd (HR42.out.up A2 HR42.out.lt)
  have HM3 := hd (HM.out.up A2)
  have D3 := hd (D2.out.trans (A2.mono D2.out.size))
  have t9 : (w2.alloc (.cells #[.slice ma S.parts.length mc] 88)).cell? ⟨w2.heap.size, 0, none⟩ = some (.slice ma S.parts.length mc) := by simp
  have hX : w2.heap.size < (w2.alloc (.cells #[.slice ma S.parts.length mc] 88)).heap.size := by simp
  clear A2 HB2 k3b HR42 HM D2
  have k0 := HB3.out.p
  go_upto_region 5 with fail
  generalize w2.alloc (.cells #[.slice ma S.parts.length mc] 88) = X at HB3 k3c HR43 HM3 D3 t9 hX k0 ⊢
  go_wp2_with fail
  refine (xrj S.parts.length h4 L hLl (fun e he => x05 h4 HPU.out he) _ _ (HL.out.up D3.out)).mono ?_
  rintro e w3 ⟨sb, rfl, ⟨sn, hsy⟩, bb⟩
  have HB4 := hd (HB3.out.up bb)
  have HR44 := hd (HR43.out.up bb HR43.out.lt)
  have HM4 := hd (HM3.out.up bb)
  have HSY := hd hsy
  have t9b := bcl bb hX t9
  have D4 := hd (D3.out.trans (bb.mono D3.out.size))
  have hw3 : w2.heap.size < w3.heap.size := by have := bb.size; omega
  clear bb hsy HB3 HR43 HM3 t9 hX k0 k3c D3
  have A2 : Below w3.heap.size w3 (w3.alloc (.cells #[.map (some sb)] 92)) := (Below.refl _ _).alloc (Nat.le_refl _) _
  have HB3 := hd (HB4.out.up A2)
  have HR43 := hd (HR44.out.up A2 HR44.out.lt)
  have HM3 := hd (HM4.out.up A2)
  have HSY3 := hd (HSY.out.up A2)
  have t9c := bcl A2 hw3 t9b
  have D3 := hd (D4.out.trans (A2.mono D4.out.size))
  have t11 : (w3.alloc (.cells #[.map (some sb)] 92)).cell? ⟨w3.heap.size, 0, none⟩ = some (.map (some sb)) := by simp
  have hX : w3.heap.size < (w3.alloc (.cells #[.map (some sb)] 92)).heap.size := by simp
  clear A2 HB4 HR44 HM4 HSY t9b D4
  have k0 := HB3.out.p
  go_upto_region 6 with fail
  generalize w3.alloc (.cells #[.map (some sb)] 92) = Y at HB3 HR43 HM3 HSY3 D3 t9c t11 hX k0 ⊢
  go_wp2_with fail
  refine (xph S.parts.length h4 (fun a b => xbf S a b && !(xlx L a b)) 38 xo5 #[.pointer (some ⟨w2.heap.size, 0, none⟩), .pointer (some ⟨w3.heap.size, 0, none⟩)] _ (fun a b ha hb w1 hbl => xos S.parts.length a b _ _ sb sn h4 ha hb (fun a b => xbf S a b) L _ w1 (bcl hbl (by show w2.heap.size < Y.heap.size; omega) t9c) (bcl hbl hX t11) (HM3.out.up hbl) (HSY3.out.up hbl))).mono ?_
  rintro e w5 ⟨vP, rfl, hP, _, bb⟩
  have hP0 : Sl w5 2 vP (xh3 S L).length (xbe Edg.cells (xh3 S L)) := hP
  obtain ⟨qa, qc, rfl⟩ := hP0.form
  have HP := hd hP0
  have HB5 := hd (HB3.out.up bb)
  have HR45 := hd (HR43.out.up bb HR43.out.lt)
  have HM5 := hd (HM3.out.up bb)
  have t9d := bcl bb (by show w2.heap.size < Y.heap.size; omega) t9c
  have D5 := hd (D3.out.trans (bb.mono D3.out.size))
  have hw5 : w2.heap.size < w5.heap.size := by have := bb.size; omega
  clear bb hP hP0 HB3 HR43 HM3 HSY3 D3 t9c t11 hX k0
  have HLI : Hid (∀ e ∈ xh3 S L, ∃ a b : Nat, a < S.parts.length /\ b < S.parts.length /\ e = ⟨a, b⟩ /\ xbf S a b = true /\ xlx L a b = false) := hd (fun e he => xwe he)
  have HG : Hid (xdk S L = match xh3 S L with | [] => ⟨xr5 S, [], true⟩ | e :: _ => ⟨[], xes S e.fr e.tt, false⟩) := HO
  generalize xh3 S L = K0 at HP HLI HG ⊢
  cases K0 with
  | cons ed rest =>
   obtain ⟨x, y, hx, hy, rfl, _, _⟩ := HLI.out ed (by simp)
   obtain ⟨lb, lo, lcap, e1, hlc, hlb, hlx⟩ := HP.out.open (by simp)
   cases e1
   obtain ⟨l0, l1⟩ := xbq hlx 0 (by simp)
   simp only [List.getElem_cons_zero, Nat.zero_mul, Nat.add_zero] at l0 l1
   have HPE := hd (xvo HCH.out hx hy)
   have HPQ := hd ((xt3 (S := S) (a := x) (b := y) HPE.out).1)
   generalize hef : (x : Int) = ef at l0 HG HPQ HPE
   generalize het : (y : Int) = et at l1 HG HPQ HPE
   clear hef het hlx HP
   have hlen : (0 : Int) < (((⟨ef, et⟩ : Edg) :: rest).length : Int) := by first | (simp; done) | (simp; omega)
   go_upto_region 8 with fail
   refine xad (S := fun w' => Box w' w.heap.size (.slice pa S.parts.length pc) (.slice ca S.chans.length cc) (.slice sa S.slots.length sc) /\ w'.cell? ⟨lb, lo, none⟩ = some (.int .i64 ef) /\ w'.cell? ⟨lb, lo + 1, none⟩ = some (.int .i64 et)) 16 kr ⟨HB5.out.up (Below.refl _ _).drew, l0, l1⟩ (fun hHeld => ?_)
   refine Still.t 0 [] hHeld ?_ (hy := by (intro w' hSw; (try dsimp only at hSw); obtain ⟨hbx, q3, q4⟩ := hSw; have q0 := hbx.p; have q1 := hbx.c; have q2 := hbx.s; clear hbx; go_simp; try with_reducible rfl))
   refine Still.t 1 [] hHeld ?_ (hy := by (intro w' hSw; (try dsimp only at hSw); obtain ⟨hbx, q3, q4⟩ := hSw; have q0 := hbx.p; have q1 := hbx.c; have q2 := hbx.s; clear hbx; go_simp; try with_reducible rfl))
   refine Still.t 2 [] hHeld ?_ (hy := by (intro w' hSw; (try dsimp only at hSw); obtain ⟨hbx, q3, q4⟩ := hSw; have q0 := hbx.p; have q1 := hbx.c; have q2 := hbx.s; clear hbx; go_simp; try with_reducible rfl))
   refine Still.t 3 [] hHeld ?_ (hy := by (intro w' hSw; (try dsimp only at hSw); obtain ⟨hbx, q3, q4⟩ := hSw; have q0 := hbx.p; have q1 := hbx.c; have q2 := hbx.s; clear hbx; go_simp; try with_reducible rfl))
   refine Still.t 4 [] hHeld ?_ (hy := by (intro w' hSw; (try dsimp only at hSw); obtain ⟨hbx, q3, q4⟩ := hSw; have q0 := hbx.p; have q1 := hbx.c; have q2 := hbx.s; clear hbx; go_simp; try with_reducible rfl))
   refine Still.t 5 [] hHeld ?_ (hy := by (intro w' hSw; (try dsimp only at hSw); obtain ⟨hbx, q3, q4⟩ := hSw; have q0 := hbx.p; have q1 := hbx.c; have q2 := hbx.s; clear hbx; go_simp; try with_reducible rfl))
   refine Still.t 6 [] hHeld ?_ (hy := by (intro w' hSw; (try dsimp only at hSw); obtain ⟨hbx, q3, q4⟩ := hSw; have q0 := hbx.p; have q1 := hbx.c; have q2 := hbx.s; clear hbx; go_simp; try with_reducible rfl))
   refine Still.t 7 [] hHeld ?_ (hy := by (intro w' hSw; (try dsimp only at hSw); obtain ⟨hbx, q3, q4⟩ := hSw; have q0 := hbx.p; have q1 := hbx.c; have q2 := hbx.s; clear hbx; go_simp; try with_reducible rfl))
   refine Still.t 8 [] hHeld ?_ (hy := by (intro w' hSw; (try dsimp only at hSw); obtain ⟨hbx, q3, q4⟩ := hSw; have q0 := hbx.p; have q1 := hbx.c; have q2 := hbx.s; clear hbx; go_simp; try with_reducible rfl))
   refine Still.o 9 rfl rfl (fun K hK => ?_)
   refine xap 40 _ _ rfl xwa #[.agg #[.slice pa S.parts.length pc, .slice ca S.chans.length cc, .slice sa S.slots.length sc], .int .i64 ef, .int .i64 et] ev ((xu5 S ef et _ _ _ _ (he.up (D5.out.trans (Below.refl _ _).drew)) (HS.out.up (D5.out.trans (Below.refl _ _).drew))).mono ?_)
   rintro e V1 ⟨vq, rfl, hqs, bb, _⟩
   have HV : Hid (Below w5.heap.size w5 V1) := hd (Below.trans (Below.refl _ _).drew bb)
   obtain ⟨qa, qc, rfl⟩ := hqs.form
   have HQS := hd hqs
   refine ⟨_, rfl, hK _ _ (fun _ => ⟨HB5.out.up HV.out, bcl HV.out hlb l0, bcl HV.out hlb l1⟩) (fun hh => ?_)⟩
   have hHeld := hh (by decide)
   clear hK K hh hqs bb
   try simp only [Act.put, List.getElem_toArray, List.getElem_cons_zero, List.getElem_cons_succ, List.setIfInBounds_toArray, List.set_cons_zero, List.set_cons_succ]
   refine Still.t 10 [] hHeld ?_ (hy := by (intro w' hSw; (try dsimp only at hSw); obtain ⟨hbx, q3, q4⟩ := hSw; have q0 := hbx.p; have q1 := hbx.c; have q2 := hbx.s; clear hbx; go_simp; try with_reducible rfl))
   refine Still.t 11 [] hHeld ?_ (hy := by (intro w' hSw; (try dsimp only at hSw); obtain ⟨hbx, q3, q4⟩ := hSw; have q0 := hbx.p; have q1 := hbx.c; have q2 := hbx.s; clear hbx; go_simp; try with_reducible rfl))
   refine Still.t 12 [] hHeld ?_ (hy := by (intro w' hSw; (try dsimp only at hSw); obtain ⟨hbx, q3, q4⟩ := hSw; have q0 := hbx.p; have q1 := hbx.c; have q2 := hbx.s; clear hbx; go_simp; try with_reducible rfl))
   refine Still.t 13 [] hHeld ?_ (hy := by (intro w' hSw; (try dsimp only at hSw); obtain ⟨hbx, q3, q4⟩ := hSw; have q0 := hbx.p; have q1 := hbx.c; have q2 := hbx.s; clear hbx; go_simp; try with_reducible rfl))
   refine Still.t 14 [] hHeld ?_ (hy := by (intro w' hSw; (try dsimp only at hSw); obtain ⟨hbx, q3, q4⟩ := hSw; have q0 := hbx.p; have q1 := hbx.c; have q2 := hbx.s; clear hbx; go_simp; try with_reducible rfl))
   refine Still.t 15 [] hHeld ?_ (hy := by (intro w' hSw; (try dsimp only at hSw); obtain ⟨hbx, q3, q4⟩ := hSw; have q0 := hbx.p; have q1 := hbx.c; have q2 := hbx.s; clear hbx; go_simp; try with_reducible rfl))
   refine Still.o 16 rfl rfl (fun K hK => ?_)
   go_simp
   refine hK _ _ ab (fun _ => Still.vv ?_)
   clear hK K
   clear hHeld
   have HR46 := hd (HR45.out.up HV.out HR45.out.lt)
   have k4 := HR46.out.cell (j := 0) rfl
   have f4 := HR46.out.fr 0
   go_wp2
   refine bodyPost_ret (xd1 Tryz.results11 _ _ (w.heap.size + 1 + 1) _ _ _ _ rfl rfl rfl rfl (run_loadVar_row _ _ 46 _ #[.slice none 0 0] (0, 0) _ (HR46.out.set 0 _) Tryz.underlying46 rfl xhr)) rfl ⟨.slice none 0 0, .slice qa (xpk S ef et).length qc, by rw [HG.out]; rfl, by rw [HG.out]; exact SetsF.nil _ _, by rw [HG.out, <- HPQ.out]; exact HQS.out.same k4, (D5.out.trans (HV.out.mono D5.out.size)).setCell (by show w.heap.size <= w.heap.size + 1 + 1; omega) _⟩
  | nil =>
   clear HP
   go_wp2_with fail
   refine (xop S.parts.length h4 (fun a b => xbf S a b) _ _ HM5.out).mono ?_
   rintro e w6 ⟨v6, rfl, hs6, bb⟩
   obtain ⟨sa6, sc6, rfl⟩ := hs6.form
   have HS6 := hd hs6
   have HR46 := hd (HR45.out.up bb HR45.out.lt)
   have D6 := hd (D5.out.trans (bb.mono D5.out.size))
   have k4 := HR46.out.cell (j := 0) rfl
   have f4 := HR46.out.fr 0
   clear hs6 bb t9d
   go_wp2
   refine bodyPost_ret (xd1 Tryz.results11 _ _ (w.heap.size + 1 + 1) _ _ _ _ rfl rfl rfl rfl (run_loadVar_row _ _ 46 _ #[.slice sa6 (xjk S.parts.length (xee S.parts.length fun a b => xbf S a b)).length sc6] (0, 0) _ (HR46.out.set 0 _) Tryz.underlying46 rfl xhr)) rfl ⟨.slice sa6 (xjk S.parts.length (xee S.parts.length fun a b => xbf S a b)).length sc6, .slice none 0 0, by rw [HG.out]; rfl, by rw [HG.out]; exact (HS6.out.set om _).mono om, by rw [HG.out]; exact Sl.nil _ _, D6.out.setCell (by show w.heap.size <= w.heap.size + 1 + 1; omega) _⟩
 .have h0' : (c != 0) = true := by simpa using h0
  have HO : Hid (xdk S L = ⟨[], [], false⟩) := hd (by unfold xdk; rw [if_neg (by rw [HC.out]; exact h0)])
  have H0 := hd h0
  clear h0
  go_wp2
  refine bodyPost_ret (xd1 Tryz.results11 _ _ (w.heap.size + 1 + 1) _ _ _ _ rfl rfl rfl rfl (run_loadVar_row _ _ 46 _ #[.slice none 0 0] (0, 0) _ (HR4.out.set 0 _) Tryz.underlying46 rfl xhr)) rfl ⟨.slice none 0 0, .slice none 0 0, by rw [HO.out]; rfl, by rw [HO.out]; exact SetsF.nil _ _, by rw [HO.out]; exact Sl.nil _ _, D.out.setCell (by show w.heap.size <= w.heap.size + 1 + 1; omega) _, hd (fun h => absurd h H0.out)⟩
theorem xz2 : xav 33 := xa8 Tryz.func33 kr kr
def xg2 : List Edg := [⟨0, 1⟩, ⟨0, 2⟩, ⟨1, 0⟩, ⟨1, 2⟩]
def x5l : List (List Int) := [[0, 1], [0, 1], [0, 1, 2], [3]]
theorem xzs (w : World) : Calls Tryz.prog 33 #[] w fun e w' => ∃ v, e = .returned (.agg #[v]) /\ Sl w' 2 v xg2.length (xbe Edg.cells xg2) /\ Below w.heap.size w w' := by
 go_enter Tryz.func33, Tryz.ntmps33
 go_wp2
 refine bodyPost_ret (v := .agg #[.slice (some ⟨w.heap.size + 1, 0, none⟩) 4 4]) (by simp [results, Tryz.f33, go_sem]) rfl ⟨_, rfl, ?_, up0⟩
 first
  | exact xfx _ (xbe Edg.cells xg2) _ _ 4 2 (by simp) rfl
  | exact (xfx _ (xbe Edg.cells xg2) _ _ 4 2 (by simp) rfl).set _ (by simp [Value.ownBlock])
theorem xyc {α : Type} {l : List α} {d : α} (h : j < l.length) : l.getD j d = l[j] := by simp [List.getD, h]
def polC (n : Nat) (L : List Edg) : Bool := (List.range L.length).all fun j => xaf (L.getD j ⟨0, 0⟩).fr 0 ((n : Int) - 1) && xaf (L.getD j ⟨0, 0⟩).tt 0 ((n : Int) - 1) && !((L.getD j ⟨0, 0⟩).fr == (L.getD j ⟨0, 0⟩).tt) && (j == 0 || xhk (L.getD (j - 1) ⟨0, 0⟩) (L.getD j ⟨0, 0⟩))
theorem xwz (h : polC n L = true) : xio n L L.length := by
 intro j hj _
 have := List.all_eq_true.1 h j (List.mem_range.2 hj)
 simp only [xyc hj, xyc (show j - 1 < L.length by omega), Bool.and_eq_true, Bool.not_eq_true', Bool.or_eq_true, beq_iff_eq, beq_eq_false_iff_ne] at this
 exact ⟨⟨this.1.1.1, this.1.1.2, this.1.2⟩, fun h0 => this.2.resolve_left om⟩
def setC (n : Nat) (l : List Int) : Bool := (List.range l.length).all fun j => xaf (l.getD j 0) 0 ((n : Int) - 1) && (j == 0 || decide (l.getD (j - 1) 0 < l.getD j 0))
theorem x41 : xiq xbm xg2 = 0 := xky xgh (xkl (xwz (by decide +kernel)))
theorem x47 : xh3 xbm xg2 = [] := by decide +kernel
theorem x4r : xdk xbm xg2 = ⟨x5l, [], true⟩ := by
 unfold xdk xh5
 rw [if_pos x41, x47]
 have : xr5 xbm = x5l := by decide +kernel
 show (⟨xr5 xbm, [], true⟩ : CertOut) = _
 rw [this]
theorem xx2 (h : xiq S L = 0) : S.parts.length <= 4 /\ S.chans.length <= 6 /\ L.length <= 16 := by
 obtain ⟨hch, hpu⟩ := xyj h
 obtain ⟨h4, _, hcl, _⟩ := xgv hch
 exact ⟨h4, hcl, xhq h4 hpu (Nat.le_refl _)⟩
theorem xt1 {p : Nat -> Nat -> Bool} {m : Nat} (h : ∀ b, b < m -> p a b = false) : xm9 p a m = [] := by
 induction m with
 | zero => rfl
 | succ m ih => rw [xh0, ih (fun b hb => h b om), h m om]; rfl
theorem xtr {p : Nat -> Nat -> Bool} (h : ∀ a b, a < k -> b < n -> p a b = false) : xnz p n k = [] := by
 induction k with
 | zero => rfl
 | succ k ih => rw [xgd, ih (fun a b ha hb => h a b om hb), xt1 (fun b hb => h k b om hb)]; rfl
theorem xyh {p : Nat -> Nat -> Bool} (h : ∀ c, c < b -> p a c = false) (hp : p a b = true) : ∀ m, b < m -> (xm9 p a m).head? = some ⟨a, b⟩ := by
 intro m
 induction m with
 | zero => intro h; omega
 | succ m ih =>
  intro hm
  rw [xh0]
  by_cases e : b = m
  .subst e
   rw [xt1 h, hp]
   rfl
  .have := ih om
   cases hr : xm9 p a m with
   | nil => rw [hr] at this; cases this
   | cons x r => rw [hr] at this; simpa using this
theorem xvj {p : Nat -> Nat -> Bool} (ha : a < n) (hb : b < n) (h1 : ∀ c d, c < a -> d < n -> p c d = false) (h2 : ∀ d, d < b -> p a d = false) (hp : p a b = true) : (xee n p).head? = some ⟨a, b⟩ := by
 have key : ∀ k, a < k -> (xnz p n k).head? = some ⟨a, b⟩ := by
  intro k
  induction k with
  | zero => intro h; omega
  | succ k ih =>
   intro hk
   rw [xgd]
   by_cases e : a = k
   .subst e
    rw [xtr h1, List.nil_append]
    exact xyh h2 hp n hb
   .have := ih om
    cases hr : xnz p n k with
    | nil => rw [hr] at this; cases this
    | cons x r => rw [hr] at this; simpa using this
 exact key n ha
theorem xt8 (h : (xh3 S L).head? = some ⟨a, b⟩) : xh5 S L = ⟨[], xes S a b, false⟩ := by
 unfold xh5
 cases hr : xh3 S L with
 | nil => rw [hr] at h; cases h
 | cons x r =>
  rw [hr] at h
  injection h with h
  subst h
  rfl
theorem xwv (h : xh3 S L = []) : xh5 S L = ⟨xr5 S, [], true⟩ := by
 unfold xh5
 rw [h]
def xqi (p : Nat -> Nat -> Bool) (k b : Nat) : List Int := ((List.range k).filter fun a => p a b).map fun (a : Nat) => (a : Int)
theorem xpx (p : Nat -> Nat -> Bool) (k b : Nat) : xqi p (k + 1) b = xqi p k b ++ if p k b then [(k : Int)] else [] := by
 unfold xqi
 rw [List.range_succ, List.filter_append, List.map_append]
 congr 1
 by_cases h : p k b = true
 .simp [h]
 .simp [h]
theorem x1z (p : Nat -> Nat -> Bool) (k b : Nat) : (xqi p k b).length <= k := by
 unfold xqi
 rw [List.length_map]
 refine Nat.le_trans (List.length_filter_le _ _) ?_
 simp
theorem x24 (p : Nat -> Nat -> Bool) (a b : Nat) : ∀ m, ((xm9 p a m).filter fun e => e.tt == (b : Int)).map (·.fr) = if b < m /\ p a b = true then [(a : Int)] else [] := by
 intro m
 induction m with
 | zero => simp [xm9]
 | succ m ih =>
  rw [xh0, List.filter_append, List.map_append, ih]
  by_cases e : b = m
  .subst e
   by_cases h : p a b = true
   .simp [h]
   .simp [h]
  .have e2 : ¬ ((m : Int) = (b : Int)) := by omega
   have e3 : (b < m + 1 /\ p a b = true) ↔ (b < m /\ p a b = true) := by constructor <;> (rintro ⟨h1, h2⟩; exact ⟨by omega, h2⟩)
   by_cases h : p a m = true
   .simp [h, e2, e3]
   .simp [h, e3]
theorem x3k (p : Nat -> Nat -> Bool) (n b : Nat) (hb : b < n) : ∀ k, ((xnz p n k).filter fun e => e.tt == (b : Int)).map (·.fr) = xqi p k b := by
 intro k
 induction k with
 | zero => rfl
 | succ k ih =>
  rw [xgd, List.filter_append, List.map_append, ih, x24, xpx]
  simp [hb]
theorem x3x (n : Nat) (p : Nat -> Nat -> Bool) : xjk n (xee n p) = (List.range n).map (xqi p n) := by
 unfold xjk
 apply List.map_congr_left
 intro b hb
 exact x3k p n b (List.mem_range.1 hb) n
theorem xvw (S : SysD) (hp : S.parts.length <= 4) (hl : S.chans.length <= 6) (a b : Int) (ha : 0 <= a /\ a < S.parts.length) (vp vc vs : Value) (w : World) (hS : Sys w vp vc vs S) :
  Calls Tryz.prog 61 #[.agg #[vp, vc, vs], .int .i64 a, .int .i64 b] w fun e w' => ∃ v, e = .returned (.tuple #[v, .bool (xne S a b)]) /\ Sl w' 1 v (xes S a b).length (xar (xes S a b)) /\ (∀ c, v.ownBlock = some c -> w.heap.size <= c) /\ Below w.heap.size w w' := by
 obtain ⟨i1, hi1, hy0, hy1, hy2⟩ := xaj xrd
 obtain ⟨pa, pc, rfl⟩ := hS.p.form
 obtain ⟨ca, cc, rfl⟩ := hS.c.form
 obtain ⟨sa, sc, rfl⟩ := hS.s.form
 have HS := Lib.hid hS
 have HA := Lib.hid ha
 clear hS ha
 go_enter Tryz.func61, Tryz.ntmps61
 go_wp2
 go_loopw [8] (fun i wr => ∃ k : Nat, i = .int .i64 k /\ k <= S.parts.length /\ Hid (∀ j : Nat, j < k -> xaz S j a b = false) /\ Hid (Box wr w.heap.size (.slice pa S.parts.length pc) (.slice ca S.chans.length cc) (.slice sa S.slots.length sc)) /\ Hid (Below w.heap.size w wr)) (fun i _ => S.parts.length - (intOf i).toNat)
 case atStart => exact ⟨0, rfl, Nat.zero_le _, fun j h => by omega, xci w _ _ _ _ _ rfl, up0⟩
 case round =>
  obtain ⟨k, rfl, hk, HNO, HB, HT⟩ := hrel
  have k0 := HB.out.p
  have k1 := HB.out.c
  have k2 := HB.out.s
  by_cases hlt : k < S.parts.length
  .have hli : (k : Int) < S.parts.length := by omega
   go_wp2_with fail
   refine (xfp S hp hl b k om _ _ _ _ _ (HS.out.up HT.out)).mono ?_
   rintro e w2 ⟨rfl, hb2⟩
   have HB2 := Lib.hid (HB.out.up hb2)
   have HT2 := Lib.hid (HT.out.trans (hb2.mono HT.out.size))
   clear HB HT hb2 k0 k1 k2
   cases hre : xaz S k a b with
   | true =>
    have HW := Lib.hid (xro HA.out hre HNO.out)
    have HP := Lib.hid (x2r hlt hre HNO.out)
    clear HNO
    go_wp2
    go_loopw [8, 10, 9] (fun n x l wr => ∃ (m : Nat) (z : Int) (zs : List Int), n = .int .i64 m /\ x = .int .i64 z /\ m <= k /\ Hid (zs.length + m = k) /\ Hid (OnWay S a b k m z zs) /\ Hid (wr.ownsRow (w.heap.size + 1) 3 1 l (zs ++ [z]).length (xar (zs ++ [z]))) /\ Hid (Box wr w.heap.size (.slice pa S.parts.length pc) (.slice ca S.chans.length cc) (.slice sa S.slots.length sc)) /\ Hid (Below w.heap.size w wr)) (fun n _ _ _ => (intOf n).toNat)
    case atStart => exact ⟨k, a, [], rfl, rfl, Nat.le_refl _, Lib.hid (by simp), HW, Lib.hid (xau (xwi w2 a) (by have := HB2.out.lt; omega)), Lib.hid (HB2.out.up ((Below.refl _ _).alloc (Nat.le_refl _) _)), Lib.hid (HT2.out.alloc HT2.out.size _)⟩
    case round =>
     clear HB2 HT2 HW
     obtain ⟨m, z, zs, rfl, rfl, hm, HL, HW, HO, HB, HT⟩ := hrel
     obtain ⟨a3, c3, hform⟩ := xaq HO.out
     subst hform
     by_cases hzb : z = b
     .subst hzb
      have HE := Lib.hid (HW.out.none rfl)
      go_wp2
      go_ret2
      refine ⟨.slice a3 (zs ++ [z]).length c3, by rw [HP.out.2]; rfl, ?_, fun c e => Nat.le_of_succ_le (xab HO.out c e), HT.out⟩
      rw [HP.out.1, HE.out]
      exact xa7 HO.out
     .obtain ⟨m', rfl⟩ := HW.out.pos hzb
      generalize hN : ((m' + 1 : Nat) : Int) = N
      have hN1 : IntKind.i64.wrap (N - 1) = (m' : Int) := by
       simp [IntKind.wrap, IntKind.bits, IntKind.signed]; omega
      have hmN : m' < N.toNat := by omega
      have hzb' : (z != b) = true := by simpa using hzb
      have HLL : Hid ((zs ++ [z]).length <= 101) := Lib.hid (HW.out.len HL.out om)
      have HL2 : Hid ((zs ++ [z]).length + m' = k) := Lib.hid (by have := HL.out; simp; omega)
      have HW2 := Lib.hid (fun (c : Nat) h1 h2 h3 h4 => HW.out.next hzb (c := c) h1 h2 h3 h4)
      have HW3 := Lib.hid (HW.out.some hzb)
      clear hN HW HL
      generalize zs ++ [z] = ys at HO HLL HL2 HW2
      go_wp2
      go_loopw [11, 10, 9] (fun i x l wr => ∃ q : Nat, i = .int .i64 q /\ x = .int .i64 z /\ l = .slice a3 ys.length c3 /\ q <= S.parts.length /\ Hid (∀ j : Nat, j < q -> (xbx S z j && xaz S m' j b) = false) /\ Hid (wr.ownsRow (w.heap.size + 1) 3 1 (.slice a3 ys.length c3) ys.length (xar ys)) /\ Hid (Box wr w.heap.size (.slice pa S.parts.length pc) (.slice ca S.chans.length cc) (.slice sa S.slots.length sc)) /\ Hid (Below w.heap.size w wr)) (fun i _ _ _ => S.parts.length - (intOf i).toNat)
      case atStart => exact ⟨0, rfl, rfl, rfl, Nat.zero_le _, fun j h => by omega, HO, HB, HT⟩
      case round =>
       clear HO HB HT
       obtain ⟨q, rfl, rfl, rfl, hq, HNO, HO, HB, HT⟩ := hrel
       have k0 := HB.out.p
       have k1 := HB.out.c
       have k2 := HB.out.s
       by_cases hqlt : q < S.parts.length
       .have hqi : (q : Int) < S.parts.length := by omega
        go_wp2_with fail
        refine (xot S hl _ _ _ _ _ _ (HS.out.up HT.out)).mono ?_
        rintro e w3 ⟨rfl, hb3⟩
        have HB3 := Lib.hid (HB.out.up hb3)
        have HO3 := Lib.hid (xf3 HO.out hb3)
        have HT3 := Lib.hid (HT.out.trans (hb3.mono HT.out.size))
        clear HB HT HO hb3 k0 k1 k2
        have k0 := HB3.out.p
        have k1 := HB3.out.c
        have k2 := HB3.out.s
        cases hle : xbx S z q with
        | true =>
         go_wp2_with fail
         refine (xfp S hp hl b m' om _ _ _ _ _ (HS.out.up HT3.out)).mono ?_
         rintro e w4 ⟨rfl, hb4⟩
         have HB4 := Lib.hid (HB3.out.up hb4)
         have HO4 := Lib.hid (xf3 HO3.out hb4)
         have HT4 := Lib.hid (HT3.out.trans (hb4.mono HT3.out.size))
         clear HB3 HT3 HO3 hb4 k0 k1 k2
         cases hre2 : xaz S m' q b with
         | true =>
          have HW5 := Lib.hid (HW2.out q hqlt hle hre2 HNO.out)
          have hw4 := HT4.out.size
          have hb4l := HB4.out.lt
          have HO5 := Lib.hid (HO4.out.alloc (.cells #[.int .i64 q] 3))
          go_wp2_with (at_builtin; refine wpList_append_lies _ rfl (.tmp 52) (.tmp 54) 41 rfl (w.heap.size + 1) 3 i1 (.int .i64 0) 1 8 Tryz.underlying41 hi1 hy0 hy1 hy2 rfl (by decide) _ ys.length (xar ys) rfl HO5.out ⟨w4.heap.size, 0, none⟩ 1 1 [.int .i64 q] rfl rfl (xbs _ _ _ _ rfl) (xfe _) (by decide) (by have := HLL.out; unfold maxLen; omega) (by have := HLL.out; omega) so _ rfl ?_)
          intro g5 cap5 W5 hown hgrow hat hg5
          have HO6 : Hid (W5.ownsRow (w.heap.size + 1) 3 1 (.slice (some ⟨g5, 0, none⟩) (ys.length + 1) cap5) (ys ++ [(q : Int)]).length (xar (ys ++ [(q : Int)]))) := Lib.hid (by simpa [xar] using hown)
          have HT6 := Lib.hid ((HT4.out.alloc hw4 _).grown hgrow so (fun q e => by have := xab HO5.out q e; omega))
          have HB6 := Lib.hid ((HB4.out.up ((Below.refl _ _).alloc (Nat.le_refl _) _)).grownF hgrow (fun e => by have := xab HO5.out _ e.symm; omega))
          clear hown hgrow hat HO4 HO5 HT4 HB4
          go_wp2
          go_roundw
          case rel => exact ⟨m', (q : Int), ys, by first | rfl | (rw [hN1]), rfl, by omega, HL2, HW5, HO6, HB6, HT6⟩
          case measure => simp [intOf]; omega
         | false =>
          have HN2 : Hid (∀ j : Nat, j < q + 1 -> (xbx S z j && xaz S m' j b) = false) := Lib.hid (fun j hj => by
           by_cases e : j = q
           .subst e; rw [hre2, Bool.and_false]
           .exact HNO.out j om)
          clear HNO
          go_wp2
          go_roundw
          case rel => exact ⟨q + 1, by go_num, rfl, rfl, by omega, HN2, HO4, HB4, HT4⟩
          case measure => simp [intOf]; omega
        | false =>
         have HN2 : Hid (∀ j : Nat, j < q + 1 -> (xbx S z j && xaz S m' j b) = false) := Lib.hid (fun j hj => by
          by_cases e : j = q
          .subst e; rw [hle, Bool.false_and]
          .exact HNO.out j om)
         clear HNO
         go_wp2
         go_roundw
         case rel => exact ⟨q + 1, by go_num, rfl, rfl, by omega, HN2, HO3, HB3, HT3⟩
         case measure => simp [intOf]; omega
       .exact (HW3.out (fun d hd => HNO.out d om)).elim
   | false =>
    have HN2 : Hid (∀ j : Nat, j < k + 1 -> xaz S j a b = false) := Lib.hid (fun j hj => by
     by_cases e : j = k
     .subst e; exact hre
     .exact HNO.out j om)
    clear HNO
    go_wp2
    go_roundw
    case rel => exact ⟨k + 1, by go_num, by omega, HN2, HB2, HT2⟩
    case measure => simp [intOf]; omega
  .have hli : ¬ (k : Int) < S.parts.length := by omega
   have HP := Lib.hid (x4b (S := S) (a := a) (b := b) (fun j hj => HNO.out j om))
   go_wp2
   go_ret2
   refine ⟨.slice none 0 0, by rw [HP.out.2]; rfl, ?_, (fun c e => by cases e), HT.out⟩
   rw [HP.out.1]
   exact Sl.nil _ _
def TabI (w : World) (B : Nat) (v : Value) (f : Nat -> List Int) (k : Nat) : Prop :=
 ∃ vs : List Value, vs.length = k /\ w.ownsRow B 41 1 v k vs /\ ∀ a (h : a < vs.length), Sl w 1 vs[a] (f a).length (xar (f a)) /\ ∀ b, vs[a].ownBlock = some b -> B <= b /\ v.ownBlock ≠ some b /\ b < w.heap.size
theorem TabI.up {f : Nat -> List Int} (h : TabI w B v f k) (hb : Below w.heap.size w w') : TabI w' B v f k := by
 obtain ⟨vs, h1, h2, h3⟩ := h
 exact ⟨vs, h1, xf3 h2 hb, fun a ha => ⟨(h3 a ha).1.up hb, fun b e => ⟨((h3 a ha).2 b e).1, ((h3 a ha).2 b e).2.1, Nat.lt_of_lt_of_le ((h3 a ha).2 b e).2.2 hb.size⟩⟩⟩
theorem xz1 (w : World) (B : Nat) (f : Nat -> List Int) : TabI w B (.slice none 0 0) f 0 := ⟨[], rfl, World.ownsRow_nil _ _ _ _, fun a h => absurd h (Nat.not_lt_zero _)⟩
theorem TabI.set {f : Nat -> List Int} {c : Nat} (h : TabI w B v f k) (hc : c < B) (u : Value) : TabI (w.setCell ⟨c, j, none⟩ u) B v f k := by
 obtain ⟨vs, h1, h2, h3⟩ := h
 refine ⟨vs, h1, xa2 h2 u (fun e => by have := xab h2 c e; omega), fun a ha => ⟨(h3 a ha).1.set u (fun e => by have := ((h3 a ha).2 c e).1; omega), fun b e => ⟨((h3 a ha).2 b e).1, ((h3 a ha).2 b e).2.1, by rw [xba]; exact ((h3 a ha).2 b e).2.2⟩⟩⟩
theorem TabI.add {f : Nat -> List Int} {g cap : Nat} {x : Value} {vs : List Value} (h1 : vs.length = k) (h3 : ∀ a (h : a < vs.length), Sl w 1 vs[a] (f a).length (xar (f a)) /\ ∀ b, vs[a].ownBlock = some b -> B <= b /\ v.ownBlock ≠ some b /\ b < w.heap.size)
  (ho : w'.ownsRow B 41 1 (.slice (some ⟨g, 0, none⟩) (k + 1) cap) (k + 1) (vs ++ [x])) (hg : w.grownBy w' v.ownBlock) (hat : v.ownBlock = some g \/ g = w.heap.size) (hx : Sl w 1 x (f k).length (xar (f k))) (hxb : ∀ b, x.ownBlock = some b -> B <= b /\ v.ownBlock ≠ some b /\ b < w.heap.size) :
  TabI w' B (.slice (some ⟨g, 0, none⟩) (k + 1) cap) f (k + 1) := by
 have far : ∀ b, B <= b /\ v.ownBlock ≠ some b /\ b < w.heap.size -> B <= b /\ (Value.slice (some ⟨g, 0, none⟩) (k + 1) cap).ownBlock ≠ some b /\ b < w'.heap.size := fun b ⟨e0, e1, e2⟩ => ⟨e0, fun e => by
  simp [Value.ownBlock] at e
  subst e
  rcases hat with hat | hat
  .exact e1 hat
  .omega, Nat.lt_of_lt_of_le e2 hg.size⟩
 refine ⟨vs ++ [x], by simp [h1], ho, fun a ha => ?_⟩
 by_cases hak : a < vs.length
 .rw [List.getElem_append_left hak]
  exact ⟨xe7 (h3 a hak).1 hg (fun b e => ((h3 a hak).2 b e).2.1), fun b e => far b ((h3 a hak).2 b e)⟩
 .have : a = k := by simp at ha; omega
  subst this
  rw [List.getElem_append_right om]
  simp only [h1, Nat.sub_self, List.getElem_cons_zero]
  exact ⟨xe7 hx hg (fun b e => (hxb b e).2.1), fun b e => far b (hxb b e)⟩
theorem TabI.f {C : Nat} {f : Nat -> List Int} (h : TabI w B v f k) (hc : C <= B) : SetsF C w v ((List.range k).map f) := by
 obtain ⟨vs, h1, h2, h3⟩ := h
 refine ⟨vs, by simp [h1], by simpa using xa7 h2, fun b e => Nat.le_trans hc (xab h2 b e), fun a ha ha' => ?_⟩
 have := (h3 a ha).1
 exact ⟨by simpa using this, fun b e => Nat.le_trans hc ((h3 a ha).2 b e).1⟩
theorem TabI.form {f : Nat -> List Int} (h : TabI w B v f k) : ∃ ao cap, v = .slice ao k cap := let ⟨_, _, h2, _⟩ := h; xaq h2
theorem TabI.lt {f : Nat -> List Int} (h : TabI w B v f k) (e : v.ownBlock = some b) : b < w.heap.size := let ⟨_, _, h2, _⟩ := h; (h2.lt b e).2
theorem xn6 (S : SysD) (h4 : S.parts.length <= 4) (hcl : S.chans.length <= 6) (L : List Edg) (hLl : L.length <= 16) (vp vc vs vL : Value) (w : World) (hS : Sys w vp vc vs S) (hL : Sl w 2 vL L.length (xbe Edg.cells L)) :
  Calls Tryz.prog 22 #[.agg #[vp, vc, vs], .agg #[vL]] w fun e w' => ∃ vS vP, e = .returned (.tuple #[.agg #[vS], vP, .bool (xh5 S L).is]) /\ SetsF w.heap.size w' vS (xh5 S L).sets /\ Sl w' 1 vP (xh5 S L).path.length (xar (xh5 S L).path) /\ NewB w.heap.size vP /\ Below w.heap.size w w' := by
 obtain ⟨i1, hi1, hy0, hy1, hy2⟩ := xaj xrd
 obtain ⟨i2, hi2, hb0, hb1, hb2⟩ := xaj xpc
 obtain ⟨pa, pc, rfl⟩ := hS.p.form
 obtain ⟨ca, cc, rfl⟩ := hS.c.form
 obtain ⟨sa, sc, rfl⟩ := hS.s.form
 obtain ⟨la, lc, rfl⟩ := hL.form
 go_enter Tryz.func22, Tryz.ntmps22
 go_upto_region 1 with fail
 have HB := Lib.hid ((xci w (.slice pa S.parts.length pc) (.slice ca S.chans.length cc) (.slice sa S.slots.length sc) 39 _ rfl).up (((Below.refl _ _).alloc (Nat.le_refl _) (.cells #[.slice la L.length lc] 27)).alloc (by simp) (.cells #[.slice none 0 0] 46)))
 have y3 : (((w.alloc (.cells #[.slice pa S.parts.length pc, .slice ca S.chans.length cc, .slice sa S.slots.length sc] 39)).alloc (.cells #[.slice la L.length lc] 27)).alloc (.cells #[.slice none 0 0] 46)).cell? ⟨w.heap.size + 1, 0, none⟩ = some (.slice la L.length lc) := bcl ((Below.refl _ _).alloc (Nat.le_refl _) _) (by simp) (by simp)
 have r4 : Rw (((w.alloc (.cells #[.slice pa S.parts.length pc, .slice ca S.chans.length cc, .slice sa S.slots.length sc] 39)).alloc (.cells #[.slice la L.length lc] 27)).alloc (.cells #[.slice none 0 0] 46)) (w.heap.size + 1 + 1) 46 #[.slice none 0 0] := Rw.new _ _ _ (by simp)
 have hw0 : w.heap.size + 2 < (((w.alloc (.cells #[.slice pa S.parts.length pc, .slice ca S.chans.length cc, .slice sa S.slots.length sc] 39)).alloc (.cells #[.slice la L.length lc] 27)).alloc (.cells #[.slice none 0 0] 46)).heap.size := by simp
 have D0 : Hid (Below w.heap.size w (((w.alloc (.cells #[.slice pa S.parts.length pc, .slice ca S.chans.length cc, .slice sa S.slots.length sc] 39)).alloc (.cells #[.slice la L.length lc] 27)).alloc (.cells #[.slice none 0 0] 46))) := Lib.hid up0
 generalize (((w.alloc (.cells #[.slice pa S.parts.length pc, .slice ca S.chans.length cc, .slice sa S.slots.length sc] 39)).alloc (.cells #[.slice la L.length lc] 27)).alloc (.cells #[.slice none 0 0] 46)) = W0 at HB y3 r4 hw0 D0 ⊢
 have HS := Lib.hid (hS.up D0.out)
 have HL := Lib.hid (hL.up D0.out)
 have HY3 := Lib.hid y3
 have HR4 := Lib.hid r4
 clear hS hL y3 r4
 go_wp2
 go_loopw [7] (fun i wr => ∃ a : Nat, i = .int .i64 a /\ a <= S.parts.length /\ Hid (∀ c d : Nat, c < a -> d < S.parts.length -> (xbf S c d && !(xlx L c d)) = false) /\ Hid (Below W0.heap.size W0 wr)) (fun i _ => S.parts.length - (intOf i).toNat)
 case atStart => exact ⟨0, rfl, Nat.zero_le _, Lib.hid (fun c d h => by omega), Lib.hid (Below.refl _ _)⟩
 case round =>
  obtain ⟨a, rfl, ha, HP, HT⟩ := hrel
  have hws := HT.out.size
  have k0 := (HB.out.up HT.out).p
  by_cases hlt : a < S.parts.length
  .have hli : (a : Int) < S.parts.length := by omega
   go_wp2
   clear k0
   go_loopw [8] (fun i wr => ∃ b : Nat, i = .int .i64 b /\ b <= S.parts.length /\ Hid (∀ d : Nat, d < b -> (xbf S a d && !(xlx L a d)) = false) /\ Hid (Below W0.heap.size W0 wr)) (fun i _ => S.parts.length - (intOf i).toNat)
   case atStart => exact ⟨0, rfl, Nat.zero_le _, Lib.hid (fun d h => by omega), HT⟩
   case round =>
    clear HT hws
    obtain ⟨b, rfl, hb, HQ, HT⟩ := hrel
    have hws := HT.out.size
    have k0 := (HB.out.up HT.out).p
    have k1 := (HB.out.up HT.out).c
    have k2 := (HB.out.up HT.out).s
    by_cases hbl : b < S.parts.length
    .have hbi : (b : Int) < S.parts.length := by omega
     have HST : Hid ((xbf S a b && !(xlx L a b)) = false -> ∀ d : Nat, d < b + 1 -> (xbf S a d && !(xlx L a d)) = false) := Lib.hid (fun h d hd => by
      by_cases e : d = b
      .subst e; exact h
      .exact HQ.out d om)
     go_wp2_with fail
     refine (xkk S h4 hcl a b _ _ _ _ (HS.out.up HT.out)).mono ?_
     rintro e w2 ⟨rfl, bb⟩
     have HT2 := Lib.hid (HT.out.trans (bb.mono HT.out.size))
     clear bb HT k0 k1 k2 hws
     have hws := HT2.out.size
     cases hr : xbf S a b with
     | false =>
      have HQ2 := Lib.hid (HST.out (by rw [hr]; rfl))
      clear HST HQ
      go_wp2
      go_roundw
      case rel => exact ⟨b + 1, by go_num, by omega, HQ2, HT2⟩
      case measure => simp [intOf]; omega
     | true =>
      have y3 := bcl HT2.out (by show w.heap.size + 1 < _; omega) HY3.out
      go_wp2_with fail
      refine (x4i L hLl a b _ _ (HL.out.up HT2.out)).mono ?_
      rintro e w3 ⟨rfl, bb⟩
      have HT3 := Lib.hid (HT2.out.trans (bb.mono HT2.out.size))
      clear bb HT2 y3 hws
      have hws := HT3.out.size
      cases hm : xlx L a b with
      | true =>
       have HQ2 := Lib.hid (HST.out (by rw [hr, hm]; rfl))
       clear HST HQ
       go_wp2
       go_roundw
       case rel => exact ⟨b + 1, by go_num, by omega, HQ2, HT3⟩
       case measure => simp [intOf]; omega
      | false =>
       have HG := Lib.hid (xt8 (S := S) (L := L) (xvj (p := fun a b => xbf S a b && !(xlx L a b)) hlt hbl HP.out HQ.out (by show (xbf S a b && !(xlx L a b)) = true; rw [hr, hm]; rfl)))
       have k0 := (HB.out.up HT3.out).p
       have k1 := (HB.out.up HT3.out).c
       have k2 := (HB.out.up HT3.out).s
       clear HST HQ HP
       go_wp2_with fail
       refine (xvw S h4 hcl a b om _ _ _ _ (HS.out.up HT3.out)).mono ?_
       rintro e w5 ⟨v5, rfl, hs5, hnb, bb⟩
       obtain ⟨qa, qc, rfl⟩ := hs5.form
       have HNB : Hid (NewB w.heap.size (.slice qa (xes S a b).length qc)) := Lib.hid (fun c e => by have := hnb c e; omega)
       clear hnb
       have HS5 := Lib.hid hs5
       have HT5 := Lib.hid (HT3.out.trans (bb.mono HT3.out.size))
       have HR5 := Lib.hid (HR4.out.up HT5.out HR4.out.lt)
       have k4 := HR5.out.cell (j := 0) rfl
       have f4 := HR5.out.fr 0
       clear bb hs5 HT3 k0 k1 k2
       go_wp2
       refine bodyPost_ret (xfv Tryz.results22 _ _ (w.heap.size + 1 + 1) _ _ _ rfl rfl rfl (run_loadVar_row _ _ 46 _ #[.slice none 0 0] (0, 0) _ (HR5.out.set 0 _) Tryz.underlying46 rfl xhr)) rfl ⟨.slice none 0 0, .slice qa (xes S a b).length qc, by rw [HG.out]; rfl, by rw [HG.out]; exact SetsF.nil _ _, by rw [HG.out]; exact HS5.out.same k4, HNB.out, (D0.out.trans (HT5.out.mono D0.out.size)).setCell (by show w.heap.size <= w.heap.size + 1 + 1; omega) _⟩
    .have hbi : ¬ (b : Int) < S.parts.length := by omega
     have HP2 : Hid (∀ c d : Nat, c < a + 1 -> d < S.parts.length -> (xbf S c d && !(xlx L c d)) = false) := Lib.hid (fun c d hc hd => by
      by_cases e : c = a
      .subst e; exact HQ.out d om
      .exact HP.out c d om hd)
     go_wp2
     go_roundw
     case rel => exact ⟨a + 1, by go_num, by omega, HP2, HT⟩
     case measure => simp [intOf]; omega
  .have hli : ¬ (a : Int) < S.parts.length := by omega
   have HG := Lib.hid (xwv (S := S) (L := L) (xtr (fun c d hc hd => HP.out c d om hd)))
   have HCS : Hid (xr5 S = (List.range S.parts.length).map (xqi (fun a b => xbf S a b) S.parts.length)) := Lib.hid (x3x _ _)
   clear HP
   obtain ⟨wo, hwo⟩ : ∃ wo, wo = wr := ⟨_, rfl⟩
   subst hwo
   go_wp2
   clear k0
   go_loopw [12] (fun i wr => ∃ (b : Nat) (vT : Value), i = .int .i64 b /\ b <= S.parts.length /\ Hid (Rw wr wo.heap.size 46 #[vT]) /\ Hid (TabI wr (wo.heap.size + 1) vT (xqi (fun a b => xbf S a b) S.parts.length) b) /\ Hid (Below wo.heap.size wo wr)) (fun i _ => S.parts.length - (intOf i).toNat)
   case atStart => exact ⟨0, .slice none 0 0, rfl, Nat.zero_le _, Lib.hid (Rw.new _ _ _ rfl), Lib.hid (xz1 _ _ _), up0⟩
   case round =>
    obtain ⟨b, vT, rfl, hb, HR, HTB, HO⟩ := hrel
    have hsz := HO.out.size
    have HTW := Lib.hid (HT.out.trans (HO.out.mono HT.out.size))
    have k0 := (HB.out.up HTW.out).p
    by_cases hbl : b < S.parts.length
    .have hbi : (b : Int) < S.parts.length := by omega
     obtain ⟨wi, hwi⟩ : ∃ wi, wi = wr := ⟨_, rfl⟩
     subst hwi
     go_wp2
     clear k0
     go_loopw [14, 13] (fun i l wr => ∃ a : Nat, i = .int .i64 a /\ a <= S.parts.length /\ Hid (wr.ownsRow wi.heap.size 3 1 l (xqi (fun a b => xbf S a b) a b).length (xar (xqi (fun a b => xbf S a b) a b))) /\ Hid (Below wi.heap.size wi wr)) (fun i _ _ => S.parts.length - (intOf i).toNat)
     case atStart => exact ⟨0, rfl, Nat.zero_le _, Lib.hid (World.ownsRow_nil _ _ _ _), Lib.hid (Below.refl _ _)⟩
     case round =>
      obtain ⟨a, rfl, ha, HW, HI⟩ := hrel
      obtain ⟨l1, c1, hform⟩ := xaq HW.out
      subst hform
      have hszi := HI.out.size
      have HTI := Lib.hid (HTW.out.trans (HI.out.mono HTW.out.size))
      have k0 := (HB.out.up HTI.out).p
      have k1 := (HB.out.up HTI.out).c
      have k2 := (HB.out.up HTI.out).s
      by_cases hal : a < S.parts.length
      .have hai : (a : Int) < S.parts.length := by omega
       have HST := Lib.hid (xpx (fun a b => xbf S a b) a b)
       have HLN := Lib.hid (x1z (fun a b => xbf S a b) a b)
       go_wp2_with fail
       refine (xkk S h4 hcl a b _ _ _ _ (HS.out.up HTI.out)).mono ?_
       rintro e w2 ⟨rfl, bb⟩
       have HW2 := Lib.hid (xf3 HW.out bb)
       have HI2 := Lib.hid (HI.out.trans (bb.mono HI.out.size))
       clear bb HW HI k0 k1 k2 HTI hszi
       generalize xqi (fun a b => xbf S a b) a b = zs at HW2 HST HLN
       cases hr : xbf S a b with
       | false =>
        have HST2 := Lib.hid (HST.out.trans (by rw [hr]; simp) : _ = zs)
        go_wp2
        go_roundw
        case rel => exact ⟨a + 1, by go_num, by omega, by rw [HST2.out]; exact HW2, HI2⟩
        case measure => simp [intOf]; omega
       | true =>
        have HST2 := Lib.hid (HST.out.trans (by rw [hr]; rfl) : _ = zs ++ [(a : Int)])
        have hw2 := HI2.out.size
        have HW3 := Lib.hid (HW2.out.alloc (.cells #[.int .i64 a] 3))
        clear HST
        go_wp2_with (at_builtin; refine wpList_append_lies _ rfl (.tmp 67) (.tmp 69) 41 rfl wi.heap.size 3 i1 (.int .i64 0) 1 8 Tryz.underlying41 hi1 hy0 hy1 hy2 rfl (by decide) _ zs.length (xar zs) rfl HW3.out ⟨w2.heap.size, 0, none⟩ 1 1 [.int .i64 a] rfl rfl (xbs _ _ _ _ rfl) (xfe _) (by decide) (by have := HLN.out; unfold maxLen; omega) (by have := HLN.out; omega) so _ rfl ?_)
        intro g5 cap5 W5 hown hgrow hat hg5
        have HW5 : Hid (W5.ownsRow wi.heap.size 3 1 (.slice (some ⟨g5, 0, none⟩) (zs.length + 1) cap5) (zs ++ [(a : Int)]).length (xar (zs ++ [(a : Int)]))) := Lib.hid (by simpa [xar] using hown)
        have HI5 := Lib.hid ((HI2.out.alloc hw2 _).grown hgrow so (fun q e => by have := xab HW3.out q e; omega))
        clear hown hgrow hat HW2 HW3 HI2
        go_wp2
        go_roundw
        case rel => exact ⟨a + 1, by go_num, by omega, by rw [HST2.out]; exact HW5, HI5⟩
        case measure => simp [intOf]; omega
      .have hai : ¬ (a : Int) < S.parts.length := by omega
       have HAE : Hid (a = S.parts.length) := Lib.hid om
       have HRI := Lib.hid (HR.out.up HI.out HR.out.lt)
       have c11 : wr.cell? ⟨wo.heap.size, 0, none⟩ = some vT := HRI.out.cell (j := 0) rfl
       obtain ⟨vs, hv1, hv2, hv3⟩ := HTB.out.up HI.out
       have hTL : ∀ c, vT.ownBlock = some c -> c < wi.heap.size := fun c e => HTB.out.lt e
       have HTL := Lib.hid hTL
       have HRL := Lib.hid HR.out.lt
       obtain ⟨ta, tc, rfl⟩ := HTB.out.form
       have HV1 := Lib.hid hv1
       have HV3 := Lib.hid hv3
       have HO3 := Lib.hid (hv2.alloc (.cells #[.slice l1 (xqi (fun a b => xbf S a b) a b).length c1] 41))
       clear hv1 hv2 hv3 hTL HTI k1 k2
       go_wp2_with (at_builtin; refine wpList_append_lies _ rfl (.tmp 72) (.tmp 74) 44 rfl (wo.heap.size + 1) 41 i2 _ 1 24 Tryz.underlying44 hi2 hb0 hb1 hb2 rfl (by decide) _ b vs rfl HO3.out ⟨wr.heap.size, 0, none⟩ 1 1 [.slice l1 (xqi (fun a b => xbf S a b) a b).length c1] rfl rfl (xbs _ _ _ _ rfl) (by simp [Value.oneCell']) (by decide) (by unfold maxLen; omega) om (by have := HRL.out; simp; omega) _ rfl ?_)
       intro g5 cap5 W5 hown hgrow hat hg5
       have hrl := HRL.out
       have hT5 : TabI W5 (wo.heap.size + 1) (.slice (some ⟨g5, 0, none⟩) (b + 1) cap5) (xqi (fun a b => xbf S a b) S.parts.length) (b + 1) := TabI.add (w := wr.alloc (.cells #[.slice l1 (xqi (fun a b => xbf S a b) a b).length c1] 41)) HV1.out (fun c h => ⟨(HV3.out c h).1.up ((Below.refl _ _).alloc (Nat.le_refl _) _), fun d e => ⟨((HV3.out c h).2 d e).1, ((HV3.out c h).2 d e).2.1, by have := ((HV3.out c h).2 d e).2.2; simp; omega⟩⟩) hown hgrow (by simpa using hat) (by rw [<- HAE.out]; exact (xa7 HW.out).up ((Below.refl _ _).alloc (Nat.le_refl _) _)) (fun d e => by
        have h1 := xab HW.out d e
        have h2 := (HW.out.lt d e).2
        exact ⟨by omega, fun e2 => by have := HTL.out d e2; omega, by simp; omega⟩)
       have hng : (Value.slice ta b tc).ownBlock ≠ some wo.heap.size := fun e => by have := xab HO3.out _ e; omega
       have R5 : Rw W5 wo.heap.size 46 #[.slice ta b tc] := (hgrow.block wo.heap.size so (fun e => hng e.symm)).trans (HRI.out.alloc _)
       have H5 : Below wo.heap.size wo W5 := ((HO.out.trans (HI.out.mono HO.out.size)).alloc om _).grown hgrow so (fun q e => by have := xab HO3.out q e; omega)
       have c5 : W5.cell? ⟨wo.heap.size, 0, none⟩ = some (.slice ta b tc) := R5.cell (j := 0) rfl
       have f5 := R5.fr 0
       have HT5 := Lib.hid hT5
       have HR5 := Lib.hid R5
       have HH5 := Lib.hid H5
       clear hown hgrow hat HO3 hT5 R5 H5 c11
       go_wp2
       go_roundw
       case rel => exact ⟨b + 1, _, by go_num, by omega, Lib.hid (HR5.out.set 0 _), Lib.hid (HT5.out.set om _), Lib.hid (HH5.out.setCell (by show wo.heap.size <= wo.heap.size; omega) _)⟩
       case measure => simp [intOf]; omega
    .have hbi : ¬ (b : Int) < S.parts.length := by omega
     have HBE : Hid (b = S.parts.length) := Lib.hid om
     obtain ⟨ta, tc, rfl⟩ := HTB.out.form
     have c11 : wr.cell? ⟨wo.heap.size, 0, none⟩ = some (.slice ta b tc) := HR.out.cell (j := 0) rfl
     have HR6 := Lib.hid (HR4.out.up HTW.out HR4.out.lt)
     have k4 := HR6.out.cell (j := 0) rfl
     have f4 := HR6.out.fr 0
     have hwo : w.heap.size + 2 < wo.heap.size := by omega
     go_wp2
     refine bodyPost_ret (xfv Tryz.results22 _ _ (w.heap.size + 1 + 1) _ _ _ rfl rfl rfl (run_loadVar_row _ _ 46 _ #[.slice ta b tc] (0, 0) _ (HR6.out.set 0 _) Tryz.underlying46 rfl xhr)) rfl ⟨.slice ta b tc, .slice none 0 0, by rw [HG.out]; rfl, ?_, by rw [HG.out]; exact Sl.nil _ _, xh9 _ _, (D0.out.trans (HTW.out.mono D0.out.size)).setCell (by show w.heap.size <= w.heap.size + 1 + 1; omega) _⟩
     rw [HG.out]
     show SetsF w.heap.size _ (.slice ta b tc) (xr5 S)
     have hbe := HBE.out
     rw [HCS.out, <- hbe]
     have := (HTB.out.set (c := w.heap.size + 1 + 1) (j := 0) om (.slice ta b tc)).f (C := w.heap.size) om
     rw [hbe] at this ⊢
     exact this
theorem xwh {a b : Int} : (xes S a b).length <= S.parts.length + 1 := by
 have hf : ∀ n x, (fwd S b n x).length <= n + 1 := by
  intro n
  induction n with
  | zero => intro x; simp [fwd]
  | succ n ih =>
   intro x
   rw [fwd]
   split
   .rename_i c _
    have := ih c
    simp
    omega
   .simp
 unfold xes
 split
 .rename_i n hn
  have := hf n a
  unfold xkh at hn
  have := List.mem_range.1 (List.mem_of_find?_eq_some hn)
  omega
 .simp
end Go.Proofs.YtbkdoohhdkahiaaGreatDoor
