/- kern.next. -/
import Derived.Test.YtehhhiodfcdnmaaGreatDoorR16
namespace Go.Proofs.YtehhhiodfcdnmaaGreatDoor
set_option linter.unusedSimpArgs false
set_option linter.unusedVariables false
set_option maxRecDepth 100000
set_option maxHeartbeats 16000000
open Go.RowKit Go.Sort
structure Fn (w W : World) (g : Nat) (tick : Int) (vp vc vs uc ul nc nl : Value) (cs : List CelD) (ls : List (List Int)) : Prop where
 d : Below w.heap.size w W
 r0 : Rw W w.heap.size 26 #[vp, vc, vs]
 r1 : Rw W (w.heap.size + 1) 30 #[.int .i64 tick, uc, ul]
 r2 : Rw W (w.heap.size + 1 + 1) 30 #[.int .i64 0, .slice none 0 0, .slice none 0 0]
 r3 : Rw W g 30 #[.int .i64 tick, nc, nl]
 n : NewV (w.heap.size + 3) g W nc nl cs ls
 g0 : w.heap.size + 3 ≤ g
 gc : ∀ k, nc.ownBlock = some k → k ≠ g
 gl : ∀ k, nl.ownBlock = some k → k ≠ g
theorem Fn.up {w W W' : World} {g : Nat} {tick : Int} {vp vc vs uc ul nc nl : Value} {cs : List CelD} {ls : List (List Int)} (h : Fn w W g tick vp vc vs uc ul nc nl cs ls) (hb : Below W.heap.size W W') : Fn w W' g tick vp vc vs uc ul nc nl cs ls :=
 ⟨h.d.trans (hb.mono h.d.size), h.r0.up hb h.r0.lt, h.r1.up hb h.r1.lt, h.r2.up hb h.r2.lt, h.r3.up hb h.r3.lt, h.n.up hb, h.g0, h.gc, h.gl⟩
theorem rw_setCells_other : ∀ (us : List Value) {w : World} {g b : Nat} (o : Nat) {t : TypeId} {cs : Array Value}, Rw w g t cs → g ≠ b → Rw (w.setCells b o us) g t cs
 | [], _, _, _, _, _, _, h, _ => h
 | u :: r, w, g, b, o, t, cs, h, hne => by
  rw [World.setCells]
  exact rw_setCells_other r (o + 1) (h.set_other u hne) hne
theorem below_setCells : ∀ (us : List Value) {B : Nat} {a w : World} {b : Nat} (o : Nat), Below B a w → B ≤ b → Below B a (w.setCells b o us)
 | [], _, _, _, _, _, h, _ => h
 | u :: r, B, a, w, b, o, h, hb => by
  rw [World.setCells]
  exact below_setCells r (o + 1) (h.setCell (p := ⟨b, o, none⟩) hb u) hb
theorem wpList_store_midW {P : Program} {ops : Array Oper} {rest : List Oper} {op : Oper} {a : Act} {w : World} {Q : Exit → Act → World → Prop} (hgd : op.guard = none) (ty : TypeId) (x y : Operand) (ho : op.op = .store ty x y)
  (b o : Nat) (cells : Array Value) (hx : a.eval x = .pointer (some ⟨b, o, none⟩)) (hy : a.eval y = .agg cells)
  (ht : w.there b o cells.size) (hi : (P.info? ty).map (·.size) = some cells.size) (h1 : cells.all (·.oneCell') = true)
  (h : ∀ W, Hid (W = w.setCells b o cells.toList) → wpList P ops Q rest (a.put op.dst undef) W) : wpList P ops Q (op :: rest) a w :=
 wpList_store_mid hgd ty x y ho b o cells hx hy ht hi h1 (h _ (hd rfl))
theorem sizeInt1 : (Tryz.prog.info? 3).map (·.size) = some 1 := by kernel_rfl
structure Fe (w W : World) (g g8 : Nat) (tick : Int) (nc nl : Value) (cs : List CelD) (ls : List (List Int)) (c : Cel) (v : Value) (ys : List Int) : Prop where
 d : Below w.heap.size w W
 r2 : Rw W (w.heap.size + 1 + 1) 30 #[.int .i64 0, .slice none 0 0, .slice none 0 0]
 r3 : Rw W g 30 #[.int .i64 tick, nc, nl]
 n : NewP (w.heap.size + 3) g W nc nl cs ls
 g0 : w.heap.size + 3 ≤ g
 gc : ∀ k, nc.ownBlock = some k → k ≠ g
 r8 : Rw W g8 35 (c.cs v)
 s : Sl W 1 v ys.length (ints ys)
 i : In2 (w.heap.size + 3) g nc v
structure Ns (X W : World) (ov : Option Value) (gv : Option Nat) (zs : List Int) : Prop where
 d : Below X.heap.size X W
 o : ∀ v, ov = some v → Sl W 1 v zs.length (ints zs) ∧ (∀ b, v.ownBlock = some b → X.heap.size ≤ b)
 g : ∀ g, gv = some g → Rw W g 81 #[.slice none 0 0] ∧ X.heap.size ≤ g ∧ ∀ v, ov = some v → 0 < zs.length → v.ownBlock ≠ some g
theorem Ns.begin (X : World) (zs : List Int) : Ns X X.drew none none zs := ⟨(Below.refl _ _).drew, by simp, by simp⟩
theorem Ns.call {X W W' : World} {gv : Option Nat} {zs : List Int} (h : Ns X W none gv zs) {v : Value} (hn : SlN W W' v zs.length (ints zs)) (hb : Below W.heap.size W W') : Ns X W' (some v) gv zs :=
 ⟨h.d.trans (hb.mono h.d.size), fun v' q => by injection q with q; subst q; exact ⟨hn.1, fun b e => Nat.le_trans h.d.size (hn.2 b e)⟩, fun g q => ⟨(h.g g q).1.up hb (h.g g q).1.lt, (h.g g q).2.1, fun v' q' _ e => by injection q' with q'; subst q'; have := hn.2 g e; have := (h.g g q).1.lt; omega⟩⟩
theorem Ns.new {X W : World} {ov : Option Value} {zs : List Int} (h : Ns X W ov none zs) {g : Nat} (hg : g = W.heap.size) : Ns X (W.alloc (.cells #[.slice none 0 0] 81)) ov (some g) zs :=
 ⟨h.d.alloc h.d.size _, fun v q => ⟨(h.o v q).1.up ((Below.refl _ _).alloc (Nat.le_refl _) _), (h.o v q).2⟩, fun g' q => by injection q with q; subst q; exact ⟨Rw.new _ _ _ hg, by rw [hg]; exact h.d.size, fun v q hn e => by
  obtain ⟨b, off, cap, rfl, _, hb, _⟩ := (h.o v q).1.open hn
  simp [Value.ownBlock] at e
  omega⟩⟩
theorem sl_row0K {w : World} {size : Nat} {v : Value} {n : Nat} {xs : List Value} (h : Sl w size v n xs) {g : Nat} {cs : Array Value} (hne : 0 < n → v.ownBlock ≠ some g) : Sl (w.setRow g cs) size v n xs := by
 obtain ⟨h1, ao, cap, rfl, h3, h4⟩ := h
 refine ⟨h1, ao, cap, rfl, h3, fun hn => ?_⟩
 obtain ⟨b, off, rfl, hlt, hc, hz⟩ := h4 hn
 exact ⟨b, off, rfl, by rw [setRow_size]; exact hlt, fun k u' hk => (cell_setRow_other w g cs _ (by simpa [Value.ownBlock] using hne hn)).trans (hc k u' hk), hz.of (setRow_other w g b cs (by simpa [Value.ownBlock] using hne hn))⟩
structure Nt (X W : World) (g : Nat) (v : Value) (zs : List Int) : Prop where
 d : Below X.heap.size X W
 r : Rw W g 81 #[v]
 s : Sl W 1 v zs.length (ints zs)
 n : ∀ b, v.ownBlock = some b → X.heap.size ≤ b
 g0 : X.heap.size ≤ g
theorem Ns.done {X W : World} {v : Value} {g : Nat} {zs : List Int} (h : Ns X W (some v) (some g) zs) : Nt X (W.setRow g #[v]) g v zs :=
 ⟨below_row h.d (h.g g rfl).2.1 _, (h.g g rfl).1.row _, sl_row0K (h.o v rfl).1 ((h.g g rfl).2.2 v rfl), (h.o v rfl).2, (h.g g rfl).2.1⟩
theorem ent_serve : Enters 110 := enters Tryz.func110 kr kr
theorem ent_cellStep : Enters 109 := enters Tryz.func109 kr kr
theorem yields_load_midA {P : Program} {ops : Array Oper} {S : World → Prop} {op : Oper} {a : Act} (hw : Region.wanted op (yielded ops a.tmps) = true) (ty : TypeId) (x : Operand) (ho : op.op = .load ty x)
  (b o : Nat) (hx : a.eval x = .pointer (some ⟨b, o, none⟩)) (cs : Array Value) (d : TypeDesc) (hS : ∀ w, S w → w.rangeAt b o cs.toList)
  (hu : P.underlying ty = some d) (hd : d.isRow = true) (hi : (P.info? ty).map (·.size) = some cs.size) : YieldsIf P ops S op (.agg cs) a := by
 have := yieldsIf_load_mid (P := P) (ops := ops) (S := S) hw ty x ho b o hx cs.toList d hS hu hd (by simpa using hi)
 simpa using this
theorem cellStep_next (l : List Ins) (inn xs : List Int) (c c' : Cel) (xs' : List Int) (x' : Wnt) (hst : stepC l inn xs c = (c', xs', x')) (v iv ov : Value) (hl : chkC l = 0) (hi : inn.length ≤ 12) (hf : c.fine xs.length = true) (hr : c.read ≤ inn.length) (w : World) (he : Env w) (hC : Sl w 4 v l.length (codeC l)) (hI : Sl w 1 iv inn.length (ints inn)) (hO : Sl w 1 ov xs.length (ints xs)) :
  Calls Tryz.prog 109 #[.agg #[v, iv], .agg (c.cs ov)] w fun e w' => ∃ ao cap, e = .returned (.tuple #[.agg (c'.cs (.slice ao xs'.length cap)), .agg x'.cs, .int .i64 0]) ∧ w'.ownsRow w.heap.size 3 1 (.slice ao xs'.length cap) xs'.length (ints xs') ∧ Below w.heap.size w w' := by
 have h := cellStep_ok l inn xs v iv ov c hl hi hf hr w he hC hI hO
 rw [hst] at h
 refine h.mono ?_
 rintro e w' ⟨o', rfl, h1, h2⟩
 obtain ⟨ao, cap, rfl⟩ := own_form h1
 exact ⟨ao, cap, rfl, h1, h2⟩
theorem next_any (S : SysD) (D : WldD) (vp vc vs uc ul : Value) (w : World) (he : Env w) (hS : Sys w vp vc vs S) (hW : Wld w uc ul D) (hk : chkS S = 0) (ht0 : 0 ≤ D.tick) (ht1 : D.tick < 300) (hcB : cellsB S.parts D.cells = true) (hlB : linesB S.chans D.lines = true) :
  Calls Tryz.prog 67 #[.agg #[vp, vc, vs], .agg #[.int .i64 D.tick, uc, ul]] w fun e w' => ∃ vc' vl', e = .returned (.agg #[.int .i64 (D.tick + 1), vc', vl']) ∧ WldF w.heap.size w' vc' vl' (nextC S D) ∧ Below w.heap.size w w' := by
 obtain ⟨hct, hco, -, -, -⟩ := chkS_zero hk
 obtain ⟨hcs, hin⟩ := countsB_is hct
 obtain ⟨hw0, hw1⟩ := who_range hk ht0
 obtain ⟨pn, hpn⟩ := Int.eq_ofNat_of_zero_le hw0
 have hlc := cellsB_len hcB
 have hll := linesB_len hlB
 have hp : pn < S.parts.length := by omega
 have hpd : pn < D.cells.length := by omega
 have hcel := fun k h h' => cellsB_at hcB k h h'
 have hlin := fun k h h' => linesB_at hlB k h h'
 have HO := hd (show ∀ k (h : k < D.cells.length), D.cells[k].out.length ≤ 16 from fun k h => by
  have := hcel k om h
  unfold celB at this
  rw [Bool.and_eq_true] at this
  exact ((fine_iff _ _).1 this.1).2.2.2.2.2.2)
 have HLN := hd (show ∀ k (h : k < D.lines.length), D.lines[k].length ≤ 3 from fun k h => by
  have := chkL_zero (hlin k om h)
  omega)
 have hfp := hcel pn hp hpd
 have hcp := hco pn hp
 have hip := hin pn hp
 have hwant := step_want hk hp (inn := S.parts[pn].inn) (xs := D.cells[pn].out) (c := D.cells[pn].c)
 obtain ⟨pa, pc, rfl⟩ := hS.p.form
 obtain ⟨ka, kc, rfl⟩ := hS.c.form
 obtain ⟨sa, sc, rfl⟩ := hS.s.form
 obtain ⟨ua, uc, rfl⟩ := hW.c.form
 obtain ⟨la, lc, rfl⟩ := hW.l.form
 obtain ⟨pb, po, pcap, e2, hpcap, hpbw, hpc⟩ := hS.p.open om
 cases e2
 obtain ⟨cv, iv, hcv, hiv, hpr⟩ := hpc pn hp
 obtain ⟨b, off, cap, e1, hcap, hbw, hcc⟩ := hW.c.open om
 cases e1
 obtain ⟨ao, oc, hra, hso⟩ := hcc pn hpd
 have HNX : Hid (nextC S D = nextC S D) := hd rfl
 generalize hPe : S.parts[pn] = P at hfp hcp hip hwant hpr
 generalize hde : D.cells[pn] = d at hfp hwant hra hso
 obtain ⟨code, inn⟩ := P
 obtain ⟨c, out⟩ := d
 simp only at hcp hip hwant hra hso
 obtain ⟨ia, ic, rfl⟩ := hpr.inn.form
 obtain ⟨qa, qc, rfl⟩ := hpr.code.form
 have hfp' : c.fine out.length = true ∧ c.read ≤ inn.length := by
  unfold celB at hfp
  rw [Bool.and_eq_true] at hfp
  exact ⟨hfp.1, by simpa using hfp.2⟩
 obtain ⟨hfi, hrd⟩ := hfp'
 have hwant := hwant ((fine_iff c _).1 hfi).1
 obtain ⟨⟨c', ys, x'⟩, hst⟩ : ∃ r, stepC code inn out c = r := ⟨_, rfl⟩
 rw [hst] at hwant
 have hG := stepC_goes (l := code) (inn := inn) (xs := out) (c := c) hcp hfi hrd
 rw [hst] at hG
 simp only at hwant hG
 have HST := hd hst
 have HFI := hd (hG.fine ((fine_iff c _).1 hfi).2.2.1 hip)
 have HA := hd fun w he hC hI hO => cellStep_next code inn out c c' ys x' hst (.slice qa code.length qc) (.slice ia inn.length ic) (.slice ao out.length oc) hcp hip hfi hrd w he hC hI hO
 have HCPD := hd fun w hW => kcopied_any D (.slice (some ⟨b, off, none⟩) D.cells.length uc) (.slice la D.lines.length lc) w om om HO.out HLN.out hW
 have HWHO := hd fun w he hS => who_any S (.slice (some ⟨pb, po, none⟩) S.parts.length pc) (.slice ka S.chans.length kc) (.slice sa S.slots.length sc) D.tick w he hS 0 (by rw [if_pos hk, if_neg om]) pn (by rw [if_pos rfl]; exact hpn)
 have HE := hd he
 have HS := hd hS
 have HW := hd hW
 have HPR := hd hpr
 have HCV := hd hcv
 have HIV := hd hiv
 have HRA := hd hra
 have HSO := hd hso
 have HPE := hd hPe
 have HDE := hd hde
 have HPN := hd hpn
 have HWANT := hd hwant
 have HGO := hd hG
 have HLIN := hd hlin
 have hpi : (pn : Int) < S.parts.length := by omega
 have hpdi : (pn : Int) < D.cells.length := by omega
 have HLC := hd hlc
 have HLL := hd hll
 clear he hS hW hpr hcv hiv hra hso hPe hde hpn hwant hG hlin hst hcel hco hin hct hcB hlB hcc hpc hfi hrd hfp hcp hip hlc hll hw0 hw1 hk HO HLN
 go_enter Tryz.func67, Tryz.ntmps67
 go_wp2_with fail
 refine (HCPD.out _ (HW.out.up up0)).mono ?_
 rintro e w1 ⟨vc1, vl1, rfl, hN, b1⟩
 have z1 := b1.size
 simp at z1
 obtain ⟨a3, c3, rfl⟩ := hN.formC
 obtain ⟨a4, c4, rfl⟩ := hN.formL
 have R0 : Hid (Rw w1 w.heap.size 26 #[.slice (some ⟨pb, po, none⟩) S.parts.length pc, .slice ka S.chans.length kc, .slice sa S.slots.length sc]) := Rw.up rn0 b1 o3
 have R1 : Hid (Rw w1 (w.heap.size + 1) 30 #[.int .i64 D.tick, .slice (some ⟨b, off, none⟩) D.cells.length uc, .slice la D.lines.length lc]) := Rw.up rn0 b1 o3
 have R2 : Hid (Rw w1 (w.heap.size + 1 + 1) 30 #[.int .i64 0, .slice none 0 0, .slice none 0 0]) := Rw.up rn0 b1 o3
 have HD1 : Hid (Below w.heap.size w w1) := by
  refine Below.trans ?_ (b1.mono o3)
  exact up0
 have HN1 := hd ((hN.low (B' := w.heap.size + 3) (by simp)).reG (Nat.le_refl w1.heap.size))
 clear b1 hN HCPD
 go_upto_region 2 with fail
 generalize hWe : World.alloc _ _ = W1
 have hF : Fn w W1 w1.heap.size D.tick (.slice (some ⟨pb, po, none⟩) S.parts.length pc) (.slice ka S.chans.length kc) (.slice sa S.slots.length sc) (.slice (some ⟨b, off, none⟩) D.cells.length uc) (.slice la D.lines.length lc) (.slice a3 D.cells.length c3) (.slice a4 D.lines.length c4) D.cells D.lines := by
  have hb : Below w1.heap.size w1 W1 := by rw [← hWe]; exact (Below.refl _ _).alloc (Nat.le_refl _) _
  refine ⟨HD1.out.trans (hb.mono om), R0.out.up hb om, R1.out.up hb om, R2.out.up hb om, ?_, HN1.out.up hb, by omega, fun k e => ?_, fun k e => ?_⟩
  ·rw [← hWe]; exact rn0
  ·have := (HN1.out.ltC k e).2; omega
  ·have := (HN1.out.ltL k e).2; omega
 have FN := hd hF
 have q0 := hF.r0.cell (j := 0) (v := .slice (some ⟨pb, po, none⟩) S.parts.length pc) rfl
 have q1 := hF.r0.cell (j := 1) (v := .slice ka S.chans.length kc) rfl
 have q2 := hF.r0.cell (j := 2) (v := .slice sa S.slots.length sc) rfl
 have q3 := hF.r1.cell (j := 0) (v := .int .i64 D.tick) rfl
 clear hWe hF R0 R1 R2 HD1 HN1
 go_wp2_with fail
 refine (HWHO.out _ (HE.out.up FN.out.d) (HS.out.up FN.out.d)).mono ?_
 rintro e w2 ⟨rfl, b2⟩
 have FN2 := hd (FN.out.up b2)
 have hsz2 := FN2.out.d.size
 clear b2 FN HWHO q0 q1 q2 q3
 go_upto_region 3 with fail
 have hpb2 : pb < w2.heap.size := by omega
 have hb2 : b < w2.heap.size := by omega
 have PCV := hd (bcl FN2.out.d hpbw HCV.out)
 have PIV := hd (bcl FN2.out.d hpbw HIV.out)
 have PRA := hd (range_up HRA.out FN2.out.d hbw)
 clear HCV HIV HRA hwant HNX
 go_cut [8, 9, 10] from 24 to 39 (fun p8 p9 p10 wd => ∃ g8 g9 a8 c8, p8 = .pointer (some ⟨g8, 0, none⟩) ∧ p9 = .pointer (some ⟨g9, 0, none⟩) ∧ p10 = .int .i64 0 ∧ Hid (Nd w2 wd g8 g9 c' (.slice a8 ys.length c8) x' ys))
 case first =>
  refine region_still (S := fun w' => Below w2.heap.size w2 w') 19 kr (Below.refl _ _).drew (fun hHeld => ?_)
  have hq := fun w' (hSw : (fun w' => Below w2.heap.size w2 w') w') => And.intro ((FN2.out.r0.up hSw FN2.out.r0.lt).cell (j := 0) (v := .slice (some ⟨pb, po, none⟩) S.parts.length pc) rfl) (And.intro ((FN2.out.r1.up hSw FN2.out.r1.lt).cell (j := 1) (v := .slice (some ⟨b, off, none⟩) D.cells.length uc) rfl) (And.intro (bcl hSw hpb2 PCV.out) (bcl hSw hpb2 PIV.out)))
  refine Still.u 0 [] hHeld hq ?_
  refine Still.u 1 [] hHeld hq ?_
  refine Still.u 2 [] hHeld hq ?_
  refine Still.u 3 [] hHeld hq ?_
  refine Still.u 4 [] hHeld hq ?_
  refine Still.u 5 [] hHeld hq ?_
  refine Still.u 6 [] hHeld hq ?_
  refine Still.u 7 [] hHeld hq ?_
  refine Still.u 8 [] hHeld hq ?_
  refine Still.y 9 [] rfl (yields_load_midA (by rfl) _ _ rfl b (off + pn * 16) ev (c.cs (.slice ao out.length oc)) _ (fun w' hSw => range_up PRA.out hSw hb2) Tryz.underlying35 rfl sizeCell) hHeld ?_
  have M0 := hd (Nx.begin w2 ys)
  generalize World.drew _ = Y0 at M0 hHeld ⊢
  refine Still.all (rs := [10, 15, 16]) kr (by simp) (Still.one (i := 10) rfl rfl (fun K hK => ?_) (Still.one (i := 15) rfl rfl (fun K hK => ?_) (Still.one (i := 16) rfl rfl (fun K hK => ?_) (by simp))))
  ·refine wp_call 109 _ _ rfl ent_cellStep #[.agg #[.slice qa code.length qc, .slice ia inn.length ic], .agg (c.cs (.slice ao out.length oc))] ev ((HA.out _ (HE.out.up (FN2.out.d.trans (M0.out.d.mono hsz2))) (HPR.out.code.up (FN2.out.d.trans (M0.out.d.mono hsz2))) (HPR.out.inn.up (FN2.out.d.trans (M0.out.d.mono hsz2))) (HSO.out.up (FN2.out.d.trans (M0.out.d.mono hsz2)))).mono ?_)
   rintro e Y1 ⟨a8, c8, rfl, o8, f8⟩
   have m := M0.out.call o8 f8
   refine ⟨_, rfl, hK _ _ (fun _ => m.d) (fun hh => ?_)⟩
   have hHeld := hh (by decide)
   clear hK K hh
   try simp only [Act.put, l1, l2, l3, l4, l5, l6]
   have M1 := hd m
   clear m M0 o8 f8
   refine Still.t 11 [] hHeld ?_
   refine Still.t 12 [] hHeld ?_
   refine Still.t 13 [] hHeld ?_
   refine Still.t 14 [] hHeld ?_
   refine Still.all (rs := [15, 16]) kr (by simp) (Still.one (i := 15) rfl rfl (fun K hK => ?_) (Still.one (i := 16) rfl rfl (fun K hK => ?_) (by simp)))
   ·go_simp
    have m : Nx w2 (Y1.alloc (.cells #[.int .i64 0, .int .i64 0, .int .i64 0, .int .i64 0, .int .i64 0, .int .i64 0, .int .i64 0, .int .i64 0, .int .i64 0, .int .i64 0, .int .i64 0, .int .i64 0, .int .i64 0, .int .i64 0, .slice none 0 0, .int .i64 0] 35)) (some (.slice a8 ys.length c8)) (some Y1.heap.size) none ys := M1.out.eight rfl
    refine hK _ _ (fun _ => m.d) (fun hh => ?_)
    have hHeld := hh (by decide)
    clear hK K hh
    try simp only [Act.put, l1, l2, l3, l4, l5, l6]
    generalize World.alloc _ _ = Y2 at m hHeld ⊢
    have M2 := hd m
    clear m M1
    refine Still.o 16 rfl rfl (fun K hK => ?_)
    go_simp
    have m : Nx w2 (Y2.alloc (.cells #[.int .i64 0, .int .i64 0, .int .i64 0, .int .i64 0, .int .i64 0] 124)) (some (.slice a8 ys.length c8)) (some Y1.heap.size) (some Y2.heap.size) ys := M2.out.nine rfl
    refine hK _ _ (fun _ => m.d) (fun hh => ?_)
    have hHeld := hh (by decide)
    clear hK K hh
    try simp only [Act.put, l1, l2, l3, l4, l5, l6]
    generalize World.alloc _ _ = Y3 at m hHeld ⊢
    have M3 := hd m
    clear m M2
    refine Still.o 17 rfl rfl (fun K hK => ?_)
    refine wp_store_row 35 _ _ rfl (Y1.heap.size) (c'.cs (.slice a8 ys.length c8)) ev ev 35 (celZ.cs (.slice none 0 0)) (M3.out.g _ rfl).1 sizeCell rfl (Cel.cs_one _ _ rfl) ?_
    refine hK _ _ (fun _ => below_row M3.out.d (M3.out.g _ rfl).2.1 _) (fun hh => ?_)
    have hHeld := hh (by decide)
    clear hK K hh
    try simp only [Act.put, l1, l2, l3, l4, l5, l6]
    refine Still.o 18 rfl rfl (fun K hK => ?_)
    refine wp_store_row 124 _ _ rfl (Y2.heap.size) x'.cs ev ev 124 wntZ.cs ((M3.out.h _ rfl).1.row_other _ (Ne.symm (M3.out.ne _ _ rfl rfl))) sizeWant rfl (Wnt.cs_one _) ?_
    refine hK _ _ (fun _ => below_row (below_row M3.out.d (M3.out.g _ rfl).2.1 _) (M3.out.h _ rfl).2.1 _) (fun hh => ?_)
    have hHeld := hh (by decide)
    clear hK K hh
    try simp only [Act.put, l1, l2, l3, l4, l5, l6]
    refine Still.o 19 rfl rfl (fun K hK => ?_)
    go_simp
    refine hK _ _ ab (fun _ => Still.vv ?_)
    clear hK K
    clear hHeld
    go_wp2
    go_meet
    exact ⟨_, _, a8, c8, rfl, rfl, rfl, M3.out.done _ _⟩
   ·go_simp
    have m : Nx w2 (Y1.alloc (.cells #[.int .i64 0, .int .i64 0, .int .i64 0, .int .i64 0, .int .i64 0] 124)) (some (.slice a8 ys.length c8)) none (some Y1.heap.size) ys := M1.out.nine rfl
    refine hK _ _ (fun _ => m.d) (fun hh => ?_)
    have hHeld := hh (by decide)
    clear hK K hh
    try simp only [Act.put, l1, l2, l3, l4, l5, l6]
    generalize World.alloc _ _ = Y2 at m hHeld ⊢
    have M2 := hd m
    clear m M1
    refine Still.o 15 rfl rfl (fun K hK => ?_)
    go_simp
    have m : Nx w2 (Y2.alloc (.cells #[.int .i64 0, .int .i64 0, .int .i64 0, .int .i64 0, .int .i64 0, .int .i64 0, .int .i64 0, .int .i64 0, .int .i64 0, .int .i64 0, .int .i64 0, .int .i64 0, .int .i64 0, .int .i64 0, .slice none 0 0, .int .i64 0] 35)) (some (.slice a8 ys.length c8)) (some Y2.heap.size) (some Y1.heap.size) ys := M2.out.eight rfl
    refine hK _ _ (fun _ => m.d) (fun hh => ?_)
    have hHeld := hh (by decide)
    clear hK K hh
    try simp only [Act.put, l1, l2, l3, l4, l5, l6]
    generalize World.alloc _ _ = Y3 at m hHeld ⊢
    have M3 := hd m
    clear m M2
    refine Still.o 17 rfl rfl (fun K hK => ?_)
    refine wp_store_row 35 _ _ rfl (Y2.heap.size) (c'.cs (.slice a8 ys.length c8)) ev ev 35 (celZ.cs (.slice none 0 0)) (M3.out.g _ rfl).1 sizeCell rfl (Cel.cs_one _ _ rfl) ?_
    refine hK _ _ (fun _ => below_row M3.out.d (M3.out.g _ rfl).2.1 _) (fun hh => ?_)
    have hHeld := hh (by decide)
    clear hK K hh
    try simp only [Act.put, l1, l2, l3, l4, l5, l6]
    refine Still.o 18 rfl rfl (fun K hK => ?_)
    refine wp_store_row 124 _ _ rfl (Y1.heap.size) x'.cs ev ev 124 wntZ.cs ((M3.out.h _ rfl).1.row_other _ (Ne.symm (M3.out.ne _ _ rfl rfl))) sizeWant rfl (Wnt.cs_one _) ?_
    refine hK _ _ (fun _ => below_row (below_row M3.out.d (M3.out.g _ rfl).2.1 _) (M3.out.h _ rfl).2.1 _) (fun hh => ?_)
    have hHeld := hh (by decide)
    clear hK K hh
    try simp only [Act.put, l1, l2, l3, l4, l5, l6]
    refine Still.o 19 rfl rfl (fun K hK => ?_)
    go_simp
    refine hK _ _ ab (fun _ => Still.vv ?_)
    clear hK K
    clear hHeld
    go_wp2
    go_meet
    exact ⟨_, _, a8, c8, rfl, rfl, rfl, M3.out.done _ _⟩
  ·go_simp
   have m : Nx w2 (Y0.alloc (.cells #[.int .i64 0, .int .i64 0, .int .i64 0, .int .i64 0, .int .i64 0, .int .i64 0, .int .i64 0, .int .i64 0, .int .i64 0, .int .i64 0, .int .i64 0, .int .i64 0, .int .i64 0, .int .i64 0, .slice none 0 0, .int .i64 0] 35)) none (some Y0.heap.size) none ys := M0.out.eight rfl
   refine hK _ _ (fun _ => m.d) (fun hh => ?_)
   have hHeld := hh (by decide)
   clear hK K hh
   try simp only [Act.put, l1, l2, l3, l4, l5, l6]
   generalize World.alloc _ _ = Y1 at m hHeld ⊢
   have M1 := hd m
   clear m M0
   refine Still.all (rs := [10, 16]) kr (by simp) (Still.one (i := 10) rfl rfl (fun K hK => ?_) (Still.one (i := 16) rfl rfl (fun K hK => ?_) (by simp)))
   ·refine wp_call 109 _ _ rfl ent_cellStep #[.agg #[.slice qa code.length qc, .slice ia inn.length ic], .agg (c.cs (.slice ao out.length oc))] ev ((HA.out _ (HE.out.up (FN2.out.d.trans (M1.out.d.mono hsz2))) (HPR.out.code.up (FN2.out.d.trans (M1.out.d.mono hsz2))) (HPR.out.inn.up (FN2.out.d.trans (M1.out.d.mono hsz2))) (HSO.out.up (FN2.out.d.trans (M1.out.d.mono hsz2)))).mono ?_)
    rintro e Y2 ⟨a8, c8, rfl, o8, f8⟩
    have m := M1.out.call o8 f8
    refine ⟨_, rfl, hK _ _ (fun _ => m.d) (fun hh => ?_)⟩
    have hHeld := hh (by decide)
    clear hK K hh
    try simp only [Act.put, l1, l2, l3, l4, l5, l6]
    have M2 := hd m
    clear m M1 o8 f8
    refine Still.t 11 [] hHeld ?_
    refine Still.t 12 [] hHeld ?_
    refine Still.t 13 [] hHeld ?_
    refine Still.t 14 [] hHeld ?_
    refine Still.o 16 rfl rfl (fun K hK => ?_)
    go_simp
    have m : Nx w2 (Y2.alloc (.cells #[.int .i64 0, .int .i64 0, .int .i64 0, .int .i64 0, .int .i64 0] 124)) (some (.slice a8 ys.length c8)) (some Y0.heap.size) (some Y2.heap.size) ys := M2.out.nine rfl
    refine hK _ _ (fun _ => m.d) (fun hh => ?_)
    have hHeld := hh (by decide)
    clear hK K hh
    try simp only [Act.put, l1, l2, l3, l4, l5, l6]
    generalize World.alloc _ _ = Y3 at m hHeld ⊢
    have M3 := hd m
    clear m M2
    refine Still.o 17 rfl rfl (fun K hK => ?_)
    refine wp_store_row 35 _ _ rfl (Y0.heap.size) (c'.cs (.slice a8 ys.length c8)) ev ev 35 (celZ.cs (.slice none 0 0)) (M3.out.g _ rfl).1 sizeCell rfl (Cel.cs_one _ _ rfl) ?_
    refine hK _ _ (fun _ => below_row M3.out.d (M3.out.g _ rfl).2.1 _) (fun hh => ?_)
    have hHeld := hh (by decide)
    clear hK K hh
    try simp only [Act.put, l1, l2, l3, l4, l5, l6]
    refine Still.o 18 rfl rfl (fun K hK => ?_)
    refine wp_store_row 124 _ _ rfl (Y2.heap.size) x'.cs ev ev 124 wntZ.cs ((M3.out.h _ rfl).1.row_other _ (Ne.symm (M3.out.ne _ _ rfl rfl))) sizeWant rfl (Wnt.cs_one _) ?_
    refine hK _ _ (fun _ => below_row (below_row M3.out.d (M3.out.g _ rfl).2.1 _) (M3.out.h _ rfl).2.1 _) (fun hh => ?_)
    have hHeld := hh (by decide)
    clear hK K hh
    try simp only [Act.put, l1, l2, l3, l4, l5, l6]
    refine Still.o 19 rfl rfl (fun K hK => ?_)
    go_simp
    refine hK _ _ ab (fun _ => Still.vv ?_)
    clear hK K
    clear hHeld
    go_wp2
    go_meet
    exact ⟨_, _, a8, c8, rfl, rfl, rfl, M3.out.done _ _⟩
   ·go_simp
    have m : Nx w2 (Y1.alloc (.cells #[.int .i64 0, .int .i64 0, .int .i64 0, .int .i64 0, .int .i64 0] 124)) none (some Y0.heap.size) (some Y1.heap.size) ys := M1.out.nine rfl
    refine hK _ _ (fun _ => m.d) (fun hh => ?_)
    have hHeld := hh (by decide)
    clear hK K hh
    try simp only [Act.put, l1, l2, l3, l4, l5, l6]
    generalize World.alloc _ _ = Y2 at m hHeld ⊢
    have M2 := hd m
    clear m M1
    refine Still.o 10 rfl rfl (fun K hK => ?_)
    refine wp_call 109 _ _ rfl ent_cellStep #[.agg #[.slice qa code.length qc, .slice ia inn.length ic], .agg (c.cs (.slice ao out.length oc))] ev ((HA.out _ (HE.out.up (FN2.out.d.trans (M2.out.d.mono hsz2))) (HPR.out.code.up (FN2.out.d.trans (M2.out.d.mono hsz2))) (HPR.out.inn.up (FN2.out.d.trans (M2.out.d.mono hsz2))) (HSO.out.up (FN2.out.d.trans (M2.out.d.mono hsz2)))).mono ?_)
    rintro e Y3 ⟨a8, c8, rfl, o8, f8⟩
    have m := M2.out.call o8 f8
    refine ⟨_, rfl, hK _ _ (fun _ => m.d) (fun hh => ?_)⟩
    have hHeld := hh (by decide)
    clear hK K hh
    try simp only [Act.put, l1, l2, l3, l4, l5, l6]
    have M3 := hd m
    clear m M2 o8 f8
    refine Still.t 11 [] hHeld ?_
    refine Still.t 12 [] hHeld ?_
    refine Still.t 13 [] hHeld ?_
    refine Still.t 14 [] hHeld ?_
    refine Still.o 17 rfl rfl (fun K hK => ?_)
    refine wp_store_row 35 _ _ rfl (Y0.heap.size) (c'.cs (.slice a8 ys.length c8)) ev ev 35 (celZ.cs (.slice none 0 0)) (M3.out.g _ rfl).1 sizeCell rfl (Cel.cs_one _ _ rfl) ?_
    refine hK _ _ (fun _ => below_row M3.out.d (M3.out.g _ rfl).2.1 _) (fun hh => ?_)
    have hHeld := hh (by decide)
    clear hK K hh
    try simp only [Act.put, l1, l2, l3, l4, l5, l6]
    refine Still.o 18 rfl rfl (fun K hK => ?_)
    refine wp_store_row 124 _ _ rfl (Y1.heap.size) x'.cs ev ev 124 wntZ.cs ((M3.out.h _ rfl).1.row_other _ (Ne.symm (M3.out.ne _ _ rfl rfl))) sizeWant rfl (Wnt.cs_one _) ?_
    refine hK _ _ (fun _ => below_row (below_row M3.out.d (M3.out.g _ rfl).2.1 _) (M3.out.h _ rfl).2.1 _) (fun hh => ?_)
    have hHeld := hh (by decide)
    clear hK K hh
    try simp only [Act.put, l1, l2, l3, l4, l5, l6]
    refine Still.o 19 rfl rfl (fun K hK => ?_)
    go_simp
    refine hK _ _ ab (fun _ => Still.vv ?_)
    clear hK K
    clear hHeld
    go_wp2
    go_meet
    exact ⟨_, _, a8, c8, rfl, rfl, rfl, M3.out.done _ _⟩
  ·go_simp
   have m : Nx w2 (Y0.alloc (.cells #[.int .i64 0, .int .i64 0, .int .i64 0, .int .i64 0, .int .i64 0] 124)) none none (some Y0.heap.size) ys := M0.out.nine rfl
   refine hK _ _ (fun _ => m.d) (fun hh => ?_)
   have hHeld := hh (by decide)
   clear hK K hh
   try simp only [Act.put, l1, l2, l3, l4, l5, l6]
   generalize World.alloc _ _ = Y1 at m hHeld ⊢
   have M1 := hd m
   clear m M0
   refine Still.all (rs := [10, 15]) kr (by simp) (Still.one (i := 10) rfl rfl (fun K hK => ?_) (Still.one (i := 15) rfl rfl (fun K hK => ?_) (by simp)))
   ·refine wp_call 109 _ _ rfl ent_cellStep #[.agg #[.slice qa code.length qc, .slice ia inn.length ic], .agg (c.cs (.slice ao out.length oc))] ev ((HA.out _ (HE.out.up (FN2.out.d.trans (M1.out.d.mono hsz2))) (HPR.out.code.up (FN2.out.d.trans (M1.out.d.mono hsz2))) (HPR.out.inn.up (FN2.out.d.trans (M1.out.d.mono hsz2))) (HSO.out.up (FN2.out.d.trans (M1.out.d.mono hsz2)))).mono ?_)
    rintro e Y2 ⟨a8, c8, rfl, o8, f8⟩
    have m := M1.out.call o8 f8
    refine ⟨_, rfl, hK _ _ (fun _ => m.d) (fun hh => ?_)⟩
    have hHeld := hh (by decide)
    clear hK K hh
    try simp only [Act.put, l1, l2, l3, l4, l5, l6]
    have M2 := hd m
    clear m M1 o8 f8
    refine Still.t 11 [] hHeld ?_
    refine Still.t 12 [] hHeld ?_
    refine Still.t 13 [] hHeld ?_
    refine Still.t 14 [] hHeld ?_
    refine Still.o 15 rfl rfl (fun K hK => ?_)
    go_simp
    have m : Nx w2 (Y2.alloc (.cells #[.int .i64 0, .int .i64 0, .int .i64 0, .int .i64 0, .int .i64 0, .int .i64 0, .int .i64 0, .int .i64 0, .int .i64 0, .int .i64 0, .int .i64 0, .int .i64 0, .int .i64 0, .int .i64 0, .slice none 0 0, .int .i64 0] 35)) (some (.slice a8 ys.length c8)) (some Y2.heap.size) (some Y0.heap.size) ys := M2.out.eight rfl
    refine hK _ _ (fun _ => m.d) (fun hh => ?_)
    have hHeld := hh (by decide)
    clear hK K hh
    try simp only [Act.put, l1, l2, l3, l4, l5, l6]
    generalize World.alloc _ _ = Y3 at m hHeld ⊢
    have M3 := hd m
    clear m M2
    refine Still.o 17 rfl rfl (fun K hK => ?_)
    refine wp_store_row 35 _ _ rfl (Y2.heap.size) (c'.cs (.slice a8 ys.length c8)) ev ev 35 (celZ.cs (.slice none 0 0)) (M3.out.g _ rfl).1 sizeCell rfl (Cel.cs_one _ _ rfl) ?_
    refine hK _ _ (fun _ => below_row M3.out.d (M3.out.g _ rfl).2.1 _) (fun hh => ?_)
    have hHeld := hh (by decide)
    clear hK K hh
    try simp only [Act.put, l1, l2, l3, l4, l5, l6]
    refine Still.o 18 rfl rfl (fun K hK => ?_)
    refine wp_store_row 124 _ _ rfl (Y0.heap.size) x'.cs ev ev 124 wntZ.cs ((M3.out.h _ rfl).1.row_other _ (Ne.symm (M3.out.ne _ _ rfl rfl))) sizeWant rfl (Wnt.cs_one _) ?_
    refine hK _ _ (fun _ => below_row (below_row M3.out.d (M3.out.g _ rfl).2.1 _) (M3.out.h _ rfl).2.1 _) (fun hh => ?_)
    have hHeld := hh (by decide)
    clear hK K hh
    try simp only [Act.put, l1, l2, l3, l4, l5, l6]
    refine Still.o 19 rfl rfl (fun K hK => ?_)
    go_simp
    refine hK _ _ ab (fun _ => Still.vv ?_)
    clear hK K
    clear hHeld
    go_wp2
    go_meet
    exact ⟨_, _, a8, c8, rfl, rfl, rfl, M3.out.done _ _⟩
   ·go_simp
    have m : Nx w2 (Y1.alloc (.cells #[.int .i64 0, .int .i64 0, .int .i64 0, .int .i64 0, .int .i64 0, .int .i64 0, .int .i64 0, .int .i64 0, .int .i64 0, .int .i64 0, .int .i64 0, .int .i64 0, .int .i64 0, .int .i64 0, .slice none 0 0, .int .i64 0] 35)) none (some Y1.heap.size) (some Y0.heap.size) ys := M1.out.eight rfl
    refine hK _ _ (fun _ => m.d) (fun hh => ?_)
    have hHeld := hh (by decide)
    clear hK K hh
    try simp only [Act.put, l1, l2, l3, l4, l5, l6]
    generalize World.alloc _ _ = Y2 at m hHeld ⊢
    have M2 := hd m
    clear m M1
    refine Still.o 10 rfl rfl (fun K hK => ?_)
    refine wp_call 109 _ _ rfl ent_cellStep #[.agg #[.slice qa code.length qc, .slice ia inn.length ic], .agg (c.cs (.slice ao out.length oc))] ev ((HA.out _ (HE.out.up (FN2.out.d.trans (M2.out.d.mono hsz2))) (HPR.out.code.up (FN2.out.d.trans (M2.out.d.mono hsz2))) (HPR.out.inn.up (FN2.out.d.trans (M2.out.d.mono hsz2))) (HSO.out.up (FN2.out.d.trans (M2.out.d.mono hsz2)))).mono ?_)
    rintro e Y3 ⟨a8, c8, rfl, o8, f8⟩
    have m := M2.out.call o8 f8
    refine ⟨_, rfl, hK _ _ (fun _ => m.d) (fun hh => ?_)⟩
    have hHeld := hh (by decide)
    clear hK K hh
    try simp only [Act.put, l1, l2, l3, l4, l5, l6]
    have M3 := hd m
    clear m M2 o8 f8
    refine Still.t 11 [] hHeld ?_
    refine Still.t 12 [] hHeld ?_
    refine Still.t 13 [] hHeld ?_
    refine Still.t 14 [] hHeld ?_
    refine Still.o 17 rfl rfl (fun K hK => ?_)
    refine wp_store_row 35 _ _ rfl (Y1.heap.size) (c'.cs (.slice a8 ys.length c8)) ev ev 35 (celZ.cs (.slice none 0 0)) (M3.out.g _ rfl).1 sizeCell rfl (Cel.cs_one _ _ rfl) ?_
    refine hK _ _ (fun _ => below_row M3.out.d (M3.out.g _ rfl).2.1 _) (fun hh => ?_)
    have hHeld := hh (by decide)
    clear hK K hh
    try simp only [Act.put, l1, l2, l3, l4, l5, l6]
    refine Still.o 18 rfl rfl (fun K hK => ?_)
    refine wp_store_row 124 _ _ rfl (Y0.heap.size) x'.cs ev ev 124 wntZ.cs ((M3.out.h _ rfl).1.row_other _ (Ne.symm (M3.out.ne _ _ rfl rfl))) sizeWant rfl (Wnt.cs_one _) ?_
    refine hK _ _ (fun _ => below_row (below_row M3.out.d (M3.out.g _ rfl).2.1 _) (M3.out.h _ rfl).2.1 _) (fun hh => ?_)
    have hHeld := hh (by decide)
    clear hK K hh
    try simp only [Act.put, l1, l2, l3, l4, l5, l6]
    refine Still.o 19 rfl rfl (fun K hK => ?_)
    go_simp
    refine hK _ _ ab (fun _ => Still.vv ?_)
    clear hK K
    clear hHeld
    go_wp2
    go_meet
    exact ⟨_, _, a8, c8, rfl, rfl, rfl, M3.out.done _ _⟩
 case rest =>
  obtain ⟨g8, g9, a8, c8, rfl, rfl, rfl, HN⟩ := hcut
  have F3 := hd (FN2.out.up HN.out.d)
  have hlt3 := FN2.out.r3.lt
  have HIN : Hid (In (w.heap.size + 3) w1.heap.size wc (.slice a3 D.cells.length c3) (.slice a4 D.lines.length c4) (.slice a8 ys.length c8)) := fun x e => by
   obtain ⟨h1, h2, _, _⟩ := HN.out.n x e
   refine ⟨⟨by omega, by omega⟩, h2, fun e' => ?_, fun e' => ?_⟩
   ·have := (FN2.out.n.ltC x e').2; omega
   ·have := (FN2.out.n.ltL x e').2; omega
  have e1 : S.parts[(whoS S D.tick).toNat]? = some ⟨code, inn⟩ := by rw [HPN.out, Int.toNat_natCast, List.getElem?_eq_getElem hp, HPE.out]
  have e2 : D.cells[(whoS S D.tick).toNat]? = some ⟨c, out⟩ := by rw [HPN.out, Int.toNat_natCast, List.getElem?_eq_getElem hpd, HDE.out]
  have E1 := hd e1
  have E2 := hd e2
  have k9 := HN.out.r9.cell (j := 0) (v := .int .i64 x'.k) rfl
  clear e1 e2 HA PCV PIV PRA HSO HPR HPE HDE
  go_upto_if 41 with fail
  go_cut [11, 12, 13, 14] from 41 to 77 (fun p11 p12 p13 p14 wd => ∃ c2 a9 c9 ls', Hid (Fe w wd w1.heap.size g8 D.tick (.slice a3 D.cells.length c3) (.slice a4 D.lines.length c4) D.cells ls' c2 (.slice a9 ys.length c9) ys) ∧ Hid (nextC S D = ⟨D.tick + 1, D.cells.set pn ⟨c2, ys⟩, ls'⟩))
  case first =>
   by_cases hx0 : x'.k = 0
   ·have hx' : (x'.k != 0) = false := by simpa using hx0
    have HEQ : Hid (nextC S D = ⟨D.tick + 1, D.cells.set pn ⟨c', ys⟩, D.lines⟩) := by
     show _ = _
     unfold nextC
     rw [E1.out, E2.out]
     simp only [HST.out]
     rw [if_pos hx0, HPN.out, Int.toNat_natCast]
    clear hx0
    go_wp2
    go_meet
    exact ⟨c', a8, c8, D.lines, ⟨F3.out.d, F3.out.r2, F3.out.r3, F3.out.n.newP (fun e => F3.out.gl _ e rfl), F3.out.g0, F3.out.gc, HN.out.r8, HN.out.s, HIN.out.in2⟩, HEQ⟩
   ·have hOK : WantOk S x' := by
     rcases HWANT.out with h | h
     ·exact absurd (by rw [h]; rfl) hx0
     ·exact h
    have hx' : (x'.k != 0) = true := by simpa using hx0
    rw [hx']
    obtain ⟨cn, hcn⟩ := Int.eq_ofNat_of_zero_le hOK.c0
    have hc1 := hOK.c1
    have hcl : cn < S.chans.length := by omega
    have hcli : (cn : Int) < S.chans.length := by omega
    have hll := HLL.out
    have hll2 : cn < D.lines.length := by omega
    have hlli : (cn : Int) < D.lines.length := by omega
    obtain ⟨kb, ko, kcap, e5, hkcap, hkbw, hkc⟩ := HS.out.c.open om
    cases e5
    obtain ⟨hkd, _, _⟩ := chan_cells hkc cn hcl
    obtain ⟨lb, lo, lcap, e6, hlcap, hlbw, hlc⟩ := HW.out.l.open om
    cases e6
    obtain ⟨la1, lc1, hlv, hls⟩ := hlc cn hll2
    have hck := HLIN.out cn hcl hll2
    have e7 : S.chans[x'.ch.toNat]? = some S.chans[cn] := by rw [hcn, Int.toNat_natCast, List.getElem?_eq_getElem hcl]
    have e8 : D.lines[x'.ch.toNat]? = some D.lines[cn] := by rw [hcn, Int.toNat_natCast, List.getElem?_eq_getElem hll2]
    generalize S.chans[cn] = ch at hkd hck e7
    generalize D.lines[cn] = ln at hlv hls hck e8
    obtain ⟨kd, fr, tt⟩ := ch
    simp only at hkd hck
    obtain ⟨⟨zs, nv, tv⟩, hsv⟩ : ∃ r, servR kd ln x' = r := ⟨_, rfl⟩
    have HSV := hd fun w hS => kserve_any kd ln (.slice la1 ln.length lc1) x' w hS hck zs nv tv hsv
    have hre : replyE true x'.k x'.reg x'.flag kd = 0 := by
     have h1 := chkL_zero hck
     have h2 : kindB kd = true := by unfold kindB; rcases h1 with h1 | h1 <;> simp [h1.1]
     have h3 : regB x'.reg = true := by unfold regB; simp [hOK.r0, hOK.r1]
     have h4 : regB x'.flag = true := by unfold regB; simp [hOK.f0, hOK.f1]
     unfold replyE
     rw [h2, h3, h4]
     rcases hOK.k with h5 | h5 <;> rw [h5] <;> rfl
    have HRP := hd fun w hS => reply_ok c' ys (.slice a8 ys.length c8) x'.k x'.ch x'.reg x'.flag x'.val kd nv tv HFI.out hre w hS
    have HEQ : Hid (nextC S D = ⟨D.tick + 1, D.cells.set pn ⟨c'.replied x'.k x'.reg x'.flag kd nv tv, ys⟩, D.lines.set cn zs⟩) := by
     show _ = _
     unfold nextC
     rw [E1.out, E2.out]
     simp only [HST.out]
     rw [if_neg hx0, e7, e8]
     simp only [hsv]
     rw [HPN.out, Int.toNat_natCast, hcn, Int.toNat_natCast]
    generalize c'.replied x'.k x'.reg x'.flag kd nv tv = c2 at HRP HEQ
    have hwl := F3.out.d.size
    have q1 := F3.out.r0.cell (j := 1) (v := .slice (some ⟨kb, ko, none⟩) S.chans.length kc) rfl
    have q2 := HN.out.r9.cell (j := 1) (v := .int .i64 x'.ch) rfl
    rw [hcn] at q2
    have q3 := bcl F3.out.d hkbw hkd
    have HLV := hd (bcl F3.out.d hlbw hlv)
    have HLS := hd (hls.up F3.out.d)
    have HCN := hd hcn
    clear hkd hlv hls hkc hlc hck hsv hre e7 e8 hx0 hc1 hll hcn hOK k9
    go_upto_region 6 with fail
    go_cut [12, 13, 14] from 49 to 62 (fun p12 p13 p14 wd => ∃ g12 a6 c6, p12 = .pointer (some ⟨g12, 0, none⟩) ∧ p13 = .int .i64 nv ∧ p14 = .bool tv ∧ Hid (Nt wc wd g12 (.slice a6 zs.length c6) zs))
    case first =>
     refine region_still (S := fun w' => Below wc.heap.size wc w') 16 kr (Below.refl _ _).drew (fun hHeld => ?_)
     refine Still.t 0 [] hHeld ?_ (hy := by (intro w' hSw; (try dsimp only at hSw); have q0 := (F3.out.r1.up hSw F3.out.r1.lt).cell (j := 2) (v := .slice (some ⟨lb, lo, none⟩) D.lines.length lc) rfl; have q1 := (HN.out.r9.up hSw HN.out.r9.lt).cell (j := 1) (v := .int .i64 x'.ch) rfl; rw [HCN.out] at q1; have q2 := bcl hSw om HLV.out; clear hSw; go_simp; try with_reducible rfl))
     refine Still.t 1 [] hHeld ?_ (hy := by (intro w' hSw; (try dsimp only at hSw); have q0 := (F3.out.r1.up hSw F3.out.r1.lt).cell (j := 2) (v := .slice (some ⟨lb, lo, none⟩) D.lines.length lc) rfl; have q1 := (HN.out.r9.up hSw HN.out.r9.lt).cell (j := 1) (v := .int .i64 x'.ch) rfl; rw [HCN.out] at q1; have q2 := bcl hSw om HLV.out; clear hSw; go_simp; try with_reducible rfl))
     refine Still.t 2 [] hHeld ?_ (hy := by (intro w' hSw; (try dsimp only at hSw); have q0 := (F3.out.r1.up hSw F3.out.r1.lt).cell (j := 2) (v := .slice (some ⟨lb, lo, none⟩) D.lines.length lc) rfl; have q1 := (HN.out.r9.up hSw HN.out.r9.lt).cell (j := 1) (v := .int .i64 x'.ch) rfl; rw [HCN.out] at q1; have q2 := bcl hSw om HLV.out; clear hSw; go_simp; try with_reducible rfl))
     refine Still.t 3 [] hHeld ?_ (hy := by (intro w' hSw; (try dsimp only at hSw); have q0 := (F3.out.r1.up hSw F3.out.r1.lt).cell (j := 2) (v := .slice (some ⟨lb, lo, none⟩) D.lines.length lc) rfl; have q1 := (HN.out.r9.up hSw HN.out.r9.lt).cell (j := 1) (v := .int .i64 x'.ch) rfl; rw [HCN.out] at q1; have q2 := bcl hSw om HLV.out; clear hSw; go_simp; try with_reducible rfl))
     refine Still.t 4 [] hHeld ?_ (hy := by (intro w' hSw; (try dsimp only at hSw); have q0 := (F3.out.r1.up hSw F3.out.r1.lt).cell (j := 2) (v := .slice (some ⟨lb, lo, none⟩) D.lines.length lc) rfl; have q1 := (HN.out.r9.up hSw HN.out.r9.lt).cell (j := 1) (v := .int .i64 x'.ch) rfl; rw [HCN.out] at q1; have q2 := bcl hSw om HLV.out; clear hSw; go_simp; try with_reducible rfl))
     refine Still.t 5 [] hHeld ?_ (hy := by (intro w' hSw; (try dsimp only at hSw); have q0 := (F3.out.r1.up hSw F3.out.r1.lt).cell (j := 2) (v := .slice (some ⟨lb, lo, none⟩) D.lines.length lc) rfl; have q1 := (HN.out.r9.up hSw HN.out.r9.lt).cell (j := 1) (v := .int .i64 x'.ch) rfl; rw [HCN.out] at q1; have q2 := bcl hSw om HLV.out; clear hSw; go_simp; try with_reducible rfl))
     refine Still.t 6 [] hHeld ?_ (hy := by (intro w' hSw; (try dsimp only at hSw); have q0 := (F3.out.r1.up hSw F3.out.r1.lt).cell (j := 2) (v := .slice (some ⟨lb, lo, none⟩) D.lines.length lc) rfl; have q1 := (HN.out.r9.up hSw HN.out.r9.lt).cell (j := 1) (v := .int .i64 x'.ch) rfl; rw [HCN.out] at q1; have q2 := bcl hSw om HLV.out; clear hSw; go_simp; try with_reducible rfl))
     refine Still.y 7 [] rfl (yields_load rfl _ _ rfl _ ev _ (fun w' hSw => Rw.loadAt (HN.out.r9.up hSw HN.out.r9.lt) Tryz.underlying124 rfl sizeWant)) hHeld ?_
     have M0 := hd (Ns.begin wc zs)
     generalize World.drew _ = Y0 at M0 hHeld ⊢
     refine Still.all (rs := [8, 13]) kr (by simp) (Still.one (i := 8) rfl rfl (fun K hK => ?_) (Still.one (i := 13) rfl rfl (fun K hK => ?_) (by simp)))
     ·refine wp_call 110 _ _ rfl ent_serve #[.int .i64 kd, .agg #[.slice la1 ln.length lc1], .agg x'.cs] ev ((HSV.out _ (HLS.out.up M0.out.d)).mono ?_)
      rintro e Y1 ⟨v6, rfl, o6, f6⟩
      obtain ⟨a6, c6, rfl⟩ := o6.1.form
      have m := M0.out.call o6 f6
      refine ⟨_, rfl, hK _ _ (fun _ => m.d) (fun hh => ?_)⟩
      have hHeld := hh (by decide)
      clear hK K hh
      try simp only [Act.put, l1, l2, l3, l4, l5, l6]
      have M1 := hd m
      clear m M0 o6 f6
      refine Still.t 9 [] hHeld ?_
      refine Still.t 10 [] hHeld ?_
      refine Still.t 11 [] hHeld ?_
      refine Still.t 12 [] hHeld ?_
      refine Still.o 13 rfl rfl (fun K hK => ?_)
      go_simp
      have m : Ns wc (Y1.alloc (.cells #[.slice none 0 0] 81)) (some (.slice a6 zs.length c6)) (some Y1.heap.size) zs := M1.out.new rfl
      refine hK _ _ (fun _ => m.d) (fun hh => ?_)
      have hHeld := hh (by decide)
      clear hK K hh
      try simp only [Act.put, l1, l2, l3, l4, l5, l6]
      generalize World.alloc _ _ = Y2 at m hHeld ⊢
      have M2 := hd m
      clear m M1
      refine Still.o 14 rfl rfl (fun K hK => ?_)
      refine wp_store_row 81 _ _ rfl (Y1.heap.size) #[.slice a6 zs.length c6] ev ev 81 #[.slice none 0 0] (M2.out.g _ rfl).1 sizeLine rfl (by simp [Value.oneCell']) ?_
      refine hK _ _ (fun _ => below_row M2.out.d (M2.out.g _ rfl).2.1 _) (fun hh => ?_)
      have hHeld := hh (by decide)
      clear hK K hh
      try simp only [Act.put, l1, l2, l3, l4, l5, l6]
      refine Still.o 15 rfl rfl (fun K hK => ?_)
      go_simp
      refine hK _ _ (fun _ => hHeld) (fun hh => ?_)
      clear hK K hh
      try simp only [Act.put, l1, l2, l3, l4, l5, l6]
      refine Still.o 16 rfl rfl (fun K hK => ?_)
      go_simp
      refine hK _ _ ab (fun _ => Still.vv ?_)
      clear hK K
      clear hHeld
      go_wp2
      go_meet
      exact ⟨_, a6, c6, rfl, rfl, rfl, M2.out.done⟩
     ·go_simp
      have m : Ns wc (Y0.alloc (.cells #[.slice none 0 0] 81)) none (some Y0.heap.size) zs := M0.out.new rfl
      refine hK _ _ (fun _ => m.d) (fun hh => ?_)
      have hHeld := hh (by decide)
      clear hK K hh
      try simp only [Act.put, l1, l2, l3, l4, l5, l6]
      generalize World.alloc _ _ = Y1 at m hHeld ⊢
      have M1 := hd m
      clear m M0
      refine Still.o 8 rfl rfl (fun K hK => ?_)
      refine wp_call 110 _ _ rfl ent_serve #[.int .i64 kd, .agg #[.slice la1 ln.length lc1], .agg x'.cs] ev ((HSV.out _ (HLS.out.up M1.out.d)).mono ?_)
      rintro e Y2 ⟨v6, rfl, o6, f6⟩
      obtain ⟨a6, c6, rfl⟩ := o6.1.form
      have m := M1.out.call o6 f6
      refine ⟨_, rfl, hK _ _ (fun _ => m.d) (fun hh => ?_)⟩
      have hHeld := hh (by decide)
      clear hK K hh
      try simp only [Act.put, l1, l2, l3, l4, l5, l6]
      have M2 := hd m
      clear m M1 o6 f6
      refine Still.t 9 [] hHeld ?_
      refine Still.t 10 [] hHeld ?_
      refine Still.t 11 [] hHeld ?_
      refine Still.t 12 [] hHeld ?_
      refine Still.o 14 rfl rfl (fun K hK => ?_)
      refine wp_store_row 81 _ _ rfl (Y0.heap.size) #[.slice a6 zs.length c6] ev ev 81 #[.slice none 0 0] (M2.out.g _ rfl).1 sizeLine rfl (by simp [Value.oneCell']) ?_
      refine hK _ _ (fun _ => below_row M2.out.d (M2.out.g _ rfl).2.1 _) (fun hh => ?_)
      have hHeld := hh (by decide)
      clear hK K hh
      try simp only [Act.put, l1, l2, l3, l4, l5, l6]
      refine Still.o 15 rfl rfl (fun K hK => ?_)
      go_simp
      refine hK _ _ (fun _ => hHeld) (fun hh => ?_)
      clear hK K hh
      try simp only [Act.put, l1, l2, l3, l4, l5, l6]
      refine Still.o 16 rfl rfl (fun K hK => ?_)
      go_simp
      refine hK _ _ ab (fun _ => Still.vv ?_)
      clear hK K
      clear hHeld
      go_wp2
      go_meet
      exact ⟨_, a6, c6, rfl, rfl, rfl, M2.out.done⟩
    case rest =>
     obtain ⟨g12, a6, c6, rfl, rfl, rfl, HT⟩ := hcut
     have r8 := hd (HN.out.r8.up HT.out.d HN.out.r8.lt)
     have r9 := hd (HN.out.r9.up HT.out.d HN.out.r9.lt)
     have s8 := hd (HN.out.s.up HT.out.d)
     have hd8 := HN.out.d.size
     have n8 := HN.out.n8
     have n9 := HN.out.n9
     have hne89 := HN.out.ne
     have hT0 := HT.out.g0
     have hdT := HT.out.d.size
     have hl8 := HN.out.r8.lt
     simp only [Cel.v_cs] at HRP
     rw [show wantV x'.k x'.ch x'.reg x'.flag x'.val = .agg x'.cs from rfl] at HRP
     clear q1 q2 q3
     go_wp2_with (first | (refine wpList_load_row rfl 35 (.tmp 8) rfl g8 rfl 35 (c'.cs (.slice a8 ys.length c8)) (0, 0) _ r8.out Tryz.underlying35 rfl sizeCell ?_) | (refine wpList_load_row rfl 124 (.tmp 9) rfl g9 rfl 124 x'.cs (0, 0) _ r9.out Tryz.underlying124 rfl sizeWant ?_))
     refine (HRP.out _ s8.out).mono ?_
     rintro e wr ⟨v', rfl, o8, b8⟩
     obtain ⟨a7, c7, rfl⟩ := own_form o8
     have z8 := b8.size
     have ob := own_block o8
     have hnT := HT.out.n
     have S8 := hd (own_sl o8)
     have R8 := hd (r8.out.up b8 om)
     have R9 := hd (r9.out.up b8 r9.out.lt)
     have RT := hd (HT.out.r.up b8 HT.out.r.lt)
     have ST := hd (HT.out.s.up b8)
     have BB := hd ((HN.out.d.trans (HT.out.d.mono hd8)).trans (b8.mono om))
     have HOB := hd ob
     have HNT := hd hnT
     clear b8 o8 r8 r9 s8 HRP ob hnT HT HN HLV HLS HSV F3 HIN
     go_wp2_with (refine wpList_store_rowW rfl 35 (.tmp 8) (.tmp 69) rfl g8 (c2.cs (.slice a7 ys.length c7)) rfl rfl 35 (c'.cs (.slice a8 ys.length c8)) R8.out sizeCell rfl (Cel.cs_one _ _ rfl) ?_)
     intro W9 HW9
     have B9 : Hid (Below w2.heap.size w2 W9) := by
      show Below _ _ _
      rw [HW9.out]
      exact below_row BB.out n8 _
     have F9 := hd (FN2.out.up B9.out)
     have R89 : Hid (Rw W9 g8 35 (c2.cs (.slice a7 ys.length c7))) := by
      show Rw _ _ _ _
      rw [HW9.out]
      exact R8.out.row _
     have r99 : Rw W9 g9 124 x'.cs := by
      rw [HW9.out]
      exact R9.out.row_other _ (Ne.symm hne89)
     have rt9 : Rw W9 g12 81 #[.slice a6 zs.length c6] := by
      rw [HW9.out]
      exact RT.out.row_other _ om
     have ST9 : Sl W9 1 (.slice a6 zs.length c6) zs.length (ints zs) := by
      rw [HW9.out]
      exact ST.out.row _ (fun e => by have := HNT.out _ e; omega)
     have S89 : Hid (Sl W9 1 (.slice a7 ys.length c7) ys.length (ints ys)) := by
      show Sl _ _ _ _ _
      rw [HW9.out]
      exact S8.out.row _ (fun e => by have := HOB.out _ e; omega)
     obtain ⟨g4, cap4, e4, hg4, hg4l, hcap4, ⟨u4, hu4⟩, hf4, hP⟩ := F9.out.n.putL hll2 zs (.slice a6 zs.length c6) ST9 (fun x e => ⟨⟨by have := HNT.out x e; omega, by have := HNT.out x e; omega⟩, fun e' => by have := HNT.out x e; have := (FN2.out.n.ltC x e').2; omega⟩) (fun x e e' => by have := HNT.out x e; have := (FN2.out.n.ltL x e').2; omega) (fun e => F9.out.gl _ e rfl)
     injection e4 with e4 _ e5
     subst e4 e5
     have hg42 := (FN2.out.n.ltL g4 rfl).2
     have q1 := F9.out.r3.cell (j := 2) (v := .slice (some ⟨g4, 0, none⟩) D.lines.length c4) rfl
     have q2 := r99.cell (j := 1) (v := .int .i64 x'.ch) rfl
     rw [HCN.out] at q2
     have q3 := rt9.cell (j := 0) (v := .slice a6 zs.length c6) rfl
     have HFE : Hid (Fe w (W9.setCell ⟨g4, cn, none⟩ (.slice a6 zs.length c6)) w1.heap.size g8 D.tick (.slice a3 D.cells.length c3) (.slice (some ⟨g4, 0, none⟩) D.lines.length c4) D.cells (D.lines.set cn zs) c2 (.slice a7 ys.length c7) ys) :=
      ⟨F9.out.d.setCell (p := ⟨g4, cn, none⟩) so _, F9.out.r2.set_other _ so, F9.out.r3.set_other _ (fun e => F9.out.gl g4 rfl e.symm), hP, F9.out.g0, F9.out.gc, R89.out.set_other _ so, S89.out.set _ (fun e => by have := HOB.out _ e; omega), fun x e => ⟨⟨by have := HOB.out x e; omega, by have := HOB.out x e; omega⟩, fun e' => by have := HOB.out x e; have := (FN2.out.n.ltC x e').2; omega⟩⟩
     clear HW9 B9 F9 R89 r99 rt9 ST9 S89 hP BB R8 R9 RT ST S8 HOB HNT
     go_wp2
     go_meet
     exact ⟨c2, a7, c7, D.lines.set cn zs, HFE, HEQ⟩
  case rest =>
   obtain ⟨c2, a9, c9, ls', F, HEQ⟩ := hcut
   obtain ⟨g3, cap3, e3, hg3, hg3l, hcap3, hth, hWN⟩ := F.out.n.putC (fun e => F.out.gc _ e rfl) hpd ⟨c2, ys⟩ (.slice a9 ys.length c9) F.out.s F.out.i
   injection e3 with e3 _ e4
   subst e3 e4
   have hg3g : w1.heap.size ≠ g3 := fun e => F.out.gc g3 rfl e.symm
   have HTH := hd hth
   have HWN := hd hWN
   have q1 := F.out.r3.cell (j := 1) (v := .slice (some ⟨g3, 0, none⟩) D.cells.length c3) rfl
   clear hth hWN k9 HN F3 HIN E1 E2
   go_wp2_with (first | (refine wpList_load_row rfl 35 (.tmp 8) rfl g8 rfl 35 (c2.cs (.slice a9 ys.length c9)) (0, 0) _ F.out.r8 Tryz.underlying35 rfl sizeCell ?_) | (refine wpList_store_midW rfl 35 (.tmp 81) (.tmp 80) rfl g3 (pn * 16) (c2.cs (.slice a9 ys.length c9)) rfl rfl HTH.out sizeCell (Cel.cs_one _ _ rfl) ?_))
   intro W5 HW5
   have r3 : Rw W5 w1.heap.size 30 #[.int .i64 D.tick, .slice (some ⟨g3, 0, none⟩) D.cells.length c3, .slice a4 D.lines.length c4] := by
    rw [HW5.out]
    exact rw_setCells_other _ _ F.out.r3 hg3g
   have R3 := hd r3
   have R2 : Hid (Rw W5 (w.heap.size + 1 + 1) 30 #[.int .i64 0, .slice none 0 0, .slice none 0 0]) := by
    show Rw _ _ _ _
    rw [HW5.out]
    exact rw_setCells_other _ _ F.out.r2 om
   have HD5 : Hid (Below w.heap.size w W5) := by
    show Below _ _ _
    rw [HW5.out]
    exact below_setCells _ _ F.out.d om
   rw [← HW5.out] at HWN
   have hG0 := F.out.g0
   have q0 := r3.cell (j := 0) (v := .int .i64 D.tick) rfl
   clear HW5 r3 F HTH q1
   go_wp2_with (refine wpList_store_cellW rfl 3 (.tmp 85) (.tmp 84) rfl w1.heap.size 0 (.int .i64 (D.tick + 1)) rfl rfl rfl 30 _ R3.out (by show 0 < 3; decide) sizeInt1 ?_)
   intro W6 HW6
   have R36 : Hid (Rw W6 w1.heap.size 30 #[.int .i64 (D.tick + 1), .slice (some ⟨g3, 0, none⟩) D.cells.length c3, .slice a4 D.lines.length c4]) := by
    show Rw _ _ _ _
    rw [HW6.out]
    exact R3.out.set 0 _
   have R26 : Hid (Rw W6 (w.heap.size + 1 + 1) 30 #[.int .i64 0, .slice none 0 0, .slice none 0 0]) := by
    show Rw _ _ _ _
    rw [HW6.out]
    exact R2.out.set_other _ so
   have HD6 : Hid (Below w.heap.size w W6) := by
    show Below _ _ _
    rw [HW6.out]
    exact HD5.out.setCell (p := ⟨w1.heap.size, 0, none⟩) so _
   have HWN6 : Hid (WldN (w.heap.size + 3) w1.heap.size W6 (.slice (some ⟨g3, 0, none⟩) D.cells.length c3) (.slice a4 D.lines.length c4) (D.cells.set pn ⟨c2, ys⟩) ls') := by
    show WldN _ _ _ _ _ _ _
    rw [HW6.out]
    exact HWN.out.set (Or.inr rfl) _ _
   clear HW6 R3 R2 HD5 HWN q0
   go_wp2_with (first | (refine wpList_load_row rfl 30 (.tmp 5) rfl w1.heap.size rfl 30 _ (0, 0) _ R36.out Tryz.underlying30 rfl sizeWld ?_) | (refine wpList_store_row rfl 30 (.tmp 4) (.tmp 86) rfl (w.heap.size + 1 + 1) #[.int .i64 (D.tick + 1), .slice (some ⟨g3, 0, none⟩) D.cells.length c3, .slice a4 D.lines.length c4] rfl rfl 30 _ R26.out sizeWld rfl (by simp [Value.oneCell']) ?_))
   refine bodyPost_ret (results_cell_row Tryz.results67 _ _ (w.heap.size + 1 + 1) 30 #[.int .i64 (D.tick + 1), .slice (some ⟨g3, 0, none⟩) D.cells.length c3, .slice a4 D.lines.length c4] (0, 0) _ rfl (R26.out.row _) Tryz.underlying30 rfl sizeWld) rfl ⟨_, _, rfl, ?_, below_row HD6.out om _⟩
   rw [HEQ.out]
   exact WldN.f (D := ⟨D.tick + 1, D.cells.set pn ⟨c2, ys⟩, ls'⟩) (HWN6.out.row (Or.inl om) _) om
end Go.Proofs.YtehhhiodfcdnmaaGreatDoor
