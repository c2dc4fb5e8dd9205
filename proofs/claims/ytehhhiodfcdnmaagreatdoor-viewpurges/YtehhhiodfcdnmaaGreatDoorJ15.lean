/- ref.OwnSystem: a system of its own. -/
import Derived.Test.YtehhhiodfcdnmaaGreatDoorJ4
import Derived.Test.YtehhhiodfcdnmaaGreatDoorJ5
namespace Go.Proofs.YtehhhiodfcdnmaaGreatDoor
set_option linter.unusedSimpArgs false
set_option linter.unusedVariables false
open Go.RowKit Go.Sort
attribute [local go_sem ↓] Go.wp_at_zero Go.wp_at_succ
theorem em_new (w : World) (e : TypeId) (b : Nat) (hb : b = w.heap.size) : (w.alloc (.cells #[] e)).heap[b]? = some (.cells #[] e (0, 0)) := by
  subst hb
  show (w.heap.push _)[w.heap.size]? = _
  simp
theorem em_alloc {w : World} {o x : Obj} {b : Nat} (h : w.heap[b]? = some x) : (w.alloc o).heap[b]? = some x := by
  have hb : b < w.heap.size := by
    rcases Nat.lt_or_ge b w.heap.size with h' | h'
    · exact h'
    · rw [Array.getElem?_eq_none h'] at h; cases h
  exact (Below.heap_alloc w o b hb).trans h
theorem em_up {w w' : World} {x : Obj} {b : Nat} (hb : Below w.heap.size w w') (h : w.heap[b]? = some x) : w'.heap[b]? = some x := by
  have hl : b < w.heap.size := by
    rcases Nat.lt_or_ge b w.heap.size with h' | h'
    · exact h'
    · rw [Array.getElem?_eq_none h'] at h; cases h
  exact (hb.block b hl).trans h
theorem v3_alloc {w : World} {o : Obj} {g : Nat} {a b c : Value} (h : Var3 w g a b c) : Var3 (w.alloc o) g a b c := h.up ((Below.refl _ _).alloc (Nat.le_refl _) _)
theorem v3_drew {w : World} {g : Nat} {a b c : Value} (h : Var3 w g a b c) : Var3 w.drew g a b c := ⟨h.x, h.y, h.z, h.fx, h.fy, h.fz, h.lt⟩
theorem sz_alloc (w : World) (o : Obj) : (w.alloc o).heap.size = w.heap.size + 1 := by simp
theorem sz_drew (w : World) : w.drew.heap.size = w.heap.size := rfl
theorem bldC {n : Nat} {w4 : World} {g : Nat} {v1 v2 : Value} {cs : List Chn} {ss : List Slt} (V : Var3 w4 g (.slice none 0 0) (.slice none 0 0) (.slice none 0 0)) (s1 : Sl w4 3 v1 cs.length (rowC chC cs)) (s2 : Sl w4 2 v2 ss.length (rowC slC ss)) (hn : n ≤ g)
    (h1 : NewB n v1 ∧ ∀ k, v1.ownBlock = some k → k ≠ g ∧ k < w4.heap.size) (h2 : NewB n v2 ∧ ∀ k, v2.ownBlock = some k → k ≠ g ∧ k < w4.heap.size) :
    Bld n (((w4.setCell ⟨g, 0, none⟩ (.slice none 0 0)).setCell ⟨g, 1, none⟩ v1).setCell ⟨g, 2, none⟩ v2).heap.size (((w4.setCell ⟨g, 0, none⟩ (.slice none 0 0)).setCell ⟨g, 1, none⟩ v1).setCell ⟨g, 2, none⟩ v2) g (.slice none 0 0) v1 v2 [] cs ss := by
  have hz : (((w4.setCell ⟨g, 0, none⟩ (.slice none 0 0)).setCell ⟨g, 1, none⟩ v1).setCell ⟨g, 2, none⟩ v2).heap.size = w4.heap.size := by rw [size_set, size_set, size_set]
  have f1 : v1.ownBlock ≠ some g := fun e => (h1.2 g e).1 rfl
  have f2 : v2.ownBlock ≠ some g := fun e => (h2.2 g e).1 rfl
  refine bld_of V.sets (((s1.set _ f1).set _ f1).set _ f1) (((s2.set _ f2).set _ f2).set _ f2) hn ⟨h1.1, fun k e => ?_⟩ ⟨h2.1, fun k e => ?_⟩
  · rw [hz]; exact h1.2 k e
  · rw [hz]; exact h2.2 k e
theorem bldD {n : Nat} {w4 : World} {v1 v2 : Value} {cs : List Chn} {ss : List Slt} {t : TypeId} (s1 : Sl w4 3 v1 cs.length (rowC chC cs)) (s2 : Sl w4 2 v2 ss.length (rowC slC ss)) (hn : n ≤ w4.heap.size)
    (h1 : NewB n v1 ∧ ∀ k, v1.ownBlock = some k → k < w4.heap.size) (h2 : NewB n v2 ∧ ∀ k, v2.ownBlock = some k → k < w4.heap.size) :
    Bld n (w4.alloc (.cells #[.slice none 0 0, v1, v2] t)).heap.size (w4.alloc (.cells #[.slice none 0 0, v1, v2] t)) w4.heap.size (.slice none 0 0) v1 v2 [] cs ss := by
  have bb : Below w4.heap.size w4 (w4.alloc (.cells #[.slice none 0 0, v1, v2] t)) := (Below.refl _ _).alloc (Nat.le_refl _) _
  refine bld_of (var3_new w4 _ _ _ t _ rfl) (s1.up bb) (s2.up bb) hn ⟨h1.1, fun k e => ?_⟩ ⟨h2.1, fun k e => ?_⟩
  · have := h1.2 k e; simp; omega
  · have := h2.2 k e; simp; omega
theorem keepB {W w' : World} {g : Nat} {vp vc vs : Value} (hB : Box W g vp vc vs) (D : Below W.heap.size W w') : w'.cell? ⟨g, 1, none⟩ = some vc ∧ w'.cell? ⟨g, 2, none⟩ = some vs :=
  ⟨(hB.up D).c, (hB.up D).s⟩
theorem Bld.set {n base : Nat} {wr : World} {g : Nat} {vp vc vs : Value} {ps : List Prt} {cs : List Chn} {ss : List Slt} (h : Bld n base wr g vp vc vs ps cs ss) {c j : Nat} (hc : c < n) (u : Value) : Bld n base (wr.setCell ⟨c, j, none⟩ u) g vp vc vs ps cs ss := by
  obtain ⟨l, h1, h2, h3⟩ := h.row
  have hgn := h.gn
  have hgl := h.gl
  refine ⟨cl_set (Or.inl (by omega)) h.cp, fr_set h.fp, cl_set (Or.inl (by omega)) h.cc, cl_set (Or.inl (by omega)) h.ct, h.gl, h.gn, by rw [size_set]; exact h.bs, ⟨l, h1, ownsRow_setCell_below h2 (show c < base by omega) u, fun k hk hk' => ?_⟩, h.c.far h.nc.1 hc u, h.s.far h.ns.1 hc u, h.nc, h.ns⟩
  obtain ⟨p1, p2, p3, p4, p5⟩ := h3 k hk hk'
  exact ⟨⟨p1.code.far p2.1 (by omega) u, p1.inn.far p2.2 (by omega) u⟩, p2, p3, fun b e => by rw [size_set]; exact p4 b e, fun b e => by rw [size_set]; exact p5 b e⟩
theorem keep4 {W w' : World} {a b c d : Addr} {x y z u : Value} (D : Below W.heap.size W w') (h : W.cell? a = some x ∧ W.cell? b = some y ∧ W.cell? c = some z ∧ W.cell? d = some u) (ha : a.block < W.heap.size) (hb : b.block < W.heap.size) (hc : c.block < W.heap.size) (hd : d.block < W.heap.size) :
    w'.cell? a = some x ∧ w'.cell? b = some y ∧ w'.cell? c = some z ∧ w'.cell? d = some u :=
  ⟨(D.cell ha).trans h.1, (D.cell hb).trans h.2.1, (D.cell hc).trans h.2.2.1, (D.cell hd).trans h.2.2.2⟩
end Go.Proofs.YtehhhiodfcdnmaaGreatDoor

namespace Go.Proofs.YtehhhiodfcdnmaaGreatDoor
set_option linter.unusedSimpArgs false
set_option linter.unusedVariables false
open Go.RowKit Go.Sort
attribute [local go_sem ↓] Go.wp_at_zero Go.wp_at_succ
set_option maxRecDepth 100000 in
set_option maxHeartbeats 8000000 in
theorem ownSystem_any (S : SysD) (vp vc vs : Value) (w : World) (hS : Sys w vp vc vs S) (hn1 : S.parts.length ≤ 1000) (hn2 : S.chans.length ≤ 1000) (hn3 : S.slots.length ≤ 1000) (hq : ∀ j (hj : j < S.parts.length), S.parts[j].code.length ≤ 1000 ∧ S.parts[j].inn.length ≤ 1000) :
    Calls Tryz.prog 25 #[.agg #[vp, vc, vs]] w fun e w' => ∃ xp xc xs, e = .returned (.agg #[xp, xc, xs]) ∧ (∃ base g, Bld (w.heap.size + 2) base w' g xp xc xs S.parts S.chans S.slots) ∧ Below w.heap.size w w' := by
  obtain ⟨ca, cc, rfl⟩ := hS.c.form
  obtain ⟨sa, sc, rfl⟩ := hS.s.form
  obtain ⟨i1, hi, hz0, hz1, hz2⟩ := info_parts infoChan
  obtain ⟨i2, ki, kz0, kz1, kz2⟩ := info_parts infoSlot
  have HS := Lib.hid hS
  have HQ := Lib.hid hq
  clear hS hq
  go_enter Tryz.func25, Tryz.ntmps25
  go_wp2_with fail
  have hB := (box_new w vp (.slice ca S.chans.length cc) (.slice sa S.slots.length sc) 26 _ rfl).up (w' := (w.alloc (.cells #[vp, .slice ca S.chans.length cc, .slice sa S.slots.length sc] 26)).alloc (.cells #[.slice none 0 0, .slice none 0 0, .slice none 0 0] 26)) ((Below.refl _ _).alloc (Nat.le_refl _) _)
  have hV := var3_new (w.alloc (.cells #[vp, .slice ca S.chans.length cc, .slice sa S.slots.length sc] 26)) (.slice none 0 0) (.slice none 0 0) (.slice none 0 0) 26 (w.heap.size + 1) (by simp)
  have D : Below w.heap.size w ((w.alloc (.cells #[vp, .slice ca S.chans.length cc, .slice sa S.slots.length sc] 26)).alloc (.cells #[.slice none 0 0, .slice none 0 0, .slice none 0 0] 26)) := (by repeat (first | exact Below.refl _ _ | assumption | refine Below.drew ?_ | refine Below.alloc ?_ (by first | (simp; done) | (simp; omega)) _ | refine Below.setCell ?_ (by first | (simp; done) | (simp; omega)) _))
  have hz : ((w.alloc (.cells #[vp, .slice ca S.chans.length cc, .slice sa S.slots.length sc] 26)).alloc (.cells #[.slice none 0 0, .slice none 0 0, .slice none 0 0] 26)).heap.size = w.heap.size + 2 := by simp
  generalize (w.alloc (.cells #[vp, .slice ca S.chans.length cc, .slice sa S.slots.length sc] 26)).alloc (.cells #[.slice none 0 0, .slice none 0 0, .slice none 0 0] 26) = W1 at hB hV D hz ⊢
  have HB := Lib.hid hB
  have HV := Lib.hid hV
  have HD := Lib.hid D
  have hS1 := HS.out.up D
  have HS1 := Lib.hid hS1
  clear hB hV D hS1
  go_wp2
  go_cut [3] from 5 (fun d wc => ∃ g xc xs, d = .pointer (some ⟨g, 0, none⟩) ∧ Hid (Bld (w.heap.size + 2) wc.heap.size wc g (.slice none 0 0) xc xs [] S.chans S.slots) ∧ Hid (Below W1.heap.size W1 wc))
  case first =>
    go_region_held3 (fun w' => w'.cell? ⟨w.heap.size, 1, none⟩ = some (.slice ca S.chans.length cc) ∧ w'.cell? ⟨w.heap.size, 2, none⟩ = some (.slice sa S.slots.length sc)) (exact keepB HB.out (by repeat (first | exact Below.refl _ _ | assumption | refine Below.drew ?_ | refine Below.alloc ?_ (by first | omega | (simp; done) | (simp; omega)) _ | refine Below.setCell ?_ (by first | omega | (simp; done) | (simp; omega)) _)))
      (first
        | (refine step_append_lit (by rfl) (.tmp 5) (.tmp 7) 23 (by rfl) W1.heap.size 89 i1 _ 3 24 Tryz.underlying23 hi hz0 hz1 hz2 rfl (by decide) _ (by first | rfl | simp [Act.eval, Act.put]) (by repeat (first | exact em_new _ _ _ (by first | omega | (simp; done) | (simp; omega)) | refine em_alloc ?_)) (by first | omega | (simp; done) | (simp; omega)) (.slice ca S.chans.length cc) S.chans.length (rowC chC S.chans) (by first | rfl | simp [Act.eval, Act.put]) (HS1.out.c.up (by repeat (first | exact Below.refl _ _ | assumption | refine Below.drew ?_ | refine Below.alloc ?_ (by first | omega | (simp; done) | (simp; omega)) _ | refine Below.setCell ?_ (by first | omega | (simp; done) | (simp; omega)) _))) (rowC_one chC_one _) (by unfold maxLen; omega) (by omega) ?_; intro v1 w3 o1 b1 h1; obtain ⟨a1, c1, rfl⟩ := own_form o1; have O1 := Lib.hid o1; have H1 := Lib.hid h1; have D3 : Below W1.heap.size W1 w3 := Below.trans (by repeat (first | exact Below.refl _ _ | assumption | refine Below.drew ?_ | refine Below.alloc ?_ (by first | omega | (simp; done) | (simp; omega)) _ | refine Below.setCell ?_ (by first | omega | (simp; done) | (simp; omega)) _)) (b1.mono (by first | omega | (simp; done) | (simp; omega))); have z3 := D3.size; have y3 := b1.size; (try have VV := Lib.hid (Var3.up (g := _) (a := .slice none 0 0) (b := .slice none 0 0) (c := .slice none 0 0) (by first | exact v3_drew (var3_new _ _ _ _ _ _ rfl) | exact v3_drew (v3_alloc (var3_new _ _ _ _ _ _ rfl)) | exact v3_drew (v3_alloc (v3_alloc (var3_new _ _ _ _ _ _ rfl))) | exact var3_new _ _ _ _ _ _ rfl | exact v3_alloc (var3_new _ _ _ _ _ _ rfl) | exact v3_alloc (v3_alloc (var3_new _ _ _ _ _ _ rfl))) b1)); clear o1 h1)
        | (refine step_append_lit (by rfl) (.tmp 9) (.tmp 11) 24 (by rfl) W1.heap.size 105 i2 _ 2 16 Tryz.underlying24 ki kz0 kz1 kz2 rfl (by decide) _ (by first | rfl | simp [Act.eval, Act.put]) (by repeat (first | exact em_new _ _ _ (by first | omega | (simp; done) | (simp; omega)) | refine em_alloc ?_ | refine em_up b1 ?_)) (by first | omega | (simp; done) | (simp; omega)) (.slice sa S.slots.length sc) S.slots.length (rowC slC S.slots) (by first | rfl | simp [Act.eval, Act.put]) (HS1.out.s.up (by repeat (first | exact Below.refl _ _ | assumption | refine Below.drew ?_ | refine Below.alloc ?_ (by first | omega | (simp; done) | (simp; omega)) _ | refine Below.setCell ?_ (by first | omega | (simp; done) | (simp; omega)) _))) (rowC_one slC_one _) (by unfold maxLen; omega) (by omega) ?_; intro v2 w4 o2 b2 h2; obtain ⟨a2, c2, rfl⟩ := own_form o2; have O2 := Lib.hid o2; have H2 := Lib.hid h2; have D34 : Below w3.heap.size w3 w4 := Below.trans (by repeat (first | exact Below.refl _ _ | assumption | refine Below.drew ?_ | refine Below.alloc ?_ (by first | omega | (simp; done) | (simp; omega)) _ | refine Below.setCell ?_ (by first | omega | (simp; done) | (simp; omega)) _)) (b2.mono (by first | omega | (simp; done) | (simp; omega))); have D4 : Below W1.heap.size W1 w4 := Below.trans (by repeat (first | exact Below.refl _ _ | assumption | refine Below.drew ?_ | refine Below.alloc ?_ (by first | omega | (simp; done) | (simp; omega)) _ | refine Below.setCell ?_ (by first | omega | (simp; done) | (simp; omega)) _)) (b2.mono (by first | omega | (simp; done) | (simp; omega))); have z4 := D4.size; have y4 := b2.size; (try have V4 := Lib.hid (Var3.up (g := _) (a := .slice none 0 0) (b := .slice none 0 0) (c := .slice none 0 0) (by first | exact VV.out | exact v3_alloc VV.out | exact var3_new _ _ _ _ _ _ rfl | exact v3_alloc (var3_new _ _ _ _ _ _ rfl)) b2)); (try have x0 := V4.out.x); (try have x1 := V4.out.y); (try have x2 := V4.out.z); (try have x3 := V4.out.fx); (try have x4 := V4.out.fy); (try have x5 := V4.out.fz); (try simp only [sz_alloc, sz_drew, hz] at x0 x1 x2 x3 x4 x5); clear o2 h2))
    all_goals go_wp2
    all_goals go_meet
    all_goals have y34 := D34.size
    all_goals try simp only [sz_alloc, sz_drew, hz] at y3
    all_goals try simp only [sz_alloc, sz_drew, hz] at y4
    all_goals first
      | exact ⟨_, _, _, rfl, bldD ((own_sl O1.out).up D34) (own_sl O2.out) (by first | omega | (simp; done) | (simp; omega)) ⟨fun k e => by have := own_block O1.out k e; omega, fun k e => by have := own_ltB O1.out k e; omega⟩ ⟨fun k e => by have := own_block O2.out k e; omega, fun k e => by have := own_ltB O2.out k e; omega⟩, (by repeat (first | exact Below.refl _ _ | assumption | refine Below.drew ?_ | refine Below.alloc ?_ (by first | omega | (simp; done) | (simp; omega)) _ | refine Below.setCell ?_ (by first | omega | (simp; done) | (simp; omega)) _))⟩
      | exact ⟨_, _, _, rfl, bldC (Var3.mk x0 x1 x2 x3 x4 x5 (by have h := V4.out.lt; (try simp only [sz_alloc, sz_drew, hz] at h); omega)) ((own_sl O1.out).up D34) (own_sl O2.out) (by first | omega | (simp; done) | (simp; omega)) ⟨fun k e => by have := own_block O1.out k e; omega, fun k e => by have h := H1.out k e; have := own_ltB O1.out k e; (try simp only [sz_alloc, sz_drew, hz] at h); omega⟩ ⟨fun k e => by have := own_block O2.out k e; omega, fun k e => by have h := H2.out k e; have := own_ltB O2.out k e; (try simp only [sz_alloc, sz_drew, hz] at h); omega⟩, (by repeat (first | exact Below.refl _ _ | assumption | refine Below.drew ?_ | refine Below.alloc ?_ (by first | omega | (simp; done) | (simp; omega)) _ | refine Below.setCell ?_ (by first | omega | (simp; done) | (simp; omega)) _))⟩
  case rest =>
    obtain ⟨g, xc, xs, rfl, HBL, D2c⟩ := hcut
    obtain ⟨W0, hW0⟩ : ∃ W0, W0 = wc := ⟨_, rfl⟩
    subst hW0
    have D0 := Lib.hid (HD.out.trans (D2c.out.mono (by omega)))
    have HV := Lib.hid (HV.out.up D2c.out)
    have HB := Lib.hid (HB.out.up D2c.out)
    obtain ⟨pa, pc, rfl⟩ := HS.out.p.form
    have k0 := HB.out.p
    obtain ⟨xca, xcc, rfl⟩ := HBL.out.c.form
    obtain ⟨xsa, xsc, rfl⟩ := HBL.out.s.form
    have hgn := HBL.out.gn
    have hgl := HBL.out.gl
    have hW02 : w.heap.size + 2 ≤ W0.heap.size := by omega
    clear D2c HD HS1 hi hz0 hz1 hz2 ki kz0 kz1 kz2
    obtain ⟨j1, ji, jz0, jz1, jz2⟩ := info_parts infoIns
    obtain ⟨j2, ki, kz0, kz1, kz2⟩ := info_parts infoIntC
    obtain ⟨j3, hi, hz0, hz1, hz2⟩ := info_parts infoPart
    go_wp2
    go_loopw [4] (fun i wr => ∃ (k : Nat) (v : Value), i = .int .i64 k ∧ k ≤ S.parts.length ∧ Hid (Bld (w.heap.size + 2) W0.heap.size wr g v (.slice xca S.chans.length xcc) (.slice xsa S.slots.length xsc) (S.parts.take k) S.chans S.slots) ∧ Hid (Below (w.heap.size + 2) W0 wr)) (fun i _ => S.parts.length - (intOf i).toNat)
    case atStart => exact ⟨0, _, rfl, Nat.zero_le _, HBL, Below.refl _ _⟩
    case round =>
      obtain ⟨k, v, rfl, hk, HBL, HT⟩ := hrel
      have HD := Lib.hid (D0.out.trans (HT.out.mono (by omega)))
      obtain ⟨va, vcap, hvp⟩ := HBL.out.form
      have hkl : (S.parts.take k).length = k := by rw [List.length_take]; omega
      rw [hkl] at hvp
      subst hvp
      have hbs := HBL.out.bs
      have q0 := bcl HT.out (by omega) k0
      by_cases hlt : k < S.parts.length
      · have hli : (k : Int) < S.parts.length := by omega
        obtain ⟨pb, po, pc', hpe, hpc, hpb, hpp⟩ := HS.out.p.open (by omega)
        injection hpe with e1 _ e2
        subst e1
        subst e2
        obtain ⟨c, i, c0, c1, hpr⟩ := hpp k hlt
        obtain ⟨a1, b1, rfl⟩ := hpr.code.form
        obtain ⟨a2, b2, rfl⟩ := hpr.inn.form
        have c0 := bcl HD.out hpb c0
        have c1 := bcl HD.out hpb c1
        have HPR := Lib.hid (hpr.up HD.out)
        have hpw : pb < wr.heap.size := Nat.lt_of_lt_of_le hpb HD.out.size
        clear hpr hpp hpc
        have g0 := HBL.out.cp
        have g1 := HBL.out.fp
        go_wp2
        refine region_still (S := fun w' => w'.cell? ⟨g, 0, none⟩ = some (.slice va k vcap) ∧ w'.cell? ⟨w.heap.size, 0, none⟩ = some (.slice (some ⟨pb, po, none⟩) S.parts.length pc) ∧ w'.cell? ⟨pb, po + k * 2, none⟩ = some (.slice a1 S.parts[k].code.length b1) ∧ w'.cell? ⟨pb, po + k * 2 + 1, none⟩ = some (.slice a2 S.parts[k].inn.length b2)) 22 (by kernel_rfl) ⟨g0, q0, c0, c1⟩ (fun hHeld => ?_)
        refine Still.take (i := 0) (oi := { dst := some 21, op := Go.Op.fieldAddr 26 (Go.Operand.tmp 3) 0, type := 0, pos := "conf.go:52", after := #[], guard := none }) (v := ?v1) (by kernel_rfl) rfl (by kernel_rfl) (by kernel_rfl) (by kernel_rfl) (fun _ _ _ h => h) (Or.inl ⟨by rfl, ?y1⟩) hHeld ?r1
        case y1 => (intro w' hSw; (try dsimp only at hSw); go_simp; try with_reducible rfl)
        simp only [Act.put, List.setIfInBounds_toArray, List.set_cons_zero, List.set_cons_succ]
        refine Still.take (i := 1) (oi := { dst := some 22, op := Go.Op.load 22 (Go.Operand.tmp 21), type := 22, pos := "conf.go:52", after := #[{ on := 0, ground := Go.Ground.data }], guard := none }) (v := ?v2) (by kernel_rfl) rfl (by kernel_rfl) (by kernel_rfl) (by kernel_rfl) (fun _ _ _ h => h) (Or.inl ⟨by rfl, ?y2⟩) hHeld ?r2
        case y2 => (intro w' hSw; (try dsimp only at hSw); go_simp; try with_reducible rfl)
        simp only [Act.put, List.setIfInBounds_toArray, List.set_cons_zero, List.set_cons_succ]
        refine Still.take (i := 3) (oi := { dst := some 24, op := Go.Op.fieldAddr 26 (Go.Operand.tmp 1) 0, type := 0, pos := "conf.go:52", after := #[], guard := none }) (v := ?v3) (by kernel_rfl) rfl (by kernel_rfl) (by kernel_rfl) (by kernel_rfl) (fun _ _ _ h => h) (Or.inl ⟨by rfl, ?y3⟩) hHeld ?r3
        case y3 => (intro w' hSw; (try dsimp only at hSw); go_simp; try with_reducible rfl)
        simp only [Act.put, List.setIfInBounds_toArray, List.set_cons_zero, List.set_cons_succ]
        refine Still.take (i := 4) (oi := { dst := some 25, op := Go.Op.load 22 (Go.Operand.tmp 24), type := 22, pos := "conf.go:52", after := #[{ on := 3, ground := Go.Ground.data }], guard := none }) (v := ?v4) (by kernel_rfl) rfl (by kernel_rfl) (by kernel_rfl) (by kernel_rfl) (fun _ _ _ h => h) (Or.inl ⟨by rfl, ?y4⟩) hHeld ?r4
        case y4 => (intro w' hSw; (try dsimp only at hSw); go_simp; try with_reducible rfl)
        simp only [Act.put, List.setIfInBounds_toArray, List.set_cons_zero, List.set_cons_succ]
        refine Still.take (i := 5) (oi := { dst := some 26, op := Go.Op.move (Go.Operand.tmp 4), type := 3, pos := "conf.go:52", after := #[], guard := none }) (v := ?v5) (by kernel_rfl) rfl (by kernel_rfl) (by kernel_rfl) (by kernel_rfl) (fun _ _ _ h => h) (Or.inl ⟨by rfl, ?y5⟩) hHeld ?r5
        case y5 => (intro w' hSw; (try dsimp only at hSw); go_simp; try with_reducible rfl)
        simp only [Act.put, List.setIfInBounds_toArray, List.set_cons_zero, List.set_cons_succ]
        refine Still.take (i := 6) (oi := { dst := some 27, op := Go.Op.indexAddr 22 (Go.Operand.tmp 25) (Go.Operand.tmp 26), type := 0, pos := "conf.go:52", after := #[{ on := 4, ground := Go.Ground.data }, { on := 5, ground := Go.Ground.data }], guard := none }) (v := ?v6) (by kernel_rfl) rfl (by kernel_rfl) (by kernel_rfl) (by kernel_rfl) (fun _ _ _ h => h) (Or.inl ⟨by rfl, ?y6⟩) hHeld ?r6
        case y6 => (intro w' hSw; (try dsimp only at hSw); go_simp; try with_reducible rfl)
        simp only [Act.put, List.setIfInBounds_toArray, List.set_cons_zero, List.set_cons_succ]
        refine Still.take (i := 7) (oi := { dst := some 28, op := Go.Op.fieldAddr 49 (Go.Operand.tmp 27) 0, type := 0, pos := "conf.go:52", after := #[{ on := 6, ground := Go.Ground.data }], guard := none }) (v := ?v7) (by kernel_rfl) rfl (by kernel_rfl) (by kernel_rfl) (by kernel_rfl) (fun _ _ _ h => h) (Or.inl ⟨by rfl, ?y7⟩) hHeld ?r7
        case y7 => (intro w' hSw; (try dsimp only at hSw); go_simp; try with_reducible rfl)
        simp only [Act.put, List.setIfInBounds_toArray, List.set_cons_zero, List.set_cons_succ]
        refine Still.take (i := 8) (oi := { dst := some 29, op := Go.Op.load 47 (Go.Operand.tmp 28), type := 47, pos := "conf.go:52", after := #[{ on := 7, ground := Go.Ground.data }], guard := none }) (v := ?v8) (by kernel_rfl) rfl (by kernel_rfl) (by kernel_rfl) (by kernel_rfl) (fun _ _ _ h => h) (Or.inl ⟨by rfl, ?y8⟩) hHeld ?r8
        case y8 => (intro w' hSw; (try dsimp only at hSw); go_simp; try with_reducible rfl)
        simp only [Act.put, List.setIfInBounds_toArray, List.set_cons_zero, List.set_cons_succ]
        refine Still.take (i := 11) (oi := { dst := some 32, op := Go.Op.fieldAddr 26 (Go.Operand.tmp 1) 0, type := 0, pos := "conf.go:52", after := #[], guard := none }) (v := ?v9) (by kernel_rfl) rfl (by kernel_rfl) (by kernel_rfl) (by kernel_rfl) (fun _ _ _ h => h) (Or.inl ⟨by rfl, ?y9⟩) hHeld ?r9
        case y9 => (intro w' hSw; (try dsimp only at hSw); go_simp; try with_reducible rfl)
        simp only [Act.put, List.setIfInBounds_toArray, List.set_cons_zero, List.set_cons_succ]
        refine Still.take (i := 12) (oi := { dst := some 33, op := Go.Op.load 22 (Go.Operand.tmp 32), type := 22, pos := "conf.go:52", after := #[{ on := 11, ground := Go.Ground.data }], guard := none }) (v := ?v10) (by kernel_rfl) rfl (by kernel_rfl) (by kernel_rfl) (by kernel_rfl) (fun _ _ _ h => h) (Or.inl ⟨by rfl, ?y10⟩) hHeld ?r10
        case y10 => (intro w' hSw; (try dsimp only at hSw); go_simp; try with_reducible rfl)
        simp only [Act.put, List.setIfInBounds_toArray, List.set_cons_zero, List.set_cons_succ]
        refine Still.take (i := 13) (oi := { dst := some 34, op := Go.Op.move (Go.Operand.tmp 4), type := 3, pos := "conf.go:52", after := #[], guard := none }) (v := ?v11) (by kernel_rfl) rfl (by kernel_rfl) (by kernel_rfl) (by kernel_rfl) (fun _ _ _ h => h) (Or.inl ⟨by rfl, ?y11⟩) hHeld ?r11
        case y11 => (intro w' hSw; (try dsimp only at hSw); go_simp; try with_reducible rfl)
        simp only [Act.put, List.setIfInBounds_toArray, List.set_cons_zero, List.set_cons_succ]
        refine Still.take (i := 14) (oi := { dst := some 35, op := Go.Op.indexAddr 22 (Go.Operand.tmp 33) (Go.Operand.tmp 34), type := 0, pos := "conf.go:52", after := #[{ on := 12, ground := Go.Ground.data }, { on := 13, ground := Go.Ground.data }], guard := none }) (v := ?v12) (by kernel_rfl) rfl (by kernel_rfl) (by kernel_rfl) (by kernel_rfl) (fun _ _ _ h => h) (Or.inl ⟨by rfl, ?y12⟩) hHeld ?r12
        case y12 => (intro w' hSw; (try dsimp only at hSw); go_simp; try with_reducible rfl)
        simp only [Act.put, List.setIfInBounds_toArray, List.set_cons_zero, List.set_cons_succ]
        refine Still.take (i := 15) (oi := { dst := some 36, op := Go.Op.fieldAddr 49 (Go.Operand.tmp 35) 1, type := 0, pos := "conf.go:52", after := #[{ on := 14, ground := Go.Ground.data }], guard := none }) (v := ?v13) (by kernel_rfl) rfl (by kernel_rfl) (by kernel_rfl) (by kernel_rfl) (fun _ _ _ h => h) (Or.inl ⟨by rfl, ?y13⟩) hHeld ?r13
        case y13 => (intro w' hSw; (try dsimp only at hSw); go_simp; try with_reducible rfl)
        simp only [Act.put, List.setIfInBounds_toArray, List.set_cons_zero, List.set_cons_succ]
        refine Still.take (i := 16) (oi := { dst := some 37, op := Go.Op.load 33 (Go.Operand.tmp 36), type := 33, pos := "conf.go:52", after := #[{ on := 15, ground := Go.Ground.data }], guard := none }) (v := ?v14) (by kernel_rfl) rfl (by kernel_rfl) (by kernel_rfl) (by kernel_rfl) (fun _ _ _ h => h) (Or.inl ⟨by rfl, ?y14⟩) hHeld ?r14
        case y14 => (intro w' hSw; (try dsimp only at hSw); go_simp; try with_reducible rfl)
        simp only [Act.put, List.setIfInBounds_toArray, List.set_cons_zero, List.set_cons_succ]
        have HK := Lib.hid (And.intro g0 (And.intro q0 (And.intro c0 c1)))
        have hgw : g < wr.heap.size := by omega
        have hww : w.heap.size < wr.heap.size := by omega
        have hq1 := (HQ.out k hlt).1
        have hq2 := (HQ.out k hlt).2
        obtain ⟨l0, hl0⟩ := HBL.out.row
        have hrow := hl0.2.1
        rw [hkl] at hrow
        have HROW := Lib.hid hrow
        have hgv : some g ≠ Value.ownBlock (.slice va k vcap) := fun e => by have := own_block hrow g e.symm; omega
        have hpv : some pb ≠ Value.ownBlock (.slice va k vcap) := fun e => by have := own_block hrow pb e.symm; omega
        have hwv : some w.heap.size ≠ Value.ownBlock (.slice va k vcap) := fun e => by have := own_block hrow _ e.symm; omega
        have HGV := Lib.hid hgv
        have HPV := Lib.hid hpv
        have HWV := Lib.hid hwv
        have HL0 := Lib.hid hl0
        have HPS : Hid (S.parts.take (k + 1) = S.parts.take k ++ [S.parts[k]]) := List.take_succ_eq_append_getElem hlt
        clear hrow hl0 hgv hpv hwv g0 q0 c0 c1
        refine Still.all (rs := [2, 10]) (by kernel_rfl) (by simp) ?_
        refine Still.one (i := 2) (o := { dst := some 23, op := Go.Op.buildSlice 47 0 #[], type := 47, pos := "conf.go:52", after := #[], guard := none }) rfl rfl (fun K hK => ?_) (Still.one (i := 10) (o := { dst := some 31, op := Go.Op.buildSlice 33 0 #[], type := 33, pos := "conf.go:52", after := #[], guard := none }) rfl rfl (fun K hK => ?_) (by simp))
        · go_simp
          refine hK _ _ (fun _ => keep4 (by repeat (first | exact Below.refl _ _ | assumption | refine Below.drew ?_ | refine Below.alloc ?_ (by first | omega | (simp; done) | (simp; omega)) _ | refine Below.setCell ?_ (by first | omega | (simp; done) | (simp; omega)) _)) HK.out hgw hww hpw hpw) (fun hh => ?_)
          have hHeld := hh (by decide)
          clear hh hK K
          try simp only [Act.put, List.setIfInBounds_toArray, List.set_cons_zero, List.set_cons_succ]
          refine Still.all (rs := [9, 10]) (by kernel_rfl) (by simp) ?_
          refine Still.one (i := 9) (o := { dst := some 30, op := Go.Op.call { callee := Go.Callee.builtin Go.Builtin.append, args := #[Go.Operand.tmp 23, Go.Operand.tmp 29], argTypes := #[47, 47] }, type := 47, pos := "conf.go:52", after := #[{ on := 2, ground := Go.Ground.data }, { on := 8, ground := Go.Ground.data }], guard := none }) rfl rfl (fun K hK => ?_) (Still.one (i := 10) (o := { dst := some 31, op := Go.Op.buildSlice 33 0 #[], type := 33, pos := "conf.go:52", after := #[], guard := none }) rfl rfl (fun K hK => ?_) (by simp))
          · refine wp_append_lit (.tmp 23) (.tmp 29) 47 (by rfl) wr.heap.size 83 j1 _ 4 32 Tryz.underlying47 ji jz0 jz1 jz2 rfl (by decide) _ (by first | rfl | simp [Act.eval, Act.put]) (by repeat (first | exact em_new _ _ _ (by first | omega | (simp; done) | (simp; omega)) | refine em_alloc ?_)) (by first | omega | (simp; done) | (simp; omega)) (.slice a1 S.parts[k].code.length b1) S.parts[k].code.length (codeC S.parts[k].code) (by first | rfl | simp [Act.eval, Act.put]) (HPR.out.code.up (by repeat (first | exact Below.refl _ _ | assumption | refine Below.drew ?_ | refine Below.alloc ?_ (by first | omega | (simp; done) | (simp; omega)) _ | refine Below.setCell ?_ (by first | omega | (simp; done) | (simp; omega)) _))) (codeC_one _) (by unfold maxLen; omega) (by omega) ?_
            intro v1 w3 o1 f1 h1
            obtain ⟨a3, b3, rfl⟩ := own_form o1
            have O1 := Lib.hid o1
            have D3 : Below wr.heap.size wr w3 := Below.trans (by repeat (first | exact Below.refl _ _ | assumption | refine Below.drew ?_ | refine Below.alloc ?_ (by first | omega | (simp; done) | (simp; omega)) _ | refine Below.setCell ?_ (by first | omega | (simp; done) | (simp; omega)) _)) (f1.mono (by first | omega | (simp; done) | (simp; omega)))
            have z3 := D3.size
            refine hK _ _ (fun _ => keep4 (by repeat (first | exact Below.refl _ _ | assumption | refine Below.drew ?_ | refine Below.alloc ?_ (by first | omega | (simp; done) | (simp; omega)) _ | refine Below.setCell ?_ (by first | omega | (simp; done) | (simp; omega)) _)) HK.out hgw hww hpw hpw) (fun hh => ?_)
            have hHeld := hh (by decide)
            clear hh hK K
            try simp only [Act.put, List.setIfInBounds_toArray, List.set_cons_zero, List.set_cons_succ]
            refine Still.all (rs := [10]) (by kernel_rfl) (by simp) (Still.one (i := 10) (o := { dst := some 31, op := Go.Op.buildSlice 33 0 #[], type := 33, pos := "conf.go:52", after := #[], guard := none }) rfl rfl (fun K hK => ?_) (by simp))
            go_simp
            refine hK _ _ (fun _ => keep4 (by repeat (first | exact Below.refl _ _ | assumption | refine Below.drew ?_ | refine Below.alloc ?_ (by first | omega | (simp; done) | (simp; omega)) _ | refine Below.setCell ?_ (by first | omega | (simp; done) | (simp; omega)) _)) HK.out hgw hww hpw hpw) (fun hh => ?_)
            have hHeld := hh (by decide)
            clear hh hK K
            try simp only [Act.put, List.setIfInBounds_toArray, List.set_cons_zero, List.set_cons_succ]
            refine Still.all (rs := [17]) (by kernel_rfl) (by simp) (Still.one (i := 17) (o := { dst := some 38, op := Go.Op.call { callee := Go.Callee.builtin Go.Builtin.append, args := #[Go.Operand.tmp 31, Go.Operand.tmp 37], argTypes := #[33, 33] }, type := 33, pos := "conf.go:52", after := #[{ on := 10, ground := Go.Ground.data }, { on := 16, ground := Go.Ground.data }, { on := 9, ground := Go.Ground.chain }], guard := none }) rfl rfl (fun K hK => ?_) (by simp))
            refine wp_append_lit (.tmp 31) (.tmp 37) 33 (by rfl) wr.heap.size 3 j2 _ 1 8 Tryz.underlying33 ki kz0 kz1 kz2 rfl (by decide) _ (by first | rfl | simp [Act.eval, Act.put]) (by repeat (first | exact em_new _ _ _ (by first | omega | (simp; done) | (simp; omega)) | refine em_alloc ?_ | refine em_up f1 ?_)) (by first | omega | (simp; done) | (simp; omega)) (.slice a2 S.parts[k].inn.length b2) S.parts[k].inn.length (ints S.parts[k].inn) (by first | rfl | simp [Act.eval, Act.put]) (HPR.out.inn.up (by repeat (first | exact Below.refl _ _ | assumption | refine Below.drew ?_ | refine Below.alloc ?_ (by first | omega | (simp; done) | (simp; omega)) _ | refine Below.setCell ?_ (by first | omega | (simp; done) | (simp; omega)) _))) (ints_cell _) (by unfold maxLen; omega) (by omega) ?_
            intro v2 w4 o2 f2 h2
            obtain ⟨a4, b4, rfl⟩ := own_form o2
            have O2 := Lib.hid o2
            have D34 : Below w3.heap.size w3 w4 := Below.trans (by repeat (first | exact Below.refl _ _ | assumption | refine Below.drew ?_ | refine Below.alloc ?_ (by first | omega | (simp; done) | (simp; omega)) _ | refine Below.setCell ?_ (by first | omega | (simp; done) | (simp; omega)) _)) (f2.mono (by first | omega | (simp; done) | (simp; omega)))
            have D4 : Below wr.heap.size wr w4 := D3.trans (D34.mono D3.size)
            have z4 := D4.size
            refine hK _ _ (fun _ => keep4 (by repeat (first | exact Below.refl _ _ | assumption | refine Below.drew ?_ | refine Below.alloc ?_ (by first | omega | (simp; done) | (simp; omega)) _ | refine Below.setCell ?_ (by first | omega | (simp; done) | (simp; omega)) _)) HK.out hgw hww hpw hpw) (fun hh => ?_)
            have hHeld := hh (by decide)
            clear hh hK K
            try simp only [Act.put, List.setIfInBounds_toArray, List.set_cons_zero, List.set_cons_succ]
            refine Still.take (i := 18) (oi := { dst := some 39, op := Go.Op.build 49 #[(0, Go.Operand.tmp 30), (1, Go.Operand.tmp 38)], type := 49, pos := "conf.go:52", after := #[{ on := 9, ground := Go.Ground.data }, { on := 17, ground := Go.Ground.data }], guard := none }) (v := ?v15) (by kernel_rfl) rfl (by kernel_rfl) (by kernel_rfl) (by kernel_rfl) (fun _ _ _ h => h) (Or.inl ⟨by rfl, ?y15⟩) hHeld ?r15
            case y15 => (intro w' hSw; (try dsimp only at hSw); go_simp; try with_reducible rfl)
            simp only [Act.put, List.setIfInBounds_toArray, List.set_cons_zero, List.set_cons_succ]
            refine Still.all (rs := [19]) (by kernel_rfl) (by simp) (Still.one (i := 19) (o := { dst := some 40, op := Go.Op.buildSlice 22 1 #[(0, Go.Operand.tmp 39)], type := 22, pos := "conf.go:52", after := #[{ on := 18, ground := Go.Ground.data }], guard := none }) rfl rfl (fun K hK => ?_) (by simp))
            go_simp
            refine hK _ _ (fun _ => keep4 (by repeat (first | exact Below.refl _ _ | assumption | refine Below.drew ?_ | refine Below.alloc ?_ (by first | omega | (simp; done) | (simp; omega)) _ | refine Below.setCell ?_ (by first | omega | (simp; done) | (simp; omega)) _)) HK.out hgw hww hpw hpw) (fun hh => ?_)
            have hHeld := hh (by decide)
            clear hh hK K
            try simp only [Act.put, List.setIfInBounds_toArray, List.set_cons_zero, List.set_cons_succ]
            refine Still.all (rs := [20]) (by kernel_rfl) (by simp) (Still.one (i := 20) (o := { dst := some 41, op := Go.Op.call { callee := Go.Callee.builtin Go.Builtin.append, args := #[Go.Operand.tmp 22, Go.Operand.tmp 40], argTypes := #[22, 22] }, type := 22, pos := "conf.go:52", after := #[{ on := 1, ground := Go.Ground.data }, { on := 19, ground := Go.Ground.data }, { on := 17, ground := Go.Ground.chain }], guard := none }) rfl rfl (fun K hK => ?_) (by simp))
            refine wp_append_lies _ (.tmp 22) (.tmp 40) 22 (by rfl) W0.heap.size 49 j3 (.agg #[.slice none 0 0, .slice none 0 0]) 2 48 Tryz.underlying22 hi hz0 hz1 hz2 rfl (by decide) (.slice va k vcap) k (rowC prC l0) (by first | rfl | simp [Act.eval, Act.put]) ((own_upC HROW.out D4).alloc _) ⟨w4.heap.size, 0, none⟩ 1 1 [.slice a3 S.parts[k].code.length b3, .slice a4 S.parts[k].inn.length b4] (by first | rfl | simp [Act.eval, Act.put]) rfl (two_at _ _ _ _ _ rfl) (two_cell _ _ _ _ _ _) (by decide) (by unfold maxLen; omega) (by omega) (by first | omega | (simp; done) | (simp; omega)) _ rfl ?_
            intro g' cap5 w5 hown hgrow hat hglt
            have s4 := keep4 (w' := w4.alloc (.cells #[.slice a3 S.parts[k].code.length b3, .slice a4 S.parts[k].inn.length b4] 49)) (by repeat (first | exact Below.refl _ _ | assumption | refine Below.drew ?_ | refine Below.alloc ?_ (by first | omega | (simp; done) | (simp; omega)) _ | refine Below.setCell ?_ (by first | omega | (simp; done) | (simp; omega)) _)) HK.out hgw hww hpw hpw
            have f0x := (hgrow.frozen_far ⟨g, 0, none⟩ (by simp; omega) HGV.out).trans (fr_alloc _ (by omega) (bfr D4 hgw g1))
            have s5 := And.intro ((hgrow.cell_far ⟨g, 0, none⟩ (by simp; omega) HGV.out).trans s4.1) (And.intro ((hgrow.cell_far ⟨w.heap.size, 0, none⟩ (by simp; omega) HWV.out).trans s4.2.1) (And.intro ((hgrow.cell_far ⟨pb, po + k * 2, none⟩ (by simp; omega) HPV.out).trans s4.2.2.1) ((hgrow.cell_far ⟨pb, po + k * 2 + 1, none⟩ (by simp; omega) HPV.out).trans s4.2.2.2)))
            have s0x := s5.1
            have HST := Lib.hid (Bld.grow HBL.out hkl HL0.out D3 D34 O1.out O2.out (Nat.le_refl _) (Nat.le_refl _) hgrow hown (hat.imp id (fun e => by rw [e]; simp)) HT.out (Nat.le_refl _) (by omega) (by omega))
            clear hown hgrow hat
            refine hK _ _ (fun _ => s5) (fun hh => ?_)
            have hHeld := hh (by decide)
            clear hh hK K
            try simp only [Act.put, List.setIfInBounds_toArray, List.set_cons_zero, List.set_cons_succ]
            refine Still.take (i := 21) (oi := { dst := some 42, op := Go.Op.fieldAddr 26 (Go.Operand.tmp 3) 0, type := 0, pos := "conf.go:52", after := #[{ on := 0, ground := Go.Ground.phase }, { on := 1, ground := Go.Ground.phase }, { on := 2, ground := Go.Ground.phase }, { on := 3, ground := Go.Ground.phase }, { on := 4, ground := Go.Ground.phase }, { on := 5, ground := Go.Ground.phase }, { on := 6, ground := Go.Ground.phase }, { on := 7, ground := Go.Ground.phase }, { on := 8, ground := Go.Ground.phase }, { on := 9, ground := Go.Ground.phase }, { on := 10, ground := Go.Ground.phase }, { on := 11, ground := Go.Ground.phase }, { on := 12, ground := Go.Ground.phase }, { on := 13, ground := Go.Ground.phase }, { on := 14, ground := Go.Ground.phase }, { on := 15, ground := Go.Ground.phase }, { on := 16, ground := Go.Ground.phase }, { on := 17, ground := Go.Ground.phase }, { on := 18, ground := Go.Ground.phase }, { on := 19, ground := Go.Ground.phase }, { on := 20, ground := Go.Ground.phase }], guard := none }) (v := ?v16) (by kernel_rfl) rfl (by kernel_rfl) (by kernel_rfl) (by kernel_rfl) (fun _ _ _ h => h) (Or.inl ⟨by rfl, ?y16⟩) hHeld ?r16
            case y16 => (intro w' hSw; (try dsimp only at hSw); go_simp; try with_reducible rfl)
            simp only [Act.put, List.setIfInBounds_toArray, List.set_cons_zero, List.set_cons_succ]
            refine Still.all (rs := [22]) (by kernel_rfl) (by simp) (Still.one (i := 22) (o := { dst := none, op := Go.Op.store 22 (Go.Operand.tmp 42) (Go.Operand.tmp 41), type := 0, pos := "conf.go:52", after := #[{ on := 21, ground := Go.Ground.data }, { on := 20, ground := Go.Ground.data }, { on := 20, ground := Go.Ground.chain }, { on := 0, ground := Go.Ground.phase }, { on := 1, ground := Go.Ground.phase }, { on := 2, ground := Go.Ground.phase }, { on := 3, ground := Go.Ground.phase }, { on := 4, ground := Go.Ground.phase }, { on := 5, ground := Go.Ground.phase }, { on := 6, ground := Go.Ground.phase }, { on := 7, ground := Go.Ground.phase }, { on := 8, ground := Go.Ground.phase }, { on := 9, ground := Go.Ground.phase }, { on := 10, ground := Go.Ground.phase }, { on := 11, ground := Go.Ground.phase }, { on := 12, ground := Go.Ground.phase }, { on := 13, ground := Go.Ground.phase }, { on := 14, ground := Go.Ground.phase }, { on := 15, ground := Go.Ground.phase }, { on := 16, ground := Go.Ground.phase }, { on := 17, ground := Go.Ground.phase }, { on := 18, ground := Go.Ground.phase }, { on := 19, ground := Go.Ground.phase }, { on := 20, ground := Go.Ground.phase }], guard := none }) rfl rfl (fun K hK => ?_) (by simp))
            clear s4 s5 hHeld
            go_simp
            refine hK _ _ (fun h => absurd rfl h) (fun _ => ?_)
            clear hK K
            refine Still.over (by kernel_rfl) ?_ _
            go_wp2
            go_roundw
            case rel => exact ⟨k + 1, _, by go_num, by omega, by rw [HPS.out]; exact HST.out.1, HST.out.2⟩
            case measure => simp [intOf]; omega
          · go_simp
            refine hK _ _ (fun _ => keep4 (by repeat (first | exact Below.refl _ _ | assumption | refine Below.drew ?_ | refine Below.alloc ?_ (by first | omega | (simp; done) | (simp; omega)) _ | refine Below.setCell ?_ (by first | omega | (simp; done) | (simp; omega)) _)) HK.out hgw hww hpw hpw) (fun hh => ?_)
            have hHeld := hh (by decide)
            clear hh hK K
            try simp only [Act.put, List.setIfInBounds_toArray, List.set_cons_zero, List.set_cons_succ]
            refine Still.all (rs := [9]) (by kernel_rfl) (by simp) (Still.one (i := 9) (o := { dst := some 30, op := Go.Op.call { callee := Go.Callee.builtin Go.Builtin.append, args := #[Go.Operand.tmp 23, Go.Operand.tmp 29], argTypes := #[47, 47] }, type := 47, pos := "conf.go:52", after := #[{ on := 2, ground := Go.Ground.data }, { on := 8, ground := Go.Ground.data }], guard := none }) rfl rfl (fun K hK => ?_) (by simp))
            refine wp_append_lit (.tmp 23) (.tmp 29) 47 (by rfl) wr.heap.size 83 j1 _ 4 32 Tryz.underlying47 ji jz0 jz1 jz2 rfl (by decide) _ (by first | rfl | simp [Act.eval, Act.put]) (by repeat (first | exact em_new _ _ _ (by first | omega | (simp; done) | (simp; omega)) | refine em_alloc ?_)) (by first | omega | (simp; done) | (simp; omega)) (.slice a1 S.parts[k].code.length b1) S.parts[k].code.length (codeC S.parts[k].code) (by first | rfl | simp [Act.eval, Act.put]) (HPR.out.code.up (by repeat (first | exact Below.refl _ _ | assumption | refine Below.drew ?_ | refine Below.alloc ?_ (by first | omega | (simp; done) | (simp; omega)) _ | refine Below.setCell ?_ (by first | omega | (simp; done) | (simp; omega)) _))) (codeC_one _) (by unfold maxLen; omega) (by omega) ?_
            intro v1 w3 o1 f1 h1
            obtain ⟨a3, b3, rfl⟩ := own_form o1
            have O1 := Lib.hid o1
            have D3 : Below wr.heap.size wr w3 := Below.trans (by repeat (first | exact Below.refl _ _ | assumption | refine Below.drew ?_ | refine Below.alloc ?_ (by first | omega | (simp; done) | (simp; omega)) _ | refine Below.setCell ?_ (by first | omega | (simp; done) | (simp; omega)) _)) (f1.mono (by first | omega | (simp; done) | (simp; omega)))
            have z3 := D3.size
            refine hK _ _ (fun _ => keep4 (by repeat (first | exact Below.refl _ _ | assumption | refine Below.drew ?_ | refine Below.alloc ?_ (by first | omega | (simp; done) | (simp; omega)) _ | refine Below.setCell ?_ (by first | omega | (simp; done) | (simp; omega)) _)) HK.out hgw hww hpw hpw) (fun hh => ?_)
            have hHeld := hh (by decide)
            clear hh hK K
            try simp only [Act.put, List.setIfInBounds_toArray, List.set_cons_zero, List.set_cons_succ]
            refine Still.all (rs := [17]) (by kernel_rfl) (by simp) (Still.one (i := 17) (o := { dst := some 38, op := Go.Op.call { callee := Go.Callee.builtin Go.Builtin.append, args := #[Go.Operand.tmp 31, Go.Operand.tmp 37], argTypes := #[33, 33] }, type := 33, pos := "conf.go:52", after := #[{ on := 10, ground := Go.Ground.data }, { on := 16, ground := Go.Ground.data }, { on := 9, ground := Go.Ground.chain }], guard := none }) rfl rfl (fun K hK => ?_) (by simp))
            refine wp_append_lit (.tmp 31) (.tmp 37) 33 (by rfl) wr.heap.size 3 j2 _ 1 8 Tryz.underlying33 ki kz0 kz1 kz2 rfl (by decide) _ (by first | rfl | simp [Act.eval, Act.put]) (by repeat (first | exact em_new _ _ _ (by first | omega | (simp; done) | (simp; omega)) | refine em_alloc ?_ | refine em_up f1 ?_)) (by first | omega | (simp; done) | (simp; omega)) (.slice a2 S.parts[k].inn.length b2) S.parts[k].inn.length (ints S.parts[k].inn) (by first | rfl | simp [Act.eval, Act.put]) (HPR.out.inn.up (by repeat (first | exact Below.refl _ _ | assumption | refine Below.drew ?_ | refine Below.alloc ?_ (by first | omega | (simp; done) | (simp; omega)) _ | refine Below.setCell ?_ (by first | omega | (simp; done) | (simp; omega)) _))) (ints_cell _) (by unfold maxLen; omega) (by omega) ?_
            intro v2 w4 o2 f2 h2
            obtain ⟨a4, b4, rfl⟩ := own_form o2
            have O2 := Lib.hid o2
            have D34 : Below w3.heap.size w3 w4 := Below.trans (by repeat (first | exact Below.refl _ _ | assumption | refine Below.drew ?_ | refine Below.alloc ?_ (by first | omega | (simp; done) | (simp; omega)) _ | refine Below.setCell ?_ (by first | omega | (simp; done) | (simp; omega)) _)) (f2.mono (by first | omega | (simp; done) | (simp; omega)))
            have D4 : Below wr.heap.size wr w4 := D3.trans (D34.mono D3.size)
            have z4 := D4.size
            refine hK _ _ (fun _ => keep4 (by repeat (first | exact Below.refl _ _ | assumption | refine Below.drew ?_ | refine Below.alloc ?_ (by first | omega | (simp; done) | (simp; omega)) _ | refine Below.setCell ?_ (by first | omega | (simp; done) | (simp; omega)) _)) HK.out hgw hww hpw hpw) (fun hh => ?_)
            have hHeld := hh (by decide)
            clear hh hK K
            try simp only [Act.put, List.setIfInBounds_toArray, List.set_cons_zero, List.set_cons_succ]
            refine Still.take (i := 18) (oi := { dst := some 39, op := Go.Op.build 49 #[(0, Go.Operand.tmp 30), (1, Go.Operand.tmp 38)], type := 49, pos := "conf.go:52", after := #[{ on := 9, ground := Go.Ground.data }, { on := 17, ground := Go.Ground.data }], guard := none }) (v := ?v17) (by kernel_rfl) rfl (by kernel_rfl) (by kernel_rfl) (by kernel_rfl) (fun _ _ _ h => h) (Or.inl ⟨by rfl, ?y17⟩) hHeld ?r17
            case y17 => (intro w' hSw; (try dsimp only at hSw); go_simp; try with_reducible rfl)
            simp only [Act.put, List.setIfInBounds_toArray, List.set_cons_zero, List.set_cons_succ]
            refine Still.all (rs := [19]) (by kernel_rfl) (by simp) (Still.one (i := 19) (o := { dst := some 40, op := Go.Op.buildSlice 22 1 #[(0, Go.Operand.tmp 39)], type := 22, pos := "conf.go:52", after := #[{ on := 18, ground := Go.Ground.data }], guard := none }) rfl rfl (fun K hK => ?_) (by simp))
            go_simp
            refine hK _ _ (fun _ => keep4 (by repeat (first | exact Below.refl _ _ | assumption | refine Below.drew ?_ | refine Below.alloc ?_ (by first | omega | (simp; done) | (simp; omega)) _ | refine Below.setCell ?_ (by first | omega | (simp; done) | (simp; omega)) _)) HK.out hgw hww hpw hpw) (fun hh => ?_)
            have hHeld := hh (by decide)
            clear hh hK K
            try simp only [Act.put, List.setIfInBounds_toArray, List.set_cons_zero, List.set_cons_succ]
            refine Still.all (rs := [20]) (by kernel_rfl) (by simp) (Still.one (i := 20) (o := { dst := some 41, op := Go.Op.call { callee := Go.Callee.builtin Go.Builtin.append, args := #[Go.Operand.tmp 22, Go.Operand.tmp 40], argTypes := #[22, 22] }, type := 22, pos := "conf.go:52", after := #[{ on := 1, ground := Go.Ground.data }, { on := 19, ground := Go.Ground.data }, { on := 17, ground := Go.Ground.chain }], guard := none }) rfl rfl (fun K hK => ?_) (by simp))
            refine wp_append_lies _ (.tmp 22) (.tmp 40) 22 (by rfl) W0.heap.size 49 j3 (.agg #[.slice none 0 0, .slice none 0 0]) 2 48 Tryz.underlying22 hi hz0 hz1 hz2 rfl (by decide) (.slice va k vcap) k (rowC prC l0) (by first | rfl | simp [Act.eval, Act.put]) ((own_upC HROW.out D4).alloc _) ⟨w4.heap.size, 0, none⟩ 1 1 [.slice a3 S.parts[k].code.length b3, .slice a4 S.parts[k].inn.length b4] (by first | rfl | simp [Act.eval, Act.put]) rfl (two_at _ _ _ _ _ rfl) (two_cell _ _ _ _ _ _) (by decide) (by unfold maxLen; omega) (by omega) (by first | omega | (simp; done) | (simp; omega)) _ rfl ?_
            intro g' cap5 w5 hown hgrow hat hglt
            have s4 := keep4 (w' := w4.alloc (.cells #[.slice a3 S.parts[k].code.length b3, .slice a4 S.parts[k].inn.length b4] 49)) (by repeat (first | exact Below.refl _ _ | assumption | refine Below.drew ?_ | refine Below.alloc ?_ (by first | omega | (simp; done) | (simp; omega)) _ | refine Below.setCell ?_ (by first | omega | (simp; done) | (simp; omega)) _)) HK.out hgw hww hpw hpw
            have f0x := (hgrow.frozen_far ⟨g, 0, none⟩ (by simp; omega) HGV.out).trans (fr_alloc _ (by omega) (bfr D4 hgw g1))
            have s5 := And.intro ((hgrow.cell_far ⟨g, 0, none⟩ (by simp; omega) HGV.out).trans s4.1) (And.intro ((hgrow.cell_far ⟨w.heap.size, 0, none⟩ (by simp; omega) HWV.out).trans s4.2.1) (And.intro ((hgrow.cell_far ⟨pb, po + k * 2, none⟩ (by simp; omega) HPV.out).trans s4.2.2.1) ((hgrow.cell_far ⟨pb, po + k * 2 + 1, none⟩ (by simp; omega) HPV.out).trans s4.2.2.2)))
            have s0x := s5.1
            have HST := Lib.hid (Bld.grow HBL.out hkl HL0.out D3 D34 O1.out O2.out (Nat.le_refl _) (Nat.le_refl _) hgrow hown (hat.imp id (fun e => by rw [e]; simp)) HT.out (Nat.le_refl _) (by omega) (by omega))
            clear hown hgrow hat
            refine hK _ _ (fun _ => s5) (fun hh => ?_)
            have hHeld := hh (by decide)
            clear hh hK K
            try simp only [Act.put, List.setIfInBounds_toArray, List.set_cons_zero, List.set_cons_succ]
            refine Still.take (i := 21) (oi := { dst := some 42, op := Go.Op.fieldAddr 26 (Go.Operand.tmp 3) 0, type := 0, pos := "conf.go:52", after := #[{ on := 0, ground := Go.Ground.phase }, { on := 1, ground := Go.Ground.phase }, { on := 2, ground := Go.Ground.phase }, { on := 3, ground := Go.Ground.phase }, { on := 4, ground := Go.Ground.phase }, { on := 5, ground := Go.Ground.phase }, { on := 6, ground := Go.Ground.phase }, { on := 7, ground := Go.Ground.phase }, { on := 8, ground := Go.Ground.phase }, { on := 9, ground := Go.Ground.phase }, { on := 10, ground := Go.Ground.phase }, { on := 11, ground := Go.Ground.phase }, { on := 12, ground := Go.Ground.phase }, { on := 13, ground := Go.Ground.phase }, { on := 14, ground := Go.Ground.phase }, { on := 15, ground := Go.Ground.phase }, { on := 16, ground := Go.Ground.phase }, { on := 17, ground := Go.Ground.phase }, { on := 18, ground := Go.Ground.phase }, { on := 19, ground := Go.Ground.phase }, { on := 20, ground := Go.Ground.phase }], guard := none }) (v := ?v18) (by kernel_rfl) rfl (by kernel_rfl) (by kernel_rfl) (by kernel_rfl) (fun _ _ _ h => h) (Or.inl ⟨by rfl, ?y18⟩) hHeld ?r18
            case y18 => (intro w' hSw; (try dsimp only at hSw); go_simp; try with_reducible rfl)
            simp only [Act.put, List.setIfInBounds_toArray, List.set_cons_zero, List.set_cons_succ]
            refine Still.all (rs := [22]) (by kernel_rfl) (by simp) (Still.one (i := 22) (o := { dst := none, op := Go.Op.store 22 (Go.Operand.tmp 42) (Go.Operand.tmp 41), type := 0, pos := "conf.go:52", after := #[{ on := 21, ground := Go.Ground.data }, { on := 20, ground := Go.Ground.data }, { on := 20, ground := Go.Ground.chain }, { on := 0, ground := Go.Ground.phase }, { on := 1, ground := Go.Ground.phase }, { on := 2, ground := Go.Ground.phase }, { on := 3, ground := Go.Ground.phase }, { on := 4, ground := Go.Ground.phase }, { on := 5, ground := Go.Ground.phase }, { on := 6, ground := Go.Ground.phase }, { on := 7, ground := Go.Ground.phase }, { on := 8, ground := Go.Ground.phase }, { on := 9, ground := Go.Ground.phase }, { on := 10, ground := Go.Ground.phase }, { on := 11, ground := Go.Ground.phase }, { on := 12, ground := Go.Ground.phase }, { on := 13, ground := Go.Ground.phase }, { on := 14, ground := Go.Ground.phase }, { on := 15, ground := Go.Ground.phase }, { on := 16, ground := Go.Ground.phase }, { on := 17, ground := Go.Ground.phase }, { on := 18, ground := Go.Ground.phase }, { on := 19, ground := Go.Ground.phase }, { on := 20, ground := Go.Ground.phase }], guard := none }) rfl rfl (fun K hK => ?_) (by simp))
            clear s4 s5 hHeld
            go_simp
            refine hK _ _ (fun h => absurd rfl h) (fun _ => ?_)
            clear hK K
            refine Still.over (by kernel_rfl) ?_ _
            go_wp2
            go_roundw
            case rel => exact ⟨k + 1, _, by go_num, by omega, by rw [HPS.out]; exact HST.out.1, HST.out.2⟩
            case measure => simp [intOf]; omega
        · go_simp
          refine hK _ _ (fun _ => keep4 (by repeat (first | exact Below.refl _ _ | assumption | refine Below.drew ?_ | refine Below.alloc ?_ (by first | omega | (simp; done) | (simp; omega)) _ | refine Below.setCell ?_ (by first | omega | (simp; done) | (simp; omega)) _)) HK.out hgw hww hpw hpw) (fun hh => ?_)
          have hHeld := hh (by decide)
          clear hh hK K
          try simp only [Act.put, List.setIfInBounds_toArray, List.set_cons_zero, List.set_cons_succ]
          refine Still.all (rs := [2]) (by kernel_rfl) (by simp) (Still.one (i := 2) (o := { dst := some 23, op := Go.Op.buildSlice 47 0 #[], type := 47, pos := "conf.go:52", after := #[], guard := none }) rfl rfl (fun K hK => ?_) (by simp))
          go_simp
          refine hK _ _ (fun _ => keep4 (by repeat (first | exact Below.refl _ _ | assumption | refine Below.drew ?_ | refine Below.alloc ?_ (by first | omega | (simp; done) | (simp; omega)) _ | refine Below.setCell ?_ (by first | omega | (simp; done) | (simp; omega)) _)) HK.out hgw hww hpw hpw) (fun hh => ?_)
          have hHeld := hh (by decide)
          clear hh hK K
          try simp only [Act.put, List.setIfInBounds_toArray, List.set_cons_zero, List.set_cons_succ]
          refine Still.all (rs := [9]) (by kernel_rfl) (by simp) (Still.one (i := 9) (o := { dst := some 30, op := Go.Op.call { callee := Go.Callee.builtin Go.Builtin.append, args := #[Go.Operand.tmp 23, Go.Operand.tmp 29], argTypes := #[47, 47] }, type := 47, pos := "conf.go:52", after := #[{ on := 2, ground := Go.Ground.data }, { on := 8, ground := Go.Ground.data }], guard := none }) rfl rfl (fun K hK => ?_) (by simp))
          refine wp_append_lit (.tmp 23) (.tmp 29) 47 (by rfl) wr.heap.size 83 j1 _ 4 32 Tryz.underlying47 ji jz0 jz1 jz2 rfl (by decide) _ (by first | rfl | simp [Act.eval, Act.put]) (by repeat (first | exact em_new _ _ _ (by first | omega | (simp; done) | (simp; omega)) | refine em_alloc ?_)) (by first | omega | (simp; done) | (simp; omega)) (.slice a1 S.parts[k].code.length b1) S.parts[k].code.length (codeC S.parts[k].code) (by first | rfl | simp [Act.eval, Act.put]) (HPR.out.code.up (by repeat (first | exact Below.refl _ _ | assumption | refine Below.drew ?_ | refine Below.alloc ?_ (by first | omega | (simp; done) | (simp; omega)) _ | refine Below.setCell ?_ (by first | omega | (simp; done) | (simp; omega)) _))) (codeC_one _) (by unfold maxLen; omega) (by omega) ?_
          intro v1 w3 o1 f1 h1
          obtain ⟨a3, b3, rfl⟩ := own_form o1
          have O1 := Lib.hid o1
          have D3 : Below wr.heap.size wr w3 := Below.trans (by repeat (first | exact Below.refl _ _ | assumption | refine Below.drew ?_ | refine Below.alloc ?_ (by first | omega | (simp; done) | (simp; omega)) _ | refine Below.setCell ?_ (by first | omega | (simp; done) | (simp; omega)) _)) (f1.mono (by first | omega | (simp; done) | (simp; omega)))
          have z3 := D3.size
          refine hK _ _ (fun _ => keep4 (by repeat (first | exact Below.refl _ _ | assumption | refine Below.drew ?_ | refine Below.alloc ?_ (by first | omega | (simp; done) | (simp; omega)) _ | refine Below.setCell ?_ (by first | omega | (simp; done) | (simp; omega)) _)) HK.out hgw hww hpw hpw) (fun hh => ?_)
          have hHeld := hh (by decide)
          clear hh hK K
          try simp only [Act.put, List.setIfInBounds_toArray, List.set_cons_zero, List.set_cons_succ]
          refine Still.all (rs := [17]) (by kernel_rfl) (by simp) (Still.one (i := 17) (o := { dst := some 38, op := Go.Op.call { callee := Go.Callee.builtin Go.Builtin.append, args := #[Go.Operand.tmp 31, Go.Operand.tmp 37], argTypes := #[33, 33] }, type := 33, pos := "conf.go:52", after := #[{ on := 10, ground := Go.Ground.data }, { on := 16, ground := Go.Ground.data }, { on := 9, ground := Go.Ground.chain }], guard := none }) rfl rfl (fun K hK => ?_) (by simp))
          refine wp_append_lit (.tmp 31) (.tmp 37) 33 (by rfl) wr.heap.size 3 j2 _ 1 8 Tryz.underlying33 ki kz0 kz1 kz2 rfl (by decide) _ (by first | rfl | simp [Act.eval, Act.put]) (by repeat (first | exact em_new _ _ _ (by first | omega | (simp; done) | (simp; omega)) | refine em_alloc ?_ | refine em_up f1 ?_)) (by first | omega | (simp; done) | (simp; omega)) (.slice a2 S.parts[k].inn.length b2) S.parts[k].inn.length (ints S.parts[k].inn) (by first | rfl | simp [Act.eval, Act.put]) (HPR.out.inn.up (by repeat (first | exact Below.refl _ _ | assumption | refine Below.drew ?_ | refine Below.alloc ?_ (by first | omega | (simp; done) | (simp; omega)) _ | refine Below.setCell ?_ (by first | omega | (simp; done) | (simp; omega)) _))) (ints_cell _) (by unfold maxLen; omega) (by omega) ?_
          intro v2 w4 o2 f2 h2
          obtain ⟨a4, b4, rfl⟩ := own_form o2
          have O2 := Lib.hid o2
          have D34 : Below w3.heap.size w3 w4 := Below.trans (by repeat (first | exact Below.refl _ _ | assumption | refine Below.drew ?_ | refine Below.alloc ?_ (by first | omega | (simp; done) | (simp; omega)) _ | refine Below.setCell ?_ (by first | omega | (simp; done) | (simp; omega)) _)) (f2.mono (by first | omega | (simp; done) | (simp; omega)))
          have D4 : Below wr.heap.size wr w4 := D3.trans (D34.mono D3.size)
          have z4 := D4.size
          refine hK _ _ (fun _ => keep4 (by repeat (first | exact Below.refl _ _ | assumption | refine Below.drew ?_ | refine Below.alloc ?_ (by first | omega | (simp; done) | (simp; omega)) _ | refine Below.setCell ?_ (by first | omega | (simp; done) | (simp; omega)) _)) HK.out hgw hww hpw hpw) (fun hh => ?_)
          have hHeld := hh (by decide)
          clear hh hK K
          try simp only [Act.put, List.setIfInBounds_toArray, List.set_cons_zero, List.set_cons_succ]
          refine Still.take (i := 18) (oi := { dst := some 39, op := Go.Op.build 49 #[(0, Go.Operand.tmp 30), (1, Go.Operand.tmp 38)], type := 49, pos := "conf.go:52", after := #[{ on := 9, ground := Go.Ground.data }, { on := 17, ground := Go.Ground.data }], guard := none }) (v := ?v19) (by kernel_rfl) rfl (by kernel_rfl) (by kernel_rfl) (by kernel_rfl) (fun _ _ _ h => h) (Or.inl ⟨by rfl, ?y19⟩) hHeld ?r19
          case y19 => (intro w' hSw; (try dsimp only at hSw); go_simp; try with_reducible rfl)
          simp only [Act.put, List.setIfInBounds_toArray, List.set_cons_zero, List.set_cons_succ]
          refine Still.all (rs := [19]) (by kernel_rfl) (by simp) (Still.one (i := 19) (o := { dst := some 40, op := Go.Op.buildSlice 22 1 #[(0, Go.Operand.tmp 39)], type := 22, pos := "conf.go:52", after := #[{ on := 18, ground := Go.Ground.data }], guard := none }) rfl rfl (fun K hK => ?_) (by simp))
          go_simp
          refine hK _ _ (fun _ => keep4 (by repeat (first | exact Below.refl _ _ | assumption | refine Below.drew ?_ | refine Below.alloc ?_ (by first | omega | (simp; done) | (simp; omega)) _ | refine Below.setCell ?_ (by first | omega | (simp; done) | (simp; omega)) _)) HK.out hgw hww hpw hpw) (fun hh => ?_)
          have hHeld := hh (by decide)
          clear hh hK K
          try simp only [Act.put, List.setIfInBounds_toArray, List.set_cons_zero, List.set_cons_succ]
          refine Still.all (rs := [20]) (by kernel_rfl) (by simp) (Still.one (i := 20) (o := { dst := some 41, op := Go.Op.call { callee := Go.Callee.builtin Go.Builtin.append, args := #[Go.Operand.tmp 22, Go.Operand.tmp 40], argTypes := #[22, 22] }, type := 22, pos := "conf.go:52", after := #[{ on := 1, ground := Go.Ground.data }, { on := 19, ground := Go.Ground.data }, { on := 17, ground := Go.Ground.chain }], guard := none }) rfl rfl (fun K hK => ?_) (by simp))
          refine wp_append_lies _ (.tmp 22) (.tmp 40) 22 (by rfl) W0.heap.size 49 j3 (.agg #[.slice none 0 0, .slice none 0 0]) 2 48 Tryz.underlying22 hi hz0 hz1 hz2 rfl (by decide) (.slice va k vcap) k (rowC prC l0) (by first | rfl | simp [Act.eval, Act.put]) ((own_upC HROW.out D4).alloc _) ⟨w4.heap.size, 0, none⟩ 1 1 [.slice a3 S.parts[k].code.length b3, .slice a4 S.parts[k].inn.length b4] (by first | rfl | simp [Act.eval, Act.put]) rfl (two_at _ _ _ _ _ rfl) (two_cell _ _ _ _ _ _) (by decide) (by unfold maxLen; omega) (by omega) (by first | omega | (simp; done) | (simp; omega)) _ rfl ?_
          intro g' cap5 w5 hown hgrow hat hglt
          have s4 := keep4 (w' := w4.alloc (.cells #[.slice a3 S.parts[k].code.length b3, .slice a4 S.parts[k].inn.length b4] 49)) (by repeat (first | exact Below.refl _ _ | assumption | refine Below.drew ?_ | refine Below.alloc ?_ (by first | omega | (simp; done) | (simp; omega)) _ | refine Below.setCell ?_ (by first | omega | (simp; done) | (simp; omega)) _)) HK.out hgw hww hpw hpw
          have f0x := (hgrow.frozen_far ⟨g, 0, none⟩ (by simp; omega) HGV.out).trans (fr_alloc _ (by omega) (bfr D4 hgw g1))
          have s5 := And.intro ((hgrow.cell_far ⟨g, 0, none⟩ (by simp; omega) HGV.out).trans s4.1) (And.intro ((hgrow.cell_far ⟨w.heap.size, 0, none⟩ (by simp; omega) HWV.out).trans s4.2.1) (And.intro ((hgrow.cell_far ⟨pb, po + k * 2, none⟩ (by simp; omega) HPV.out).trans s4.2.2.1) ((hgrow.cell_far ⟨pb, po + k * 2 + 1, none⟩ (by simp; omega) HPV.out).trans s4.2.2.2)))
          have s0x := s5.1
          have HST := Lib.hid (Bld.grow HBL.out hkl HL0.out D3 D34 O1.out O2.out (Nat.le_refl _) (Nat.le_refl _) hgrow hown (hat.imp id (fun e => by rw [e]; simp)) HT.out (Nat.le_refl _) (by omega) (by omega))
          clear hown hgrow hat
          refine hK _ _ (fun _ => s5) (fun hh => ?_)
          have hHeld := hh (by decide)
          clear hh hK K
          try simp only [Act.put, List.setIfInBounds_toArray, List.set_cons_zero, List.set_cons_succ]
          refine Still.take (i := 21) (oi := { dst := some 42, op := Go.Op.fieldAddr 26 (Go.Operand.tmp 3) 0, type := 0, pos := "conf.go:52", after := #[{ on := 0, ground := Go.Ground.phase }, { on := 1, ground := Go.Ground.phase }, { on := 2, ground := Go.Ground.phase }, { on := 3, ground := Go.Ground.phase }, { on := 4, ground := Go.Ground.phase }, { on := 5, ground := Go.Ground.phase }, { on := 6, ground := Go.Ground.phase }, { on := 7, ground := Go.Ground.phase }, { on := 8, ground := Go.Ground.phase }, { on := 9, ground := Go.Ground.phase }, { on := 10, ground := Go.Ground.phase }, { on := 11, ground := Go.Ground.phase }, { on := 12, ground := Go.Ground.phase }, { on := 13, ground := Go.Ground.phase }, { on := 14, ground := Go.Ground.phase }, { on := 15, ground := Go.Ground.phase }, { on := 16, ground := Go.Ground.phase }, { on := 17, ground := Go.Ground.phase }, { on := 18, ground := Go.Ground.phase }, { on := 19, ground := Go.Ground.phase }, { on := 20, ground := Go.Ground.phase }], guard := none }) (v := ?v20) (by kernel_rfl) rfl (by kernel_rfl) (by kernel_rfl) (by kernel_rfl) (fun _ _ _ h => h) (Or.inl ⟨by rfl, ?y20⟩) hHeld ?r20
          case y20 => (intro w' hSw; (try dsimp only at hSw); go_simp; try with_reducible rfl)
          simp only [Act.put, List.setIfInBounds_toArray, List.set_cons_zero, List.set_cons_succ]
          refine Still.all (rs := [22]) (by kernel_rfl) (by simp) (Still.one (i := 22) (o := { dst := none, op := Go.Op.store 22 (Go.Operand.tmp 42) (Go.Operand.tmp 41), type := 0, pos := "conf.go:52", after := #[{ on := 21, ground := Go.Ground.data }, { on := 20, ground := Go.Ground.data }, { on := 20, ground := Go.Ground.chain }, { on := 0, ground := Go.Ground.phase }, { on := 1, ground := Go.Ground.phase }, { on := 2, ground := Go.Ground.phase }, { on := 3, ground := Go.Ground.phase }, { on := 4, ground := Go.Ground.phase }, { on := 5, ground := Go.Ground.phase }, { on := 6, ground := Go.Ground.phase }, { on := 7, ground := Go.Ground.phase }, { on := 8, ground := Go.Ground.phase }, { on := 9, ground := Go.Ground.phase }, { on := 10, ground := Go.Ground.phase }, { on := 11, ground := Go.Ground.phase }, { on := 12, ground := Go.Ground.phase }, { on := 13, ground := Go.Ground.phase }, { on := 14, ground := Go.Ground.phase }, { on := 15, ground := Go.Ground.phase }, { on := 16, ground := Go.Ground.phase }, { on := 17, ground := Go.Ground.phase }, { on := 18, ground := Go.Ground.phase }, { on := 19, ground := Go.Ground.phase }, { on := 20, ground := Go.Ground.phase }], guard := none }) rfl rfl (fun K hK => ?_) (by simp))
          clear s4 s5 hHeld
          go_simp
          refine hK _ _ (fun h => absurd rfl h) (fun _ => ?_)
          clear hK K
          refine Still.over (by kernel_rfl) ?_ _
          go_wp2
          go_roundw
          case rel => exact ⟨k + 1, _, by go_num, by omega, by rw [HPS.out]; exact HST.out.1, HST.out.2⟩
          case measure => simp [intOf]; omega
      · have hli : ¬ (k : Int) < S.parts.length := by omega
        obtain rfl : k = S.parts.length := by omega
        have HBD : Hid (Bld (w.heap.size + 2) W0.heap.size wr g (.slice va S.parts.length vcap) (.slice xca S.chans.length xcc) (.slice xsa S.slots.length xsc) S.parts S.chans S.slots) := by
          have h := HBL.out
          rw [List.take_length] at h
          exact h
        have v0 := bcl HT.out (by omega) HV.out.x
        have v1 := bcl HT.out (by omega) HV.out.y
        have v2 := bcl HT.out (by omega) HV.out.z
        have y0 := bfr HT.out (by omega) HV.out.fx
        have y1 := bfr HT.out (by omega) HV.out.fy
        have y2 := bfr HT.out (by omega) HV.out.fz
        have g0 := HBL.out.cp
        have g1 := HBL.out.cc
        have g2 := HBL.out.ct
        have hwr : w.heap.size + 1 < wr.heap.size := by omega
        have V3 := (Var3.mk v0 v1 v2 y0 y1 y2 hwr).sets (a' := .slice va S.parts.length vcap) (b' := .slice xca S.chans.length xcc) (c' := .slice xsa S.slots.length xsc)
        have t0 := V3.x
        have t1 := V3.y
        have t2 := V3.z
        clear V3
        go_wp2
        refine bodyPost_ret (v := .agg #[.slice va S.parts.length vcap, .slice xca S.chans.length xcc, .slice xsa S.slots.length xsc]) (by simp [results, Tryz.f25, go_sem, t0, t1, t2]) rfl ⟨_, _, _, rfl, ⟨_, _, ((HBD.out.set (by omega) _).set (by omega) _).set (by omega) _⟩, ?_⟩
        exact ((HD.out.setCell (by simp) _).setCell (by simp) _).setCell (by simp) _
end Go.Proofs.YtehhhiodfcdnmaaGreatDoor
