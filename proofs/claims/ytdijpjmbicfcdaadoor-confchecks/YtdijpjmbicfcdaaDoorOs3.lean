/- ref.CalmOf. -/
import Derived.Test.YtdijpjmbicfcdaaDoorOs1
import Derived.Test.YtdijpjmbicfcdaaDoorOs2
namespace Go.Proofs.YtdijpjmbicfcdaaDoor
set_option linter.unusedSimpArgs false
set_option linter.unusedVariables false
open Go.RowKit Go.Sort
attribute [local go_sem ↓] Go.wp_at_zero Go.wp_at_succ

theorem own_fr {w : World} {base : Nat} {e : TypeId} {size : Nat} {q n cap : Nat} {xs : List Value} (h : w.ownsRow base e size (.slice (some ⟨q, 0, none⟩) n cap) n xs) (i : Nat) : w.frozen? ⟨q, i, none⟩ = false := by
  rcases h.2 with ⟨h, _⟩ | ⟨g, cap', cur, he, _, hh, _⟩
  · cases h
  · injection he with h1 _ _
    injection h1 with h1
    injection h1 with h1
    subst h1
    simp [World.frozen?, hh]
theorem own_pair {w : World} {base : Nat} {e : TypeId} {q n cap p : Nat} {l : List (Value × Value)} (h : w.ownsRow base e 2 (.slice (some ⟨q, 0, none⟩) n cap) n (rowC prC l)) (hl : l.length = n) (hp : p < n) (hp' : p < l.length) : w.cell? ⟨q, p * 2, none⟩ = some l[p].1 ∧ w.cell? ⟨q, p * 2 + 1, none⟩ = some l[p].2 := by
  obtain ⟨b, off, cap', he, _, _, hc⟩ := (own_sl h).open (by omega)
  injection he with h1 _ _
  injection h1 with h1
  injection h1 with h1 h2
  subst h1
  subst h2
  have c0 := hc (p * 2) l[p].1 (by rw [← Nat.add_zero (p * 2), rowC_at (f := prC) (s := 2) (fun _ => rfl) l p 0 hp' (by omega)]; rfl)
  have c1 := hc (p * 2 + 1) l[p].2 (by rw [rowC_at (f := prC) (s := 2) (fun _ => rfl) l p 1 hp' (by omega)]; rfl)
  rw [Nat.zero_add] at c0 c1
  exact ⟨c0, c1⟩
theorem Var3.sset {w : World} {g : Nat} {a b c u : Value} {k i : Nat} (h : Var3 w g a b c) (hk : k ≠ g) : Var3 (w.setCell ⟨k, i, none⟩ u) g a b c :=
  ⟨cl_set (Or.inl (Ne.symm hk)) h.x, cl_set (Or.inl (Ne.symm hk)) h.y, cl_set (Or.inl (Ne.symm hk)) h.z, fr_set h.fx, fr_set h.fy, fr_set h.fz, by rw [size_set]; exact h.lt⟩
theorem SysN.mono {n m : Nat} {w : World} {vp vc vs : Value} {S : SysD} (h : SysN n w vp vc vs S) (hm : m ≤ n) : SysN m w vp vc vs S := by
  obtain ⟨ps, h1, h2, h3, h4⟩ := h.p
  exact ⟨⟨ps, h1, h2, h3.mono hm, fun k hk hk' => ⟨(h4 k hk hk').1, (h4 k hk hk').2.1.mono hm, (h4 k hk hk').2.2.mono hm⟩⟩, h.c, h.s, h.nc.mono hm, h.ns.mono hm⟩
/-- A system that is built, one partition replaced. -/
theorem Bld.calm {n base : Nat} {wr : World} {g q cap p : Nat} {vc vs C I : Value} {S : SysD} (h : Bld n base wr g (.slice (some ⟨q, 0, none⟩) S.parts.length cap) vc vs S.parts S.chans S.slots) (hp : p < S.parts.length) (hC : PrtR wr C I stopP) (hCq : C.ownBlock ≠ some q) (hIq : I.ownBlock ≠ some q) (hCn : NewB n C) (hIn : NewB n I) :
    SysN n ((wr.setCell ⟨q, p * 2, none⟩ C).setCell ⟨q, p * 2 + 1, none⟩ I) (.slice (some ⟨q, 0, none⟩) S.parts.length cap) vc vs (calmS S p) := by
  obtain ⟨l, h1, h2, h3⟩ := h.row
  have hqb := own_block h2 q rfl
  have hs := sl_set2 C I (own_sl h2) h1 hp
  rw [Nat.zero_add] at hs
  have hnc := h.nc.2
  have hns := h.ns.2
  have hgn := h.gn
  have hgl := h.gl
  refine ⟨⟨l.set p (C, I), by simp [calmS, h1], by simpa [calmS] using hs, fun k e => by have := own_block h2 k e; omega, fun k hk hk' => ?_⟩, ?_, ?_, h.nc.1, h.ns.1⟩
  · have hkS : k < S.parts.length := by simpa [calmS] using hk
    have hkl : k < l.length := by simpa using hk'
    simp only [calmS, List.getElem_set]
    by_cases hpk : p = k
    · rw [if_pos hpk, if_pos hpk]
      exact ⟨⟨(hC.code.set _ hCq).set _ hCq, (hC.inn.set _ hIq).set _ hIq⟩, hCn, hIn⟩
    · rw [if_neg hpk, if_neg hpk]
      obtain ⟨p1, p2, p3, _, _⟩ := h3 k hkS hkl
      have a1 : l[k].1.ownBlock ≠ some q := fun e => p3.1 q e rfl
      have a2 : l[k].2.ownBlock ≠ some q := fun e => p3.2 q e rfl
      exact ⟨⟨(p1.code.set _ a1).set _ a1, (p1.inn.set _ a2).set _ a2⟩, p2.1.mono (by omega), p2.2.mono (by omega)⟩
  · have a1 : vc.ownBlock ≠ some q := fun e => by have := (hnc q e).2; omega
    exact (h.c.set _ a1).set _ a1
  · have a1 : vs.ownBlock ≠ some q := fun e => by have := (hns q e).2; omega
    exact (h.s.set _ a1).set _ a1

set_option maxRecDepth 100000 in
set_option maxHeartbeats 4000000 in
theorem calmOf_any (S : SysD) (vp vc vs : Value) (p : Nat) (w : World) (hS : Sys w vp vc vs S) (hz : chkS S = 0) (hp : p < S.parts.length) :
    Calls Tryd.prog 9 #[.agg #[vp, vc, vs], .int .i64 (p : Int)] w fun e w' => ∃ xp xc xs, e = .returned (.agg #[xp, xc, xs]) ∧ SysN (w.heap.size + 2) w' xp xc xs (calmS S p) ∧ Below w.heap.size w w' := by
  obtain ⟨pa, pc, rfl⟩ := hS.p.form
  obtain ⟨ca, cc, rfl⟩ := hS.c.form
  obtain ⟨sa, sc, rfl⟩ := hS.s.form
  have SM := Lib.hid (small hz)
  have HS := Lib.hid hS
  have hpi : (p : Int) < S.parts.length := by omega
  clear hS hz
  go_enter Tryd.func9, Tryd.ntmps9
  go_wp2_with fail
  refine (ownSystem_any S _ _ _ _ (HS.out.up (by repeat (first | exact Below.refl _ _ | assumption | refine Below.drew ?_ | refine Below.alloc ?_ (by first | (simp; done) | (simp; omega)) _ | refine Below.setCell ?_ (by first | (simp; done) | (simp; omega)) _))) SM.out.1 SM.out.2.1 SM.out.2.2.1 SM.out.2.2.2).mono ?_
  rintro e w2 ⟨xp, xc, xs, rfl, ⟨base, g, hbl⟩, bb⟩
  have HV := Lib.hid ((var3_new (w.alloc (.cells #[.slice pa S.parts.length pc, .slice ca S.chans.length cc, .slice sa S.slots.length sc] 26)) (.slice none 0 0) (.slice none 0 0) (.slice none 0 0) 26 (w.heap.size + 1) (by simp)).up bb)
  have D := Lib.hid (Below.trans (show Below w.heap.size w _ from (by repeat (first | exact Below.refl _ _ | assumption | refine Below.drew ?_ | refine Below.alloc ?_ (by first | (simp; done) | (simp; omega)) _ | refine Below.setCell ?_ (by first | (simp; done) | (simp; omega)) _))) (bb.mono (by simp; omega)))
  clear bb
  obtain ⟨l, hl1, hl2, hl3⟩ := hbl.row
  obtain ⟨q, cap, rfl, hqb, hqw⟩ := hl2.form (by omega)
  obtain ⟨xca, xcc, rfl⟩ := hbl.c.form
  obtain ⟨xsa, xsc, rfl⟩ := hbl.s.form
  have hpl : p < l.length := by omega
  have q0 := (own_pair hl2 hl1 hp hpl).1
  have q1 := (own_pair hl2 hl1 hp hpl).2
  have qf0 := own_fr hl2 (p * 2)
  have qf1 := own_fr hl2 (p * 2 + 1)
  have hgn := hbl.gn
  have hgl := hbl.gl
  have hww := HV.out.lt
  simp at hgn
  have HBL := Lib.hid hbl
  clear hl2 hl3 hbl
  have XB := Lib.hid (var3_new w2 (.slice (some ⟨q, 0, none⟩) S.parts.length cap) (.slice xca S.chans.length xcc) (.slice xsa S.slots.length xsc) 26 _ rfl)
  have DX : Below w2.heap.size w2 (w2.alloc (.cells #[.slice (some ⟨q, 0, none⟩) S.parts.length cap, .slice xca S.chans.length xcc, .slice xsa S.slots.length xsc] 26)) := (Below.refl _ _).alloc (Nat.le_refl _) _
  have hzx : (w2.alloc (.cells #[.slice (some ⟨q, 0, none⟩) S.parts.length cap, .slice xca S.chans.length xcc, .slice xsa S.slots.length xsc] 26)).heap.size = w2.heap.size + 1 := by simp
  go_wp2_with fail
  generalize w2.alloc (.cells #[.slice (some ⟨q, 0, none⟩) S.parts.length cap, .slice xca S.chans.length xcc, .slice xsa S.slots.length xsc] 26) = W3 at *
  have q0 := bcl DX hqw q0
  have q1 := bcl DX hqw q1
  have qf0 := bfr DX hqw qf0
  have qf1 := bfr DX hqw qf1
  have HBL := Lib.hid (HBL.out.up DX)
  have HV := Lib.hid (HV.out.up DX)
  have D := Lib.hid (D.out.trans (DX.mono D.out.size))
  have hqg : q ≠ w2.heap.size := by omega
  have hqv : q ≠ w.heap.size + 1 := by omega
  have hq3 : q < W3.heap.size := by omega
  generalize w2.heap.size = gb at *
  have x0 := XB.out.x
  clear DX
  go_region_held3 (fun w' => w'.cell? ⟨gb, 0, none⟩ = some (.slice (some ⟨q, 0, none⟩) S.parts.length cap)) (first | exact x0 | exact u0 | exact (XB.out.up (by repeat (first | exact Below.refl _ _ | assumption | refine Below.drew ?_ | refine Below.alloc ?_ (by first | omega | (simp; done) | (simp; omega)) _ | refine Below.setCell ?_ (by first | omega | (simp; done) | (simp; omega)) _))).x)
    ((go_at_call 27; refine (refCalm_any _).mono ?_; rintro e w4 ⟨b, rfl, hpr, hb1, hb2, f4⟩; have D4 : Below W3.heap.size W3 w4 := Below.trans (by repeat (first | exact Below.refl _ _ | assumption | refine Below.drew ?_ | refine Below.alloc ?_ (by first | omega | (simp; done) | (simp; omega)) _ | refine Below.setCell ?_ (by first | omega | (simp; done) | (simp; omega)) _)) (f4.mono (by first | omega | (simp; done) | (simp; omega))); have z4 := D4.size; have hb3 : W3.heap.size ≤ b := hb1; have HPR := Lib.hid hpr; have r0 := bcl D4 hq3 q0; have r1 := bcl D4 hq3 q1; have rf0 := bfr D4 hq3 qf0; have rf1 := bfr D4 hq3 qf1; have X5 := Lib.hid (((XB.out.up D4).sset (u := .slice (some ⟨b, 0, none⟩) 1 1) (i := p * 2) hqg).sset (u := .slice none 0 0) (i := p * 2 + 1) hqg); have V5 := Lib.hid (((HV.out.up D4).sset (u := .slice (some ⟨b, 0, none⟩) 1 1) (i := p * 2) hqv).sset (u := .slice none 0 0) (i := p * 2 + 1) hqv); have u0 := X5.out.x; clear hpr f4))
  have u1 := X5.out.y
  have u2 := X5.out.z
  have y0 := V5.out.x
  have y1 := V5.out.y
  have y2 := V5.out.z
  have y3 := V5.out.fx
  have y4 := V5.out.fy
  have y5 := V5.out.fz
  have V6 := V5.out.sets (a' := .slice (some ⟨q, 0, none⟩) S.parts.length cap) (b' := .slice xca S.chans.length xcc) (c' := .slice xsa S.slots.length xsc)
  have t0 := V6.x
  have t1 := V6.y
  have t2 := V6.z
  have HN := Lib.hid (Bld.calm (HBL.out.up D4) hp HPR.out (by simp [Value.ownBlock]; omega) (by simp [Value.ownBlock]) (fun k e => by have hk : b = k := (by simpa [Value.ownBlock] using e); simp; omega) (fun k e => by simp [Value.ownBlock] at e))
  clear V6
  go_wp2
  refine bodyPost_ret (v := .agg #[.slice (some ⟨q, 0, none⟩) S.parts.length cap, .slice xca S.chans.length xcc, .slice xsa S.slots.length xsc]) (by simp [results, Tryd.f9, go_sem, t0, t1, t2]) rfl ⟨_, _, _, rfl, (((HN.out.set (by simp) _).set (by simp) _).set (by simp) _).mono (by simp), ?_⟩
  have D5 := D.out.trans (D4.mono D.out.size)
  exact ((((D5.setCell (show w.heap.size ≤ q by omega) _).setCell (show w.heap.size ≤ q by omega) _).setCell (by simp) _).setCell (by simp) _).setCell (by simp) _
end Go.Proofs.YtdijpjmbicfcdaaDoor
