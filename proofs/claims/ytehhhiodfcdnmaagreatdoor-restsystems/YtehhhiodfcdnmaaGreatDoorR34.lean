/- A system of its own, parts of which are replaced; ref.PurgeOf. -/
import Derived.Test.YtehhhiodfcdnmaaGreatDoorR32
import Derived.Test.YtehhhiodfcdnmaaGreatDoorR23
import Derived.Test.YtehhhiodfcdnmaaGreatDoorR31
namespace Go.Proofs.YtehhhiodfcdnmaaGreatDoor
set_option linter.unusedSimpArgs false
set_option linter.unusedVariables false
set_option maxRecDepth 100000
set_option maxHeartbeats 8000000
open Go.RowKit Go.Sort
attribute [local go_sem ↓] Go.wp_at_zero Go.wp_at_succ
theorem refCalmV_any (w : World) : Calls Tryz.prog 52 #[] w fun e w' => ∃ b, e = .returned (.agg #[.slice (some ⟨b, 0, none⟩) 1 1, .slice none 0 0]) ∧ PrtR w' (.slice (some ⟨b, 0, none⟩) 1 1) (.slice none 0 0) stopP ∧ w.heap.size ≤ b ∧ b < w'.heap.size ∧ Below w.heap.size w w' := by
 go_enter Tryz.func52, Tryz.ntmps52
 go_wp2
 refine bodyPost_ret (v := .agg #[.slice (some ⟨w.heap.size + 1, 0, none⟩) 1 1, .slice none 0 0]) (by simp [results, Tryz.f52, go_sem]) rfl ⟨_, rfl, ⟨?_, Sl.nil _ _⟩, by omega, by simp, up0⟩
 first
  | exact lit_sl _ _ _ _ 1 4 (by simp) rfl
  | exact ((lit_sl _ _ _ _ 1 4 (by simp) rfl).set _ (by simp [Value.ownBlock])).set _ (by simp [Value.ownBlock])
theorem sl_set2V {w : World} {b off n cap k : Nat} {l : List (Value × Value)} (C I : Value) (h : Sl w 2 (.slice (some ⟨b, off, none⟩) n cap) n (rowC prC l)) (hl : l.length = n) (hk : k < n) :
  Sl ((w.setCell ⟨b, off + k * 2, none⟩ C).setCell ⟨b, off + k * 2 + 1, none⟩ I) 2 (.slice (some ⟨b, off, none⟩) n cap) n (rowC prC (l.set k (C, I))) := by
 obtain ⟨h1, ao, cap', he, h3, h4⟩ := h
 injection he with e1 _ e2
 subst e1
 subst e2
 obtain ⟨b', off', he, hlt, hc, hz⟩ := h4 om
 injection he with he
 injection he with e1 e2
 subst e1
 subst e2
 refine ⟨by rw [rowC_len (s := 2) (fun _ => rfl), List.length_set, hl], _, cap, rfl, h3, fun _ => ⟨b, off, rfl, by rw [size_set, size_set]; exact hlt, fun j u hj => ?_, by rw [rowC_len (s := 2) (fun _ => rfl), List.length_set, ← rowC_len (f := prC) (s := 2) (fun _ => rfl)]; exact (hz.set _ _).set _ _⟩⟩
 have hjl : j < n * 2 := by
  have := (List.getElem?_eq_some_iff.1 hj).1
  rw [rowC_len (s := 2) (fun _ => rfl), List.length_set, hl] at this
  exact this
 have hq : j / 2 < l.length := by omega
 have hqs : j / 2 < (l.set k (C, I)).length := by rw [List.length_set]; exact hq
 have hat := rowC_at (f := prC) (s := 2) (fun _ => rfl) (l.set k (C, I)) (j / 2) (j % 2) hqs om
 have hat0 := rowC_at (f := prC) (s := 2) (fun _ => rfl) l (j / 2) (j % 2) hq om
 rw [show j / 2 * 2 + j % 2 = j by omega] at hat hat0
 rw [hat, List.getElem_set] at hj
 by_cases hjk : k = j / 2
 ·subst hjk
  rw [if_pos rfl] at hj
  have hx0 : w.cell? ⟨b, off + j / 2 * 2, none⟩ = some l[j / 2].1 := hc (j / 2 * 2) _ (by rw [← Nat.add_zero (j / 2 * 2), rowC_at (f := prC) (s := 2) (fun _ => rfl) l (j / 2) 0 hq om]; rfl)
  have hx1 : w.cell? ⟨b, off + j / 2 * 2 + 1, none⟩ = some l[j / 2].2 := by
   rw [Nat.add_assoc]
   exact hc (j / 2 * 2 + 1) _ (by rw [rowC_at (f := prC) (s := 2) (fun _ => rfl) l (j / 2) 1 hq om]; rfl)
  rcases Nat.mod_two_eq_zero_or_one j with hm | hm
  ·rw [hm] at hj
   simp [prC] at hj
   subst hj
   rw [show off + j = off + j / 2 * 2 by omega]
   exact cl_set (Or.inr om) (cl_same hx0)
  ·rw [hm] at hj
   simp [prC] at hj
   subst hj
   rw [show off + j = off + j / 2 * 2 + 1 by omega]
   exact cl_same (cl_set (Or.inr om) hx1)
 ·rw [if_neg hjk] at hj
  refine cl_set (Or.inr om) (cl_set (Or.inr om) (hc j u (by rw [hat0]; exact hj)))
theorem own_frV {w : World} {base : Nat} {e : TypeId} {size : Nat} {q n cap : Nat} {xs : List Value} (h : w.ownsRow base e size (.slice (some ⟨q, 0, none⟩) n cap) n xs) (i : Nat) : w.frozen? ⟨q, i, none⟩ = false := by
 rcases h.2 with ⟨h, _⟩ | ⟨g, cap', cur, he, _, hh, _⟩
 ·cases h
 ·injection he with h1 _ _
  injection h1 with h1
  injection h1 with h1
  subst h1
  simp [World.frozen?, hh]
structure Pg (n : Nat) (w : World) (q cap N : Nat) (vc vs : Value) (ps : List Prt) (cs : List Chn) (ss : List Slt) : Prop where
 len : ps.length = N
 row : ∃ l : List (Value × Value), l.length = N ∧ Sl w 2 (.slice (some ⟨q, 0, none⟩) N cap) N (rowC prC l) ∧ ∀ k (hk : k < ps.length) (hk' : k < l.length), PrtR w l[k].1 l[k].2 ps[k] ∧ (NewB n l[k].1 ∧ NewB n l[k].2) ∧ l[k].1.ownBlock ≠ some q ∧ l[k].2.ownBlock ≠ some q
 c : Sl w 3 vc cs.length (rowC chC cs)
 s : Sl w 2 vs ss.length (rowC slC ss)
 nc : NewB n vc
 ns : NewB n vs
 ac : vc.ownBlock ≠ some q
 az : vs.ownBlock ≠ some q
 fr : ∀ i, w.frozen? ⟨q, i, none⟩ = false
 lt : q < w.heap.size
 ge : n ≤ q
theorem Pg.up {n : Nat} {w w' : World} {q cap N : Nat} {vc vs : Value} {ps : List Prt} {cs : List Chn} {ss : List Slt} (h : Pg n w q cap N vc vs ps cs ss) (hb : Below w.heap.size w w') : Pg n w' q cap N vc vs ps cs ss := by
 obtain ⟨l, h1, h2, h3⟩ := h.row
 exact ⟨h.len, ⟨l, h1, h2.up hb, fun k hk hk' => ⟨(h3 k hk hk').1.up hb, (h3 k hk hk').2⟩⟩, h.c.up hb, h.s.up hb, h.nc, h.ns, h.ac, h.az, fun i => bfr hb h.lt (h.fr i), Nat.lt_of_lt_of_le h.lt hb.size, h.ge⟩
theorem Pg.sysF {n : Nat} {w : World} {q cap N : Nat} {vc vs : Value} {ps : List Prt} {cs : List Chn} {ss : List Slt} (h : Pg n w q cap N vc vs ps cs ss) : SysF n w (.slice (some ⟨q, 0, none⟩) N cap) vc vs ⟨ps, cs, ss⟩ := by
 obtain ⟨l, h1, h2, h3⟩ := h.row
 have hl := h.len
 subst hl
 refine ⟨⟨l, h1, h2, fun k hk hk' => ?_⟩, fun b e => ?_, h.c, h.s, h.nc, h.ns⟩
 ·obtain ⟨a1, a2, a3, a4⟩ := h3 k hk hk'
  refine ⟨a1, a2, fun _ b e e2 => ?_, fun _ b e e2 => ?_⟩
  ·simp [Value.ownBlock] at e2; subst e2; exact a3 e
  ·simp [Value.ownBlock] at e2; subst e2; exact a4 e
 ·simp [Value.ownBlock] at e
  subst e
  exact h.ge
theorem Pg.set {n : Nat} {w : World} {q cap N : Nat} {vc vs : Value} {ps : List Prt} {cs : List Chn} {ss : List Slt} (h : Pg n w q cap N vc vs ps cs ss) {p : Nat} (hp : p < N) {C I : Value} {P : Prt} (hC : PrtR w C I P) (nC : NewB n C) (nI : NewB n I) (aC : C.ownBlock ≠ some q) (aI : I.ownBlock ≠ some q) :
  Pg n ((w.setCell ⟨q, p * 2, none⟩ C).setCell ⟨q, p * 2 + 1, none⟩ I) q cap N vc vs (ps.set p P) cs ss := by
 obtain ⟨l, h1, h2, h3⟩ := h.row
 have hs := sl_set2V C I h2 h1 hp
 rw [Nat.zero_add] at hs
 refine ⟨by rw [List.length_set]; exact h.len, ⟨l.set p (C, I), by rw [List.length_set]; exact h1, hs, fun k hk hk' => ?_⟩, (h.c.set _ h.ac).set _ h.ac, (h.s.set _ h.az).set _ h.az, h.nc, h.ns, h.ac, h.az, fun i => fr_set (fr_set (h.fr i)), by rw [size_set, size_set]; exact h.lt, h.ge⟩
 have hkS : k < ps.length := by simpa using hk
 have hkl : k < l.length := by simpa using hk'
 simp only [List.getElem_set]
 by_cases hpk : p = k
 ·rw [if_pos hpk, if_pos hpk]
  exact ⟨⟨(hC.code.set _ aC).set _ aC, (hC.inn.set _ aI).set _ aI⟩, ⟨nC, nI⟩, aC, aI⟩
 ·rw [if_neg hpk, if_neg hpk]
  obtain ⟨p1, p2, a1, a2⟩ := h3 k hkS hkl
  exact ⟨⟨(p1.code.set _ a1).set _ a1, (p1.inn.set _ a2).set _ a2⟩, p2, a1, a2⟩
theorem Pg.of {n base : Nat} {w : World} {g : Nat} {q cap : Nat} {vc vs : Value} {ps : List Prt} {cs : List Chn} {ss : List Slt} (h : Bld n base w g (.slice (some ⟨q, 0, none⟩) ps.length cap) vc vs ps cs ss) (h0 : 0 < ps.length) : Pg n w q cap ps.length vc vs ps cs ss := by
 obtain ⟨l, h1, h2, h3⟩ := h.row
 have hqb := own_block h2 q rfl
 have hgn := h.gn
 have hgl := h.gl
 obtain ⟨b, off, cap', he, _, hb, _⟩ := (own_sl h2).open h0
 refine ⟨rfl, ⟨l, h1, own_sl h2, fun k hk hk' => ?_⟩, h.c, h.s, h.nc.1, h.ns.1, fun e => by have := (h.nc.2 q e).2; omega, fun e => by have := (h.ns.2 q e).2; omega, own_frV h2, ?_, by omega⟩
 ·obtain ⟨p1, p2, p3, _⟩ := h3 k hk hk'
  exact ⟨p1, ⟨p2.1.mono om, p2.2.mono om⟩, fun e => p3.1 q e rfl, fun e => p3.2 q e rfl⟩
 ·injection he with e1 _ _
  injection e1 with e1
  injection e1 with e1 _
  subst e1
  exact hb
theorem Pg.cells {n : Nat} {w : World} {q cap N : Nat} {vc vs : Value} {ps : List Prt} {cs : List Chn} {ss : List Slt} (h : Pg n w q cap N vc vs ps cs ss) {p : Nat} (hp : p < N) : ∃ x y, w.cell? ⟨q, p * 2, none⟩ = some x ∧ w.cell? ⟨q, p * 2 + 1, none⟩ = some y := by
 obtain ⟨l, h1, h2, h3⟩ := h.row
 obtain ⟨b, off, cap', he, _, _, hc⟩ := h2.open om
 injection he with e1 _ _
 injection e1 with e1
 injection e1 with e1 e2
 subst e1
 subst e2
 have hp' : p < l.length := by omega
 have c0 := hc (p * 2) l[p].1 (by rw [← Nat.add_zero (p * 2), rowC_at (f := prC) (s := 2) (fun _ => rfl) l p 0 hp' om]; rfl)
 have c1 := hc (p * 2 + 1) l[p].2 (by rw [rowC_at (f := prC) (s := 2) (fun _ => rfl) l p 1 hp' om]; rfl)
 rw [Nat.zero_add] at c0 c1
 exact ⟨_, _, c0, c1⟩
def pgL (S : SysD) (u : Int) (k : Nat) : List Prt := S.parts.mapIdx fun j p => if j < k then purgeP S u j p else p
theorem pgL_zero (S : SysD) (u : Int) : pgL S u 0 = S.parts := by
 apply List.ext_getElem
 ·simp [pgL]
 ·intro k h1 h2
  simp [pgL]
theorem pgL_all (S : SysD) (u : Int) : pgL S u S.parts.length = (purgeS S u).parts := by
 apply List.ext_getElem
 ·simp [pgL, purgeS]
 ·intro k h1 h2
  have : k < S.parts.length := by simpa [pgL] using h1
  simp [pgL, purgeS, this]
theorem pgL_yes {S : SysD} {u : Int} {k : Nat} (h : reachB S k u = true) : pgL S u (k + 1) = pgL S u k := by
 apply List.ext_getElem
 ·simp [pgL]
 ·intro j h1 h2
  simp only [pgL, List.getElem_mapIdx]
  by_cases hj : j < k
  ·rw [if_pos om, if_pos hj]
  ·by_cases hjk : j = k
   ·subst hjk
    rw [if_pos om, if_neg hj, purgeP, if_pos h]
   ·rw [if_neg om, if_neg hj]
theorem pgL_no {S : SysD} {u : Int} {k : Nat} (h : reachB S k u = false) : pgL S u (k + 1) = (pgL S u k).set k stopP := by
 apply List.ext_getElem
 ·simp [pgL]
 ·intro j h1 h2
  simp only [List.getElem_set, pgL, List.getElem_mapIdx]
  by_cases hjk : k = j
  ·subst hjk
   rw [if_pos rfl, if_pos om, purgeP, if_neg (by rw [h]; simp)]
  ·rw [if_neg hjk]
   by_cases hj : j < k
   ·rw [if_pos om, if_pos hj]
   ·rw [if_neg om, if_neg hj]
theorem purgeOf_any (S : SysD) (u : Int) (hz : chkS S = 0) (vp vc vs : Value) (w : World) (hS : Sys w vp vc vs S) :
  Calls Tryz.prog 17 #[.agg #[vp, vc, vs], .int .i64 u] w fun e w' => ∃ xp xc xs, e = .returned (.agg #[xp, xc, xs]) ∧ SysF w.heap.size w' xp xc xs (purgeS S u) ∧ Below w.heap.size w w' := by
 obtain ⟨pa, pc, rfl⟩ := hS.p.form
 obtain ⟨ka, kc, rfl⟩ := hS.c.form
 obtain ⟨sa, sc, rfl⟩ := hS.s.form
 have SM := hd (small_sys hz)
 obtain ⟨h4, h1, h6, -⟩ := chk_flow hz
 have HRC := hd fun a w hS => reaches_any S h4 h6 a u (.slice pa S.parts.length pc) (.slice ka S.chans.length kc) (.slice sa S.slots.length sc) w hS
 have HS := hd hS
 clear hS hz
 go_enter Tryz.func17, Tryz.ntmps17
 go_upto_region 1 with fail
 generalize hX : World.alloc _ _ = X
 have hXX : X = (w.alloc (.cells #[.slice pa S.parts.length pc, .slice ka S.chans.length kc, .slice sa S.slots.length sc] 26)).alloc (.cells #[.slice none 0 0, .slice none 0 0, .slice none 0 0] 26) := by rw [← hX] <;> rfl
 have hzX : X.heap.size = w.heap.size + 2 := by rw [hXX]; simp
 have d0 : Below w.heap.size w X := by rw [hXX]; exact up0
 have R0 : Hid (Rw X w.heap.size 26 #[.slice pa S.parts.length pc, .slice ka S.chans.length kc, .slice sa S.slots.length sc]) := hd (by rw [hXX]; exact rn0)
 have R4 : Hid (Rw X (w.heap.size + 1) 26 #[.slice none 0 0, .slice none 0 0, .slice none 0 0]) := hd (by rw [hXX]; exact rn0)
 have HB := hd d0
 clear hX hXX d0
 have s0 := R0.out.cell (j := 0) (v := .slice pa S.parts.length pc) rfl
 have s1 := R0.out.cell (j := 1) (v := .slice ka S.chans.length kc) rfl
 have s2 := R0.out.cell (j := 2) (v := .slice sa S.slots.length sc) rfl
 go_wp2_with fail
 refine (ownSystem_any S _ _ _ _ (HS.out.up HB.out) (by have := SM.out.p; omega) (by have := SM.out.c; omega) (by have := SM.out.s; omega) (fun j hj => by have := SM.out.q j hj; omega)).mono ?_
 rintro e w2 ⟨xp, xc, xs, rfl, ⟨base, g, hbl⟩, b2⟩
 obtain ⟨l, hl1, hl2, hl3⟩ := hbl.row
 obtain ⟨q, cap, rfl, hqb, hqw⟩ := hl2.form om
 obtain ⟨xca, xcc, rfl⟩ := hbl.c.form
 obtain ⟨xsa, xsc, rfl⟩ := hbl.s.form
 have hpg := Pg.of hbl om
 have hge := hpg.ge
 have PG := hd hpg
 clear hpg hl1 hl2 hl3 hbl hqb s0 s1 s2 l
 have R0' := hd (R0.out.up b2 R0.out.lt)
 have R4' := hd (R4.out.up b2 R4.out.lt)
 have HB' := hd (HB.out.trans (b2.mono HB.out.size))
 clear b2 HB R0 R4
 have R0 := R0'
 clear R0'
 have R4 := R4'
 clear R4'
 have HB := HB'
 clear HB'
 go_wp2_with (refine wpList_store_rowW rfl 26 (.tmp 5) (.tmp 8) rfl w2.heap.size #[.slice (some ⟨q, 0, none⟩) S.parts.length cap, .slice xca S.chans.length xcc, .slice xsa S.slots.length xsc] rfl rfl 26 #[.slice none 0 0, .slice none 0 0, .slice none 0 0] rn0 sizeSys rfl (by simp [Value.oneCell']) ?_)
 intro W3 HW3
 have b3 : Below w2.heap.size w2 W3 := by rw [HW3.out]; exact below_row ((Below.refl _ _).alloc (Nat.le_refl _) _) (Nat.le_refl _) _
 have R5 : Hid (Rw W3 w2.heap.size 26 #[.slice (some ⟨q, 0, none⟩) S.parts.length cap, .slice xca S.chans.length xcc, .slice xsa S.slots.length xsc]) := by
  show Rw _ _ _ _
  rw [HW3.out]
  exact Rw.row (cs := #[.slice none 0 0, .slice none 0 0, .slice none 0 0]) rn0 _
 have z3 : W3.heap.size = w2.heap.size + 1 := by rw [HW3.out]; simp
 clear HW3
 have PG' := hd (PG.out.up b3)
 have R0' := hd (R0.out.up b3 R0.out.lt)
 have R4' := hd (R4.out.up b3 R4.out.lt)
 have HB' := hd (HB.out.trans (b3.mono HB.out.size))
 clear b3 HB PG R0 R4
 have PG := PG'
 clear PG'
 have R0 := R0'
 clear R0'
 have R4 := R4'
 clear R4'
 have HB := HB'
 clear HB'
 have PG0 : Hid (Pg (w.heap.size + 2) W3 q cap S.parts.length (.slice xca S.chans.length xcc) (.slice xsa S.slots.length xsc) (pgL S u 0) S.chans S.slots) := hd (by
  rw [pgL_zero]
  have h := PG.out
  obtain ⟨l, h1, h2, h3⟩ := h.row
  exact ⟨rfl, ⟨l, h1, h2, fun k hk hk' => ⟨(h3 k hk hk').1, ⟨(h3 k hk hk').2.1.1.mono om, (h3 k hk hk').2.1.2.mono om⟩, (h3 k hk hk').2.2⟩⟩, h.c, h.s, h.nc.mono om, h.ns.mono om, h.ac, h.az, h.fr, h.lt, by omega⟩)
 clear PG
 generalize hgb : w2.heap.size = gb at *
 go_wp2
 go_loopw [6] (fun i wr => ∃ k : Nat, i = .int .i64 k ∧ k ≤ S.parts.length ∧ Hid (Rw wr w.heap.size 26 #[.slice pa S.parts.length pc, .slice ka S.chans.length kc, .slice sa S.slots.length sc]) ∧ Hid (Rw wr (w.heap.size + 1) 26 #[.slice none 0 0, .slice none 0 0, .slice none 0 0]) ∧ Hid (Rw wr gb 26 #[.slice (some ⟨q, 0, none⟩) S.parts.length cap, .slice xca S.chans.length xcc, .slice xsa S.slots.length xsc]) ∧ Hid (Pg (w.heap.size + 2) wr q cap S.parts.length (.slice xca S.chans.length xcc) (.slice xsa S.slots.length xsc) (pgL S u k) S.chans S.slots) ∧ Hid (Below w.heap.size w wr)) (fun i _ => S.parts.length - (intOf i).toNat)
 case atStart => exact ⟨0, rfl, Nat.zero_le _, R0, R4, R5, PG0, HB⟩
 case round =>
  clear R0 R4 R5 PG0 HB
  obtain ⟨k, rfl, hk, R0, R4, R5, PG, HB⟩ := hrel
  have s0 := R0.out.cell (j := 0) (v := .slice pa S.parts.length pc) rfl
  have s1 := R0.out.cell (j := 1) (v := .slice ka S.chans.length kc) rfl
  have s2 := R0.out.cell (j := 2) (v := .slice sa S.slots.length sc) rfl
  by_cases hlt : k < S.parts.length
  ·have hli : (k : Int) < S.parts.length := by omega
   go_wp2_with fail
   refine (HRC.out _ _ (HS.out.up HB.out)).mono ?_
   rintro e w5 ⟨rfl, b5⟩
   clear s0 s1 s2
   have PG' := hd (PG.out.up b5)
   have R0' := hd (R0.out.up b5 R0.out.lt)
   have R4' := hd (R4.out.up b5 R4.out.lt)
   have R5' := hd (R5.out.up b5 R5.out.lt)
   have HB' := hd (HB.out.trans (b5.mono HB.out.size))
   clear b5 HB PG R0 R4 R5
   have PG := PG'
   clear PG'
   have R0 := R0'
   clear R0'
   have R4 := R4'
   clear R4'
   have R5 := R5'
   clear R5'
   have HB := HB'
   clear HB'
   cases hr : reachB S k u with
   | true =>
    have PG1 : Hid (Pg (w.heap.size + 2) w5 q cap S.parts.length (.slice xca S.chans.length xcc) (.slice xsa S.slots.length xsc) (pgL S u (k + 1)) S.chans S.slots) := hd (by rw [pgL_yes hr]; exact PG.out)
    clear hr PG
    go_wp2
    go_roundw
    case rel => exact ⟨k + 1, by go_num, by omega, R0, R4, R5, PG1, HB⟩
    case measure => simp [intOf]; omega
   | false =>
    have HR0 := hd hr
    clear hr
    have hq3 := PG.out.lt
    have hqn := PG.out.ge
    have h5l := R5.out.lt
    obtain ⟨x, y, q0, q1⟩ := PG.out.cells hlt
    have qf0 := PG.out.fr (k * 2)
    have qf1 := PG.out.fr (k * 2 + 1)
    have hqg : gb ≠ q := by omega
    have hq1' : w.heap.size ≠ q := by omega
    have hq2' : w.heap.size + 1 ≠ q := by omega
    have x0 := R5.out.cell (j := 0) (v := .slice (some ⟨q, 0, none⟩) S.parts.length cap) rfl
    go_upto_region 6 with fail
    go_region_held3 (fun w' => w'.cell? ⟨gb, 0, none⟩ = some (.slice (some ⟨q, 0, none⟩) S.parts.length cap)) (first | exact x0 | exact u0 | exact (R5.out.up (by repeat (first | exact Below.refl _ _ | assumption | refine Below.drew ?_ | refine Below.alloc ?_ o3 _ | refine Below.setCell ?_ o3 _)) R5.out.lt).cell (j := 0) rfl)
     ((go_at_call 52; refine (refCalmV_any _).mono ?_; rintro e w6 ⟨b, rfl, hpr, hb1, hb2, f4⟩; have D4 : Below w5.heap.size w5 w6 := Below.trans (by repeat (first | exact Below.refl _ _ | assumption | refine Below.drew ?_ | refine Below.alloc ?_ o3 _ | refine Below.setCell ?_ o3 _)) (f4.mono o3); have z4 := D4.size; have hb3 : w5.heap.size ≤ b := hb1; have HPR := hd hpr; have r0 := bcl D4 hq3 q0; have r1 := bcl D4 hq3 q1; have rf0 := bfr D4 hq3 qf0; have rf1 := bfr D4 hq3 qf1; have X5 := hd (((R5.out.up D4 R5.out.lt).set_other (a := ⟨q, k * 2, none⟩) (.slice (some ⟨b, 0, none⟩) 1 1) hqg).set_other (a := ⟨q, k * 2 + 1, none⟩) (.slice none 0 0) hqg); have u0 := X5.out.cell (j := 0) (v := .slice (some ⟨q, 0, none⟩) S.parts.length cap) rfl; clear hpr f4))
    have R0' := hd (((R0.out.up D4 R0.out.lt).set_other (a := ⟨q, k * 2, none⟩) (.slice (some ⟨b, 0, none⟩) 1 1) hq1').set_other (a := ⟨q, k * 2 + 1, none⟩) (.slice none 0 0) hq1')
    have R4' := hd (((R4.out.up D4 R4.out.lt).set_other (a := ⟨q, k * 2, none⟩) (.slice (some ⟨b, 0, none⟩) 1 1) hq2').set_other (a := ⟨q, k * 2 + 1, none⟩) (.slice none 0 0) hq2')
    have PG1 := (PG.out.up D4).set hlt HPR.out (fun i e => by have hk : b = i := (by simpa [Value.ownBlock] using e); omega) (fun i e => by simp [Value.ownBlock] at e) (by simp [Value.ownBlock]; omega) (by simp [Value.ownBlock])
    rw [← pgL_no HR0.out] at PG1
    have PG2 := hd PG1
    have HB' := hd (((HB.out.trans (D4.mono HB.out.size)).setCell (p := ⟨q, k * 2, none⟩) (show w.heap.size ≤ q by omega) (.slice (some ⟨b, 0, none⟩) 1 1)).setCell (p := ⟨q, k * 2 + 1, none⟩) (show w.heap.size ≤ q by omega) (.slice none 0 0))
    clear PG1
    go_wp2
    go_roundw
    case rel => exact ⟨k + 1, by go_num, by omega, R0', R4', X5, PG2, HB'⟩
    case measure => simp [intOf]; omega
  ·obtain rfl : k = S.parts.length := by omega
   have x0 := R5.out.cell (j := 0) (v := .slice (some ⟨q, 0, none⟩) S.parts.length cap) rfl
   have x1 := R5.out.cell (j := 1) (v := .slice xca S.chans.length xcc) rfl
   have x2 := R5.out.cell (j := 2) (v := .slice xsa S.slots.length xsc) rfl
   have NF : Hid (SysF (w.heap.size + 2) wr (.slice (some ⟨q, 0, none⟩) S.parts.length cap) (.slice xca S.chans.length xcc) (.slice xsa S.slots.length xsc) (purgeS S u)) := hd (by
    have h := PG.out.sysF
    rw [pgL_all] at h
    exact h)
   clear PG
   go_wp2_with (refine wpList_store_rowW rfl 26 (.tmp 4) (.tmp 26) rfl (w.heap.size + 1) #[.slice (some ⟨q, 0, none⟩) S.parts.length cap, .slice xca S.chans.length xcc, .slice xsa S.slots.length xsc] rfl rfl 26 _ R4.out sizeSys rfl (by simp [Value.oneCell']) ?_)
   intro W9 HW9
   have r9 : Rw W9 (w.heap.size + 1) 26 #[.slice (some ⟨q, 0, none⟩) S.parts.length cap, .slice xca S.chans.length xcc, .slice xsa S.slots.length xsc] := by rw [HW9.out]; exact R4.out.row _
   have HB9 := hd (show Below w.heap.size w W9 by rw [HW9.out]; exact below_row HB.out om _)
   have N9 := hd (show SysF w.heap.size W9 (.slice (some ⟨q, 0, none⟩) S.parts.length cap) (.slice xca S.chans.length xcc) (.slice xsa S.slots.length xsc) (purgeS S u) by rw [HW9.out]; exact (NF.out.row om _).low om)
   clear HW9
   go_wp2
   exact bodyPost_ret (results_cell_row Tryz.results17 _ _ (w.heap.size + 1) 26 #[.slice (some ⟨q, 0, none⟩) S.parts.length cap, .slice xca S.chans.length xcc, .slice xsa S.slots.length xsc] (0, 0) _ rfl r9 Tryz.underlying26 rfl sizeSys) rfl ⟨_, _, _, rfl, N9.out, HB9.out⟩
end Go.Proofs.YtehhhiodfcdnmaaGreatDoor
