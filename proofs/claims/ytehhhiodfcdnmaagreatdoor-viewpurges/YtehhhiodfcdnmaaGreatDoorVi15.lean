/- ref.OtherOf. -/
import Derived.Test.YtehhhiodfcdnmaaGreatDoorJ16
import Derived.Test.YtehhhiodfcdnmaaGreatDoorJ2
namespace Go.Proofs.YtehhhiodfcdnmaaGreatDoor
set_option linter.unusedSimpArgs false
set_option linter.unusedVariables false
open Go.RowKit Go.Sort
attribute [local go_sem ↓] Go.wp_at_zero Go.wp_at_succ
theorem keep3V {W w' : World} {a b c : Addr} {x y z : Value} (D : Below W.heap.size W w') (h : W.cell? a = some x ∧ W.cell? b = some y ∧ W.cell? c = some z) (ha : a.block < W.heap.size) (hb : b.block < W.heap.size) (hc : c.block < W.heap.size) :
    w'.cell? a = some x ∧ w'.cell? b = some y ∧ w'.cell? c = some z :=
  ⟨(D.cell ha).trans h.1, (D.cell hb).trans h.2.1, (D.cell hc).trans h.2.2⟩
theorem other_ok {S : SysD} (h : S.ok) {m : Nat} {p : Prt} (hp : ∀ j (hj : j < p.code.length), p.code[j].ok) : (otherS S m p).ok := by
  intro x hx j hj
  rcases List.mem_or_eq_of_mem_set hx with h' | rfl
  · exact h x h' j hj
  · exact hp j hj
set_option maxRecDepth 100000 in
set_option maxHeartbeats 16000000 in
theorem otherOf_any (S : SysD) (hok : S.ok) (part : Int) (p : Prt) (hpo : ∀ j (hj : j < p.code.length), p.code[j].ok) (hl1 : p.code.length * 32 ≤ 140737488355328) (hl2 : p.inn.length * 8 ≤ 140737488355328) (vp vc vs pv iv : Value) (w : World) (hS : Sys w vp vc vs S) (hp : PrtR w pv iv p) :
    Calls Tryz.prog 18 #[.agg #[vp, vc, vs], .int .i64 part, .agg #[pv, iv]] w fun e w' => ∃ xp xc xs, e = .returned (.tuple #[.agg #[xp, xc, xs], .int .i64 (otherE S part p)]) ∧ SysF w.heap.size w' xp xc xs (otherR S part p) ∧ Below w.heap.size w w' := by
  obtain ⟨j1, ji, jz0, jz1, jz2⟩ := info_parts infoIns
  obtain ⟨j2, ki, kz0, kz1, kz2⟩ := info_parts infoIntC
  obtain ⟨pa, pc, rfl⟩ := hS.p.form
  obtain ⟨ka, kc, rfl⟩ := hS.c.form
  obtain ⟨sa, sc, rfl⟩ := hS.s.form
  obtain ⟨qa, qc, rfl⟩ := hp.code.form
  obtain ⟨ia, ic, rfl⟩ := hp.inn.form
  obtain ⟨c0, hc0⟩ : ∃ c0, thE S part = c0 := ⟨_, rfl⟩
  have HTH := Lib.hid fun w hS => thereT_any S hok (.slice pa S.parts.length pc) (.slice ka S.chans.length kc) (.slice sa S.slots.length sc) part w hS c0 hc0
  have HC0 := Lib.hid hc0
  have HOK := Lib.hid hok
  have HPO := Lib.hid hpo
  have HS := Lib.hid hS
  have HP := Lib.hid hp
  clear hS hp hok hc0 hpo
  go_enter Tryz.func18, Tryz.ntmps18
  go_upto_region 1 with fail
  generalize hX : World.alloc _ _ = X
  have hXX : X = ((w.alloc (.cells #[.slice pa S.parts.length pc, .slice ka S.chans.length kc, .slice sa S.slots.length sc] 26)).alloc (.cells #[.slice qa p.code.length qc, .slice ia p.inn.length ic] 49)).alloc (.cells #[.slice none 0 0, .slice none 0 0, .slice none 0 0] 26) := by rw [← hX] <;> rfl
  have hzX : X.heap.size = w.heap.size + 3 := by rw [hXX]; simp
  have d0 : Below w.heap.size w X := by rw [hXX]; exact (by repeat (first | exact Below.refl _ _ | assumption | refine Below.drew ?_ | refine Below.alloc ?_ (by first | (simp; done) | (simp; omega)) _ | refine Below.setCell ?_ (by first | (simp; done) | (simp; omega)) _))
  have R0 : Hid (Rw X w.heap.size 26 #[.slice pa S.parts.length pc, .slice ka S.chans.length kc, .slice sa S.slots.length sc]) := Lib.hid (by rw [hXX]; exact (by repeat (first | exact Rw.new _ _ _ (by first | rfl | (simp; done) | omega | (simp; omega)) | refine Rw.alloc ?_ _)))
  have R5 : Hid (Rw X (w.heap.size + 1) 49 #[.slice qa p.code.length qc, .slice ia p.inn.length ic]) := Lib.hid (by rw [hXX]; exact (by repeat (first | exact Rw.new _ _ _ (by first | rfl | (simp; done) | omega | (simp; omega)) | refine Rw.alloc ?_ _)))
  have R6 : Hid (Rw X (w.heap.size + 2) 26 #[.slice none 0 0, .slice none 0 0, .slice none 0 0]) := Lib.hid (by rw [hXX]; exact (by repeat (first | exact Rw.new _ _ _ (by first | rfl | (simp; done) | omega | (simp; omega)) | refine Rw.alloc ?_ _)))
  have HB := Lib.hid d0
  clear hX hXX d0
  have s0 := R0.out.cell (j := 0) (v := .slice pa S.parts.length pc) rfl
  have s1 := R0.out.cell (j := 1) (v := .slice ka S.chans.length kc) rfl
  have s2 := R0.out.cell (j := 2) (v := .slice sa S.slots.length sc) rfl
  go_wp2_with fail
  refine (HTH.out _ (HS.out.up HB.out)).mono ?_
  rintro e w1 ⟨rfl, b1⟩
  have z1 := b1.size
  clear s0 s1 s2
  have R0' := Lib.hid (R0.out.up b1 R0.out.lt)
  have R5' := Lib.hid (R5.out.up b1 R5.out.lt)
  have R6' := Lib.hid (R6.out.up b1 R6.out.lt)
  have HB' := Lib.hid (HB.out.trans (b1.mono HB.out.size))
  clear b1 HB R0 R5 R6
  have R0 := R0'
  clear R0'
  have R5 := R5'
  clear R5'
  have R6 := R6'
  clear R6'
  have HB := HB'
  clear HB'
  by_cases h0 : c0 = 0
  · subst h0
    obtain ⟨hk, hm0, hm1⟩ := thE_zero HC0.out
    obtain ⟨m, rfl⟩ : ∃ m : Nat, part = (m : Int) := ⟨part.toNat, by omega⟩
    have hmN : m < S.parts.length := by omega
    have SM := Lib.hid (small_sys hk)
    have HOK2 : Hid ((otherS S m p).ok) := Lib.hid (other_ok HOK.out HPO.out)
    obtain ⟨c1, hc1⟩ : ∃ c1, chkS (otherS S m p) = c1 := ⟨_, rfl⟩
    have HC1 := Lib.hid hc1
    have hE : otherE S (m : Int) p = c1 := by unfold otherE; rw [if_neg (by rw [HC0.out]; simp)]; exact hc1
    have HV1 : Hid (c1 = 0 → otherE S (m : Int) p = 0) := Lib.hid fun h => hE.trans h
    have HV2 : Hid (c1 ≠ 0 → otherE S (m : Int) p = c1) := Lib.hid fun _ => hE
    have HZ1 : Hid (c1 = 0 → otherR S (m : Int) p = otherS S m p) := Lib.hid fun h => by unfold otherR; rw [if_pos (hE.trans h)]; rfl
    have HZ2 : Hid (c1 ≠ 0 → otherR S (m : Int) p = sysZ) := Lib.hid fun h => by unfold otherR; rw [if_neg (by rw [hE]; exact h)]
    clear hc1 hE hk HC0 HOK HPO hm0
    have s0 := R0.out.cell (j := 0) (v := .slice pa S.parts.length pc) rfl
    have s1 := R0.out.cell (j := 1) (v := .slice ka S.chans.length kc) rfl
    have s2 := R0.out.cell (j := 2) (v := .slice sa S.slots.length sc) rfl
    go_wp2_with fail
    refine (ownSystem_any S _ _ _ _ (HS.out.up HB.out) (by have := SM.out.p; omega) (by have := SM.out.c; omega) (by have := SM.out.s; omega) (fun j hj => by have := SM.out.q j hj; omega)).mono ?_
    rintro e w2 ⟨xp, xc, xs, rfl, ⟨base, g, hbl⟩, b2⟩
    obtain ⟨l, hl1', hl2', hl3'⟩ := hbl.row
    obtain ⟨q, cap, rfl, hqb, hqw⟩ := hl2'.form (by omega)
    obtain ⟨xca, xcc, rfl⟩ := hbl.c.form
    obtain ⟨xsa, xsc, rfl⟩ := hbl.s.form
    have hpg := Pg.of hbl (by omega)
    have hge := hpg.ge
    have PG := Lib.hid hpg
    have z2 := b2.size
    clear hpg hl1' hl2' hl3' hbl hqb s0 s1 s2 l R0
    have R5' := Lib.hid (R5.out.up b2 R5.out.lt)
    have R6' := Lib.hid (R6.out.up b2 R6.out.lt)
    have HB' := Lib.hid (HB.out.trans (b2.mono HB.out.size))
    clear b2 HB R5 R6
    have R5 := R5'
    clear R5'
    have R6 := R6'
    clear R6'
    have HB := HB'
    clear HB'
    go_wp2_with (refine wpList_store_rowW rfl 26 (.tmp 9) (.tmp 19) rfl w2.heap.size #[.slice (some ⟨q, 0, none⟩) S.parts.length cap, .slice xca S.chans.length xcc, .slice xsa S.slots.length xsc] rfl rfl 26 #[.slice none 0 0, .slice none 0 0, .slice none 0 0] (by repeat (first | exact Rw.new _ _ _ (by first | rfl | (simp; done) | omega | (simp; omega)) | refine Rw.alloc ?_ _)) sizeSys rfl (by simp [Value.oneCell']) ?_)
    intro W3 HW3
    have b3 : Below w2.heap.size w2 W3 := by rw [HW3.out]; exact below_row ((Below.refl _ _).alloc (Nat.le_refl _) _) (Nat.le_refl _) _
    have R9 : Hid (Rw W3 w2.heap.size 26 #[.slice (some ⟨q, 0, none⟩) S.parts.length cap, .slice xca S.chans.length xcc, .slice xsa S.slots.length xsc]) := by
      show Rw _ _ _ _
      rw [HW3.out]
      exact Rw.row (cs := #[.slice none 0 0, .slice none 0 0, .slice none 0 0]) (by repeat (first | exact Rw.new _ _ _ (by first | rfl | (simp; done) | omega | (simp; omega)) | refine Rw.alloc ?_ _)) _
    have z3 : W3.heap.size = w2.heap.size + 1 := by rw [HW3.out]; simp
    clear HW3
    have PG' := Lib.hid (PG.out.up b3)
    have R5' := Lib.hid (R5.out.up b3 R5.out.lt)
    have R6' := Lib.hid (R6.out.up b3 R6.out.lt)
    have HB' := Lib.hid (HB.out.trans (b3.mono HB.out.size))
    clear b3 HB PG R5 R6
    have PG := PG'
    clear PG'
    have R5 := R5'
    clear R5'
    have R6 := R6'
    clear R6'
    have HB := HB'
    clear HB'
    have PG0 : Hid (Pg (w.heap.size + 3) W3 q cap S.parts.length (.slice xca S.chans.length xcc) (.slice xsa S.slots.length xsc) S.parts S.chans S.slots) := Lib.hid (by
      have h := PG.out
      obtain ⟨l, h1, h2, h3⟩ := h.row
      exact ⟨rfl, ⟨l, h1, h2, fun k hk hk' => ⟨(h3 k hk hk').1, ⟨(h3 k hk hk').2.1.1.mono (by omega), (h3 k hk hk').2.1.2.mono (by omega)⟩, (h3 k hk hk').2.2⟩⟩, h.c, h.s, h.nc.mono (by omega), h.ns.mono (by omega), h.ac, h.az, h.fr, h.lt, by omega⟩)
    clear PG
    have PG := PG0
    clear PG0
    have HPW := Lib.hid (HP.out.up HB.out)
    generalize hgb : w2.heap.size = gb at *
    have hq3 := PG.out.lt
    have hqn := PG.out.ge
    obtain ⟨x, y, q0, q1⟩ := PG.out.cells hmN
    have qf0 := PG.out.fr (m * 2)
    have qf1 := PG.out.fr (m * 2 + 1)
    have hqg : gb ≠ q := by omega
    have hq2 : w.heap.size + 2 ≠ q := by omega
    have hgw : gb < W3.heap.size := by omega
    have hww : w.heap.size + 1 < W3.heap.size := by omega
    have x0 := R9.out.cell (j := 0) (v := .slice (some ⟨q, 0, none⟩) S.parts.length cap) rfl
    have p0 := R5.out.cell (j := 0) (v := .slice qa p.code.length qc) rfl
    have p1 := R5.out.cell (j := 1) (v := .slice ia p.inn.length ic) rfl
    go_upto_region 5 with fail
    refine region_still (S := fun w' => w'.cell? ⟨gb, 0, none⟩ = some (.slice (some ⟨q, 0, none⟩) S.parts.length cap) ∧ w'.cell? ⟨w.heap.size + 1, 0, none⟩ = some (.slice qa p.code.length qc) ∧ w'.cell? ⟨w.heap.size + 1, 1, none⟩ = some (.slice ia p.inn.length ic)) 13 (by kernel_rfl) ⟨x0, p0, p1⟩ (fun hHeld => ?_)
    refine Still.takeBy (i := 0) [] (v := ?v1) (by kernel_rfl) (by kernel_rfl) rfl (by kernel_rfl) (by kernel_rfl) (by kernel_rfl) (fun _ _ _ h => h) (Or.inl ⟨by rfl, ?y1⟩) hHeld ?r1
    case y1 => (intro w' hSw; (try dsimp only at hSw); go_simp; try with_reducible rfl)
    simp only [Act.put, List.getElem_toArray, List.getElem_cons_zero, List.getElem_cons_succ, List.setIfInBounds_toArray, List.set_cons_zero, List.set_cons_succ]
    refine Still.takeBy (i := 1) [] (v := ?v2) (by kernel_rfl) (by kernel_rfl) rfl (by kernel_rfl) (by kernel_rfl) (by kernel_rfl) (fun _ _ _ h => h) (Or.inl ⟨by rfl, ?y2⟩) hHeld ?r2
    case y2 => (intro w' hSw; (try dsimp only at hSw); go_simp; try with_reducible rfl)
    simp only [Act.put, List.getElem_toArray, List.getElem_cons_zero, List.getElem_cons_succ, List.setIfInBounds_toArray, List.set_cons_zero, List.set_cons_succ]
    refine Still.takeBy (i := 2) [] (v := ?v3) (by kernel_rfl) (by kernel_rfl) rfl (by kernel_rfl) (by kernel_rfl) (by kernel_rfl) (fun _ _ _ h => h) (Or.inl ⟨by rfl, ?y3⟩) hHeld ?r3
    case y3 => (intro w' hSw; (try dsimp only at hSw); go_simp; try with_reducible rfl)
    simp only [Act.put, List.getElem_toArray, List.getElem_cons_zero, List.getElem_cons_succ, List.setIfInBounds_toArray, List.set_cons_zero, List.set_cons_succ]
    refine Still.takeBy (i := 4) [] (v := ?v4) (by kernel_rfl) (by kernel_rfl) rfl (by kernel_rfl) (by kernel_rfl) (by kernel_rfl) (fun _ _ _ h => h) (Or.inl ⟨by rfl, ?y4⟩) hHeld ?r4
    case y4 => (intro w' hSw; (try dsimp only at hSw); go_simp; try with_reducible rfl)
    simp only [Act.put, List.getElem_toArray, List.getElem_cons_zero, List.getElem_cons_succ, List.setIfInBounds_toArray, List.set_cons_zero, List.set_cons_succ]
    refine Still.takeBy (i := 5) [] (v := ?v5) (by kernel_rfl) (by kernel_rfl) rfl (by kernel_rfl) (by kernel_rfl) (by kernel_rfl) (fun _ _ _ h => h) (Or.inl ⟨by rfl, ?y5⟩) hHeld ?r5
    case y5 => (intro w' hSw; (try dsimp only at hSw); go_simp; try with_reducible rfl)
    simp only [Act.put, List.getElem_toArray, List.getElem_cons_zero, List.getElem_cons_succ, List.setIfInBounds_toArray, List.set_cons_zero, List.set_cons_succ]
    refine Still.takeBy (i := 8) [] (v := ?v6) (by kernel_rfl) (by kernel_rfl) rfl (by kernel_rfl) (by kernel_rfl) (by kernel_rfl) (fun _ _ _ h => h) (Or.inl ⟨by rfl, ?y6⟩) hHeld ?r6
    case y6 => (intro w' hSw; (try dsimp only at hSw); go_simp; try with_reducible rfl)
    simp only [Act.put, List.getElem_toArray, List.getElem_cons_zero, List.getElem_cons_succ, List.setIfInBounds_toArray, List.set_cons_zero, List.set_cons_succ]
    refine Still.takeBy (i := 9) [] (v := ?v7) (by kernel_rfl) (by kernel_rfl) rfl (by kernel_rfl) (by kernel_rfl) (by kernel_rfl) (fun _ _ _ h => h) (Or.inl ⟨by rfl, ?y7⟩) hHeld ?r7
    case y7 => (intro w' hSw; (try dsimp only at hSw); go_simp; try with_reducible rfl)
    simp only [Act.put, List.getElem_toArray, List.getElem_cons_zero, List.getElem_cons_succ, List.setIfInBounds_toArray, List.set_cons_zero, List.set_cons_succ]
    have HK := Lib.hid (And.intro x0 (And.intro p0 p1))
    clear x0 p0 p1
    refine Still.all (rs := [3, 7]) (by kernel_rfl) (by simp) (Still.one (i := 3) rfl rfl (fun K hK => ?_) (Still.one (i := 7) rfl rfl (fun K hK => ?_) (by simp)))
    · go_simp
      refine hK _ _ (fun _ => keep3V (by repeat (first | exact Below.refl _ _ | assumption | refine Below.drew ?_ | refine Below.alloc ?_ (by first | omega | (simp; done) | (simp; omega)) _ | refine Below.setCell ?_ (by first | omega | (simp; done) | (simp; omega)) _)) HK.out hgw hww hww) (fun hh => ?_)
      have hHeld := hh (by decide)
      clear hh hK K
      try simp only [Act.put, List.getElem_toArray, List.getElem_cons_zero, List.getElem_cons_succ, List.setIfInBounds_toArray, List.set_cons_zero, List.set_cons_succ]
      refine Still.all (rs := [6, 7]) (by kernel_rfl) (by simp) (Still.one (i := 6) rfl rfl (fun K hK => ?_) (Still.one (i := 7) rfl rfl (fun K hK => ?_) (by simp)))
      · refine wp_append_lit (.tmp 23) (.tmp 25) 47 (by rfl) W3.heap.size 83 j1 _ 4 32 Tryz.underlying47 ji jz0 jz1 jz2 rfl (by decide) _ (by first | rfl | simp [Act.eval, Act.put]) (by repeat (first | exact em_new _ _ _ (by first | omega | (simp; done) | (simp; omega)) | refine em_alloc ?_)) (by first | omega | (simp; done) | (simp; omega)) (.slice qa p.code.length qc) p.code.length (codeC p.code) (by first | rfl | simp [Act.eval, Act.put]) (HPW.out.code.up (by repeat (first | exact Below.refl _ _ | assumption | refine Below.drew ?_ | refine Below.alloc ?_ (by first | omega | (simp; done) | (simp; omega)) _ | refine Below.setCell ?_ (by first | omega | (simp; done) | (simp; omega)) _))) (codeC_one _) (by unfold maxLen; omega) (by omega) ?_
        intro v1 w4 o1 f1 h1
        obtain ⟨a3, b3, rfl⟩ := own_form o1
        have O1 := Lib.hid o1
        have D4 : Below W3.heap.size W3 w4 := Below.trans (by repeat (first | exact Below.refl _ _ | assumption | refine Below.drew ?_ | refine Below.alloc ?_ (by first | omega | (simp; done) | (simp; omega)) _ | refine Below.setCell ?_ (by first | omega | (simp; done) | (simp; omega)) _)) (f1.mono (by first | omega | (simp; done) | (simp; omega)))
        have z4 := D4.size
        refine hK _ _ (fun _ => keep3V (by repeat (first | exact Below.refl _ _ | assumption | refine Below.drew ?_ | refine Below.alloc ?_ (by first | omega | (simp; done) | (simp; omega)) _ | refine Below.setCell ?_ (by first | omega | (simp; done) | (simp; omega)) _)) HK.out hgw hww hww) (fun hh => ?_)
        have hHeld := hh (by decide)
        clear hh hK K
        try simp only [Act.put, List.getElem_toArray, List.getElem_cons_zero, List.getElem_cons_succ, List.setIfInBounds_toArray, List.set_cons_zero, List.set_cons_succ]
        refine Still.all (rs := [7]) (by kernel_rfl) (by simp) (Still.one (i := 7) rfl rfl (fun K hK => ?_) (by simp))
        go_simp
        refine hK _ _ (fun _ => keep3V (by repeat (first | exact Below.refl _ _ | assumption | refine Below.drew ?_ | refine Below.alloc ?_ (by first | omega | (simp; done) | (simp; omega)) _ | refine Below.setCell ?_ (by first | omega | (simp; done) | (simp; omega)) _)) HK.out hgw hww hww) (fun hh => ?_)
        have hHeld := hh (by decide)
        clear hh hK K
        try simp only [Act.put, List.getElem_toArray, List.getElem_cons_zero, List.getElem_cons_succ, List.setIfInBounds_toArray, List.set_cons_zero, List.set_cons_succ]
        refine Still.all (rs := [10]) (by kernel_rfl) (by simp) (Still.one (i := 10) rfl rfl (fun K hK => ?_) (by simp))
        refine wp_append_lit (.tmp 27) (.tmp 29) 33 (by rfl) W3.heap.size 3 j2 _ 1 8 Tryz.underlying33 ki kz0 kz1 kz2 rfl (by decide) _ (by first | rfl | simp [Act.eval, Act.put]) (by repeat (first | exact em_new _ _ _ (by first | omega | (simp; done) | (simp; omega)) | refine em_alloc ?_ | refine em_up f1 ?_)) (by first | omega | (simp; done) | (simp; omega)) (.slice ia p.inn.length ic) p.inn.length (ints p.inn) (by first | rfl | simp [Act.eval, Act.put]) (HPW.out.inn.up (by repeat (first | exact Below.refl _ _ | assumption | refine Below.drew ?_ | refine Below.alloc ?_ (by first | omega | (simp; done) | (simp; omega)) _ | refine Below.setCell ?_ (by first | omega | (simp; done) | (simp; omega)) _))) (ints_cell _) (by unfold maxLen; omega) (by omega) ?_
        intro v2 w5 o2 f2 h2
        obtain ⟨a4, b4, rfl⟩ := own_form o2
        have O2 := Lib.hid o2
        have D45 : Below w4.heap.size w4 w5 := Below.trans (by repeat (first | exact Below.refl _ _ | assumption | refine Below.drew ?_ | refine Below.alloc ?_ (by first | omega | (simp; done) | (simp; omega)) _ | refine Below.setCell ?_ (by first | omega | (simp; done) | (simp; omega)) _)) (f2.mono (by first | omega | (simp; done) | (simp; omega)))
        have D5 : Below W3.heap.size W3 w5 := D4.trans (D45.mono D4.size)
        have z5 := D5.size
        refine hK _ _ (fun _ => keep3V (by repeat (first | exact Below.refl _ _ | assumption | refine Below.drew ?_ | refine Below.alloc ?_ (by first | omega | (simp; done) | (simp; omega)) _ | refine Below.setCell ?_ (by first | omega | (simp; done) | (simp; omega)) _)) HK.out hgw hww hww) (fun hh => ?_)
        have hHeld := hh (by decide)
        clear hh hK K
        try simp only [Act.put, List.getElem_toArray, List.getElem_cons_zero, List.getElem_cons_succ, List.setIfInBounds_toArray, List.set_cons_zero, List.set_cons_succ]
        refine Still.takeBy (i := 11) [] (v := ?v8) (by kernel_rfl) (by kernel_rfl) rfl (by kernel_rfl) (by kernel_rfl) (by kernel_rfl) (fun _ _ _ h => h) (Or.inl ⟨by rfl, ?y8⟩) hHeld ?r8
        case y8 => (intro w' hSw; (try dsimp only at hSw); go_simp; try with_reducible rfl)
        simp only [Act.put, List.getElem_toArray, List.getElem_cons_zero, List.getElem_cons_succ, List.setIfInBounds_toArray, List.set_cons_zero, List.set_cons_succ]
        refine Still.takeBy (i := 12) [] (v := ?v9) (by kernel_rfl) (by kernel_rfl) rfl (by kernel_rfl) (by kernel_rfl) (by kernel_rfl) (fun _ _ _ h => h) (Or.inl ⟨by rfl, ?y9⟩) hHeld ?r9
        case y9 => (intro w' hSw; (try dsimp only at hSw); go_simp; try with_reducible rfl)
        simp only [Act.put, List.getElem_toArray, List.getElem_cons_zero, List.getElem_cons_succ, List.setIfInBounds_toArray, List.set_cons_zero, List.set_cons_succ]
        refine Still.all (rs := [13]) (by kernel_rfl) (by simp) (Still.one (i := 13) rfl rfl (fun K hK => ?_) (by simp))
        clear hHeld
        have r0 := bcl D5 hq3 q0
        have r1 := bcl D5 hq3 q1
        have rf0 := bfr D5 hq3 qf0
        have rf1 := bfr D5 hq3 qf1
        go_simp
        refine hK _ _ (fun h => absurd rfl h) (fun _ => ?_)
        clear hK K
        refine Still.over (by kernel_rfl) ?_ _
        have PG1 := (PG.out.up D5).set hmN (C := (.slice a3 p.code.length b3)) (I := (.slice a4 p.inn.length b4)) (P := p) ⟨(own_sl O1.out).up D45, own_sl O2.out⟩ (fun k e => by have := own_block O1.out k e; omega) (fun k e => by have := own_block O2.out k e; omega) (fun e => by have := own_block O1.out q e; omega) (fun e => by have := own_block O2.out q e; omega)
        have NF := Lib.hid PG1.sysF
        have R6' := Lib.hid (((R6.out.up D5 R6.out.lt).set_other (a := ⟨q, m * 2, none⟩) (.slice a3 p.code.length b3) hq2).set_other (a := ⟨q, m * 2 + 1, none⟩) (.slice a4 p.inn.length b4) hq2)
        have R9' := Lib.hid (((R9.out.up D5 R9.out.lt).set_other (a := ⟨q, m * 2, none⟩) (.slice a3 p.code.length b3) hqg).set_other (a := ⟨q, m * 2 + 1, none⟩) (.slice a4 p.inn.length b4) hqg)
        have HB' := Lib.hid (((HB.out.trans (D5.mono HB.out.size)).setCell (p := ⟨q, m * 2, none⟩) (show w.heap.size ≤ q by omega) (.slice a3 p.code.length b3)).setCell (p := ⟨q, m * 2 + 1, none⟩) (show w.heap.size ≤ q by omega) (.slice a4 p.inn.length b4))
        clear PG1 r0 r1 rf0 rf1 q0 q1 qf0 qf1 O1 O2 R5 R6 R9 HB PG
        generalize ((w5.setCell ⟨q, m * 2, none⟩ (.slice a3 p.code.length b3)).setCell ⟨q, m * 2 + 1, none⟩ (.slice a4 p.inn.length b4)) = W6 at *
        have R6 := R6'
        have R9 := R9'
        have HB := HB'
        clear R6' R9' HB' D5 D45 D4 f1 f2 h1 h2
        have x0 := R9.out.cell (j := 0) (v := .slice (some ⟨q, 0, none⟩) S.parts.length cap) rfl
        have x1 := R9.out.cell (j := 1) (v := .slice xca S.chans.length xcc) rfl
        have x2 := R9.out.cell (j := 2) (v := .slice xsa S.slots.length xsc) rfl
        go_wp2_with fail
        refine (sysRef_any (otherS S m p) HOK2.out _ _ _ _ NF.out.sys).mono ?_
        rw [HC1.out]
        rintro e w7 ⟨rfl, b7⟩
        clear x0 x1 x2
        have NF' := Lib.hid (NF.out.up b7)
        have R6' := Lib.hid (R6.out.up b7 R6.out.lt)
        have R9' := Lib.hid (R9.out.up b7 R9.out.lt)
        have HB' := Lib.hid (HB.out.trans (b7.mono HB.out.size))
        clear b7 HB NF R6 R9
        have NF := NF'
        clear NF'
        have R6 := R6'
        clear R6'
        have R9 := R9'
        clear R9'
        have HB := HB'
        clear HB'
        by_cases h7 : c1 = 0
        · subst h7
          have E1 := Lib.hid (HV1.out rfl)
          have E2 := Lib.hid (HZ1.out rfl)
          clear HV1 HZ1 HV2 HZ2
          have x0 := R9.out.cell (j := 0) (v := .slice (some ⟨q, 0, none⟩) S.parts.length cap) rfl
          have x1 := R9.out.cell (j := 1) (v := .slice xca S.chans.length xcc) rfl
          have x2 := R9.out.cell (j := 2) (v := .slice xsa S.slots.length xsc) rfl
          go_wp2_with (refine wpList_store_rowW rfl 26 (.tmp 6) (.tmp 39) rfl (w.heap.size + 2) #[.slice (some ⟨q, 0, none⟩) S.parts.length cap, .slice xca S.chans.length xcc, .slice xsa S.slots.length xsc] rfl rfl 26 _ R6.out sizeSys rfl (by simp [Value.oneCell']) ?_)
          intro W9 HW9
          have r9 : Rw W9 (w.heap.size + 2) 26 #[.slice (some ⟨q, 0, none⟩) S.parts.length cap, .slice xca S.chans.length xcc, .slice xsa S.slots.length xsc] := by rw [HW9.out]; exact R6.out.row _
          have HB9 := Lib.hid (show Below w.heap.size w W9 by rw [HW9.out]; exact below_row HB.out (by omega) _)
          have N9 := Lib.hid (show SysF w.heap.size W9 (.slice (some ⟨q, 0, none⟩) S.parts.length cap) (.slice xca S.chans.length xcc) (.slice xsa S.slots.length xsc) (otherS S m p) by rw [HW9.out]; exact (NF.out.row (by omega) _).low (by omega))
          clear HW9
          go_wp2
          exact bodyPost_ret (results_row_tmp Tryz.results18 _ _ (w.heap.size + 2) _ _ rfl rfl (run_loadVar_row _ _ 26 _ _ (0, 0) _ r9 Tryz.underlying26 rfl sizeSys)) rfl ⟨_, _, _, by rw [E1.out]; rfl, by rw [E2.out]; exact N9.out, HB9.out⟩
        · have E1 := Lib.hid (HV2.out h7)
          have E2 := Lib.hid (HZ2.out h7)
          clear NF HV1 HZ1 HV2 HZ2
          go_wp2_with (refine wpList_store_rowW rfl 26 (.tmp 6) (.tmp 37) rfl (w.heap.size + 2) #[.slice none 0 0, .slice none 0 0, .slice none 0 0] rfl rfl 26 _ R6.out sizeSys rfl (by simp [Value.oneCell']) ?_)
          intro W9 HW9
          have r9 : Rw W9 (w.heap.size + 2) 26 #[.slice none 0 0, .slice none 0 0, .slice none 0 0] := by rw [HW9.out]; exact R6.out.row _
          have HB9 := Lib.hid (show Below w.heap.size w W9 by rw [HW9.out]; exact below_row HB.out (by omega) _)
          clear HW9
          go_wp2
          exact bodyPost_ret (results_row_tmp Tryz.results18 _ _ (w.heap.size + 2) _ _ rfl rfl (run_loadVar_row _ _ 26 _ _ (0, 0) _ r9 Tryz.underlying26 rfl sizeSys)) rfl ⟨_, _, _, by rw [E1.out]; rfl, by rw [E2.out]; exact SysF.nil _ _, HB9.out⟩
      · go_simp
        refine hK _ _ (fun _ => keep3V (by repeat (first | exact Below.refl _ _ | assumption | refine Below.drew ?_ | refine Below.alloc ?_ (by first | omega | (simp; done) | (simp; omega)) _ | refine Below.setCell ?_ (by first | omega | (simp; done) | (simp; omega)) _)) HK.out hgw hww hww) (fun hh => ?_)
        have hHeld := hh (by decide)
        clear hh hK K
        try simp only [Act.put, List.getElem_toArray, List.getElem_cons_zero, List.getElem_cons_succ, List.setIfInBounds_toArray, List.set_cons_zero, List.set_cons_succ]
        refine Still.all (rs := [6]) (by kernel_rfl) (by simp) (Still.one (i := 6) rfl rfl (fun K hK => ?_) (by simp))
        refine wp_append_lit (.tmp 23) (.tmp 25) 47 (by rfl) W3.heap.size 83 j1 _ 4 32 Tryz.underlying47 ji jz0 jz1 jz2 rfl (by decide) _ (by first | rfl | simp [Act.eval, Act.put]) (by repeat (first | exact em_new _ _ _ (by first | omega | (simp; done) | (simp; omega)) | refine em_alloc ?_)) (by first | omega | (simp; done) | (simp; omega)) (.slice qa p.code.length qc) p.code.length (codeC p.code) (by first | rfl | simp [Act.eval, Act.put]) (HPW.out.code.up (by repeat (first | exact Below.refl _ _ | assumption | refine Below.drew ?_ | refine Below.alloc ?_ (by first | omega | (simp; done) | (simp; omega)) _ | refine Below.setCell ?_ (by first | omega | (simp; done) | (simp; omega)) _))) (codeC_one _) (by unfold maxLen; omega) (by omega) ?_
        intro v1 w4 o1 f1 h1
        obtain ⟨a3, b3, rfl⟩ := own_form o1
        have O1 := Lib.hid o1
        have D4 : Below W3.heap.size W3 w4 := Below.trans (by repeat (first | exact Below.refl _ _ | assumption | refine Below.drew ?_ | refine Below.alloc ?_ (by first | omega | (simp; done) | (simp; omega)) _ | refine Below.setCell ?_ (by first | omega | (simp; done) | (simp; omega)) _)) (f1.mono (by first | omega | (simp; done) | (simp; omega)))
        have z4 := D4.size
        refine hK _ _ (fun _ => keep3V (by repeat (first | exact Below.refl _ _ | assumption | refine Below.drew ?_ | refine Below.alloc ?_ (by first | omega | (simp; done) | (simp; omega)) _ | refine Below.setCell ?_ (by first | omega | (simp; done) | (simp; omega)) _)) HK.out hgw hww hww) (fun hh => ?_)
        have hHeld := hh (by decide)
        clear hh hK K
        try simp only [Act.put, List.getElem_toArray, List.getElem_cons_zero, List.getElem_cons_succ, List.setIfInBounds_toArray, List.set_cons_zero, List.set_cons_succ]
        refine Still.all (rs := [10]) (by kernel_rfl) (by simp) (Still.one (i := 10) rfl rfl (fun K hK => ?_) (by simp))
        refine wp_append_lit (.tmp 27) (.tmp 29) 33 (by rfl) W3.heap.size 3 j2 _ 1 8 Tryz.underlying33 ki kz0 kz1 kz2 rfl (by decide) _ (by first | rfl | simp [Act.eval, Act.put]) (by repeat (first | exact em_new _ _ _ (by first | omega | (simp; done) | (simp; omega)) | refine em_alloc ?_ | refine em_up f1 ?_)) (by first | omega | (simp; done) | (simp; omega)) (.slice ia p.inn.length ic) p.inn.length (ints p.inn) (by first | rfl | simp [Act.eval, Act.put]) (HPW.out.inn.up (by repeat (first | exact Below.refl _ _ | assumption | refine Below.drew ?_ | refine Below.alloc ?_ (by first | omega | (simp; done) | (simp; omega)) _ | refine Below.setCell ?_ (by first | omega | (simp; done) | (simp; omega)) _))) (ints_cell _) (by unfold maxLen; omega) (by omega) ?_
        intro v2 w5 o2 f2 h2
        obtain ⟨a4, b4, rfl⟩ := own_form o2
        have O2 := Lib.hid o2
        have D45 : Below w4.heap.size w4 w5 := Below.trans (by repeat (first | exact Below.refl _ _ | assumption | refine Below.drew ?_ | refine Below.alloc ?_ (by first | omega | (simp; done) | (simp; omega)) _ | refine Below.setCell ?_ (by first | omega | (simp; done) | (simp; omega)) _)) (f2.mono (by first | omega | (simp; done) | (simp; omega)))
        have D5 : Below W3.heap.size W3 w5 := D4.trans (D45.mono D4.size)
        have z5 := D5.size
        refine hK _ _ (fun _ => keep3V (by repeat (first | exact Below.refl _ _ | assumption | refine Below.drew ?_ | refine Below.alloc ?_ (by first | omega | (simp; done) | (simp; omega)) _ | refine Below.setCell ?_ (by first | omega | (simp; done) | (simp; omega)) _)) HK.out hgw hww hww) (fun hh => ?_)
        have hHeld := hh (by decide)
        clear hh hK K
        try simp only [Act.put, List.getElem_toArray, List.getElem_cons_zero, List.getElem_cons_succ, List.setIfInBounds_toArray, List.set_cons_zero, List.set_cons_succ]
        refine Still.takeBy (i := 11) [] (v := ?v10) (by kernel_rfl) (by kernel_rfl) rfl (by kernel_rfl) (by kernel_rfl) (by kernel_rfl) (fun _ _ _ h => h) (Or.inl ⟨by rfl, ?y10⟩) hHeld ?r10
        case y10 => (intro w' hSw; (try dsimp only at hSw); go_simp; try with_reducible rfl)
        simp only [Act.put, List.getElem_toArray, List.getElem_cons_zero, List.getElem_cons_succ, List.setIfInBounds_toArray, List.set_cons_zero, List.set_cons_succ]
        refine Still.takeBy (i := 12) [] (v := ?v11) (by kernel_rfl) (by kernel_rfl) rfl (by kernel_rfl) (by kernel_rfl) (by kernel_rfl) (fun _ _ _ h => h) (Or.inl ⟨by rfl, ?y11⟩) hHeld ?r11
        case y11 => (intro w' hSw; (try dsimp only at hSw); go_simp; try with_reducible rfl)
        simp only [Act.put, List.getElem_toArray, List.getElem_cons_zero, List.getElem_cons_succ, List.setIfInBounds_toArray, List.set_cons_zero, List.set_cons_succ]
        refine Still.all (rs := [13]) (by kernel_rfl) (by simp) (Still.one (i := 13) rfl rfl (fun K hK => ?_) (by simp))
        clear hHeld
        have r0 := bcl D5 hq3 q0
        have r1 := bcl D5 hq3 q1
        have rf0 := bfr D5 hq3 qf0
        have rf1 := bfr D5 hq3 qf1
        go_simp
        refine hK _ _ (fun h => absurd rfl h) (fun _ => ?_)
        clear hK K
        refine Still.over (by kernel_rfl) ?_ _
        have PG1 := (PG.out.up D5).set hmN (C := (.slice a3 p.code.length b3)) (I := (.slice a4 p.inn.length b4)) (P := p) ⟨(own_sl O1.out).up D45, own_sl O2.out⟩ (fun k e => by have := own_block O1.out k e; omega) (fun k e => by have := own_block O2.out k e; omega) (fun e => by have := own_block O1.out q e; omega) (fun e => by have := own_block O2.out q e; omega)
        have NF := Lib.hid PG1.sysF
        have R6' := Lib.hid (((R6.out.up D5 R6.out.lt).set_other (a := ⟨q, m * 2, none⟩) (.slice a3 p.code.length b3) hq2).set_other (a := ⟨q, m * 2 + 1, none⟩) (.slice a4 p.inn.length b4) hq2)
        have R9' := Lib.hid (((R9.out.up D5 R9.out.lt).set_other (a := ⟨q, m * 2, none⟩) (.slice a3 p.code.length b3) hqg).set_other (a := ⟨q, m * 2 + 1, none⟩) (.slice a4 p.inn.length b4) hqg)
        have HB' := Lib.hid (((HB.out.trans (D5.mono HB.out.size)).setCell (p := ⟨q, m * 2, none⟩) (show w.heap.size ≤ q by omega) (.slice a3 p.code.length b3)).setCell (p := ⟨q, m * 2 + 1, none⟩) (show w.heap.size ≤ q by omega) (.slice a4 p.inn.length b4))
        clear PG1 r0 r1 rf0 rf1 q0 q1 qf0 qf1 O1 O2 R5 R6 R9 HB PG
        generalize ((w5.setCell ⟨q, m * 2, none⟩ (.slice a3 p.code.length b3)).setCell ⟨q, m * 2 + 1, none⟩ (.slice a4 p.inn.length b4)) = W6 at *
        have R6 := R6'
        have R9 := R9'
        have HB := HB'
        clear R6' R9' HB' D5 D45 D4 f1 f2 h1 h2
        have x0 := R9.out.cell (j := 0) (v := .slice (some ⟨q, 0, none⟩) S.parts.length cap) rfl
        have x1 := R9.out.cell (j := 1) (v := .slice xca S.chans.length xcc) rfl
        have x2 := R9.out.cell (j := 2) (v := .slice xsa S.slots.length xsc) rfl
        go_wp2_with fail
        refine (sysRef_any (otherS S m p) HOK2.out _ _ _ _ NF.out.sys).mono ?_
        rw [HC1.out]
        rintro e w7 ⟨rfl, b7⟩
        clear x0 x1 x2
        have NF' := Lib.hid (NF.out.up b7)
        have R6' := Lib.hid (R6.out.up b7 R6.out.lt)
        have R9' := Lib.hid (R9.out.up b7 R9.out.lt)
        have HB' := Lib.hid (HB.out.trans (b7.mono HB.out.size))
        clear b7 HB NF R6 R9
        have NF := NF'
        clear NF'
        have R6 := R6'
        clear R6'
        have R9 := R9'
        clear R9'
        have HB := HB'
        clear HB'
        by_cases h7 : c1 = 0
        · subst h7
          have E1 := Lib.hid (HV1.out rfl)
          have E2 := Lib.hid (HZ1.out rfl)
          clear HV1 HZ1 HV2 HZ2
          have x0 := R9.out.cell (j := 0) (v := .slice (some ⟨q, 0, none⟩) S.parts.length cap) rfl
          have x1 := R9.out.cell (j := 1) (v := .slice xca S.chans.length xcc) rfl
          have x2 := R9.out.cell (j := 2) (v := .slice xsa S.slots.length xsc) rfl
          go_wp2_with (refine wpList_store_rowW rfl 26 (.tmp 6) (.tmp 39) rfl (w.heap.size + 2) #[.slice (some ⟨q, 0, none⟩) S.parts.length cap, .slice xca S.chans.length xcc, .slice xsa S.slots.length xsc] rfl rfl 26 _ R6.out sizeSys rfl (by simp [Value.oneCell']) ?_)
          intro W9 HW9
          have r9 : Rw W9 (w.heap.size + 2) 26 #[.slice (some ⟨q, 0, none⟩) S.parts.length cap, .slice xca S.chans.length xcc, .slice xsa S.slots.length xsc] := by rw [HW9.out]; exact R6.out.row _
          have HB9 := Lib.hid (show Below w.heap.size w W9 by rw [HW9.out]; exact below_row HB.out (by omega) _)
          have N9 := Lib.hid (show SysF w.heap.size W9 (.slice (some ⟨q, 0, none⟩) S.parts.length cap) (.slice xca S.chans.length xcc) (.slice xsa S.slots.length xsc) (otherS S m p) by rw [HW9.out]; exact (NF.out.row (by omega) _).low (by omega))
          clear HW9
          go_wp2
          exact bodyPost_ret (results_row_tmp Tryz.results18 _ _ (w.heap.size + 2) _ _ rfl rfl (run_loadVar_row _ _ 26 _ _ (0, 0) _ r9 Tryz.underlying26 rfl sizeSys)) rfl ⟨_, _, _, by rw [E1.out]; rfl, by rw [E2.out]; exact N9.out, HB9.out⟩
        · have E1 := Lib.hid (HV2.out h7)
          have E2 := Lib.hid (HZ2.out h7)
          clear NF HV1 HZ1 HV2 HZ2
          go_wp2_with (refine wpList_store_rowW rfl 26 (.tmp 6) (.tmp 37) rfl (w.heap.size + 2) #[.slice none 0 0, .slice none 0 0, .slice none 0 0] rfl rfl 26 _ R6.out sizeSys rfl (by simp [Value.oneCell']) ?_)
          intro W9 HW9
          have r9 : Rw W9 (w.heap.size + 2) 26 #[.slice none 0 0, .slice none 0 0, .slice none 0 0] := by rw [HW9.out]; exact R6.out.row _
          have HB9 := Lib.hid (show Below w.heap.size w W9 by rw [HW9.out]; exact below_row HB.out (by omega) _)
          clear HW9
          go_wp2
          exact bodyPost_ret (results_row_tmp Tryz.results18 _ _ (w.heap.size + 2) _ _ rfl rfl (run_loadVar_row _ _ 26 _ _ (0, 0) _ r9 Tryz.underlying26 rfl sizeSys)) rfl ⟨_, _, _, by rw [E1.out]; rfl, by rw [E2.out]; exact SysF.nil _ _, HB9.out⟩
    · go_simp
      refine hK _ _ (fun _ => keep3V (by repeat (first | exact Below.refl _ _ | assumption | refine Below.drew ?_ | refine Below.alloc ?_ (by first | omega | (simp; done) | (simp; omega)) _ | refine Below.setCell ?_ (by first | omega | (simp; done) | (simp; omega)) _)) HK.out hgw hww hww) (fun hh => ?_)
      have hHeld := hh (by decide)
      clear hh hK K
      try simp only [Act.put, List.getElem_toArray, List.getElem_cons_zero, List.getElem_cons_succ, List.setIfInBounds_toArray, List.set_cons_zero, List.set_cons_succ]
      refine Still.all (rs := [3]) (by kernel_rfl) (by simp) (Still.one (i := 3) rfl rfl (fun K hK => ?_) (by simp))
      go_simp
      refine hK _ _ (fun _ => keep3V (by repeat (first | exact Below.refl _ _ | assumption | refine Below.drew ?_ | refine Below.alloc ?_ (by first | omega | (simp; done) | (simp; omega)) _ | refine Below.setCell ?_ (by first | omega | (simp; done) | (simp; omega)) _)) HK.out hgw hww hww) (fun hh => ?_)
      have hHeld := hh (by decide)
      clear hh hK K
      try simp only [Act.put, List.getElem_toArray, List.getElem_cons_zero, List.getElem_cons_succ, List.setIfInBounds_toArray, List.set_cons_zero, List.set_cons_succ]
      refine Still.all (rs := [6]) (by kernel_rfl) (by simp) (Still.one (i := 6) rfl rfl (fun K hK => ?_) (by simp))
      refine wp_append_lit (.tmp 23) (.tmp 25) 47 (by rfl) W3.heap.size 83 j1 _ 4 32 Tryz.underlying47 ji jz0 jz1 jz2 rfl (by decide) _ (by first | rfl | simp [Act.eval, Act.put]) (by repeat (first | exact em_new _ _ _ (by first | omega | (simp; done) | (simp; omega)) | refine em_alloc ?_)) (by first | omega | (simp; done) | (simp; omega)) (.slice qa p.code.length qc) p.code.length (codeC p.code) (by first | rfl | simp [Act.eval, Act.put]) (HPW.out.code.up (by repeat (first | exact Below.refl _ _ | assumption | refine Below.drew ?_ | refine Below.alloc ?_ (by first | omega | (simp; done) | (simp; omega)) _ | refine Below.setCell ?_ (by first | omega | (simp; done) | (simp; omega)) _))) (codeC_one _) (by unfold maxLen; omega) (by omega) ?_
      intro v1 w4 o1 f1 h1
      obtain ⟨a3, b3, rfl⟩ := own_form o1
      have O1 := Lib.hid o1
      have D4 : Below W3.heap.size W3 w4 := Below.trans (by repeat (first | exact Below.refl _ _ | assumption | refine Below.drew ?_ | refine Below.alloc ?_ (by first | omega | (simp; done) | (simp; omega)) _ | refine Below.setCell ?_ (by first | omega | (simp; done) | (simp; omega)) _)) (f1.mono (by first | omega | (simp; done) | (simp; omega)))
      have z4 := D4.size
      refine hK _ _ (fun _ => keep3V (by repeat (first | exact Below.refl _ _ | assumption | refine Below.drew ?_ | refine Below.alloc ?_ (by first | omega | (simp; done) | (simp; omega)) _ | refine Below.setCell ?_ (by first | omega | (simp; done) | (simp; omega)) _)) HK.out hgw hww hww) (fun hh => ?_)
      have hHeld := hh (by decide)
      clear hh hK K
      try simp only [Act.put, List.getElem_toArray, List.getElem_cons_zero, List.getElem_cons_succ, List.setIfInBounds_toArray, List.set_cons_zero, List.set_cons_succ]
      refine Still.all (rs := [10]) (by kernel_rfl) (by simp) (Still.one (i := 10) rfl rfl (fun K hK => ?_) (by simp))
      refine wp_append_lit (.tmp 27) (.tmp 29) 33 (by rfl) W3.heap.size 3 j2 _ 1 8 Tryz.underlying33 ki kz0 kz1 kz2 rfl (by decide) _ (by first | rfl | simp [Act.eval, Act.put]) (by repeat (first | exact em_new _ _ _ (by first | omega | (simp; done) | (simp; omega)) | refine em_alloc ?_ | refine em_up f1 ?_)) (by first | omega | (simp; done) | (simp; omega)) (.slice ia p.inn.length ic) p.inn.length (ints p.inn) (by first | rfl | simp [Act.eval, Act.put]) (HPW.out.inn.up (by repeat (first | exact Below.refl _ _ | assumption | refine Below.drew ?_ | refine Below.alloc ?_ (by first | omega | (simp; done) | (simp; omega)) _ | refine Below.setCell ?_ (by first | omega | (simp; done) | (simp; omega)) _))) (ints_cell _) (by unfold maxLen; omega) (by omega) ?_
      intro v2 w5 o2 f2 h2
      obtain ⟨a4, b4, rfl⟩ := own_form o2
      have O2 := Lib.hid o2
      have D45 : Below w4.heap.size w4 w5 := Below.trans (by repeat (first | exact Below.refl _ _ | assumption | refine Below.drew ?_ | refine Below.alloc ?_ (by first | omega | (simp; done) | (simp; omega)) _ | refine Below.setCell ?_ (by first | omega | (simp; done) | (simp; omega)) _)) (f2.mono (by first | omega | (simp; done) | (simp; omega)))
      have D5 : Below W3.heap.size W3 w5 := D4.trans (D45.mono D4.size)
      have z5 := D5.size
      refine hK _ _ (fun _ => keep3V (by repeat (first | exact Below.refl _ _ | assumption | refine Below.drew ?_ | refine Below.alloc ?_ (by first | omega | (simp; done) | (simp; omega)) _ | refine Below.setCell ?_ (by first | omega | (simp; done) | (simp; omega)) _)) HK.out hgw hww hww) (fun hh => ?_)
      have hHeld := hh (by decide)
      clear hh hK K
      try simp only [Act.put, List.getElem_toArray, List.getElem_cons_zero, List.getElem_cons_succ, List.setIfInBounds_toArray, List.set_cons_zero, List.set_cons_succ]
      refine Still.takeBy (i := 11) [] (v := ?v12) (by kernel_rfl) (by kernel_rfl) rfl (by kernel_rfl) (by kernel_rfl) (by kernel_rfl) (fun _ _ _ h => h) (Or.inl ⟨by rfl, ?y12⟩) hHeld ?r12
      case y12 => (intro w' hSw; (try dsimp only at hSw); go_simp; try with_reducible rfl)
      simp only [Act.put, List.getElem_toArray, List.getElem_cons_zero, List.getElem_cons_succ, List.setIfInBounds_toArray, List.set_cons_zero, List.set_cons_succ]
      refine Still.takeBy (i := 12) [] (v := ?v13) (by kernel_rfl) (by kernel_rfl) rfl (by kernel_rfl) (by kernel_rfl) (by kernel_rfl) (fun _ _ _ h => h) (Or.inl ⟨by rfl, ?y13⟩) hHeld ?r13
      case y13 => (intro w' hSw; (try dsimp only at hSw); go_simp; try with_reducible rfl)
      simp only [Act.put, List.getElem_toArray, List.getElem_cons_zero, List.getElem_cons_succ, List.setIfInBounds_toArray, List.set_cons_zero, List.set_cons_succ]
      refine Still.all (rs := [13]) (by kernel_rfl) (by simp) (Still.one (i := 13) rfl rfl (fun K hK => ?_) (by simp))
      clear hHeld
      have r0 := bcl D5 hq3 q0
      have r1 := bcl D5 hq3 q1
      have rf0 := bfr D5 hq3 qf0
      have rf1 := bfr D5 hq3 qf1
      go_simp
      refine hK _ _ (fun h => absurd rfl h) (fun _ => ?_)
      clear hK K
      refine Still.over (by kernel_rfl) ?_ _
      have PG1 := (PG.out.up D5).set hmN (C := (.slice a3 p.code.length b3)) (I := (.slice a4 p.inn.length b4)) (P := p) ⟨(own_sl O1.out).up D45, own_sl O2.out⟩ (fun k e => by have := own_block O1.out k e; omega) (fun k e => by have := own_block O2.out k e; omega) (fun e => by have := own_block O1.out q e; omega) (fun e => by have := own_block O2.out q e; omega)
      have NF := Lib.hid PG1.sysF
      have R6' := Lib.hid (((R6.out.up D5 R6.out.lt).set_other (a := ⟨q, m * 2, none⟩) (.slice a3 p.code.length b3) hq2).set_other (a := ⟨q, m * 2 + 1, none⟩) (.slice a4 p.inn.length b4) hq2)
      have R9' := Lib.hid (((R9.out.up D5 R9.out.lt).set_other (a := ⟨q, m * 2, none⟩) (.slice a3 p.code.length b3) hqg).set_other (a := ⟨q, m * 2 + 1, none⟩) (.slice a4 p.inn.length b4) hqg)
      have HB' := Lib.hid (((HB.out.trans (D5.mono HB.out.size)).setCell (p := ⟨q, m * 2, none⟩) (show w.heap.size ≤ q by omega) (.slice a3 p.code.length b3)).setCell (p := ⟨q, m * 2 + 1, none⟩) (show w.heap.size ≤ q by omega) (.slice a4 p.inn.length b4))
      clear PG1 r0 r1 rf0 rf1 q0 q1 qf0 qf1 O1 O2 R5 R6 R9 HB PG
      generalize ((w5.setCell ⟨q, m * 2, none⟩ (.slice a3 p.code.length b3)).setCell ⟨q, m * 2 + 1, none⟩ (.slice a4 p.inn.length b4)) = W6 at *
      have R6 := R6'
      have R9 := R9'
      have HB := HB'
      clear R6' R9' HB' D5 D45 D4 f1 f2 h1 h2
      have x0 := R9.out.cell (j := 0) (v := .slice (some ⟨q, 0, none⟩) S.parts.length cap) rfl
      have x1 := R9.out.cell (j := 1) (v := .slice xca S.chans.length xcc) rfl
      have x2 := R9.out.cell (j := 2) (v := .slice xsa S.slots.length xsc) rfl
      go_wp2_with fail
      refine (sysRef_any (otherS S m p) HOK2.out _ _ _ _ NF.out.sys).mono ?_
      rw [HC1.out]
      rintro e w7 ⟨rfl, b7⟩
      clear x0 x1 x2
      have NF' := Lib.hid (NF.out.up b7)
      have R6' := Lib.hid (R6.out.up b7 R6.out.lt)
      have R9' := Lib.hid (R9.out.up b7 R9.out.lt)
      have HB' := Lib.hid (HB.out.trans (b7.mono HB.out.size))
      clear b7 HB NF R6 R9
      have NF := NF'
      clear NF'
      have R6 := R6'
      clear R6'
      have R9 := R9'
      clear R9'
      have HB := HB'
      clear HB'
      by_cases h7 : c1 = 0
      · subst h7
        have E1 := Lib.hid (HV1.out rfl)
        have E2 := Lib.hid (HZ1.out rfl)
        clear HV1 HZ1 HV2 HZ2
        have x0 := R9.out.cell (j := 0) (v := .slice (some ⟨q, 0, none⟩) S.parts.length cap) rfl
        have x1 := R9.out.cell (j := 1) (v := .slice xca S.chans.length xcc) rfl
        have x2 := R9.out.cell (j := 2) (v := .slice xsa S.slots.length xsc) rfl
        go_wp2_with (refine wpList_store_rowW rfl 26 (.tmp 6) (.tmp 39) rfl (w.heap.size + 2) #[.slice (some ⟨q, 0, none⟩) S.parts.length cap, .slice xca S.chans.length xcc, .slice xsa S.slots.length xsc] rfl rfl 26 _ R6.out sizeSys rfl (by simp [Value.oneCell']) ?_)
        intro W9 HW9
        have r9 : Rw W9 (w.heap.size + 2) 26 #[.slice (some ⟨q, 0, none⟩) S.parts.length cap, .slice xca S.chans.length xcc, .slice xsa S.slots.length xsc] := by rw [HW9.out]; exact R6.out.row _
        have HB9 := Lib.hid (show Below w.heap.size w W9 by rw [HW9.out]; exact below_row HB.out (by omega) _)
        have N9 := Lib.hid (show SysF w.heap.size W9 (.slice (some ⟨q, 0, none⟩) S.parts.length cap) (.slice xca S.chans.length xcc) (.slice xsa S.slots.length xsc) (otherS S m p) by rw [HW9.out]; exact (NF.out.row (by omega) _).low (by omega))
        clear HW9
        go_wp2
        exact bodyPost_ret (results_row_tmp Tryz.results18 _ _ (w.heap.size + 2) _ _ rfl rfl (run_loadVar_row _ _ 26 _ _ (0, 0) _ r9 Tryz.underlying26 rfl sizeSys)) rfl ⟨_, _, _, by rw [E1.out]; rfl, by rw [E2.out]; exact N9.out, HB9.out⟩
      · have E1 := Lib.hid (HV2.out h7)
        have E2 := Lib.hid (HZ2.out h7)
        clear NF HV1 HZ1 HV2 HZ2
        go_wp2_with (refine wpList_store_rowW rfl 26 (.tmp 6) (.tmp 37) rfl (w.heap.size + 2) #[.slice none 0 0, .slice none 0 0, .slice none 0 0] rfl rfl 26 _ R6.out sizeSys rfl (by simp [Value.oneCell']) ?_)
        intro W9 HW9
        have r9 : Rw W9 (w.heap.size + 2) 26 #[.slice none 0 0, .slice none 0 0, .slice none 0 0] := by rw [HW9.out]; exact R6.out.row _
        have HB9 := Lib.hid (show Below w.heap.size w W9 by rw [HW9.out]; exact below_row HB.out (by omega) _)
        clear HW9
        go_wp2
        exact bodyPost_ret (results_row_tmp Tryz.results18 _ _ (w.heap.size + 2) _ _ rfl rfl (run_loadVar_row _ _ 26 _ _ (0, 0) _ r9 Tryz.underlying26 rfl sizeSys)) rfl ⟨_, _, _, by rw [E1.out]; rfl, by rw [E2.out]; exact SysF.nil _ _, HB9.out⟩
  · have e1 : otherE S part p = c0 := by unfold otherE; rw [if_pos (by rw [HC0.out]; exact h0)]; exact HC0.out
    have e2 : otherR S part p = sysZ := by unfold otherR; rw [if_neg (by rw [e1]; exact h0)]
    have E1 := Lib.hid e1
    have E2 := Lib.hid e2
    clear e1 e2 HC0
    go_wp2_with (refine wpList_store_rowW rfl 26 (.tmp 6) (.tmp 16) rfl (w.heap.size + 2) #[.slice none 0 0, .slice none 0 0, .slice none 0 0] rfl rfl 26 _ R6.out sizeSys rfl (by simp [Value.oneCell']) ?_)
    intro W9 HW9
    have r9 : Rw W9 (w.heap.size + 2) 26 #[.slice none 0 0, .slice none 0 0, .slice none 0 0] := by rw [HW9.out]; exact R6.out.row _
    have HB9 := Lib.hid (show Below w.heap.size w W9 by rw [HW9.out]; exact below_row HB.out (by omega) _)
    clear HW9
    go_wp2
    exact bodyPost_ret (results_row_tmp Tryz.results18 _ _ (w.heap.size + 2) _ _ rfl rfl (run_loadVar_row _ _ 26 _ _ (0, 0) _ r9 Tryz.underlying26 rfl sizeSys)) rfl ⟨_, _, _, by rw [E1.out]; rfl, by rw [E2.out]; exact SysF.nil _ _, HB9.out⟩
end Go.Proofs.YtehhhiodfcdnmaaGreatDoor
