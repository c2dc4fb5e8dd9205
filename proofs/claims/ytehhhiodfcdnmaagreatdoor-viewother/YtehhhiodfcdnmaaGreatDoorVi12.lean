/- law.ViewOther. -/
import Derived.Test.YtehhhiodfcdnmaaGreatDoorJ17
namespace Go.Proofs.YtehhhiodfcdnmaaGreatDoor
set_option linter.unusedSimpArgs false
set_option linter.unusedVariables false
open Go.RowKit Go.Sort
theorem ent_chooseV : Enters 22 := enters Tryz.func22 (by kernel_rfl) (by kernel_rfl)
theorem TabR.rowV {w : World} {v : Value} {f : Nat → Nat → Bool} {k n : Nat} (h : TabR w v f k n) (hk : 0 < k) (hn : 0 < n) : ∃ b off cap, v = .slice (some ⟨b, off, none⟩) k cap ∧ k ≤ cap ∧ b < w.heap.size ∧ ∀ a, a < k → ∃ rb ro rc, w.cell? ⟨b, off + a, none⟩ = some (.slice (some ⟨rb, ro, none⟩) n rc) ∧ n ≤ rc ∧ rb < w.heap.size ∧ ∀ c, c < n → w.cell? ⟨rb, ro + c, none⟩ = some (.bool (f a c)) := by
  obtain ⟨vs, h1, h2, h3⟩ := h
  obtain ⟨b, off, cap, rfl, hcap, hb, hc⟩ := h2.open hk
  refine ⟨b, off, cap, rfl, hcap, hb, fun a ha => ?_⟩
  obtain ⟨rb, ro, rc, e, hrc, hrb, hcc⟩ := (h3 a (by omega)).open hn
  refine ⟨rb, ro, rc, ?_, hrc, hrb, fun c hcn => hcc c _ (bools_at _ hcn)⟩
  exact hc a _ (by rw [List.getElem?_eq_getElem (by omega), e])
theorem otherE_ok {S : SysD} {v : Nat} {p : Prt} (hk : chkS S = 0) (h : otherE S (v : Int) p = 0) : chkS (otherS S v p) = 0 ∧ otherR S (v : Int) p = otherS S v p := by
  have h2 := h
  unfold otherE at h
  split at h
  · rename_i hh; exact absurd h hh
  · refine ⟨h, ?_⟩
    unfold otherR
    rw [if_pos h2]
    rfl
set_option maxRecDepth 100000 in
set_option maxHeartbeats 8000000 in
theorem viewOther_any (S : SysD) (a b n : Int) (hab : in64 a) (hbb : in64 b) (p : Prt) (vp vc vs pv iv : Value) (w : World) (he : Env w) (hS : Sys w vp vc vs S) (hp : PrtR w pv iv p) :
    Calls Tryz.prog 6 #[.agg #[vp, vc, vs], .int .i64 a, .int .i64 b, .int .i64 n, .agg #[pv, iv]] w fun e w' => e = .returned (.bool true) ∧ Below w.heap.size w w' := by
  obtain ⟨pa, pc, rfl⟩ := hS.p.form
  obtain ⟨ka, kc, rfl⟩ := hS.c.form
  obtain ⟨sa, sc, rfl⟩ := hS.s.form
  obtain ⟨qa, qc, rfl⟩ := hp.code.form
  obtain ⟨ia, ic, rfl⟩ := hp.inn.form
  have HE := Lib.hid he
  have HS := Lib.hid hS
  have HP := Lib.hid hp
  have HA := Lib.hid hab
  have HBB := Lib.hid hbb
  generalize hr : chkS S = r
  have HR := Lib.hid hr
  clear he hS hp hab hbb hr
  go_enter Tryz.func6, Tryz.ntmps6
  go_upto_region 1 with fail
  generalize hX : World.alloc _ _ = X
  have hXX : X = (w.alloc (.cells #[.slice pa S.parts.length pc, .slice ka S.chans.length kc, .slice sa S.slots.length sc] 26)).alloc (.cells #[.slice qa p.code.length qc, .slice ia p.inn.length ic] 49) := by rw [← hX] <;> rfl
  have d0 : Below w.heap.size w X := by rw [hXX]; exact (by repeat (first | exact Below.refl _ _ | assumption | refine Below.drew ?_ | refine Below.alloc ?_ (by first | (simp; done) | (simp; omega)) _ | refine Below.setCell ?_ (by first | (simp; done) | (simp; omega)) _))
  have R0 : Hid (Rw X w.heap.size 26 #[.slice pa S.parts.length pc, .slice ka S.chans.length kc, .slice sa S.slots.length sc]) := Lib.hid (by rw [hXX]; exact (by repeat (first | exact Rw.new _ _ _ (by first | rfl | (simp; done) | omega | (simp; omega)) | refine Rw.alloc ?_ _)))
  have R9 : Hid (Rw X (w.heap.size + 1) 49 #[.slice qa p.code.length qc, .slice ia p.inn.length ic]) := Lib.hid (by rw [hXX]; exact (by repeat (first | exact Rw.new _ _ _ (by first | rfl | (simp; done) | omega | (simp; omega)) | refine Rw.alloc ?_ _)))
  have HB := Lib.hid d0
  clear hX hXX d0
  have s0 := R0.out.cell (j := 0) (v := .slice pa S.parts.length pc) rfl
  have s1 := R0.out.cell (j := 1) (v := .slice ka S.chans.length kc) rfl
  have s2 := R0.out.cell (j := 2) (v := .slice sa S.slots.length sc) rfl
  go_wp2_with fail
  refine (flReach_any S _ _ _ _ (HE.out.up HB.out) (HS.out.up HB.out)).mono ?_
  rw [HR.out]
  rintro e w1 ⟨vm, rfl, hm, b1, -⟩
  obtain ⟨ta, tc, rfl⟩ := hm.form
  have HM := Lib.hid hm
  clear hm s0 s1 s2
  have R0' := Lib.hid (R0.out.up b1 R0.out.lt)
  have R9' := Lib.hid (R9.out.up b1 R9.out.lt)
  have HB' := Lib.hid (HB.out.trans (b1.mono HB.out.size))
  clear b1 HB R0 R9
  have R0 := R0'
  clear R0'
  have R9 := R9'
  clear R9'
  have HB := HB'
  clear HB'
  by_cases h0 : r = 0
  · subst h0
    obtain ⟨h4, h1, -, -⟩ := chk_flow HR.out
    have hq : reachQ S = S.parts.length := by unfold reachQ; rw [if_pos HR.out]
    rw [hq] at HM ⊢
    clear hq
    by_cases hn1 : n < 0
    · clear HM
      go_wp2_with fail
      refine (viewBegun_any _ (HE.out.up HB.out)).mono ?_
      rintro e f1 ⟨rfl, bb⟩
      have HB' := Lib.hid (HB.out.trans (bb.mono HB.out.size))
      clear bb HB 
      have HB := HB'
      clear HB'
      go_wp2
      go_ret
      exact ⟨rfl, HB.out⟩
    · by_cases hn2 : 300 < n
      · clear HM
        go_wp2_with fail
        refine (viewBegun_any _ (HE.out.up HB.out)).mono ?_
        rintro e f1 ⟨rfl, bb⟩
        have HB' := Lib.hid (HB.out.trans (bb.mono HB.out.size))
        clear bb HB 
        have HB := HB'
        clear HB'
        go_wp2
        go_ret
        exact ⟨rfl, HB.out⟩
      · have h1i : ((S.parts.length : Int) == 0) = false := by rw [beq_eq_false_iff_ne]; omega
        have s0 := R0.out.cell (j := 0) (v := .slice pa S.parts.length pc) rfl
        have s1 := R0.out.cell (j := 1) (v := .slice ka S.chans.length kc) rfl
        have s2 := R0.out.cell (j := 2) (v := .slice sa S.slots.length sc) rfl
        go_upto_region 4 with fail
        refine region_still (S := fun w' => w'.cell? ⟨w.heap.size, 0, none⟩ = some (.slice pa S.parts.length pc)) 11 (by kernel_rfl) s0 (fun hHeld => ?_)
        refine Still.takeBy (i := 0) [] (v := ?v1) (by kernel_rfl) (by kernel_rfl) rfl (by kernel_rfl) (by kernel_rfl) (by kernel_rfl) (fun _ _ _ h => h) (Or.inl ⟨by rfl, ?y1⟩) hHeld ?r1
        case y1 => (intro w' hSw; (try dsimp only at hSw); go_simp; try with_reducible rfl)
        simp only [Act.put, List.getElem_toArray, List.getElem_cons_zero, List.getElem_cons_succ, List.setIfInBounds_toArray, List.set_cons_zero, List.set_cons_succ]
        refine Still.takeBy (i := 1) [] (v := ?v2) (by kernel_rfl) (by kernel_rfl) rfl (by kernel_rfl) (by kernel_rfl) (by kernel_rfl) (fun _ _ _ h => h) (Or.inl ⟨by rfl, ?y2⟩) hHeld ?r2
        case y2 => (intro w' hSw; (try dsimp only at hSw); go_simp; try with_reducible rfl)
        simp only [Act.put, List.getElem_toArray, List.getElem_cons_zero, List.getElem_cons_succ, List.setIfInBounds_toArray, List.set_cons_zero, List.set_cons_succ]
        refine Still.takeBy (i := 2) [] (v := ?v3) (by kernel_rfl) (by kernel_rfl) rfl (by kernel_rfl) (by kernel_rfl) (by kernel_rfl) (fun _ _ _ h => h) (Or.inl ⟨by rfl, ?y3⟩) hHeld ?r3
        case y3 => (intro w' hSw; (try dsimp only at hSw); go_simp; try with_reducible rfl)
        simp only [Act.put, List.getElem_toArray, List.getElem_cons_zero, List.getElem_cons_succ, List.setIfInBounds_toArray, List.set_cons_zero, List.set_cons_succ]
        refine Still.takeBy (i := 3) [] (v := ?v4) (by kernel_rfl) (by kernel_rfl) rfl (by kernel_rfl) (by kernel_rfl) (by kernel_rfl) (fun _ _ _ h => h) (Or.inl ⟨by rfl, ?y4⟩) hHeld ?r4
        case y4 => (intro w' hSw; (try dsimp only at hSw); go_simp; try with_reducible rfl)
        simp only [Act.put, List.getElem_toArray, List.getElem_cons_zero, List.getElem_cons_succ, List.setIfInBounds_toArray, List.set_cons_zero, List.set_cons_succ]
        refine Still.takeBy (i := 5) [] (v := ?v5) (by kernel_rfl) (by kernel_rfl) rfl (by kernel_rfl) (by kernel_rfl) (by kernel_rfl) (fun _ _ _ h => h) (Or.inl ⟨by rfl, ?y5⟩) hHeld ?r5
        case y5 => (intro w' hSw; (try dsimp only at hSw); go_simp; try with_reducible rfl)
        simp only [Act.put, List.getElem_toArray, List.getElem_cons_zero, List.getElem_cons_succ, List.setIfInBounds_toArray, List.set_cons_zero, List.set_cons_succ]
        refine Still.takeBy (i := 6) [] (v := ?v6) (by kernel_rfl) (by kernel_rfl) rfl (by kernel_rfl) (by kernel_rfl) (by kernel_rfl) (fun _ _ _ h => h) (Or.inl ⟨by rfl, ?y6⟩) hHeld ?r6
        case y6 => (intro w' hSw; (try dsimp only at hSw); go_simp; try with_reducible rfl)
        simp only [Act.put, List.getElem_toArray, List.getElem_cons_zero, List.getElem_cons_succ, List.setIfInBounds_toArray, List.set_cons_zero, List.set_cons_succ]
        refine Still.takeBy (i := 7) [] (v := ?v7) (by kernel_rfl) (by kernel_rfl) rfl (by kernel_rfl) (by kernel_rfl) (by kernel_rfl) (fun _ _ _ h => h) (Or.inl ⟨by rfl, ?y7⟩) hHeld ?r7
        case y7 => (intro w' hSw; (try dsimp only at hSw); go_simp; try with_reducible rfl)
        simp only [Act.put, List.getElem_toArray, List.getElem_cons_zero, List.getElem_cons_succ, List.setIfInBounds_toArray, List.set_cons_zero, List.set_cons_succ]
        refine Still.takeBy (i := 8) [] (v := ?v8) (by kernel_rfl) (by kernel_rfl) rfl (by kernel_rfl) (by kernel_rfl) (by kernel_rfl) (fun _ _ _ h => h) (Or.inl ⟨by rfl, ?y8⟩) hHeld ?r8
        case y8 => (intro w' hSw; (try dsimp only at hSw); go_simp; try with_reducible rfl)
        simp only [Act.put, List.getElem_toArray, List.getElem_cons_zero, List.getElem_cons_succ, List.setIfInBounds_toArray, List.set_cons_zero, List.set_cons_succ]
        refine Still.all (rs := [4]) (by kernel_rfl) (by simp) (Still.one (i := 4) rfl rfl (fun K hK => ?_) (by simp))
        refine wp_call 22 _ _ rfl ent_chooseV #[.int .i64 a, .int .i64 (S.parts.length : Int)] (by first | rfl | simp [Act.eval, Act.put]) ((chooseV_any a HA.out S.parts.length h1 (by omega) _).mono ?_)
        rintro e V' ⟨u, rfl, hu, rfl⟩
        refine ⟨_, rfl, hK _ _ (fun _ => hHeld) (fun hh => ?_)⟩
        clear hK K hh
        try simp only [Act.put, List.getElem_toArray, List.getElem_cons_zero, List.getElem_cons_succ, List.setIfInBounds_toArray, List.set_cons_zero, List.set_cons_succ]
        refine Still.all (rs := [9]) (by kernel_rfl) (by simp) (Still.one (i := 9) rfl rfl (fun K hK => ?_) (by simp))
        refine wp_call 22 _ _ rfl ent_chooseV #[.int .i64 b, .int .i64 (S.parts.length : Int)] (by first | rfl | simp [Act.eval, Act.put]) ((chooseV_any b HBB.out S.parts.length h1 (by omega) _).mono ?_)
        rintro e V' ⟨v, rfl, hv, rfl⟩
        refine ⟨_, rfl, hK _ _ (fun _ => hHeld) (fun hh => ?_)⟩
        clear hK K hh
        try simp only [Act.put, List.getElem_toArray, List.getElem_cons_zero, List.getElem_cons_succ, List.setIfInBounds_toArray, List.set_cons_zero, List.set_cons_succ]
        refine Still.takeBy (i := 10) [] (v := ?v9) (by kernel_rfl) (by kernel_rfl) rfl (by kernel_rfl) (by kernel_rfl) (by kernel_rfl) (fun _ _ _ h => h) (Or.inl ⟨by rfl, ?y9⟩) hHeld ?r9
        case y9 => (intro w' hSw; (try dsimp only at hSw); go_simp; try with_reducible rfl)
        simp only [Act.put, List.getElem_toArray, List.getElem_cons_zero, List.getElem_cons_succ, List.setIfInBounds_toArray, List.set_cons_zero, List.set_cons_succ]
        refine Still.all (rs := [11]) (by kernel_rfl) (by simp) (Still.one (i := 11) rfl rfl (fun K hK => ?_) (by simp))
        go_simp
        refine hK _ _ (fun h => absurd rfl h) (fun _ => ?_)
        clear hK K
        refine Still.over (by kernel_rfl) ?_ _
        clear hHeld
        have bw : Below w1.heap.size w1 w1.drew := (Below.refl _ _).drew
        have HM' := Lib.hid (HM.out.up bw)
        clear HM s0 s1 s2
        have HM := HM'
        clear HM'
        have R0' := Lib.hid (R0.out.up bw R0.out.lt)
        have R9' := Lib.hid (R9.out.up bw R9.out.lt)
        have HB' := Lib.hid (HB.out.trans (bw.mono HB.out.size))
        clear bw HB R0 R9
        have R0 := R0'
        clear R0'
        have R9 := R9'
        clear R9'
        have HB := HB'
        clear HB'
        obtain ⟨mb, mo, mcap, e1, hmc, hmb, hrows⟩ := HM.out.rowV h1 h1
        cases e1
        obtain ⟨vb, vo, vc', mv, gv, hvb, rv⟩ := hrows v hv
        have hui : (u : Int) < S.parts.length := by omega
        have hvi : (v : Int) < S.parts.length := by omega
        have hss : ((S.parts.length : Int) == (S.parts.length : Int)) = true := by simp
        obtain ⟨e0, he0⟩ : ∃ e0, otherE S (v : Int) p = e0 := ⟨_, rfl⟩
        obtain ⟨Z, hZ⟩ : ∃ Z, otherR S (v : Int) p = Z := ⟨_, rfl⟩
        have HOT := Lib.hid fun w he hS hp => other_any S (v : Int) p (.slice pa S.parts.length pc) (.slice ka S.chans.length kc) (.slice sa S.slots.length sc) (.slice qa p.code.length qc) (.slice ia p.inn.length ic) w he hS hp e0 he0 Z hZ
        have HE0 := Lib.hid he0
        have HZ := Lib.hid hZ
        clear he0 hZ hrows rv
        have s0 := R0.out.cell (j := 0) (v := .slice pa S.parts.length pc) rfl
        have s1 := R0.out.cell (j := 1) (v := .slice ka S.chans.length kc) rfl
        have s2 := R0.out.cell (j := 2) (v := .slice sa S.slots.length sc) rfl
        have p0 := R9.out.cell (j := 0) (v := .slice qa p.code.length qc) rfl
        have p1 := R9.out.cell (j := 1) (v := .slice ia p.inn.length ic) rfl
        go_wp2_with fail
        refine (HOT.out _ (HE.out.up HB.out) (HS.out.up HB.out) (HP.out.up HB.out)).mono ?_
        rintro e w3 ⟨yp, yk, ys, rfl, hN', b3⟩
        have hN := hN'.sys
        obtain ⟨ya, yc, rfl⟩ := hN.p.form
        obtain ⟨xa, xc, rfl⟩ := hN.c.form
        obtain ⟨za, zc, rfl⟩ := hN.s.form
        have HN := Lib.hid hN'
        clear hN hN' s0 s1 s2 p0 p1 mv R9
        have HM' := Lib.hid (HM.out.up b3)
        have R0' := Lib.hid (R0.out.up b3 R0.out.lt)
        have HB' := Lib.hid (HB.out.trans (b3.mono HB.out.size))
        clear b3 HB HM R0
        have HM := HM'
        clear HM'
        have R0 := R0'
        clear R0'
        have HB := HB'
        clear HB'
        go_wp2_with (refine wpList_store_rowW rfl 26 (.tmp 15) (.tmp 74) rfl w3.heap.size #[.slice ya Z.parts.length yc, .slice xa Z.chans.length xc, .slice za Z.slots.length zc] rfl rfl 26 #[.slice none 0 0, .slice none 0 0, .slice none 0 0] (by repeat (first | exact Rw.new _ _ _ (by first | rfl | (simp; done) | omega | (simp; omega)) | refine Rw.alloc ?_ _)) sizeSys rfl (by simp [Value.oneCell']) ?_)
        intro W4 HW4
        have b4 : Below w3.heap.size w3 W4 := by rw [HW4.out]; exact below_row ((Below.refl _ _).alloc (Nat.le_refl _) _) (Nat.le_refl _) _
        have R7 : Hid (Rw W4 w3.heap.size 26 #[.slice ya Z.parts.length yc, .slice xa Z.chans.length xc, .slice za Z.slots.length zc]) := by
          show Rw _ _ _ _
          rw [HW4.out]
          exact Rw.row (cs := #[.slice none 0 0, .slice none 0 0, .slice none 0 0]) (by repeat (first | exact Rw.new _ _ _ (by first | rfl | (simp; done) | omega | (simp; omega)) | refine Rw.alloc ?_ _)) _
        have NS : Hid (Sys W4 (.slice ya Z.parts.length yc) (.slice xa Z.chans.length xc) (.slice za Z.slots.length zc) Z) := by
          show Sys _ _ _ _ _
          rw [HW4.out]
          exact (HN.out.fresh _ _).sys
        clear HW4
        have HM' := Lib.hid (HM.out.up b4)
        have R0' := Lib.hid (R0.out.up b4 R0.out.lt)
        have HB' := Lib.hid (HB.out.trans (b4.mono HB.out.size))
        clear b4 HB HM R0
        have HM := HM'
        clear HM'
        have R0 := R0'
        clear R0'
        have HB := HB'
        clear HB'
        clear HN HOT
        obtain ⟨mb2, mo2, mcap2, e1, hmc2, hmb2, hrows⟩ := HM.out.rowV h1 h1
        cases e1
        obtain ⟨vb, vo, vc', mv, gv, hvb, rv⟩ := hrows v hv
        have muv := rv u hu
        clear hrows rv HM
        cases hvu : reachB S v u with
        | true =>
          rw [hvu] at muv
          clear HE0 HZ
          go_wp2_with fail
          refine (viewBegun_any _ (HE.out.up HB.out)).mono ?_
          rintro e f1 ⟨rfl, bb⟩
          have HB' := Lib.hid (HB.out.trans (bb.mono HB.out.size))
          clear bb HB 
          have HB := HB'
          clear HB'
          go_wp2
          go_ret
          exact ⟨rfl, HB.out⟩
        | false =>
          rw [hvu] at muv
          by_cases h5 : e0 = 0
          · subst h5
            obtain ⟨hk', hZ'⟩ := otherE_ok HR.out HE0.out
            have hZ := HZ.out
            rw [hZ'] at hZ
            obtain ⟨e1, e2, e3, e4, e5⟩ := view_same (other_alike HR.out hk' hvu) (u := u) (by omega) n (by omega) (by omega)
            rw [hZ] at e2 e4 e5
            obtain ⟨V, hV⟩ : ∃ V, viewR S (runR S n) u = V := ⟨_, rfl⟩
            rw [hV] at e5
            have HSV : Hid (SmallV V) := Lib.hid (hV ▸ small_view S _ _)
            have HSA := Lib.hid fun w he hS => seen_any S u n _ e1 rfl e3 V hV (.slice pa S.parts.length pc) (.slice ka S.chans.length kc) (.slice sa S.slots.length sc) w he hS
            have HSB := Lib.hid fun vp vc vs w he hS => seen_any Z u n _ e2 rfl e4 V e5 vp vc vs w he hS
            clear hZ hZ' hk' e1 e2 e3 e4 e5 hV HE0 HZ hvu
            have s0 := R0.out.cell (j := 0) (v := .slice pa S.parts.length pc) rfl
            have s1 := R0.out.cell (j := 1) (v := .slice ka S.chans.length kc) rfl
            have s2 := R0.out.cell (j := 2) (v := .slice sa S.slots.length sc) rfl
            go_wp2_with fail
            refine (HSA.out _ (HE.out.up HB.out) (HS.out.up HB.out)).mono ?_
            rintro e wa ⟨o, vl, rfl, hVa, ba⟩
            obtain ⟨oa, oc, rfl⟩ := hVa.so.form
            obtain ⟨ma, mc, rfl⟩ := hVa.l.form
            have HVa := Lib.hid (hVa.low (Nat.zero_le _))
            clear hVa s0 s1 s2
            have NS' := Lib.hid (NS.out.up ba)
            have R0' := Lib.hid (R0.out.up ba R0.out.lt)
            have R7' := Lib.hid (R7.out.up ba R7.out.lt)
            have HB' := Lib.hid (HB.out.trans (ba.mono HB.out.size))
            clear ba HB NS R0 R7
            have NS := NS'
            clear NS'
            have R0 := R0'
            clear R0'
            have R7 := R7'
            clear R7'
            have HB := HB'
            clear HB'
            go_wp2_with (refine wpList_store_rowW rfl 37 (.tmp 17) (.tmp 93) rfl wa.heap.size (vwC V.d.c (.slice oa V.d.out.length oc) (.slice ma V.ls.length mc)) rfl rfl 37 (vwC celZ (.slice none 0 0) (.slice none 0 0)) (by repeat (first | exact Rw.new _ _ _ (by first | rfl | (simp; done) | omega | (simp; omega)) | refine Rw.alloc ?_ _)) sizeView rfl (vwC_one _ _ _ rfl rfl) ?_)
            intro Wb HWb
            have bc : Below wa.heap.size wa Wb := by rw [HWb.out]; exact below_row ((Below.refl _ _).alloc (Nat.le_refl _) _) (Nat.le_refl _) _
            have RA : Hid (Rw Wb wa.heap.size 37 (vwC V.d.c (.slice oa V.d.out.length oc) (.slice ma V.ls.length mc))) := by
              show Rw _ _ _ _
              rw [HWb.out]
              exact Rw.row (cs := (vwC celZ (.slice none 0 0) (.slice none 0 0))) (by repeat (first | exact Rw.new _ _ _ (by first | rfl | (simp; done) | omega | (simp; omega)) | refine Rw.alloc ?_ _)) _
            have VA : Hid (VwR 0 Wb (.slice oa V.d.out.length oc) (.slice ma V.ls.length mc) V) := by
              show VwR _ _ _ _ _
              rw [HWb.out]
              exact HVa.out.fresh _ _
            clear HWb
            have NS' := Lib.hid (NS.out.up bc)
            have R0' := Lib.hid (R0.out.up bc R0.out.lt)
            have R7' := Lib.hid (R7.out.up bc R7.out.lt)
            have HB' := Lib.hid (HB.out.trans (bc.mono HB.out.size))
            clear bc HB NS R0 R7
            have NS := NS'
            clear NS'
            have R0 := R0'
            clear R0'
            have R7 := R7'
            clear R7'
            have HB := HB'
            clear HB'
            clear HVa
            have z0 := R7.out.cell (j := 0) (v := .slice ya Z.parts.length yc) rfl
            have z1 := R7.out.cell (j := 1) (v := .slice xa Z.chans.length xc) rfl
            have z2 := R7.out.cell (j := 2) (v := .slice za Z.slots.length zc) rfl
            go_wp2_with fail
            refine (HSB.out _ _ _ _ (HE.out.up HB.out) NS.out).mono ?_
            rintro e wd ⟨o2, vl2, rfl, hVd, bd⟩
            obtain ⟨ra, rc, rfl⟩ := hVd.so.form
            obtain ⟨na, nc, rfl⟩ := hVd.l.form
            have HVd := Lib.hid (hVd.low (Nat.zero_le _))
            clear hVd z0 z1 z2 NS R0 R7
            have VA' := Lib.hid (VA.out.up bd)
            have RA' := Lib.hid (RA.out.up bd RA.out.lt)
            have HB' := Lib.hid (HB.out.trans (bd.mono HB.out.size))
            clear bd HB VA RA
            have VA := VA'
            clear VA'
            have RA := RA'
            clear RA'
            have HB := HB'
            clear HB'
            go_wp2_with (refine wpList_store_rowW rfl 37 (.tmp 19) (.tmp 100) rfl wd.heap.size (vwC V.d.c (.slice ra V.d.out.length rc) (.slice na V.ls.length nc)) rfl rfl 37 (vwC celZ (.slice none 0 0) (.slice none 0 0)) (by repeat (first | exact Rw.new _ _ _ (by first | rfl | (simp; done) | omega | (simp; omega)) | refine Rw.alloc ?_ _)) sizeView rfl (vwC_one _ _ _ rfl rfl) ?_)
            intro We HWe
            have be : Below wd.heap.size wd We := by rw [HWe.out]; exact below_row ((Below.refl _ _).alloc (Nat.le_refl _) _) (Nat.le_refl _) _
            have RB : Hid (Rw We wd.heap.size 37 (vwC V.d.c (.slice ra V.d.out.length rc) (.slice na V.ls.length nc))) := by
              show Rw _ _ _ _
              rw [HWe.out]
              exact Rw.row (cs := (vwC celZ (.slice none 0 0) (.slice none 0 0))) (by repeat (first | exact Rw.new _ _ _ (by first | rfl | (simp; done) | omega | (simp; omega)) | refine Rw.alloc ?_ _)) _
            have VB : Hid (VwR 0 We (.slice ra V.d.out.length rc) (.slice na V.ls.length nc) V) := by
              show VwR _ _ _ _ _
              rw [HWe.out]
              exact HVd.out.fresh _ _
            clear HWe
            have VA' := Lib.hid (VA.out.up be)
            have RA' := Lib.hid (RA.out.up be RA.out.lt)
            have HB' := Lib.hid (HB.out.trans (be.mono HB.out.size))
            clear be HB VA RA
            have VA := VA'
            clear VA'
            have RA := RA'
            clear RA'
            have HB := HB'
            clear HB'
            clear HVd
            go_wp2_with fail
            refine (viewBegun_any _ (HE.out.up HB.out)).mono ?_
            rintro e f1 ⟨rfl, bb⟩
            have VA' := Lib.hid (VA.out.up bb)
            have VB' := Lib.hid (VB.out.up bb)
            have RA' := Lib.hid (RA.out.up bb RA.out.lt)
            have RB' := Lib.hid (RB.out.up bb RB.out.lt)
            have HB' := Lib.hid (HB.out.trans (bb.mono HB.out.size))
            clear bb HB VA VB RA RB
            have VA := VA'
            clear VA'
            have VB := VB'
            clear VB'
            have RA := RA'
            clear RA'
            have RB := RB'
            clear RB'
            have HB := HB'
            clear HB'
            go_wp2_with (first | (refine loadRowG rfl 37 (.tmp 17) rfl wa.heap.size rfl 37 _ (0, 0) _ RA.out Tryz.underlying37 rfl sizeView ?_) | (refine loadRowG rfl 37 (.tmp 19) rfl wd.heap.size rfl 37 _ (0, 0) _ RB.out Tryz.underlying37 rfl sizeView ?_))
            refine (sameViews_yes V HSV.out.o HSV.out.l HSV.out.n _ _ _ _ _ _ _ VA.out VB.out).mono ?_
            rintro e f2 ⟨rfl, bb⟩
            have HB' := Lib.hid (HB.out.trans (bb.mono HB.out.size))
            clear bb HB 
            have HB := HB'
            clear HB'
            go_wp2
            go_ret
            exact ⟨rfl, HB.out⟩
          · clear HE0 HZ hvu
            go_wp2_with fail
            refine (viewBegun_any _ (HE.out.up HB.out)).mono ?_
            rintro e f1 ⟨rfl, bb⟩
            have HB' := Lib.hid (HB.out.trans (bb.mono HB.out.size))
            clear bb HB 
            have HB := HB'
            clear HB'
            go_wp2
            go_ret
            exact ⟨rfl, HB.out⟩
  · clear HM
    go_wp2_with fail
    refine (viewBegun_any _ (HE.out.up HB.out)).mono ?_
    rintro e f1 ⟨rfl, bb⟩
    have HB' := Lib.hid (HB.out.trans (bb.mono HB.out.size))
    clear bb HB 
    have HB := HB'
    clear HB'
    go_wp2
    go_ret
    exact ⟨rfl, HB.out⟩
end Go.Proofs.YtehhhiodfcdnmaaGreatDoor
