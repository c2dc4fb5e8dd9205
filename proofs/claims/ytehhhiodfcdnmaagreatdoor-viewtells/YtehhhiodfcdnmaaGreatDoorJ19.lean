/- law.ViewOther. -/
import Derived.Test.YtehhhiodfcdnmaaGreatDoorJ17
import Derived.Test.YtehhhiodfcdnmaaGreatDoorJ18
import Derived.Test.YtehhhiodfcdnmaaGreatDoorJ4
import Derived.Laws.IdiomArrays
import Derived.Test.YtehhhiodfcdnmaaGreatDoorJ5
namespace Go.Proofs.YtehhhiodfcdnmaaGreatDoor
set_option linter.unusedSimpArgs false
set_option linter.unusedVariables false
open Go.RowKit Go.Sort
theorem ent_chooseV : Enters 22 := enters Tryz.func22 (by kernel_rfl) (by kernel_rfl)
theorem TabR.rowV {w : World} {v : Value} {f : Nat → Nat → Bool} {k n : Nat} (h : TabR w v f k n) (hk : 0 < k) (hn : 0 < n) : ∃ b off cap, v = .slice (some ⟨b, off, none⟩) k cap ∧ k ≤ cap ∧ b < w.heap.size ∧ ∀ a, a < k → ∃ rb ro rc, w.cell? ⟨b, off + a, none⟩ = some (.slice (some ⟨rb, ro, none⟩) n rc) ∧ n ≤ rc ∧ rb < w.heap.size ∧ ∀ c, c < n → w.cell? ⟨rb, ro + c, none⟩ = some (.bool (f a c)) := by
  obtain ⟨vs, h1, h2, h3⟩ := h
  obtain ⟨b, off, cap, rfl, hcap, hb, hc⟩ := h2.open hk
  refine ⟨b, off, cap, rfl, hcap, hb, fun a ha => ?_⟩
  obtain ⟨rb, ro, rc, e, hrc, hrb, hcc⟩ := (h3 a (by omega)).open hn
  refine ⟨rb, ro, rc, ?_, hrc, hrb, fun c hcn => hcc c _ (bools_at _ hcn)⟩
  exact hc a _ (by rw [List.getElem?_eq_getElem (by omega), e])
theorem otherE_ok {S : SysD} {v : Nat} {p : Prt} (hk : chkS S = 0) (h : otherE S (v : Int) p = 0) : chkS (otherS S v p) = 0 ∧ otherR S (v : Int) p = otherS S v p := by
  have h2 := h
  unfold otherE at h
  split at h
  · rename_i hh; exact absurd h hh
  · refine ⟨h, ?_⟩
    unfold otherR
    rw [if_pos h2]
    rfl
set_option maxRecDepth 100000 in
set_option maxHeartbeats 8000000 in
theorem viewOther_any (S : SysD) (a b n : Int) (hab : in64 a) (hbb : in64 b) (p : Prt) (vp vc vs pv iv : Value) (w : World) (he : Env w) (hS : Sys w vp vc vs S) (hp : PrtR w pv iv p) :
    Calls Tryz.prog 6 #[.agg #[vp, vc, vs], .int .i64 a, .int .i64 b, .int .i64 n, .agg #[pv, iv]] w fun e w' => e = .returned (.bool true) ∧ Below w.heap.size w w' := by
  obtain ⟨pa, pc, rfl⟩ := hS.p.form
  obtain ⟨ka, kc, rfl⟩ := hS.c.form
  obtain ⟨sa, sc, rfl⟩ := hS.s.form
  obtain ⟨qa, qc, rfl⟩ := hp.code.form
  obtain ⟨ia, ic, rfl⟩ := hp.inn.form
  have HE := Lib.hid he
  have HS := Lib.hid hS
  have HP := Lib.hid hp
  have HA := Lib.hid hab
  have HBB := Lib.hid hbb
  generalize hr : chkS S = r
  have HR := Lib.hid hr
  clear he hS hp hab hbb hr
  go_enter Tryz.func6, Tryz.ntmps6
  go_upto_region 1 with fail
  generalize hX : World.alloc _ _ = X
  have hXX : X = (w.alloc (.cells #[.slice pa S.parts.length pc, .slice ka S.chans.length kc, .slice sa S.slots.length sc] 26)).alloc (.cells #[.slice qa p.code.length qc, .slice ia p.inn.length ic] 49) := by rw [← hX] <;> rfl
  have d0 : Below w.heap.size w X := by rw [hXX]; exact (by repeat (first | exact Below.refl _ _ | assumption | refine Below.drew ?_ | refine Below.alloc ?_ (by first | (simp; done) | (simp; omega)) _ | refine Below.setCell ?_ (by first | (simp; done) | (simp; omega)) _))
  have R0 : Hid (Rw X w.heap.size 26 #[.slice pa S.parts.length pc, .slice ka S.chans.length kc, .slice sa S.slots.length sc]) := Lib.hid (by rw [hXX]; exact (by repeat (first | exact Rw.new _ _ _ (by first | rfl | (simp; done) | omega | (simp; omega)) | refine Rw.alloc ?_ _)))
  have R9 : Hid (Rw X (w.heap.size + 1) 49 #[.slice qa p.code.length qc, .slice ia p.inn.length ic]) := Lib.hid (by rw [hXX]; exact (by repeat (first | exact Rw.new _ _ _ (by first | rfl | (simp; done) | omega | (simp; omega)) | refine Rw.alloc ?_ _)))
  have HB := Lib.hid d0
  clear hX hXX d0
  have s0 := R0.out.cell (j := 0) (v := .slice pa S.parts.length pc) rfl
  have s1 := R0.out.cell (j := 1) (v := .slice ka S.chans.length kc) rfl
  have s2 := R0.out.cell (j := 2) (v := .slice sa S.slots.length sc) rfl
  go_wp2_with fail
  refine (flReach_any S _ _ _ _ (HE.out.up HB.out) (HS.out.up HB.out)).mono ?_
  rw [HR.out]
  rintro e w1 ⟨vm, rfl, hm, b1, -⟩
  obtain ⟨ta, tc, rfl⟩ := hm.form
  have HM := Lib.hid hm
  clear hm s0 s1 s2
  have R0' := Lib.hid (R0.out.up b1 R0.out.lt)
  have R9' := Lib.hid (R9.out.up b1 R9.out.lt)
  have HB' := Lib.hid (HB.out.trans (b1.mono HB.out.size))
  clear b1 HB R0 R9
  have R0 := R0'
  clear R0'
  have R9 := R9'
  clear R9'
  have HB := HB'
  clear HB'
  by_cases h0 : r = 0
  · subst h0
    obtain ⟨h4, h1, -, -⟩ := chk_flow HR.out
    have hq : reachQ S = S.parts.length := by unfold reachQ; rw [if_pos HR.out]
    rw [hq] at HM ⊢
    clear hq
    by_cases hn1 : n < 0
    · clear HM
      go_wp2_with fail
      refine (viewBegun_any _ (HE.out.up HB.out)).mono ?_
      rintro e f1 ⟨rfl, bb⟩
      have HB' := Lib.hid (HB.out.trans (bb.mono HB.out.size))
      clear bb HB 
      have HB := HB'
      clear HB'
      go_wp2
      go_ret
      exact ⟨rfl, HB.out⟩
    · by_cases hn2 : 300 < n
      · clear HM
        go_wp2_with fail
        refine (viewBegun_any _ (HE.out.up HB.out)).mono ?_
        rintro e f1 ⟨rfl, bb⟩
        have HB' := Lib.hid (HB.out.trans (bb.mono HB.out.size))
        clear bb HB 
        have HB := HB'
        clear HB'
        go_wp2
        go_ret
        exact ⟨rfl, HB.out⟩
      · have h1i : ((S.parts.length : Int) == 0) = false := by rw [beq_eq_false_iff_ne]; omega
        have s0 := R0.out.cell (j := 0) (v := .slice pa S.parts.length pc) rfl
        have s1 := R0.out.cell (j := 1) (v := .slice ka S.chans.length kc) rfl
        have s2 := R0.out.cell (j := 2) (v := .slice sa S.slots.length sc) rfl
        go_upto_region 4 with fail
        refine region_still (S := fun w' => w'.cell? ⟨w.heap.size, 0, none⟩ = some (.slice pa S.parts.length pc)) 11 (by kernel_rfl) s0 (fun hHeld => ?_)
        refine Still.takeBy (i := 0) [] (v := ?v1) (by kernel_rfl) (by kernel_rfl) rfl (by kernel_rfl) (by kernel_rfl) (by kernel_rfl) (fun _ _ _ h => h) (Or.inl ⟨by rfl, ?y1⟩) hHeld ?r1
        case y1 => (intro w' hSw; (try dsimp only at hSw); go_simp; try with_reducible rfl)
        simp only [Act.put, List.getElem_toArray, List.getElem_cons_zero, List.getElem_cons_succ, List.setIfInBounds_toArray, List.set_cons_zero, List.set_cons_succ]
        refine Still.takeBy (i := 1) [] (v := ?v2) (by kernel_rfl) (by kernel_rfl) rfl (by kernel_rfl) (by kernel_rfl) (by kernel_rfl) (fun _ _ _ h => h) (Or.inl ⟨by rfl, ?y2⟩) hHeld ?r2
        case y2 => (intro w' hSw; (try dsimp only at hSw); go_simp; try with_reducible rfl)
        simp only [Act.put, List.getElem_toArray, List.getElem_cons_zero, List.getElem_cons_succ, List.setIfInBounds_toArray, List.set_cons_zero, List.set_cons_succ]
        refine Still.takeBy (i := 2) [] (v := ?v3) (by kernel_rfl) (by kernel_rfl) rfl (by kernel_rfl) (by kernel_rfl) (by kernel_rfl) (fun _ _ _ h => h) (Or.inl ⟨by rfl, ?y3⟩) hHeld ?r3
        case y3 => (intro w' hSw; (try dsimp only at hSw); go_simp; try with_reducible rfl)
        simp only [Act.put, List.getElem_toArray, List.getElem_cons_zero, List.getElem_cons_succ, List.setIfInBounds_toArray, List.set_cons_zero, List.set_cons_succ]
        refine Still.takeBy (i := 3) [] (v := ?v4) (by kernel_rfl) (by kernel_rfl) rfl (by kernel_rfl) (by kernel_rfl) (by kernel_rfl) (fun _ _ _ h => h) (Or.inl ⟨by rfl, ?y4⟩) hHeld ?r4
        case y4 => (intro w' hSw; (try dsimp only at hSw); go_simp; try with_reducible rfl)
        simp only [Act.put, List.getElem_toArray, List.getElem_cons_zero, List.getElem_cons_succ, List.setIfInBounds_toArray, List.set_cons_zero, List.set_cons_succ]
        refine Still.takeBy (i := 5) [] (v := ?v5) (by kernel_rfl) (by kernel_rfl) rfl (by kernel_rfl) (by kernel_rfl) (by kernel_rfl) (fun _ _ _ h => h) (Or.inl ⟨by rfl, ?y5⟩) hHeld ?r5
        case y5 => (intro w' hSw; (try dsimp only at hSw); go_simp; try with_reducible rfl)
        simp only [Act.put, List.getElem_toArray, List.getElem_cons_zero, List.getElem_cons_succ, List.setIfInBounds_toArray, List.set_cons_zero, List.set_cons_succ]
        refine Still.takeBy (i := 6) [] (v := ?v6) (by kernel_rfl) (by kernel_rfl) rfl (by kernel_rfl) (by kernel_rfl) (by kernel_rfl) (fun _ _ _ h => h) (Or.inl ⟨by rfl, ?y6⟩) hHeld ?r6
        case y6 => (intro w' hSw; (try dsimp only at hSw); go_simp; try with_reducible rfl)
        simp only [Act.put, List.getElem_toArray, List.getElem_cons_zero, List.getElem_cons_succ, List.setIfInBounds_toArray, List.set_cons_zero, List.set_cons_succ]
        refine Still.takeBy (i := 7) [] (v := ?v7) (by kernel_rfl) (by kernel_rfl) rfl (by kernel_rfl) (by kernel_rfl) (by kernel_rfl) (fun _ _ _ h => h) (Or.inl ⟨by rfl, ?y7⟩) hHeld ?r7
        case y7 => (intro w' hSw; (try dsimp only at hSw); go_simp; try with_reducible rfl)
        simp only [Act.put, List.getElem_toArray, List.getElem_cons_zero, List.getElem_cons_succ, List.setIfInBounds_toArray, List.set_cons_zero, List.set_cons_succ]
        refine Still.takeBy (i := 8) [] (v := ?v8) (by kernel_rfl) (by kernel_rfl) rfl (by kernel_rfl) (by kernel_rfl) (by kernel_rfl) (fun _ _ _ h => h) (Or.inl ⟨by rfl, ?y8⟩) hHeld ?r8
        case y8 => (intro w' hSw; (try dsimp only at hSw); go_simp; try with_reducible rfl)
        simp only [Act.put, List.getElem_toArray, List.getElem_cons_zero, List.getElem_cons_succ, List.setIfInBounds_toArray, List.set_cons_zero, List.set_cons_succ]
        refine Still.all (rs := [4]) (by kernel_rfl) (by simp) (Still.one (i := 4) rfl rfl (fun K hK => ?_) (by simp))
        refine wp_call 22 _ _ rfl ent_chooseV #[.int .i64 a, .int .i64 (S.parts.length : Int)] (by first | rfl | simp [Act.eval, Act.put]) ((chooseV_any a HA.out S.parts.length h1 (by omega) _).mono ?_)
        rintro e V' ⟨u, rfl, hu, rfl⟩
        refine ⟨_, rfl, hK _ _ (fun _ => hHeld) (fun hh => ?_)⟩
        clear hK K hh
        try simp only [Act.put, List.getElem_toArray, List.getElem_cons_zero, List.getElem_cons_succ, List.setIfInBounds_toArray, List.set_cons_zero, List.set_cons_succ]
        refine Still.all (rs := [9]) (by kernel_rfl) (by simp) (Still.one (i := 9) rfl rfl (fun K hK => ?_) (by simp))
        refine wp_call 22 _ _ rfl ent_chooseV #[.int .i64 b, .int .i64 (S.parts.length : Int)] (by first | rfl | simp [Act.eval, Act.put]) ((chooseV_any b HBB.out S.parts.length h1 (by omega) _).mono ?_)
        rintro e V' ⟨v, rfl, hv, rfl⟩
        refine ⟨_, rfl, hK _ _ (fun _ => hHeld) (fun hh => ?_)⟩
        clear hK K hh
        try simp only [Act.put, List.getElem_toArray, List.getElem_cons_zero, List.getElem_cons_succ, List.setIfInBounds_toArray, List.set_cons_zero, List.set_cons_succ]
        refine Still.takeBy (i := 10) [] (v := ?v9) (by kernel_rfl) (by kernel_rfl) rfl (by kernel_rfl) (by kernel_rfl) (by kernel_rfl) (fun _ _ _ h => h) (Or.inl ⟨by rfl, ?y9⟩) hHeld ?r9
        case y9 => (intro w' hSw; (try dsimp only at hSw); go_simp; try with_reducible rfl)
        simp only [Act.put, List.getElem_toArray, List.getElem_cons_zero, List.getElem_cons_succ, List.setIfInBounds_toArray, List.set_cons_zero, List.set_cons_succ]
        refine Still.all (rs := [11]) (by kernel_rfl) (by simp) (Still.one (i := 11) rfl rfl (fun K hK => ?_) (by simp))
        go_simp
        refine hK _ _ (fun h => absurd rfl h) (fun _ => ?_)
        clear hK K
        refine Still.over (by kernel_rfl) ?_ _
        clear hHeld
        have bw : Below w1.heap.size w1 w1.drew := (Below.refl _ _).drew
        have HM' := Lib.hid (HM.out.up bw)
        clear HM s0 s1 s2
        have HM := HM'
        clear HM'
        have R0' := Lib.hid (R0.out.up bw R0.out.lt)
        have R9' := Lib.hid (R9.out.up bw R9.out.lt)
        have HB' := Lib.hid (HB.out.trans (bw.mono HB.out.size))
        clear bw HB R0 R9
        have R0 := R0'
        clear R0'
        have R9 := R9'
        clear R9'
        have HB := HB'
        clear HB'
        obtain ⟨mb, mo, mcap, e1, hmc, hmb, hrows⟩ := HM.out.rowV h1 h1
        cases e1
        obtain ⟨vb, vo, vc', mv, gv, hvb, rv⟩ := hrows v hv
        have hui : (u : Int) < S.parts.length := by omega
        have hvi : (v : Int) < S.parts.length := by omega
        have hss : ((S.parts.length : Int) == (S.parts.length : Int)) = true := by simp
        obtain ⟨e0, he0⟩ : ∃ e0, otherE S (v : Int) p = e0 := ⟨_, rfl⟩
        obtain ⟨Z, hZ⟩ : ∃ Z, otherR S (v : Int) p = Z := ⟨_, rfl⟩
        have HOT := Lib.hid fun w he hS hp => other_any S (v : Int) p (.slice pa S.parts.length pc) (.slice ka S.chans.length kc) (.slice sa S.slots.length sc) (.slice qa p.code.length qc) (.slice ia p.inn.length ic) w he hS hp e0 he0 Z hZ
        have HE0 := Lib.hid he0
        have HZ := Lib.hid hZ
        clear he0 hZ hrows rv
        have s0 := R0.out.cell (j := 0) (v := .slice pa S.parts.length pc) rfl
        have s1 := R0.out.cell (j := 1) (v := .slice ka S.chans.length kc) rfl
        have s2 := R0.out.cell (j := 2) (v := .slice sa S.slots.length sc) rfl
        have p0 := R9.out.cell (j := 0) (v := .slice qa p.code.length qc) rfl
        have p1 := R9.out.cell (j := 1) (v := .slice ia p.inn.length ic) rfl
        go_wp2_with fail
        refine (HOT.out _ (HE.out.up HB.out) (HS.out.up HB.out) (HP.out.up HB.out)).mono ?_
        rintro e w3 ⟨yp, yk, ys, rfl, hN', b3⟩
        have hN := hN'.sys
        obtain ⟨ya, yc, rfl⟩ := hN.p.form
        obtain ⟨xa, xc, rfl⟩ := hN.c.form
        obtain ⟨za, zc, rfl⟩ := hN.s.form
        have HN := Lib.hid hN'
        clear hN hN' s0 s1 s2 p0 p1 mv R9
        have HM' := Lib.hid (HM.out.up b3)
        have R0' := Lib.hid (R0.out.up b3 R0.out.lt)
        have HB' := Lib.hid (HB.out.trans (b3.mono HB.out.size))
        clear b3 HB HM R0
        have HM := HM'
        clear HM'
        have R0 := R0'
        clear R0'
        have HB := HB'
        clear HB'
        go_wp2_with (refine wpList_store_rowW rfl 26 (.tmp 15) (.tmp 74) rfl w3.heap.size #[.slice ya Z.parts.length yc, .slice xa Z.chans.length xc, .slice za Z.slots.length zc] rfl rfl 26 #[.slice none 0 0, .slice none 0 0, .slice none 0 0] (by repeat (first | exact Rw.new _ _ _ (by first | rfl | (simp; done) | omega | (simp; omega)) | refine Rw.alloc ?_ _)) sizeSys rfl (by simp [Value.oneCell']) ?_)
        intro W4 HW4
        have b4 : Below w3.heap.size w3 W4 := by rw [HW4.out]; exact below_row ((Below.refl _ _).alloc (Nat.le_refl _) _) (Nat.le_refl _) _
        have R7 : Hid (Rw W4 w3.heap.size 26 #[.slice ya Z.parts.length yc, .slice xa Z.chans.length xc, .slice za Z.slots.length zc]) := by
          show Rw _ _ _ _
          rw [HW4.out]
          exact Rw.row (cs := #[.slice none 0 0, .slice none 0 0, .slice none 0 0]) (by repeat (first | exact Rw.new _ _ _ (by first | rfl | (simp; done) | omega | (simp; omega)) | refine Rw.alloc ?_ _)) _
        have NS : Hid (Sys W4 (.slice ya Z.parts.length yc) (.slice xa Z.chans.length xc) (.slice za Z.slots.length zc) Z) := by
          show Sys _ _ _ _ _
          rw [HW4.out]
          exact (HN.out.fresh _ _).sys
        clear HW4
        have HM' := Lib.hid (HM.out.up b4)
        have R0' := Lib.hid (R0.out.up b4 R0.out.lt)
        have HB' := Lib.hid (HB.out.trans (b4.mono HB.out.size))
        clear b4 HB HM R0
        have HM := HM'
        clear HM'
        have R0 := R0'
        clear R0'
        have HB := HB'
        clear HB'
        clear HN HOT
        obtain ⟨mb2, mo2, mcap2, e1, hmc2, hmb2, hrows⟩ := HM.out.rowV h1 h1
        cases e1
        obtain ⟨vb, vo, vc', mv, gv, hvb, rv⟩ := hrows v hv
        have muv := rv u hu
        clear hrows rv HM
        cases hvu : reachB S v u with
        | true =>
          rw [hvu] at muv
          clear HE0 HZ
          go_wp2_with fail
          refine (viewBegun_any _ (HE.out.up HB.out)).mono ?_
          rintro e f1 ⟨rfl, bb⟩
          have HB' := Lib.hid (HB.out.trans (bb.mono HB.out.size))
          clear bb HB 
          have HB := HB'
          clear HB'
          go_wp2
          go_ret
          exact ⟨rfl, HB.out⟩
        | false =>
          rw [hvu] at muv
          by_cases h5 : e0 = 0
          · subst h5
            obtain ⟨hk', hZ'⟩ := otherE_ok HR.out HE0.out
            have hZ := HZ.out
            rw [hZ'] at hZ
            obtain ⟨e1, e2, e3, e4, e5⟩ := view_same (other_alike HR.out hk' hvu) (u := u) (by omega) n (by omega) (by omega)
            rw [hZ] at e2 e4 e5
            obtain ⟨V, hV⟩ : ∃ V, viewR S (runR S n) u = V := ⟨_, rfl⟩
            rw [hV] at e5
            have HSV : Hid (SmallV V) := Lib.hid (hV ▸ small_view S _ _)
            have HSA := Lib.hid fun w he hS => seen_any S u n _ e1 rfl e3 V hV (.slice pa S.parts.length pc) (.slice ka S.chans.length kc) (.slice sa S.slots.length sc) w he hS
            have HSB := Lib.hid fun vp vc vs w he hS => seen_any Z u n _ e2 rfl e4 V e5 vp vc vs w he hS
            clear hZ hZ' hk' e1 e2 e3 e4 e5 hV HE0 HZ hvu
            have s0 := R0.out.cell (j := 0) (v := .slice pa S.parts.length pc) rfl
            have s1 := R0.out.cell (j := 1) (v := .slice ka S.chans.length kc) rfl
            have s2 := R0.out.cell (j := 2) (v := .slice sa S.slots.length sc) rfl
            go_wp2_with fail
            refine (HSA.out _ (HE.out.up HB.out) (HS.out.up HB.out)).mono ?_
            rintro e wa ⟨o, vl, rfl, hVa, ba⟩
            obtain ⟨oa, oc, rfl⟩ := hVa.so.form
            obtain ⟨ma, mc, rfl⟩ := hVa.l.form
            have HVa := Lib.hid (hVa.low (Nat.zero_le _))
            clear hVa s0 s1 s2
            have NS' := Lib.hid (NS.out.up ba)
            have R0' := Lib.hid (R0.out.up ba R0.out.lt)
            have R7' := Lib.hid (R7.out.up ba R7.out.lt)
            have HB' := Lib.hid (HB.out.trans (ba.mono HB.out.size))
            clear ba HB NS R0 R7
            have NS := NS'
            clear NS'
            have R0 := R0'
            clear R0'
            have R7 := R7'
            clear R7'
            have HB := HB'
            clear HB'
            go_wp2_with (refine wpList_store_rowW rfl 37 (.tmp 17) (.tmp 93) rfl wa.heap.size (vwC V.d.c (.slice oa V.d.out.length oc) (.slice ma V.ls.length mc)) rfl rfl 37 (vwC celZ (.slice none 0 0) (.slice none 0 0)) (by repeat (first | exact Rw.new _ _ _ (by first | rfl | (simp; done) | omega | (simp; omega)) | refine Rw.alloc ?_ _)) sizeView rfl (vwC_one _ _ _ rfl rfl) ?_)
            intro Wb HWb
            have bc : Below wa.heap.size wa Wb := by rw [HWb.out]; exact below_row ((Below.refl _ _).alloc (Nat.le_refl _) _) (Nat.le_refl _) _
            have RA : Hid (Rw Wb wa.heap.size 37 (vwC V.d.c (.slice oa V.d.out.length oc) (.slice ma V.ls.length mc))) := by
              show Rw _ _ _ _
              rw [HWb.out]
              exact Rw.row (cs := (vwC celZ (.slice none 0 0) (.slice none 0 0))) (by repeat (first | exact Rw.new _ _ _ (by first | rfl | (simp; done) | omega | (simp; omega)) | refine Rw.alloc ?_ _)) _
            have VA : Hid (VwR 0 Wb (.slice oa V.d.out.length oc) (.slice ma V.ls.length mc) V) := by
              show VwR _ _ _ _ _
              rw [HWb.out]
              exact HVa.out.fresh _ _
            clear HWb
            have NS' := Lib.hid (NS.out.up bc)
            have R0' := Lib.hid (R0.out.up bc R0.out.lt)
            have R7' := Lib.hid (R7.out.up bc R7.out.lt)
            have HB' := Lib.hid (HB.out.trans (bc.mono HB.out.size))
            clear bc HB NS R0 R7
            have NS := NS'
            clear NS'
            have R0 := R0'
            clear R0'
            have R7 := R7'
            clear R7'
            have HB := HB'
            clear HB'
            clear HVa
            have z0 := R7.out.cell (j := 0) (v := .slice ya Z.parts.length yc) rfl
            have z1 := R7.out.cell (j := 1) (v := .slice xa Z.chans.length xc) rfl
            have z2 := R7.out.cell (j := 2) (v := .slice za Z.slots.length zc) rfl
            go_wp2_with fail
            refine (HSB.out _ _ _ _ (HE.out.up HB.out) NS.out).mono ?_
            rintro e wd ⟨o2, vl2, rfl, hVd, bd⟩
            obtain ⟨ra, rc, rfl⟩ := hVd.so.form
            obtain ⟨na, nc, rfl⟩ := hVd.l.form
            have HVd := Lib.hid (hVd.low (Nat.zero_le _))
            clear hVd z0 z1 z2 NS R0 R7
            have VA' := Lib.hid (VA.out.up bd)
            have RA' := Lib.hid (RA.out.up bd RA.out.lt)
            have HB' := Lib.hid (HB.out.trans (bd.mono HB.out.size))
            clear bd HB VA RA
            have VA := VA'
            clear VA'
            have RA := RA'
            clear RA'
            have HB := HB'
            clear HB'
            go_wp2_with (refine wpList_store_rowW rfl 37 (.tmp 19) (.tmp 100) rfl wd.heap.size (vwC V.d.c (.slice ra V.d.out.length rc) (.slice na V.ls.length nc)) rfl rfl 37 (vwC celZ (.slice none 0 0) (.slice none 0 0)) (by repeat (first | exact Rw.new _ _ _ (by first | rfl | (simp; done) | omega | (simp; omega)) | refine Rw.alloc ?_ _)) sizeView rfl (vwC_one _ _ _ rfl rfl) ?_)
            intro We HWe
            have be : Below wd.heap.size wd We := by rw [HWe.out]; exact below_row ((Below.refl _ _).alloc (Nat.le_refl _) _) (Nat.le_refl _) _
            have RB : Hid (Rw We wd.heap.size 37 (vwC V.d.c (.slice ra V.d.out.length rc) (.slice na V.ls.length nc))) := by
              show Rw _ _ _ _
              rw [HWe.out]
              exact Rw.row (cs := (vwC celZ (.slice none 0 0) (.slice none 0 0))) (by repeat (first | exact Rw.new _ _ _ (by first | rfl | (simp; done) | omega | (simp; omega)) | refine Rw.alloc ?_ _)) _
            have VB : Hid (VwR 0 We (.slice ra V.d.out.length rc) (.slice na V.ls.length nc) V) := by
              show VwR _ _ _ _ _
              rw [HWe.out]
              exact HVd.out.fresh _ _
            clear HWe
            have VA' := Lib.hid (VA.out.up be)
            have RA' := Lib.hid (RA.out.up be RA.out.lt)
            have HB' := Lib.hid (HB.out.trans (be.mono HB.out.size))
            clear be HB VA RA
            have VA := VA'
            clear VA'
            have RA := RA'
            clear RA'
            have HB := HB'
            clear HB'
            clear HVd
            go_wp2_with fail
            refine (viewBegun_any _ (HE.out.up HB.out)).mono ?_
            rintro e f1 ⟨rfl, bb⟩
            have VA' := Lib.hid (VA.out.up bb)
            have VB' := Lib.hid (VB.out.up bb)
            have RA' := Lib.hid (RA.out.up bb RA.out.lt)
            have RB' := Lib.hid (RB.out.up bb RB.out.lt)
            have HB' := Lib.hid (HB.out.trans (bb.mono HB.out.size))
            clear bb HB VA VB RA RB
            have VA := VA'
            clear VA'
            have VB := VB'
            clear VB'
            have RA := RA'
            clear RA'
            have RB := RB'
            clear RB'
            have HB := HB'
            clear HB'
            go_wp2_with (first | (refine loadRowG rfl 37 (.tmp 17) rfl wa.heap.size rfl 37 _ (0, 0) _ RA.out Tryz.underlying37 rfl sizeView ?_) | (refine loadRowG rfl 37 (.tmp 19) rfl wd.heap.size rfl 37 _ (0, 0) _ RB.out Tryz.underlying37 rfl sizeView ?_))
            refine (sameViews_yes V HSV.out.o HSV.out.l HSV.out.n _ _ _ _ _ _ _ VA.out VB.out).mono ?_
            rintro e f2 ⟨rfl, bb⟩
            have HB' := Lib.hid (HB.out.trans (bb.mono HB.out.size))
            clear bb HB 
            have HB := HB'
            clear HB'
            go_wp2
            go_ret
            exact ⟨rfl, HB.out⟩
          · clear HE0 HZ hvu
            go_wp2_with fail
            refine (viewBegun_any _ (HE.out.up HB.out)).mono ?_
            rintro e f1 ⟨rfl, bb⟩
            have HB' := Lib.hid (HB.out.trans (bb.mono HB.out.size))
            clear bb HB 
            have HB := HB'
            clear HB'
            go_wp2
            go_ret
            exact ⟨rfl, HB.out⟩
  · clear HM
    go_wp2_with fail
    refine (viewBegun_any _ (HE.out.up HB.out)).mono ?_
    rintro e f1 ⟨rfl, bb⟩
    have HB' := Lib.hid (HB.out.trans (bb.mono HB.out.size))
    clear bb HB 
    have HB := HB'
    clear HB'
    go_wp2
    go_ret
    exact ⟨rfl, HB.out⟩
end Go.Proofs.YtehhhiodfcdnmaaGreatDoor

namespace Go.Proofs.YtehhhiodfcdnmaaGreatDoor
set_option linter.unusedSimpArgs false
set_option linter.unusedVariables false
open Go.ChangeShapes Go.WideShapes Go.ChangeAt Go.RowKit Go.Joins Go.Deep
theorem at_one {cs : List Value} {o : Nat} {v : Value} (h : (cs.drop o).take 1 = [v]) : cs[o]? = some v := by
  have := congrArg (·[0]?) h
  simpa [List.getElem?_take, List.getElem?_drop] using this
theorem at_arr {cs : List Value} {a m i : Nat} {v : Value} (h : (((cs.drop a).take m).drop i).take 1 = [v]) (hi : i < m) : cs[a + i]? = some v := by
  have := at_one h
  rw [List.getElem?_take, if_pos hi, List.getElem?_drop] at this
  exact this
theorem cellsRegs : Tryz.prog.cellsOf 31 = 4 := by kernel_rfl
theorem cellsMem : Tryz.prog.cellsOf 32 = 8 := by kernel_rfl
theorem arr_of {H : Type} {enc : TypeId × Value → H} {W : World} {base : Nat} {sp : Nat → Bool} {held : Bool} {fuel : Nat} {cs : List Value} {a m : Nat} {t : TypeId} {x : DataW H × List MemPlace} (ht : Tryz.prog.underlying t = some (.array m 3))
    (hf : DataW.trod enc Tryz.prog W base sp held fuel t ((cs.drop a).take m) = some x) : ∀ i, i < m → ∃ n : Int, cs[a + i]? = some (.int .i64 n) ∧ in64 n := by
  obtain ⟨xs, k, _, _, _, hlen, h⟩ := DataW.trod_array ht hf
  intro i hi
  have h1 := h i hi
  rw [cellsInt, Nat.mul_one] at h1
  cases hy : xs[i]? with
  | none => rw [List.getElem?_eq_none_iff] at hy; omega
  | some y =>
    rw [hy] at h1
    obtain ⟨n, e, -, w0⟩ := DataW.trod_int Tryz.underlying3 h1
    exact ⟨n, at_arr e hi, in64_of w0⟩
theorem list16 {cs : List Value} {a0 a1 a2 a3 a4 a5 a6 a7 a8 a9 a10 a11 a12 a13 a14 a15 : Value} (hl : cs.length = 16) (h0 : cs[0]? = some a0) (h1 : cs[1]? = some a1) (h2 : cs[2]? = some a2) (h3 : cs[3]? = some a3) (h4 : cs[4]? = some a4) (h5 : cs[5]? = some a5) (h6 : cs[6]? = some a6) (h7 : cs[7]? = some a7)
    (h8 : cs[8]? = some a8) (h9 : cs[9]? = some a9) (h10 : cs[10]? = some a10) (h11 : cs[11]? = some a11) (h12 : cs[12]? = some a12) (h13 : cs[13]? = some a13) (h14 : cs[14]? = some a14) (h15 : cs[15]? = some a15) : cs = [a0, a1, a2, a3, a4, a5, a6, a7, a8, a9, a10, a11, a12, a13, a14, a15] := by
  match cs, hl with
  | [b0, b1, b2, b3, b4, b5, b6, b7, b8, b9, b10, b11, b12, b13, b14, b15], _ =>
    simp at h0 h1 h2 h3 h4 h5 h6 h7 h8 h9 h10 h11 h12 h13 h14 h15
    simp [h0, h1, h2, h3, h4, h5, h6, h7, h8, h9, h10, h11, h12, h13, h14, h15]
set_option maxRecDepth 100000 in
theorem cell_of {H : Type} {enc : TypeId × Value → H} {W : World} {base : Nat} {sp : Nat → Bool} {held : Bool} {fuel : Nat} {cs : List Value} {x : DataW H × List MemPlace} (hl : cs.length = 16) (hf : DataW.trod enc Tryz.prog W base sp held fuel 35 cs = some x) :
    ∃ (c : Cel) (o : Value) (xs : List Int), cs = (c.cs o).toList ∧ Sl W 1 o xs.length (ints xs) := by
  obtain ⟨ys, n, _, _, _, hlen, h⟩ := DataW.trod_struct Tryz.underlying35 hf
  have f0 := h 0 _ rfl
  have f1 := h 1 _ rfl
  have f2 := h 2 _ rfl
  have f3 := h 3 _ rfl
  have f4 := h 4 _ rfl
  have f5 := h 5 _ rfl
  match ys, hlen with
  | [y0, y1, y2, y3, y4, y5], _ =>
    obtain ⟨at_, e0, -, -⟩ := DataW.trod_int Tryz.underlying3 f0
    obtain ⟨rd, e3, -, -⟩ := DataW.trod_int Tryz.underlying3 f3
    obtain ⟨en, e5, -, -⟩ := DataW.trod_int Tryz.underlying3 f5
    change (cs.drop 0).take (Tryz.prog.cellsOf 3) = _ at e0
    change (cs.drop 13).take (Tryz.prog.cellsOf 3) = _ at e3
    change (cs.drop 15).take (Tryz.prog.cellsOf 3) = _ at e5
    change DataW.trod enc Tryz.prog W base sp held n 31 ((cs.drop 1).take (Tryz.prog.cellsOf 31)) = some y1 at f1
    change DataW.trod enc Tryz.prog W base sp held n 32 ((cs.drop 5).take (Tryz.prog.cellsOf 32)) = some y2 at f2
    change DataW.trod enc Tryz.prog W base sp held n 33 ((cs.drop 14).take (Tryz.prog.cellsOf 33)) = some y4 at f4
    rw [cellsInt] at e0 e3 e5
    rw [cellsRegs] at f1
    rw [cellsMem] at f2
    rw [cellsInts] at f4
    obtain ⟨o, ho⟩ : ∃ o, cs[14]? = some o := ⟨cs[14], List.getElem?_eq_getElem (by omega)⟩
    have ho4 : (cs.drop 14).take 1 = [o] := by
      rw [List.take_one, List.head?_drop, ho]
      rfl
    rw [ho4] at f4
    obtain ⟨xs, hS, -⟩ := ints_of f4
    have R := arr_of Tryz.underlying31 f1
    have M := arr_of Tryz.underlying32 f2
    obtain ⟨r0, hr0, -⟩ := R 0 (by decide)
    obtain ⟨r1, hr1, -⟩ := R 1 (by decide)
    obtain ⟨r2, hr2, -⟩ := R 2 (by decide)
    obtain ⟨r3, hr3, -⟩ := R 3 (by decide)
    obtain ⟨m0, hm0, -⟩ := M 0 (by decide)
    obtain ⟨m1, hm1, -⟩ := M 1 (by decide)
    obtain ⟨m2, hm2, -⟩ := M 2 (by decide)
    obtain ⟨m3, hm3, -⟩ := M 3 (by decide)
    obtain ⟨m4, hm4, -⟩ := M 4 (by decide)
    obtain ⟨m5, hm5, -⟩ := M 5 (by decide)
    obtain ⟨m6, hm6, -⟩ := M 6 (by decide)
    obtain ⟨m7, hm7, -⟩ := M 7 (by decide)
    exact ⟨⟨at_, r0, r1, r2, r3, m0, m1, m2, m3, m4, m5, m6, m7, rd, en⟩, o, xs, list16 hl (at_one e0) hr0 hr1 hr2 hr3 hm0 hm1 hm2 hm3 hm4 hm5 hm6 hm7 (at_one e3) ho (at_one e5), hS⟩
set_option maxRecDepth 100000 in
theorem open_part {H : Type} {enc : TypeId × Value → H} {W : World} {r : Reach} {b0 base : Nat} {sp : Nat → Bool} {held : Bool} {v : Value} {d : DataW H} {p : List MemPlace} (hv : Value.okWide Tryz.prog W r b0 49 v) (h : DataW.Trod enc Tryz.prog W base sp held 49 v d p) :
    ∃ (cv iv : Value) (l : List Ins) (inn : List Int), v = partV cv iv ∧ Sl W 4 cv l.length (codeC l) ∧ Sl W 1 iv inn.length (ints inn) ∧ ∀ j (hj : j < l.length), l[j].ok := by
  obtain ⟨c0, c1, y0, y1, m, rfl, rfl, rfl, h0, h1⟩ := open_agg2 Tryz.underlying49 (by kernel_rfl) (by kernel_rfl) hv h
  obtain ⟨l, hl, hlo⟩ := code_of h0
  obtain ⟨inn, hi, -⟩ := ints_of h1
  exact ⟨c0, c1, l, inn, rfl, hl, hi, hlo⟩
end Go.Proofs.YtehhhiodfcdnmaaGreatDoor

namespace Go.Proofs.YtehhhiodfcdnmaaGreatDoor
set_option linter.unusedSimpArgs false
set_option linter.unusedVariables false
open Go.ChangeShapes Go.WideShapes Go.ChangeAt Go.RowKit Go.Joins Go.Deep
instance : Inhabited Cel := ⟨celZ⟩
set_option maxRecDepth 100000 in
theorem cells_of {H : Type} {enc : TypeId × Value → H} {W : World} {base : Nat} {sp : Nat → Bool} {held : Bool} {v : Value} {fuel : Nat} {x : DataW H × List MemPlace} (hf : DataW.trod enc Tryz.prog W base sp held fuel 27 [v] = some x) :
    ∃ ds : List CelD, CellsR W v ds := by
  obtain ⟨l, h1, h2⟩ := sl_of (size := 16) (α := Cel × Value) celC (fun q => ∃ xs : List Int, Sl W 1 q.2 xs.length (ints xs)) Tryz.underlying27 (by kernel_rfl) (by decide) celC_len (fun n cs y hl h => by
    obtain ⟨c, o, xs, e, hS⟩ := cell_of hl h
    exact ⟨(c, o), e, xs, hS⟩) hf
  obtain ⟨g, hg⟩ := choose_lt (n := l.length) (p := fun j (xs : List Int) => ∀ hj : j < l.length, Sl W 1 l[j].2 xs.length (ints xs)) (fun j hj => by
    obtain ⟨p, hp⟩ := h2 j hj
    exact ⟨p, fun _ => hp⟩)
  have hlen : ((List.range l.length).map fun j => (⟨(l.getD j (celZ, .slice none 0 0)).1, g j⟩ : CelD)).length = l.length := by simp
  refine ⟨(List.range l.length).map fun j => ⟨(l.getD j (celZ, .slice none 0 0)).1, g j⟩, l, hlen.symm, by rw [hlen]; exact h1, fun k hk hk' => ?_⟩
  have := hg k hk' hk'
  simp [List.getD, hk']
  exact this
set_option maxRecDepth 100000 in
theorem lines_of {H : Type} {enc : TypeId × Value → H} {W : World} {base : Nat} {sp : Nat → Bool} {held : Bool} {v : Value} {fuel : Nat} {x : DataW H × List MemPlace} (hf : DataW.trod enc Tryz.prog W base sp held fuel 28 [v] = some x) :
    ∃ ls : List (List Int), LinesR W v ls := by
  obtain ⟨l, h1, h2⟩ := sl_of (size := 1) (α := Value) (fun v => [v]) (fun q => ∃ xs : List Int, Sl W 1 q xs.length (ints xs)) Tryz.underlying28 (by kernel_rfl) (by decide) (fun _ => rfl) (fun n cs y hl h => by
    obtain ⟨ys, m, _, _, _, hlen, h⟩ := DataW.trod_struct Tryz.underlying81 h
    have f0 := h 0 _ rfl
    match cs, hl, ys, hlen with
    | [v0], _, [y0], _ =>
      obtain ⟨xs, hS, -⟩ := ints_of f0
      exact ⟨v0, rfl, xs, hS⟩) hf
  have hrow : ∀ l : List Value, rowC (fun v => [v]) l = l := fun l => by
    induction l with
    | nil => rfl
    | cons a r ih => simp [rowC, ih]
  rw [hrow] at h1
  obtain ⟨g, hg⟩ := choose_lt (n := l.length) (p := fun j (xs : List Int) => ∀ hj : j < l.length, Sl W 1 l[j] xs.length (ints xs)) (fun j hj => by
    obtain ⟨p, hp⟩ := h2 j hj
    exact ⟨p, fun _ => hp⟩)
  refine ⟨(List.range l.length).map g, l, by simp, by simpa using h1, fun k hk hk' => ?_⟩
  have := hg k hk' hk'
  simpa using this
set_option maxRecDepth 100000 in
theorem open_world {H : Type} {enc : TypeId × Value → H} {W : World} {r : Reach} {b0 base : Nat} {sp : Nat → Bool} {held : Bool} {v : Value} {d : DataW H} {p : List MemPlace} (hv : Value.okWide Tryz.prog W r b0 30 v) (h : DataW.Trod enc Tryz.prog W base sp held 30 v d p) :
    ∃ (vc vl : Value) (D : WldD), v = .agg #[.int .i64 D.tick, vc, vl] ∧ Wld W vc vl D ∧ in64 D.tick := by
  obtain ⟨c0, c1, c2, y0, y1, y2, m, rfl, rfl, rfl, h0, h1, h2⟩ := open_agg3 Tryz.underlying30 (by kernel_rfl) (by kernel_rfl) hv h
  obtain ⟨a, e0, -, w0⟩ := DataW.trod_int Tryz.underlying3 h0
  obtain ⟨ds, hd⟩ := cells_of h1
  obtain ⟨ls, hl⟩ := lines_of h2
  simp at e0
  subst e0
  exact ⟨c1, c2, ⟨a, ds, ls⟩, rfl, ⟨hd, hl⟩, in64_of w0⟩
end Go.Proofs.YtehhhiodfcdnmaaGreatDoor
