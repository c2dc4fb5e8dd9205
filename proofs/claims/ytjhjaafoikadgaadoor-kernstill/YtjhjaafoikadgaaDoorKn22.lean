/- KernStill. -/
import Derived.Test.YtjhjaafoikadgaaDoorKn21
namespace Go.Proofs.YtjhjaafoikadgaaDoor
set_option linter.unusedSimpArgs false
set_option linter.unusedVariables false
open Go.RowKit Go.Sort

theorem wpList_load_rowG {P : Program} {ops : Array Oper} {rest : List Oper} {o : Oper} {a : Act} {w : World} {Q : Exit → Act → World → Prop} (hgd : Region.wanted o (yielded ops a.tmps) = true) (ty : TypeId) (x : Operand) (ho : o.op = .load ty x)
    (g : Nat) (hx : a.eval x = .pointer (some ⟨g, 0, none⟩)) (t : TypeId) (cs : Array Value) (fr : Nat × Nat) (d : TypeDesc) (hg : w.heap[g]? = some (.cells cs t fr))
    (hu : P.underlying ty = some d) (hd : (match d with | .struct _ | .array _ _ => true | _ => false) = true) (hi : (P.info? ty).map (·.size) = some cs.size)
    (h : wpList P ops Q rest (a.put o.dst (.agg cs)) w) : wpList P ops Q (o :: rest) a w :=
  BigFrame.wpList_want hgd fun _ hK => wp_load_row ty x ho g hx t cs fr d hg hu hd hi (hK _ _ h)
theorem sizeSysK : (Tryd.prog.info? 26).map (·.size) = some 3 := by kernel_rfl
theorem ent_choose : Enters 20 := enters Tryd.func20 (by kernel_rfl) (by kernel_rfl)
theorem ent_kRun : Enters 18 := enters Tryd.func18 (by kernel_rfl) (by kernel_rfl)
set_option maxRecDepth 100000 in
set_option maxHeartbeats 8000000 in
theorem kernStill_any (S : SysD) (n more part : Int) (hmo : in64 more) (hpt : in64 part) (vp vc vs : Value) (w : World) (he : Env w) (hS : Sys w vp vc vs S) :
    Calls Tryd.prog 8 #[.agg #[vp, vc, vs], .int .i64 n, .int .i64 more, .int .i64 part] w fun e w' => e = .returned (.bool true) ∧ Below w.heap.size w w' := by
  obtain ⟨pa, pc, rfl⟩ := hS.p.form
  obtain ⟨ka, kc, rfl⟩ := hS.c.form
  obtain ⟨sa, sc, rfl⟩ := hS.s.form
  obtain ⟨v0, hv0⟩ : ∃ v0, runE S n = v0 := ⟨_, rfl⟩
  obtain ⟨D0, hD0⟩ : ∃ D', runR S n = D' := ⟨_, rfl⟩
  have HST := Lib.hid fun w he hS => kernRun_any S n (.slice pa S.parts.length pc) (.slice ka S.chans.length kc) (.slice sa S.slots.length sc) w he hS v0 hv0 D0 hD0
  have HV := Lib.hid hv0
  have HDD := Lib.hid hD0
  have HE := Lib.hid he
  have HS := Lib.hid hS
  have HMO := Lib.hid hmo
  have HPT := Lib.hid hpt
  clear he hS hv0 hD0 hmo hpt
  go_enter Tryd.func8, Tryd.ntmps8
  go_wp2_with fail
  refine (HST.out _ (HE.out.up (by repeat (first | exact Below.refl _ _ | assumption | refine Below.drew ?_ | refine Below.alloc ?_ (by first | (simp; done) | (simp; omega)) _ | refine Below.setCell ?_ (by first | (simp; done) | (simp; omega)) _))) (HS.out.up (by repeat (first | exact Below.refl _ _ | assumption | refine Below.drew ?_ | refine Below.alloc ?_ (by first | (simp; done) | (simp; omega)) _ | refine Below.setCell ?_ (by first | (simp; done) | (simp; omega)) _)))).mono ?_
  rintro e w1 ⟨xc, xl, rfl, hN, b1⟩
  obtain ⟨a5, c5, rfl⟩ := hN.wld.c.form
  obtain ⟨a6, c6, rfl⟩ := hN.wld.l.form
  have z1 := b1.size
  simp at z1
  have R0 : Hid (Rw w1 w.heap.size 26 #[.slice pa S.parts.length pc, .slice ka S.chans.length kc, .slice sa S.slots.length sc]) := Rw.up (by repeat (first | exact Rw.new _ _ _ (by first | rfl | (simp; done) | omega | (simp; omega)) | refine Rw.alloc ?_ _)) b1 (by first | omega | (simp; done) | (simp; omega))
  have HB : Hid (Below w.heap.size w w1) := by
    refine Below.trans ?_ (b1.mono (by first | omega | (simp; done) | (simp; omega)))
    exact (by repeat (first | exact Below.refl _ _ | assumption | refine Below.drew ?_ | refine Below.alloc ?_ (by first | (simp; done) | (simp; omega)) _ | refine Below.setCell ?_ (by first | (simp; done) | (simp; omega)) _))
  have HN := Lib.hid hN
  clear b1 HST hN
  go_wp2_with (refine wpList_store_rowW rfl 30 (.tmp 9) (.tmp 20) rfl w1.heap.size #[.int .i64 D0.tick, .slice a5 D0.cells.length c5, .slice a6 D0.lines.length c6] rfl rfl 30 #[.int .i64 0, .slice none 0 0, .slice none 0 0] (by repeat (first | exact Rw.new _ _ _ (by first | rfl | (simp; done) | omega | (simp; omega)) | refine Rw.alloc ?_ _)) sizeWld rfl (world_one _ _ _ _ _ _ _) ?_)
  intro W2 HW2
  have b2 : Below w1.heap.size w1 W2 := by rw [HW2.out]; exact below_row ((Below.refl _ _).alloc (Nat.le_refl _) _) (Nat.le_refl _) _
  have R9 : Hid (Rw W2 w1.heap.size 30 #[.int .i64 D0.tick, .slice a5 D0.cells.length c5, .slice a6 D0.lines.length c6]) := by
    show Rw _ _ _ _
    rw [HW2.out]
    exact Rw.row (cs := #[.int .i64 0, .slice none 0 0, .slice none 0 0]) (by repeat (first | exact Rw.new _ _ _ (by first | rfl | (simp; done) | omega | (simp; omega)) | refine Rw.alloc ?_ _)) _
  have N9 : Hid (Wld W2 (.slice a5 D0.cells.length c5) (.slice a6 D0.lines.length c6) D0) := by
    show Wld _ _ _ _
    rw [HW2.out]
    exact (HN.out.fresh _ _).wld
  have z2 := b2.size
  have HD2 := Lib.hid (HB.out.trans (b2.mono (by omega)))
  have R0 := Lib.hid (R0.out.up b2 (by omega))
  clear HW2 b2 HN HB
  have s0 := R0.out.cell (j := 0) (v := .slice pa S.parts.length pc) rfl
  by_cases h0 : v0 = 0
  · subst h0
    obtain ⟨hk, hn0, hn1⟩ := runE_zero HV.out
    obtain ⟨m, rfl⟩ := Int.eq_ofNat_of_zero_le hn0
    have hz : runN S m (beginC S) = D0 := by rw [← HDD.out, runR, if_pos HV.out, Int.toNat_natCast]
    have HZ := Lib.hid hz
    obtain ⟨hrt, htk⟩ := run_more (m := m) hk (by omega)
    rw [hz] at hrt htk
    have hcl := countsS hk
    have hp1 : 1 ≤ S.parts.length := by
      obtain ⟨h1, h2⟩ := who_range hk (tick := 0) (Int.le_refl _)
      omega
    have hcl4 := hcl.1
    have hpe : ((S.parts.length : Int) == 0) = false := beq_eq_false_iff_ne.2 (by omega)
    have hcE := cellsB_len hrt.c
    have HRT := Lib.hid hrt
    have HTK := Lib.hid htk
    have HKS := Lib.hid hk
    clear hz hk HV HDD hrt htk hcl
    go_wp2_with fail
    refine (chooseN_any part HPT.out S.parts.length hp1 (by omega) _).mono ?_
    rintro e w3 ⟨u, rfl, hu, rfl⟩
    have hui : (u : Int) < S.parts.length := by omega
    have h0i : (0 : Int) ≤ u := by omega
    have CH1 : Hid (∀ V, Calls Tryd.prog 20 #[.int .i64 more, .int .i64 (300 - (m : Int) + 1)] V fun e w' => ∃ k : Nat, e = .returned (.int .i64 (k : Int)) ∧ (m : Int) + k ≤ 300 ∧ Below V.heap.size V w') := fun V => by
      have h := chooseN_any more HMO.out (301 - m) (by omega) (by omega) V
      rw [show ((301 - m : Nat) : Int) = 300 - (m : Int) + 1 by omega] at h
      refine h.mono ?_
      rintro e w' ⟨k, h1, h2, rfl⟩
      exact ⟨k, h1, by omega, Below.refl _ _⟩
    have HRN : Hid (∀ (k : Nat), (m : Int) + k ≤ 300 → ∀ V, Env V → Sys V (.slice pa S.parts.length pc) (.slice ka S.chans.length kc) (.slice sa S.slots.length sc) S → Calls Tryd.prog 18 #[.agg #[.slice pa S.parts.length pc, .slice ka S.chans.length kc, .slice sa S.slots.length sc], .int .i64 ((m : Int) + k)] V fun e w' => ∃ ca cc la lc, e = .returned (.tuple #[.agg #[.int .i64 (runN S k D0).tick, .slice ca S.parts.length cc, .slice la (runN S k D0).lines.length lc], .int .i64 0]) ∧ WldF V.heap.size w' (.slice ca S.parts.length cc) (.slice la (runN S k D0).lines.length lc) (runN S k D0) ∧ Below V.heap.size V w') := fun k hmk V hE hS => by
      have hE2 : runR S ((m : Int) + k) = runN S k D0 := by
        rw [runR, if_pos (runE_right HKS.out (by omega) hmk), show ((m : Int) + k).toNat = m + k by omega, runN_add, HZ.out]
      refine (kernRun_any S ((m : Int) + k) _ _ _ V hE hS 0 (runE_right HKS.out (by omega) hmk) _ hE2).mono ?_
      rintro e w' ⟨xc, xl, rfl, h2, h3⟩
      obtain ⟨ca, cc, rfl⟩ := h2.wld.c.form
      obtain ⟨la, lc, rfl⟩ := h2.wld.l.form
      have hlen := (runN_cells HKS.out k HRT.out (by rw [HTK.out]; exact hmk)).1
      rw [hlen] at h2
      exact ⟨ca, cc, la, lc, by rw [hlen], h2, h3⟩
    clear HMO HPT s0
    go_upto_region 5 with fail
    go_cut [12, 13] from 36 to 47 (fun p12 p13 wd => ∃ (k : Nat) (g : Nat) (ca : Option Addr) (cc : Nat) (la : Option Addr) (lc : Nat), p12 = .pointer (some ⟨g, 0, none⟩) ∧ p13 = .int .i64 0 ∧ (m : Int) + k ≤ 300 ∧ Hid (Below w3.heap.size w3 wd) ∧ Hid (Rw wd g 30 #[.int .i64 (runN S k D0).tick, .slice ca S.parts.length cc, .slice la (runN S k D0).lines.length lc]) ∧ Hid (Wld wd (.slice ca S.parts.length cc) (.slice la (runN S k D0).lines.length lc) (runN S k D0)))
    case first =>
      have zdw := HD2.out.size
      have HW1 : Hid (IntKind.i64.wrap (300 - (m : Int)) = 300 - (m : Int)) := by show _ = _; rw [IntKind.wrap_i64]; omega
      have HW2 : Hid (IntKind.i64.wrap (300 - (m : Int) + 1) = 300 - (m : Int) + 1) := by show _ = _; rw [IntKind.wrap_i64]; omega
      refine region_still (S := fun w' => Below w3.heap.size w3 w') 14 (by kernel_rfl) (Below.refl _ _).drew (fun hHeld => ?_)
      refine Still.takeBy (i := 0) [] (by kernel_rfl) (by kernel_rfl) rfl (by kernel_rfl) (by kernel_rfl) (by kernel_rfl) (fun _ _ _ h => h) (yields_load rfl _ _ rfl _ (by first | rfl | simp [Act.eval, Act.put]) _ (fun w' hSw => Rw.loadAt (R0.out.up hSw R0.out.lt) Tryd.underlying26 rfl sizeSysK)) hHeld ?r151
      simp only [Act.put, List.getElem_toArray, List.getElem_cons_zero, List.getElem_cons_succ, List.setIfInBounds_toArray, List.set_cons_zero, List.set_cons_succ]
      refine Still.takeBy (i := 1) [] (v := ?v152) (by kernel_rfl) (by kernel_rfl) rfl (by kernel_rfl) (by kernel_rfl) (by kernel_rfl) (fun _ _ _ h => h) (Or.inl ⟨by rfl, ?y152⟩) hHeld ?r152
      case y152 => (intro w' hSw; (try dsimp only at hSw); go_simp; try with_reducible rfl)
      simp only [Act.put, List.getElem_toArray, List.getElem_cons_zero, List.getElem_cons_succ, List.setIfInBounds_toArray, List.set_cons_zero, List.set_cons_succ]
      refine Still.takeBy (i := 2) [] (v := ?v153) (by kernel_rfl) (by kernel_rfl) rfl (by kernel_rfl) (by kernel_rfl) (by kernel_rfl) (fun _ _ _ h => h) (Or.inl ⟨by rfl, ?y153⟩) hHeld ?r153
      case y153 => (intro w' hSw; (try dsimp only at hSw); go_simp; try with_reducible rfl)
      simp only [Act.put, List.getElem_toArray, List.getElem_cons_zero, List.getElem_cons_succ, List.setIfInBounds_toArray, List.set_cons_zero, List.set_cons_succ]
      refine Still.takeBy (i := 3) [] (v := ?v154) (by kernel_rfl) (by kernel_rfl) rfl (by kernel_rfl) (by kernel_rfl) (by kernel_rfl) (fun _ _ _ h => h) (Or.inl ⟨by rfl, ?y154⟩) hHeld ?r154
      case y154 => (intro w' hSw; (try dsimp only at hSw); go_simp; try with_reducible rfl)
      simp only [Act.put, List.getElem_toArray, List.getElem_cons_zero, List.getElem_cons_succ, List.setIfInBounds_toArray, List.set_cons_zero, List.set_cons_succ]
      refine Still.takeBy (i := 4) [] (v := ?v155) (by kernel_rfl) (by kernel_rfl) rfl (by kernel_rfl) (by kernel_rfl) (by kernel_rfl) (fun _ _ _ h => h) (Or.inl ⟨by rfl, ?y155⟩) hHeld ?r155
      case y155 => (intro w' hSw; (try dsimp only at hSw); go_simp; simp only [HW1.out, HW2.out]; try with_reducible rfl)
      simp only [Act.put, List.getElem_toArray, List.getElem_cons_zero, List.getElem_cons_succ, List.setIfInBounds_toArray, List.set_cons_zero, List.set_cons_succ]
      refine Still.takeBy (i := 5) [] (v := ?v156) (by kernel_rfl) (by kernel_rfl) rfl (by kernel_rfl) (by kernel_rfl) (by kernel_rfl) (fun _ _ _ h => h) (Or.inl ⟨by rfl, ?y156⟩) hHeld ?r156
      case y156 => (intro w' hSw; (try dsimp only at hSw); go_simp; simp only [HW1.out, HW2.out]; try with_reducible rfl)
      simp only [Act.put, List.getElem_toArray, List.getElem_cons_zero, List.getElem_cons_succ, List.setIfInBounds_toArray, List.set_cons_zero, List.set_cons_succ]
      generalize World.drew _ = Y0 at hHeld ⊢
      have H0 := Lib.hid hHeld.size
      refine Still.all (rs := [6, 12]) (by kernel_rfl) (by simp) (Still.one (i := 6) rfl rfl (fun K hK => ?_) (Still.one (i := 12) rfl rfl (fun K hK => ?_) (by simp)))
      · refine wp_call 20 _ _ rfl ent_choose #[.int .i64 more, .int .i64 (300 - (m : Int) + 1)] (by first | rfl | simp [Act.eval, Act.put]) ((CH1.out _).mono ?_)
        rintro e Y1 ⟨k, rfl, hmk, bb⟩
        have z7 := bb.size
        refine ⟨_, rfl, hK _ _ (fun _ => hHeld.trans (bb.mono hHeld.size)) (fun hh => ?_)⟩
        have hHeld := hh (by decide)
        clear hK K hh
        try simp only [Act.put, List.getElem_toArray, List.getElem_cons_zero, List.getElem_cons_succ, List.setIfInBounds_toArray, List.set_cons_zero, List.set_cons_succ]
        clear bb
        have HW3 : Hid (IntKind.i64.wrap ((m : Int) + (k : Int)) = (m : Int) + (k : Int)) := by show _ = _; rw [IntKind.wrap_i64]; omega
        refine Still.takeBy (i := 7) [] (v := ?v401) (by kernel_rfl) (by kernel_rfl) rfl (by kernel_rfl) (by kernel_rfl) (by kernel_rfl) (fun _ _ _ h => h) (Or.inl ⟨by rfl, ?y401⟩) hHeld ?r401
        case y401 => (intro w' hSw; (try dsimp only at hSw); go_simp; simp only [HW3.out]; try with_reducible rfl)
        simp only [Act.put, List.getElem_toArray, List.getElem_cons_zero, List.getElem_cons_succ, List.setIfInBounds_toArray, List.set_cons_zero, List.set_cons_succ]
        have H1 := Lib.hid hHeld.size
        refine Still.all (rs := [8, 12]) (by kernel_rfl) (by simp) (Still.one (i := 8) rfl rfl (fun K hK => ?_) (Still.one (i := 12) rfl rfl (fun K hK => ?_) (by simp)))
        · refine wp_call 18 _ _ rfl ent_kRun #[.agg #[.slice pa S.parts.length pc, .slice ka S.chans.length kc, .slice sa S.slots.length sc], .int .i64 ((m : Int) + k)] (by first | rfl | simp [Act.eval, Act.put]) ((HRN.out k hmk _ (HE.out.up (HD2.out.trans (hHeld.mono zdw))) (HS.out.up (HD2.out.trans (hHeld.mono zdw)))).mono ?_)
          rintro e Y2 ⟨ca, cc, la, lc, rfl, hN, bb⟩
          have z8 := bb.size
          refine ⟨_, rfl, hK _ _ (fun _ => hHeld.trans (bb.mono hHeld.size)) (fun hh => ?_)⟩
          have hHeld := hh (by decide)
          clear hK K hh
          try simp only [Act.put, List.getElem_toArray, List.getElem_cons_zero, List.getElem_cons_succ, List.setIfInBounds_toArray, List.set_cons_zero, List.set_cons_succ]
          have HN := Lib.hid hN
          clear hN bb
          refine Still.takeBy (i := 9) [] (v := ?v411) (by kernel_rfl) (by kernel_rfl) rfl (by kernel_rfl) (by kernel_rfl) (by kernel_rfl) (fun _ _ _ h => h) (Or.inl ⟨by rfl, ?y411⟩) hHeld ?r411
          case y411 => (intro w' hSw; (try dsimp only at hSw); go_simp; try with_reducible rfl)
          simp only [Act.put, List.getElem_toArray, List.getElem_cons_zero, List.getElem_cons_succ, List.setIfInBounds_toArray, List.set_cons_zero, List.set_cons_succ]
          refine Still.takeBy (i := 10) [] (v := ?v412) (by kernel_rfl) (by kernel_rfl) rfl (by kernel_rfl) (by kernel_rfl) (by kernel_rfl) (fun _ _ _ h => h) (Or.inl ⟨by rfl, ?y412⟩) hHeld ?r412
          case y412 => (intro w' hSw; (try dsimp only at hSw); go_simp; try with_reducible rfl)
          simp only [Act.put, List.getElem_toArray, List.getElem_cons_zero, List.getElem_cons_succ, List.setIfInBounds_toArray, List.set_cons_zero, List.set_cons_succ]
          refine Still.takeBy (i := 11) [] (v := ?v413) (by kernel_rfl) (by kernel_rfl) rfl (by kernel_rfl) (by kernel_rfl) (by kernel_rfl) (fun _ _ _ h => h) (Or.inl ⟨by rfl, ?y413⟩) hHeld ?r413
          case y413 => (intro w' hSw; (try dsimp only at hSw); go_simp; try with_reducible rfl)
          simp only [Act.put, List.getElem_toArray, List.getElem_cons_zero, List.getElem_cons_succ, List.setIfInBounds_toArray, List.set_cons_zero, List.set_cons_succ]
          have H2 := Lib.hid hHeld.size
          refine Still.all (rs := [12]) (by kernel_rfl) (by simp) (Still.one (i := 12) rfl rfl (fun K hK => ?_) (by simp))
          go_simp
          refine hK _ _ (fun _ => Below.alloc hHeld hHeld.size _) (fun hh => ?_)
          have hHeld := hh (by decide)
          clear hK K hh
          try simp only [Act.put, List.getElem_toArray, List.getElem_cons_zero, List.getElem_cons_succ, List.setIfInBounds_toArray, List.set_cons_zero, List.set_cons_succ]
          have RA : Hid (Rw (Y2.alloc (.cells #[.int .i64 0, .slice none 0 0, .slice none 0 0] 30)) Y2.heap.size 30 #[.int .i64 0, .slice none 0 0, .slice none 0 0]) := Rw.new _ _ _ rfl
          have hya : w3.heap.size ≤ Y2.heap.size := by have := H2.out; exact this
          have H3 := Lib.hid hHeld.size
          refine Still.all (rs := [13]) (by kernel_rfl) (by simp) (Still.one (i := 13) rfl rfl (fun K hK => ?_) (by simp))
          refine wp_store_row 30 _ _ rfl Y2.heap.size #[.int .i64 (runN S k D0).tick, .slice ca S.parts.length cc, .slice la (runN S k D0).lines.length lc] (by first | rfl | simp [Act.eval, Act.put]) (by first | rfl | simp [Act.eval, Act.put]) 30 #[.int .i64 0, .slice none 0 0, .slice none 0 0] RA.out sizeWld rfl (world_one _ _ _ _ _ _ _) ?_
          refine hK _ _ (fun _ => below_row hHeld (by omega) _) (fun hh => ?_)
          have hHeld := hh (by decide)
          clear hK K hh
          try simp only [Act.put, List.getElem_toArray, List.getElem_cons_zero, List.getElem_cons_succ, List.setIfInBounds_toArray, List.set_cons_zero, List.set_cons_succ]
          refine Still.all (rs := [14]) (by kernel_rfl) (by simp) (Still.one (i := 14) rfl rfl (fun K hK => ?_) (by simp))
          go_simp
          refine hK _ _ (fun h => absurd rfl h) (fun _ => ?_)
          clear hK K
          refine Still.over (by kernel_rfl) ?_ _
          go_wp2
          go_meet
          exact ⟨k, _, ca, cc, la, lc, rfl, rfl, hmk, hHeld, RA.out.row _, (HN.out.fresh _ _).wld⟩
        · go_simp
          refine hK _ _ (fun _ => Below.alloc hHeld hHeld.size _) (fun hh => ?_)
          have hHeld := hh (by decide)
          clear hK K hh
          try simp only [Act.put, List.getElem_toArray, List.getElem_cons_zero, List.getElem_cons_succ, List.setIfInBounds_toArray, List.set_cons_zero, List.set_cons_succ]
          have RA : Hid (Rw (Y1.alloc (.cells #[.int .i64 0, .slice none 0 0, .slice none 0 0] 30)) Y1.heap.size 30 #[.int .i64 0, .slice none 0 0, .slice none 0 0]) := Rw.new _ _ _ rfl
          have hya : w3.heap.size ≤ Y1.heap.size := by have := H1.out; exact this
          generalize hWg : World.alloc _ _ = Y2 at hHeld RA ⊢
          have hlq : Y1.heap.size < Y2.heap.size := RA.out.lt
          clear hWg
          have H2 := Lib.hid hHeld.size
          refine Still.all (rs := [8]) (by kernel_rfl) (by simp) (Still.one (i := 8) rfl rfl (fun K hK => ?_) (by simp))
          refine wp_call 18 _ _ rfl ent_kRun #[.agg #[.slice pa S.parts.length pc, .slice ka S.chans.length kc, .slice sa S.slots.length sc], .int .i64 ((m : Int) + k)] (by first | rfl | simp [Act.eval, Act.put]) ((HRN.out k hmk _ (HE.out.up (HD2.out.trans (hHeld.mono zdw))) (HS.out.up (HD2.out.trans (hHeld.mono zdw)))).mono ?_)
          rintro e Y3 ⟨ca, cc, la, lc, rfl, hN, bb⟩
          have z8 := bb.size
          refine ⟨_, rfl, hK _ _ (fun _ => hHeld.trans (bb.mono hHeld.size)) (fun hh => ?_)⟩
          have hHeld := hh (by decide)
          clear hK K hh
          try simp only [Act.put, List.getElem_toArray, List.getElem_cons_zero, List.getElem_cons_succ, List.setIfInBounds_toArray, List.set_cons_zero, List.set_cons_succ]
          have hla := RA.out.lt
          have ra := RA.out.up bb RA.out.lt
          clear RA
          have RA := Lib.hid ra
          clear ra
          have HN := Lib.hid hN
          clear hN bb
          refine Still.takeBy (i := 9) [] (v := ?v431) (by kernel_rfl) (by kernel_rfl) rfl (by kernel_rfl) (by kernel_rfl) (by kernel_rfl) (fun _ _ _ h => h) (Or.inl ⟨by rfl, ?y431⟩) hHeld ?r431
          case y431 => (intro w' hSw; (try dsimp only at hSw); go_simp; try with_reducible rfl)
          simp only [Act.put, List.getElem_toArray, List.getElem_cons_zero, List.getElem_cons_succ, List.setIfInBounds_toArray, List.set_cons_zero, List.set_cons_succ]
          refine Still.takeBy (i := 10) [] (v := ?v432) (by kernel_rfl) (by kernel_rfl) rfl (by kernel_rfl) (by kernel_rfl) (by kernel_rfl) (fun _ _ _ h => h) (Or.inl ⟨by rfl, ?y432⟩) hHeld ?r432
          case y432 => (intro w' hSw; (try dsimp only at hSw); go_simp; try with_reducible rfl)
          simp only [Act.put, List.getElem_toArray, List.getElem_cons_zero, List.getElem_cons_succ, List.setIfInBounds_toArray, List.set_cons_zero, List.set_cons_succ]
          refine Still.takeBy (i := 11) [] (v := ?v433) (by kernel_rfl) (by kernel_rfl) rfl (by kernel_rfl) (by kernel_rfl) (by kernel_rfl) (fun _ _ _ h => h) (Or.inl ⟨by rfl, ?y433⟩) hHeld ?r433
          case y433 => (intro w' hSw; (try dsimp only at hSw); go_simp; try with_reducible rfl)
          simp only [Act.put, List.getElem_toArray, List.getElem_cons_zero, List.getElem_cons_succ, List.setIfInBounds_toArray, List.set_cons_zero, List.set_cons_succ]
          have H3 := Lib.hid hHeld.size
          refine Still.all (rs := [13]) (by kernel_rfl) (by simp) (Still.one (i := 13) rfl rfl (fun K hK => ?_) (by simp))
          refine wp_store_row 30 _ _ rfl Y1.heap.size #[.int .i64 (runN S k D0).tick, .slice ca S.parts.length cc, .slice la (runN S k D0).lines.length lc] (by first | rfl | simp [Act.eval, Act.put]) (by first | rfl | simp [Act.eval, Act.put]) 30 #[.int .i64 0, .slice none 0 0, .slice none 0 0] RA.out sizeWld rfl (world_one _ _ _ _ _ _ _) ?_
          refine hK _ _ (fun _ => below_row hHeld (by omega) _) (fun hh => ?_)
          have hHeld := hh (by decide)
          clear hK K hh
          try simp only [Act.put, List.getElem_toArray, List.getElem_cons_zero, List.getElem_cons_succ, List.setIfInBounds_toArray, List.set_cons_zero, List.set_cons_succ]
          refine Still.all (rs := [14]) (by kernel_rfl) (by simp) (Still.one (i := 14) rfl rfl (fun K hK => ?_) (by simp))
          go_simp
          refine hK _ _ (fun h => absurd rfl h) (fun _ => ?_)
          clear hK K
          refine Still.over (by kernel_rfl) ?_ _
          go_wp2
          go_meet
          exact ⟨k, _, ca, cc, la, lc, rfl, rfl, hmk, hHeld, RA.out.row _, (HN.out.row (by omega) _).wld⟩
      · go_simp
        refine hK _ _ (fun _ => Below.alloc hHeld hHeld.size _) (fun hh => ?_)
        have hHeld := hh (by decide)
        clear hK K hh
        try simp only [Act.put, List.getElem_toArray, List.getElem_cons_zero, List.getElem_cons_succ, List.setIfInBounds_toArray, List.set_cons_zero, List.set_cons_succ]
        have RA : Hid (Rw (Y0.alloc (.cells #[.int .i64 0, .slice none 0 0, .slice none 0 0] 30)) Y0.heap.size 30 #[.int .i64 0, .slice none 0 0, .slice none 0 0]) := Rw.new _ _ _ rfl
        have hya : w3.heap.size ≤ Y0.heap.size := by have := H0.out; exact this
        generalize hWg : World.alloc _ _ = Y1 at hHeld RA ⊢
        have hlq : Y0.heap.size < Y1.heap.size := RA.out.lt
        clear hWg
        have H1 := Lib.hid hHeld.size
        refine Still.all (rs := [6]) (by kernel_rfl) (by simp) (Still.one (i := 6) rfl rfl (fun K hK => ?_) (by simp))
        refine wp_call 20 _ _ rfl ent_choose #[.int .i64 more, .int .i64 (300 - (m : Int) + 1)] (by first | rfl | simp [Act.eval, Act.put]) ((CH1.out _).mono ?_)
        rintro e Y2 ⟨k, rfl, hmk, bb⟩
        have z7 := bb.size
        refine ⟨_, rfl, hK _ _ (fun _ => hHeld.trans (bb.mono hHeld.size)) (fun hh => ?_)⟩
        have hHeld := hh (by decide)
        clear hK K hh
        try simp only [Act.put, List.getElem_toArray, List.getElem_cons_zero, List.getElem_cons_succ, List.setIfInBounds_toArray, List.set_cons_zero, List.set_cons_succ]
        have ra := RA.out.up bb RA.out.lt
        clear RA
        have RA := Lib.hid ra
        clear ra
        clear bb
        have HW3 : Hid (IntKind.i64.wrap ((m : Int) + (k : Int)) = (m : Int) + (k : Int)) := by show _ = _; rw [IntKind.wrap_i64]; omega
        refine Still.takeBy (i := 7) [] (v := ?v451) (by kernel_rfl) (by kernel_rfl) rfl (by kernel_rfl) (by kernel_rfl) (by kernel_rfl) (fun _ _ _ h => h) (Or.inl ⟨by rfl, ?y451⟩) hHeld ?r451
        case y451 => (intro w' hSw; (try dsimp only at hSw); go_simp; simp only [HW3.out]; try with_reducible rfl)
        simp only [Act.put, List.getElem_toArray, List.getElem_cons_zero, List.getElem_cons_succ, List.setIfInBounds_toArray, List.set_cons_zero, List.set_cons_succ]
        have H2 := Lib.hid hHeld.size
        refine Still.all (rs := [8]) (by kernel_rfl) (by simp) (Still.one (i := 8) rfl rfl (fun K hK => ?_) (by simp))
        refine wp_call 18 _ _ rfl ent_kRun #[.agg #[.slice pa S.parts.length pc, .slice ka S.chans.length kc, .slice sa S.slots.length sc], .int .i64 ((m : Int) + k)] (by first | rfl | simp [Act.eval, Act.put]) ((HRN.out k hmk _ (HE.out.up (HD2.out.trans (hHeld.mono zdw))) (HS.out.up (HD2.out.trans (hHeld.mono zdw)))).mono ?_)
        rintro e Y3 ⟨ca, cc, la, lc, rfl, hN, bb⟩
        have z8 := bb.size
        refine ⟨_, rfl, hK _ _ (fun _ => hHeld.trans (bb.mono hHeld.size)) (fun hh => ?_)⟩
        have hHeld := hh (by decide)
        clear hK K hh
        try simp only [Act.put, List.getElem_toArray, List.getElem_cons_zero, List.getElem_cons_succ, List.setIfInBounds_toArray, List.set_cons_zero, List.set_cons_succ]
        have hla := RA.out.lt
        have ra := RA.out.up bb RA.out.lt
        clear RA
        have RA := Lib.hid ra
        clear ra
        have HN := Lib.hid hN
        clear hN bb
        refine Still.takeBy (i := 9) [] (v := ?v461) (by kernel_rfl) (by kernel_rfl) rfl (by kernel_rfl) (by kernel_rfl) (by kernel_rfl) (fun _ _ _ h => h) (Or.inl ⟨by rfl, ?y461⟩) hHeld ?r461
        case y461 => (intro w' hSw; (try dsimp only at hSw); go_simp; try with_reducible rfl)
        simp only [Act.put, List.getElem_toArray, List.getElem_cons_zero, List.getElem_cons_succ, List.setIfInBounds_toArray, List.set_cons_zero, List.set_cons_succ]
        refine Still.takeBy (i := 10) [] (v := ?v462) (by kernel_rfl) (by kernel_rfl) rfl (by kernel_rfl) (by kernel_rfl) (by kernel_rfl) (fun _ _ _ h => h) (Or.inl ⟨by rfl, ?y462⟩) hHeld ?r462
        case y462 => (intro w' hSw; (try dsimp only at hSw); go_simp; try with_reducible rfl)
        simp only [Act.put, List.getElem_toArray, List.getElem_cons_zero, List.getElem_cons_succ, List.setIfInBounds_toArray, List.set_cons_zero, List.set_cons_succ]
        refine Still.takeBy (i := 11) [] (v := ?v463) (by kernel_rfl) (by kernel_rfl) rfl (by kernel_rfl) (by kernel_rfl) (by kernel_rfl) (fun _ _ _ h => h) (Or.inl ⟨by rfl, ?y463⟩) hHeld ?r463
        case y463 => (intro w' hSw; (try dsimp only at hSw); go_simp; try with_reducible rfl)
        simp only [Act.put, List.getElem_toArray, List.getElem_cons_zero, List.getElem_cons_succ, List.setIfInBounds_toArray, List.set_cons_zero, List.set_cons_succ]
        have H3 := Lib.hid hHeld.size
        refine Still.all (rs := [13]) (by kernel_rfl) (by simp) (Still.one (i := 13) rfl rfl (fun K hK => ?_) (by simp))
        refine wp_store_row 30 _ _ rfl Y0.heap.size #[.int .i64 (runN S k D0).tick, .slice ca S.parts.length cc, .slice la (runN S k D0).lines.length lc] (by first | rfl | simp [Act.eval, Act.put]) (by first | rfl | simp [Act.eval, Act.put]) 30 #[.int .i64 0, .slice none 0 0, .slice none 0 0] RA.out sizeWld rfl (world_one _ _ _ _ _ _ _) ?_
        refine hK _ _ (fun _ => below_row hHeld (by omega) _) (fun hh => ?_)
        have hHeld := hh (by decide)
        clear hK K hh
        try simp only [Act.put, List.getElem_toArray, List.getElem_cons_zero, List.getElem_cons_succ, List.setIfInBounds_toArray, List.set_cons_zero, List.set_cons_succ]
        refine Still.all (rs := [14]) (by kernel_rfl) (by simp) (Still.one (i := 14) rfl rfl (fun K hK => ?_) (by simp))
        go_simp
        refine hK _ _ (fun h => absurd rfl h) (fun _ => ?_)
        clear hK K
        refine Still.over (by kernel_rfl) ?_ _
        go_wp2
        go_meet
        exact ⟨k, _, ca, cc, la, lc, rfl, rfl, hmk, hHeld, RA.out.row _, (HN.out.row (by omega) _).wld⟩
    case rest =>
    obtain ⟨k, g12, ca, cc, la, lc, rfl, rfl, hmk, HB, R12, N12⟩ := hcut
    have zd := HD2.out.size
    have zb := HB.out.size
    have HD3 := Lib.hid (HD2.out.trans (HB.out.mono zd))
    have R9 := Lib.hid (R9.out.up HB.out R9.out.lt)
    have N9 := Lib.hid (N9.out.up HB.out)
    have R0 := Lib.hid (R0.out.up HB.out R0.out.lt)
    obtain ⟨hlE, _⟩ := runN_cells HKS.out k HRT.out (by rw [HTK.out]; exact hmk)
    have hSt := run_stay HKS.out u k HRT.out (by rw [HTK.out]; exact hmk) (by omega) (by omega)
    have hrE := (runN_right HKS.out k HRT.out (by rw [HTK.out]; exact hmk)).1
    have smE := small_right HKS.out hrE
    have smD := small_right HKS.out HRT.out
    have hoE := smE.o u (by omega)
    have hoD := smD.o u (by omega)
    obtain ⟨b, off, cap, e1, hcap, hbw, hc⟩ := N9.out.c.open (by omega)
    cases e1
    obtain ⟨ao, oc, hra, hso⟩ := hc u (by omega)
    have hop := N12.out.c.open (by omega)
    obtain ⟨xb, xo, xcap, e2, hxcap, hxbw, hxc⟩ := hop
    injection e2 with e21 e22 e23
    subst e21 e23
    obtain ⟨ax, ox, hrx, hsx⟩ := hxc u (by omega)
    generalize hda : D0.cells[u] = da at hra hso hSt hoD
    generalize hdb : (runN S k D0).cells[u] = db at hrx hsx hSt hoE
    obtain ⟨c, out⟩ := da
    obtain ⟨d, dout⟩ := db
    simp only at hra hso hrx hsx hoD hoE
    have RA := Lib.hid hra
    have RX := Lib.hid hrx
    have SO := Lib.hid hso
    have SX := Lib.hid hsx
    have HST := Lib.hid hSt
    have f0 := R9.out.cell (j := 1) (v := .slice (some ⟨b, off, none⟩) D0.cells.length c5) rfl
    have f1 := R12.out.cell (j := 1) (v := .slice (some ⟨xb, xo, none⟩) S.parts.length cc) rfl
    have f2 := R0.out.cell (j := 0) (v := .slice pa S.parts.length pc) rfl
    have n1 : ((D0.cells.length : Int) != S.parts.length) = false := by simp; omega
    have n2 : ((S.parts.length : Int) != S.parts.length) = false := by simp
    have hui0 : (u : Int) < D0.cells.length := by omega
    clear hc hxc hra hso hrx hsx hSt hda hdb CH1 HRN smE smD hrE N9 N12
    have HCE := Lib.hid hcE
    clear hcE hlE e22
    go_upto_region 8 with fail
    clear f0 f1 f2 n1 n2
    go_cut [14, 15] from 68 to 77 (fun p14 p15 wd => ∃ g14 g15, p14 = .pointer (some ⟨g14, 0, none⟩) ∧ p15 = .pointer (some ⟨g15, 0, none⟩) ∧ Hid (Below wc.heap.size wc wd) ∧ Hid (Rw wd g14 54 (c.cs (.slice ao out.length oc))) ∧ Hid (Rw wd g15 54 (d.cs (.slice ax dout.length ox))))
    case first =>
      refine region_still (S := fun w' => Below wc.heap.size wc w') 13 (by kernel_rfl) (Below.refl _ _).drew (fun hHeld => ?_)
      refine Still.takeBy (i := 0) [] (v := ?v251) (by kernel_rfl) (by kernel_rfl) rfl (by kernel_rfl) (by kernel_rfl) (by kernel_rfl) (fun _ _ _ h => h) (Or.inl ⟨by rfl, ?y251⟩) hHeld ?r251
      case y251 => (intro w' hSw; (try dsimp only at hSw); have q0 := (R9.out.up hSw R9.out.lt).cell (j := 1) (v := .slice (some ⟨b, off, none⟩) D0.cells.length c5) rfl; have q1 := (R12.out.up hSw R12.out.lt).cell (j := 1) (v := .slice (some ⟨xb, xo, none⟩) S.parts.length cc) rfl; clear hSw; go_simp; try with_reducible rfl)
      simp only [Act.put, List.getElem_toArray, List.getElem_cons_zero, List.getElem_cons_succ, List.setIfInBounds_toArray, List.set_cons_zero, List.set_cons_succ]
      refine Still.takeBy (i := 1) [] (v := ?v252) (by kernel_rfl) (by kernel_rfl) rfl (by kernel_rfl) (by kernel_rfl) (by kernel_rfl) (fun _ _ _ h => h) (Or.inl ⟨by rfl, ?y252⟩) hHeld ?r252
      case y252 => (intro w' hSw; (try dsimp only at hSw); have q0 := (R9.out.up hSw R9.out.lt).cell (j := 1) (v := .slice (some ⟨b, off, none⟩) D0.cells.length c5) rfl; have q1 := (R12.out.up hSw R12.out.lt).cell (j := 1) (v := .slice (some ⟨xb, xo, none⟩) S.parts.length cc) rfl; clear hSw; go_simp; try with_reducible rfl)
      simp only [Act.put, List.getElem_toArray, List.getElem_cons_zero, List.getElem_cons_succ, List.setIfInBounds_toArray, List.set_cons_zero, List.set_cons_succ]
      refine Still.takeBy (i := 2) [] (v := ?v253) (by kernel_rfl) (by kernel_rfl) rfl (by kernel_rfl) (by kernel_rfl) (by kernel_rfl) (fun _ _ _ h => h) (Or.inl ⟨by rfl, ?y253⟩) hHeld ?r253
      case y253 => (intro w' hSw; (try dsimp only at hSw); have q0 := (R9.out.up hSw R9.out.lt).cell (j := 1) (v := .slice (some ⟨b, off, none⟩) D0.cells.length c5) rfl; have q1 := (R12.out.up hSw R12.out.lt).cell (j := 1) (v := .slice (some ⟨xb, xo, none⟩) S.parts.length cc) rfl; clear hSw; go_simp; try with_reducible rfl)
      simp only [Act.put, List.getElem_toArray, List.getElem_cons_zero, List.getElem_cons_succ, List.setIfInBounds_toArray, List.set_cons_zero, List.set_cons_succ]
      refine Still.takeBy (i := 3) [] (v := ?v254) (by kernel_rfl) (by kernel_rfl) rfl (by kernel_rfl) (by kernel_rfl) (by kernel_rfl) (fun _ _ _ h => h) (Or.inl ⟨by rfl, ?y254⟩) hHeld ?r254
      case y254 => (intro w' hSw; (try dsimp only at hSw); have q0 := (R9.out.up hSw R9.out.lt).cell (j := 1) (v := .slice (some ⟨b, off, none⟩) D0.cells.length c5) rfl; have q1 := (R12.out.up hSw R12.out.lt).cell (j := 1) (v := .slice (some ⟨xb, xo, none⟩) S.parts.length cc) rfl; clear hSw; go_simp; try with_reducible rfl)
      simp only [Act.put, List.getElem_toArray, List.getElem_cons_zero, List.getElem_cons_succ, List.setIfInBounds_toArray, List.set_cons_zero, List.set_cons_succ]
      refine Still.takeBy (i := 4) [] (by kernel_rfl) (by kernel_rfl) rfl (by kernel_rfl) (by kernel_rfl) (by kernel_rfl) (fun _ _ _ h => h) (yields_load_midA (by rfl) _ _ rfl b (off + u * 16) (by first | rfl | simp [Act.eval, Act.put]) (c.cs (.slice ao out.length oc)) _ (fun w' hSw => range_up RA.out hSw hbw) Tryd.underlying54 rfl sizeCell) hHeld ?r255
      simp only [Act.put, List.getElem_toArray, List.getElem_cons_zero, List.getElem_cons_succ, List.setIfInBounds_toArray, List.set_cons_zero, List.set_cons_succ]
      refine Still.takeBy (i := 5) [] (v := ?v256) (by kernel_rfl) (by kernel_rfl) rfl (by kernel_rfl) (by kernel_rfl) (by kernel_rfl) (fun _ _ _ h => h) (Or.inl ⟨by rfl, ?y256⟩) hHeld ?r256
      case y256 => (intro w' hSw; (try dsimp only at hSw); have q0 := (R9.out.up hSw R9.out.lt).cell (j := 1) (v := .slice (some ⟨b, off, none⟩) D0.cells.length c5) rfl; have q1 := (R12.out.up hSw R12.out.lt).cell (j := 1) (v := .slice (some ⟨xb, xo, none⟩) S.parts.length cc) rfl; clear hSw; go_simp; try with_reducible rfl)
      simp only [Act.put, List.getElem_toArray, List.getElem_cons_zero, List.getElem_cons_succ, List.setIfInBounds_toArray, List.set_cons_zero, List.set_cons_succ]
      refine Still.takeBy (i := 6) [] (v := ?v257) (by kernel_rfl) (by kernel_rfl) rfl (by kernel_rfl) (by kernel_rfl) (by kernel_rfl) (fun _ _ _ h => h) (Or.inl ⟨by rfl, ?y257⟩) hHeld ?r257
      case y257 => (intro w' hSw; (try dsimp only at hSw); have q0 := (R9.out.up hSw R9.out.lt).cell (j := 1) (v := .slice (some ⟨b, off, none⟩) D0.cells.length c5) rfl; have q1 := (R12.out.up hSw R12.out.lt).cell (j := 1) (v := .slice (some ⟨xb, xo, none⟩) S.parts.length cc) rfl; clear hSw; go_simp; try with_reducible rfl)
      simp only [Act.put, List.getElem_toArray, List.getElem_cons_zero, List.getElem_cons_succ, List.setIfInBounds_toArray, List.set_cons_zero, List.set_cons_succ]
      refine Still.takeBy (i := 7) [] (v := ?v258) (by kernel_rfl) (by kernel_rfl) rfl (by kernel_rfl) (by kernel_rfl) (by kernel_rfl) (fun _ _ _ h => h) (Or.inl ⟨by rfl, ?y258⟩) hHeld ?r258
      case y258 => (intro w' hSw; (try dsimp only at hSw); have q0 := (R9.out.up hSw R9.out.lt).cell (j := 1) (v := .slice (some ⟨b, off, none⟩) D0.cells.length c5) rfl; have q1 := (R12.out.up hSw R12.out.lt).cell (j := 1) (v := .slice (some ⟨xb, xo, none⟩) S.parts.length cc) rfl; clear hSw; go_simp; try with_reducible rfl)
      simp only [Act.put, List.getElem_toArray, List.getElem_cons_zero, List.getElem_cons_succ, List.setIfInBounds_toArray, List.set_cons_zero, List.set_cons_succ]
      refine Still.takeBy (i := 8) [] (v := ?v259) (by kernel_rfl) (by kernel_rfl) rfl (by kernel_rfl) (by kernel_rfl) (by kernel_rfl) (fun _ _ _ h => h) (Or.inl ⟨by rfl, ?y259⟩) hHeld ?r259
      case y259 => (intro w' hSw; (try dsimp only at hSw); have q0 := (R9.out.up hSw R9.out.lt).cell (j := 1) (v := .slice (some ⟨b, off, none⟩) D0.cells.length c5) rfl; have q1 := (R12.out.up hSw R12.out.lt).cell (j := 1) (v := .slice (some ⟨xb, xo, none⟩) S.parts.length cc) rfl; clear hSw; go_simp; try with_reducible rfl)
      simp only [Act.put, List.getElem_toArray, List.getElem_cons_zero, List.getElem_cons_succ, List.setIfInBounds_toArray, List.set_cons_zero, List.set_cons_succ]
      refine Still.takeBy (i := 9) [] (by kernel_rfl) (by kernel_rfl) rfl (by kernel_rfl) (by kernel_rfl) (by kernel_rfl) (fun _ _ _ h => h) (yields_load_midA (by rfl) _ _ rfl xb (xo + u * 16) (by first | rfl | simp [Act.eval, Act.put]) (d.cs (.slice ax dout.length ox)) _ (fun w' hSw => range_up RX.out hSw hxbw) Tryd.underlying54 rfl sizeCell) hHeld ?r260
      simp only [Act.put, List.getElem_toArray, List.getElem_cons_zero, List.getElem_cons_succ, List.setIfInBounds_toArray, List.set_cons_zero, List.set_cons_succ]
      generalize hY0 : World.drew _ = Y0 at hHeld ⊢
      have hy0 : wc.heap.size ≤ Y0.heap.size := hHeld.size
      clear hY0
      refine Still.all (rs := [10, 11]) (by kernel_rfl) (by simp) (Still.one (i := 10) rfl rfl (fun K hK => ?_) (Still.one (i := 11) rfl rfl (fun K hK => ?_) (by simp)))
      · go_simp
        refine hK _ _ (fun _ => Below.alloc hHeld hHeld.size _) (fun hh => ?_)
        have hHeld := hh (by decide)
        clear hK K hh
        try simp only [Act.put, List.getElem_toArray, List.getElem_cons_zero, List.getElem_cons_succ, List.setIfInBounds_toArray, List.set_cons_zero, List.set_cons_succ]
        have RP : Hid (Rw (Y0.alloc (.cells #[.int .i64 0, .int .i64 0, .int .i64 0, .int .i64 0, .int .i64 0, .int .i64 0, .int .i64 0, .int .i64 0, .int .i64 0, .int .i64 0, .int .i64 0, .int .i64 0, .int .i64 0, .int .i64 0, .slice none 0 0, .int .i64 0] 54)) Y0.heap.size 54 (celZ.cs (.slice none 0 0))) := Rw.new _ _ _ rfl
        generalize hWg : World.alloc _ _ = Y1 at hHeld RP ⊢
        have hlq0 : Y0.heap.size < Y1.heap.size := RP.out.lt
        clear hWg
        refine Still.all (rs := [11]) (by kernel_rfl) (by simp) (Still.one (i := 11) rfl rfl (fun K hK => ?_) (by simp))
        go_simp
        refine hK _ _ (fun _ => Below.alloc hHeld hHeld.size _) (fun hh => ?_)
        have hHeld := hh (by decide)
        clear hK K hh
        try simp only [Act.put, List.getElem_toArray, List.getElem_cons_zero, List.getElem_cons_succ, List.setIfInBounds_toArray, List.set_cons_zero, List.set_cons_succ]
        have RQ : Hid (Rw (Y1.alloc (.cells #[.int .i64 0, .int .i64 0, .int .i64 0, .int .i64 0, .int .i64 0, .int .i64 0, .int .i64 0, .int .i64 0, .int .i64 0, .int .i64 0, .int .i64 0, .int .i64 0, .int .i64 0, .int .i64 0, .slice none 0 0, .int .i64 0] 54)) Y1.heap.size 54 (celZ.cs (.slice none 0 0))) := Rw.new _ _ _ rfl
        have ro := RP.out.alloc (.cells #[.int .i64 0, .int .i64 0, .int .i64 0, .int .i64 0, .int .i64 0, .int .i64 0, .int .i64 0, .int .i64 0, .int .i64 0, .int .i64 0, .int .i64 0, .int .i64 0, .int .i64 0, .int .i64 0, .slice none 0 0, .int .i64 0] 54)
        clear RP
        have RP := Lib.hid ro
        clear ro
        generalize hWg : World.alloc _ _ = Y2 at hHeld RP RQ ⊢
        have hlq1 : Y1.heap.size < Y2.heap.size := RQ.out.lt
        clear hWg
        refine Still.all (rs := [12]) (by kernel_rfl) (by simp) (Still.one (i := 12) rfl rfl (fun K hK => ?_) (by simp))
        refine wp_store_row 54 _ _ rfl Y0.heap.size (c.cs (.slice ao out.length oc)) (by first | rfl | simp [Act.eval, Act.put]) (by first | rfl | simp [Act.eval, Act.put]) 54 (celZ.cs (.slice none 0 0)) RP.out sizeCell rfl (Cel.cs_one _ _ rfl) ?_
        refine hK _ _ (fun _ => below_row hHeld (by omega) _) (fun hh => ?_)
        have hHeld := hh (by decide)
        clear hK K hh
        try simp only [Act.put, List.getElem_toArray, List.getElem_cons_zero, List.getElem_cons_succ, List.setIfInBounds_toArray, List.set_cons_zero, List.set_cons_succ]
        refine Still.all (rs := [13]) (by kernel_rfl) (by simp) (Still.one (i := 13) rfl rfl (fun K hK => ?_) (by simp))
        refine wp_store_row 54 _ _ rfl Y1.heap.size (d.cs (.slice ax dout.length ox)) (by first | rfl | simp [Act.eval, Act.put]) (by first | rfl | simp [Act.eval, Act.put]) 54 (celZ.cs (.slice none 0 0)) (RQ.out.row_other _ (by omega)) sizeCell rfl (Cel.cs_one _ _ rfl) ?_
        refine hK _ _ (fun h => absurd rfl h) (fun _ => ?_)
        clear hK K
        refine Still.over (by kernel_rfl) ?_ _
        go_wp2
        go_meet
        exact ⟨_, _, rfl, rfl, below_row hHeld (by omega) _, (RP.out.row _).row_other _ (by omega), (RQ.out.row_other _ (by omega)).row _⟩
      · go_simp
        refine hK _ _ (fun _ => Below.alloc hHeld hHeld.size _) (fun hh => ?_)
        have hHeld := hh (by decide)
        clear hK K hh
        try simp only [Act.put, List.getElem_toArray, List.getElem_cons_zero, List.getElem_cons_succ, List.setIfInBounds_toArray, List.set_cons_zero, List.set_cons_succ]
        have RQ : Hid (Rw (Y0.alloc (.cells #[.int .i64 0, .int .i64 0, .int .i64 0, .int .i64 0, .int .i64 0, .int .i64 0, .int .i64 0, .int .i64 0, .int .i64 0, .int .i64 0, .int .i64 0, .int .i64 0, .int .i64 0, .int .i64 0, .slice none 0 0, .int .i64 0] 54)) Y0.heap.size 54 (celZ.cs (.slice none 0 0))) := Rw.new _ _ _ rfl
        generalize hWg : World.alloc _ _ = Y1 at hHeld RQ ⊢
        have hlq0 : Y0.heap.size < Y1.heap.size := RQ.out.lt
        clear hWg
        refine Still.all (rs := [10]) (by kernel_rfl) (by simp) (Still.one (i := 10) rfl rfl (fun K hK => ?_) (by simp))
        go_simp
        refine hK _ _ (fun _ => Below.alloc hHeld hHeld.size _) (fun hh => ?_)
        have hHeld := hh (by decide)
        clear hK K hh
        try simp only [Act.put, List.getElem_toArray, List.getElem_cons_zero, List.getElem_cons_succ, List.setIfInBounds_toArray, List.set_cons_zero, List.set_cons_succ]
        have RP : Hid (Rw (Y1.alloc (.cells #[.int .i64 0, .int .i64 0, .int .i64 0, .int .i64 0, .int .i64 0, .int .i64 0, .int .i64 0, .int .i64 0, .int .i64 0, .int .i64 0, .int .i64 0, .int .i64 0, .int .i64 0, .int .i64 0, .slice none 0 0, .int .i64 0] 54)) Y1.heap.size 54 (celZ.cs (.slice none 0 0))) := Rw.new _ _ _ rfl
        have ro := RQ.out.alloc (.cells #[.int .i64 0, .int .i64 0, .int .i64 0, .int .i64 0, .int .i64 0, .int .i64 0, .int .i64 0, .int .i64 0, .int .i64 0, .int .i64 0, .int .i64 0, .int .i64 0, .int .i64 0, .int .i64 0, .slice none 0 0, .int .i64 0] 54)
        clear RQ
        have RQ := Lib.hid ro
        clear ro
        generalize hWg : World.alloc _ _ = Y2 at hHeld RP RQ ⊢
        have hlq1 : Y1.heap.size < Y2.heap.size := RP.out.lt
        clear hWg
        refine Still.all (rs := [12]) (by kernel_rfl) (by simp) (Still.one (i := 12) rfl rfl (fun K hK => ?_) (by simp))
        refine wp_store_row 54 _ _ rfl Y1.heap.size (c.cs (.slice ao out.length oc)) (by first | rfl | simp [Act.eval, Act.put]) (by first | rfl | simp [Act.eval, Act.put]) 54 (celZ.cs (.slice none 0 0)) RP.out sizeCell rfl (Cel.cs_one _ _ rfl) ?_
        refine hK _ _ (fun _ => below_row hHeld (by omega) _) (fun hh => ?_)
        have hHeld := hh (by decide)
        clear hK K hh
        try simp only [Act.put, List.getElem_toArray, List.getElem_cons_zero, List.getElem_cons_succ, List.setIfInBounds_toArray, List.set_cons_zero, List.set_cons_succ]
        refine Still.all (rs := [13]) (by kernel_rfl) (by simp) (Still.one (i := 13) rfl rfl (fun K hK => ?_) (by simp))
        refine wp_store_row 54 _ _ rfl Y0.heap.size (d.cs (.slice ax dout.length ox)) (by first | rfl | simp [Act.eval, Act.put]) (by first | rfl | simp [Act.eval, Act.put]) 54 (celZ.cs (.slice none 0 0)) (RQ.out.row_other _ (by omega)) sizeCell rfl (Cel.cs_one _ _ rfl) ?_
        refine hK _ _ (fun h => absurd rfl h) (fun _ => ?_)
        clear hK K
        refine Still.over (by kernel_rfl) ?_ _
        go_wp2
        go_meet
        exact ⟨_, _, rfl, rfl, below_row hHeld (by omega) _, (RP.out.row _).row_other _ (by omega), (RQ.out.row_other _ (by omega)).row _⟩
    case rest =>
    obtain ⟨g14, g15, rfl, rfl, HB2, R14, R15⟩ := hcut
    have zd3 := HD3.out.size
    have HD4 := Lib.hid (HD3.out.trans (HB2.out.mono zd3))
    have SO := Lib.hid (SO.out.up HB2.out)
    have SX := Lib.hid (SX.out.up HB2.out)
    have hlen := HST.out.len
    have htake := HST.out.take
    have hread := HST.out.read
    simp only at hlen htake hread
    have ST : Hid (Sl wc 1 (.slice ax out.length ox) out.length (ints out)) := by
      have h := sl_take SX.out out.length hlen
      rw [htake] at h
      exact h
    have HTK2 := Lib.hid htake
    have hox : dout.length ≤ ox := by
      obtain ⟨_, _, _, e, h, _⟩ := SX.out
      injection e with _ _ e2
      omega
    have B1 := Lib.hid (show decide ((dout.length : Int) < out.length) = false from decide_eq_false (by omega))
    have B1n := Lib.hid (show decide (dout.length < out.length) = false from decide_eq_false (by omega))
    have B2 := Lib.hid (show decide (d.read < c.read) = false from decide_eq_false (by omega))
    have hox' : (out.length : Int) ≤ ox := by omega
    have hlen0 : (0 : Int) ≤ out.length := by omega
    have HCK := Lib.hid fun V hx hy => sameInts_yes out (.slice ax out.length ox) (.slice ao out.length oc) V hx hy (by omega)
    clear htake HB2 RA RX R9 R12 R0 HD3 hread
    go_upto_region 9 with fail
    refine region_still (S := fun w' => Below wc.heap.size wc w') 25 (by kernel_rfl) (Below.refl _ _).drew (fun hHeld => ?_)
    refine Still.takeBy (i := 0) [19, 18, 7, 6, 2, 1] (v := ?v801) (by kernel_rfl) (by kernel_rfl) rfl (by kernel_rfl) (by kernel_rfl) (by kernel_rfl) (fun _ _ _ h => h) (Or.inl ⟨by rfl, ?y801⟩) hHeld ?r801
    case y801 => (intro w' hSw; (try dsimp only at hSw); have q0 := (R14.out.up hSw R14.out.lt).cell (j := 14) (v := .slice ao out.length oc) rfl; have q1 := (R15.out.up hSw R15.out.lt).cell (j := 14) (v := .slice ax dout.length ox) rfl; clear hSw; go_simp; try with_reducible rfl)
    simp only [Act.put, List.getElem_toArray, List.getElem_cons_zero, List.getElem_cons_succ, List.setIfInBounds_toArray, List.set_cons_zero, List.set_cons_succ]
    refine Still.takeBy (i := 1) [19, 18, 7, 6, 2] (v := ?v802) (by kernel_rfl) (by kernel_rfl) rfl (by kernel_rfl) (by kernel_rfl) (by kernel_rfl) (fun _ _ _ h => h) (Or.inl ⟨by rfl, ?y802⟩) hHeld ?r802
    case y802 => (intro w' hSw; (try dsimp only at hSw); have q0 := (R14.out.up hSw R14.out.lt).cell (j := 14) (v := .slice ao out.length oc) rfl; have q1 := (R15.out.up hSw R15.out.lt).cell (j := 14) (v := .slice ax dout.length ox) rfl; clear hSw; go_simp; try with_reducible rfl)
    simp only [Act.put, List.getElem_toArray, List.getElem_cons_zero, List.getElem_cons_succ, List.setIfInBounds_toArray, List.set_cons_zero, List.set_cons_succ]
    refine Still.takeBy (i := 2) [19, 18, 7, 6] (v := ?v803) (by kernel_rfl) (by kernel_rfl) rfl (by kernel_rfl) (by kernel_rfl) (by kernel_rfl) (fun _ _ _ h => h) (Or.inl ⟨by rfl, ?y803⟩) hHeld ?r803
    case y803 => (intro w' hSw; (try dsimp only at hSw); have q0 := (R14.out.up hSw R14.out.lt).cell (j := 14) (v := .slice ao out.length oc) rfl; have q1 := (R15.out.up hSw R15.out.lt).cell (j := 14) (v := .slice ax dout.length ox) rfl; clear hSw; go_simp; try with_reducible rfl)
    simp only [Act.put, List.getElem_toArray, List.getElem_cons_zero, List.getElem_cons_succ, List.setIfInBounds_toArray, List.set_cons_zero, List.set_cons_succ]
    refine Still.takeBy (i := 3) [19, 18, 7, 6, 5, 4] (v := ?v804) (by kernel_rfl) (by kernel_rfl) rfl (by kernel_rfl) (by kernel_rfl) (by kernel_rfl) (fun _ _ _ h => h) (Or.inl ⟨by rfl, ?y804⟩) hHeld ?r804
    case y804 => (intro w' hSw; (try dsimp only at hSw); have q0 := (R14.out.up hSw R14.out.lt).cell (j := 14) (v := .slice ao out.length oc) rfl; have q1 := (R15.out.up hSw R15.out.lt).cell (j := 14) (v := .slice ax dout.length ox) rfl; clear hSw; go_simp; try with_reducible rfl)
    simp only [Act.put, List.getElem_toArray, List.getElem_cons_zero, List.getElem_cons_succ, List.setIfInBounds_toArray, List.set_cons_zero, List.set_cons_succ]
    refine Still.takeBy (i := 4) [19, 18, 7, 6, 5] (v := ?v805) (by kernel_rfl) (by kernel_rfl) rfl (by kernel_rfl) (by kernel_rfl) (by kernel_rfl) (fun _ _ _ h => h) (Or.inl ⟨by rfl, ?y805⟩) hHeld ?r805
    case y805 => (intro w' hSw; (try dsimp only at hSw); have q0 := (R14.out.up hSw R14.out.lt).cell (j := 14) (v := .slice ao out.length oc) rfl; have q1 := (R15.out.up hSw R15.out.lt).cell (j := 14) (v := .slice ax dout.length ox) rfl; clear hSw; go_simp; try with_reducible rfl)
    simp only [Act.put, List.getElem_toArray, List.getElem_cons_zero, List.getElem_cons_succ, List.setIfInBounds_toArray, List.set_cons_zero, List.set_cons_succ]
    refine Still.takeBy (i := 5) [19, 18, 7, 6] (v := ?v806) (by kernel_rfl) (by kernel_rfl) rfl (by kernel_rfl) (by kernel_rfl) (by kernel_rfl) (fun _ _ _ h => h) (Or.inl ⟨by rfl, ?y806⟩) hHeld ?r806
    case y806 => (intro w' hSw; (try dsimp only at hSw); have q0 := (R14.out.up hSw R14.out.lt).cell (j := 14) (v := .slice ao out.length oc) rfl; have q1 := (R15.out.up hSw R15.out.lt).cell (j := 14) (v := .slice ax dout.length ox) rfl; clear hSw; go_simp; try with_reducible rfl)
    simp only [Act.put, List.getElem_toArray, List.getElem_cons_zero, List.getElem_cons_succ, List.setIfInBounds_toArray, List.set_cons_zero, List.set_cons_succ]
    refine Still.takeBy (i := 6) [19, 18, 7] (v := ?v807) (by kernel_rfl) (by kernel_rfl) rfl (by kernel_rfl) (by kernel_rfl) (by kernel_rfl) (fun _ _ _ h => h) (Or.inl ⟨by rfl, ?y807⟩) hHeld ?r807
    case y807 => (intro w' hSw; (try dsimp only at hSw); go_simp; (try simp only [B1.out]); (try simp only [B1n.out]); try with_reducible rfl)
    simp only [Act.put, List.getElem_toArray, List.getElem_cons_zero, List.getElem_cons_succ, List.setIfInBounds_toArray, List.set_cons_zero, List.set_cons_succ]
    refine Still.takeBy (i := 7) [19, 18] (v := ?v808) (by kernel_rfl) (by kernel_rfl) rfl (by kernel_rfl) (by kernel_rfl) (by kernel_rfl) (fun _ _ _ h => h) (Or.inl ⟨by rfl, ?y808⟩) hHeld ?r808
    case y808 => (intro w' hSw; (try dsimp only at hSw); go_simp; try with_reducible rfl)
    simp only [Act.put, List.getElem_toArray, List.getElem_cons_zero, List.getElem_cons_succ, List.setIfInBounds_toArray, List.set_cons_zero, List.set_cons_succ]
    refine Still.takeBy (i := 8) [19, 16, 13, 9] (v := ?v809) (by kernel_rfl) (by kernel_rfl) rfl (by kernel_rfl) (by kernel_rfl) (by kernel_rfl) (fun _ _ _ h => h) (Or.inl ⟨by rfl, ?y809⟩) hHeld ?r809
    case y809 => (intro w' hSw; (try dsimp only at hSw); have q0 := (R14.out.up hSw R14.out.lt).cell (j := 14) (v := .slice ao out.length oc) rfl; have q1 := (R15.out.up hSw R15.out.lt).cell (j := 14) (v := .slice ax dout.length ox) rfl; clear hSw; go_simp; try with_reducible rfl)
    simp only [Act.put, List.getElem_toArray, List.getElem_cons_zero, List.getElem_cons_succ, List.setIfInBounds_toArray, List.set_cons_zero, List.set_cons_succ]
    refine Still.takeBy (i := 9) [19, 16, 13] (v := ?v810) (by kernel_rfl) (by kernel_rfl) rfl (by kernel_rfl) (by kernel_rfl) (by kernel_rfl) (fun _ _ _ h => h) (Or.inl ⟨by rfl, ?y810⟩) hHeld ?r810
    case y810 => (intro w' hSw; (try dsimp only at hSw); have q0 := (R14.out.up hSw R14.out.lt).cell (j := 14) (v := .slice ao out.length oc) rfl; have q1 := (R15.out.up hSw R15.out.lt).cell (j := 14) (v := .slice ax dout.length ox) rfl; clear hSw; go_simp; try with_reducible rfl)
    simp only [Act.put, List.getElem_toArray, List.getElem_cons_zero, List.getElem_cons_succ, List.setIfInBounds_toArray, List.set_cons_zero, List.set_cons_succ]
    refine Still.takeBy (i := 10) [19, 16, 13, 12, 11] (v := ?v811) (by kernel_rfl) (by kernel_rfl) rfl (by kernel_rfl) (by kernel_rfl) (by kernel_rfl) (fun _ _ _ h => h) (Or.inl ⟨by rfl, ?y811⟩) hHeld ?r811
    case y811 => (intro w' hSw; (try dsimp only at hSw); have q0 := (R14.out.up hSw R14.out.lt).cell (j := 14) (v := .slice ao out.length oc) rfl; have q1 := (R15.out.up hSw R15.out.lt).cell (j := 14) (v := .slice ax dout.length ox) rfl; clear hSw; go_simp; try with_reducible rfl)
    simp only [Act.put, List.getElem_toArray, List.getElem_cons_zero, List.getElem_cons_succ, List.setIfInBounds_toArray, List.set_cons_zero, List.set_cons_succ]
    refine Still.takeBy (i := 11) [19, 16, 13, 12] (v := ?v812) (by kernel_rfl) (by kernel_rfl) rfl (by kernel_rfl) (by kernel_rfl) (by kernel_rfl) (fun _ _ _ h => h) (Or.inl ⟨by rfl, ?y812⟩) hHeld ?r812
    case y812 => (intro w' hSw; (try dsimp only at hSw); have q0 := (R14.out.up hSw R14.out.lt).cell (j := 14) (v := .slice ao out.length oc) rfl; have q1 := (R15.out.up hSw R15.out.lt).cell (j := 14) (v := .slice ax dout.length ox) rfl; clear hSw; go_simp; try with_reducible rfl)
    simp only [Act.put, List.getElem_toArray, List.getElem_cons_zero, List.getElem_cons_succ, List.setIfInBounds_toArray, List.set_cons_zero, List.set_cons_succ]
    refine Still.takeBy (i := 12) [19, 16, 13] (v := ?v813) (by kernel_rfl) (by kernel_rfl) rfl (by kernel_rfl) (by kernel_rfl) (by kernel_rfl) (fun _ _ _ h => h) (Or.inl ⟨by rfl, ?y813⟩) hHeld ?r813
    case y813 => (intro w' hSw; (try dsimp only at hSw); have q0 := (R14.out.up hSw R14.out.lt).cell (j := 14) (v := .slice ao out.length oc) rfl; have q1 := (R15.out.up hSw R15.out.lt).cell (j := 14) (v := .slice ax dout.length ox) rfl; clear hSw; go_simp; try with_reducible rfl)
    simp only [Act.put, List.getElem_toArray, List.getElem_cons_zero, List.getElem_cons_succ, List.setIfInBounds_toArray, List.set_cons_zero, List.set_cons_succ]
    refine Still.takeBy (i := 13) [19, 16] (v := ?v814) (by kernel_rfl) (by kernel_rfl) rfl (by kernel_rfl) (by kernel_rfl) (by kernel_rfl) (fun _ _ _ h => h) (Or.inl ⟨by rfl, ?y814⟩) hHeld ?r814
    case y814 => (intro w' hSw; (try dsimp only at hSw); have q0 := (R14.out.up hSw R14.out.lt).cell (j := 14) (v := .slice ao out.length oc) rfl; have q1 := (R15.out.up hSw R15.out.lt).cell (j := 14) (v := .slice ax dout.length ox) rfl; clear hSw; go_simp; try with_reducible rfl)
    simp only [Act.put, List.getElem_toArray, List.getElem_cons_zero, List.getElem_cons_succ, List.setIfInBounds_toArray, List.set_cons_zero, List.set_cons_succ]
    refine Still.takeBy (i := 14) [19, 16, 15] (v := ?v815) (by kernel_rfl) (by kernel_rfl) rfl (by kernel_rfl) (by kernel_rfl) (by kernel_rfl) (fun _ _ _ h => h) (Or.inl ⟨by rfl, ?y815⟩) hHeld ?r815
    case y815 => (intro w' hSw; (try dsimp only at hSw); have q0 := (R14.out.up hSw R14.out.lt).cell (j := 14) (v := .slice ao out.length oc) rfl; have q1 := (R15.out.up hSw R15.out.lt).cell (j := 14) (v := .slice ax dout.length ox) rfl; clear hSw; go_simp; try with_reducible rfl)
    simp only [Act.put, List.getElem_toArray, List.getElem_cons_zero, List.getElem_cons_succ, List.setIfInBounds_toArray, List.set_cons_zero, List.set_cons_succ]
    refine Still.takeBy (i := 15) [19, 16] (v := ?v816) (by kernel_rfl) (by kernel_rfl) rfl (by kernel_rfl) (by kernel_rfl) (by kernel_rfl) (fun _ _ _ h => h) (Or.inl ⟨by rfl, ?y816⟩) hHeld ?r816
    case y816 => (intro w' hSw; (try dsimp only at hSw); have q0 := (R14.out.up hSw R14.out.lt).cell (j := 14) (v := .slice ao out.length oc) rfl; have q1 := (R15.out.up hSw R15.out.lt).cell (j := 14) (v := .slice ax dout.length ox) rfl; clear hSw; go_simp; try with_reducible rfl)
    simp only [Act.put, List.getElem_toArray, List.getElem_cons_zero, List.getElem_cons_succ, List.setIfInBounds_toArray, List.set_cons_zero, List.set_cons_succ]
    refine Still.all (rs := [16]) (by kernel_rfl) (by simp) (Still.oneG (i := 16) rfl (by rfl) (fun K hK => ?_) (by simp))
    refine wp_call 23 _ _ rfl ent_sameInts #[.slice ax out.length ox, .slice ao out.length oc] (by first | rfl | simp [Act.eval, Act.put]) ((HCK.out _ (ST.out.up hHeld) (SO.out.up hHeld)).mono ?_)
    rintro e V1 ⟨rfl, bb⟩
    refine ⟨_, rfl, hK _ _ (fun _ => hHeld.trans (bb.mono hHeld.size)) (fun hh => ?_)⟩
    have hHeld := hh (by decide)
    clear hK K hh
    try simp only [Act.put, List.getElem_toArray, List.getElem_cons_zero, List.getElem_cons_succ, List.setIfInBounds_toArray, List.set_cons_zero, List.set_cons_succ]
    clear bb
    refine Still.takeBy (i := 17) [19, 18] (v := ?v817) (by kernel_rfl) (by kernel_rfl) rfl (by kernel_rfl) (by kernel_rfl) (by kernel_rfl) (fun _ _ _ h => h) (Or.inl ⟨by rfl, ?y817⟩) hHeld ?r817
    case y817 => (intro w' hSw; (try dsimp only at hSw); go_simp; try with_reducible rfl)
    simp only [Act.put, List.getElem_toArray, List.getElem_cons_zero, List.getElem_cons_succ, List.setIfInBounds_toArray, List.set_cons_zero, List.set_cons_succ]
    refine Still.takeBy (i := 18) [19] (v := ?v818) (by kernel_rfl) (by kernel_rfl) rfl (by kernel_rfl) (by kernel_rfl) (by kernel_rfl) (fun _ _ _ h => h) (Or.inl ⟨by rfl, ?y818⟩) hHeld ?r818
    case y818 => (intro w' hSw; (try dsimp only at hSw); go_simp; try with_reducible rfl)
    simp only [Act.put, List.getElem_toArray, List.getElem_cons_zero, List.getElem_cons_succ, List.setIfInBounds_toArray, List.set_cons_zero, List.set_cons_succ]
    refine Still.takeBy (i := 19) [] (v := ?v819) (by kernel_rfl) (by kernel_rfl) rfl (by kernel_rfl) (by kernel_rfl) (by kernel_rfl) (fun _ _ _ h => h) (Or.inl ⟨by rfl, ?y819⟩) hHeld ?r819
    case y819 => (intro w' hSw; (try dsimp only at hSw); go_simp; try with_reducible rfl)
    simp only [Act.put, List.getElem_toArray, List.getElem_cons_zero, List.getElem_cons_succ, List.setIfInBounds_toArray, List.set_cons_zero, List.set_cons_succ]
    refine Still.takeBy (i := 20) [24, 21] (v := ?v820) (by kernel_rfl) (by kernel_rfl) rfl (by kernel_rfl) (by kernel_rfl) (by kernel_rfl) (fun _ _ _ h => h) (Or.inl ⟨by rfl, ?y820⟩) hHeld ?r820
    case y820 => (intro w' hSw; (try dsimp only at hSw); have q0 := (R14.out.up hSw R14.out.lt).cell (j := 13) (v := .int .i64 c.read) rfl; have q1 := (R15.out.up hSw R15.out.lt).cell (j := 13) (v := .int .i64 d.read) rfl; clear hSw; go_simp; try with_reducible rfl)
    simp only [Act.put, List.getElem_toArray, List.getElem_cons_zero, List.getElem_cons_succ, List.setIfInBounds_toArray, List.set_cons_zero, List.set_cons_succ]
    refine Still.takeBy (i := 21) [24] (v := ?v821) (by kernel_rfl) (by kernel_rfl) rfl (by kernel_rfl) (by kernel_rfl) (by kernel_rfl) (fun _ _ _ h => h) (Or.inl ⟨by rfl, ?y821⟩) hHeld ?r821
    case y821 => (intro w' hSw; (try dsimp only at hSw); have q0 := (R14.out.up hSw R14.out.lt).cell (j := 13) (v := .int .i64 c.read) rfl; have q1 := (R15.out.up hSw R15.out.lt).cell (j := 13) (v := .int .i64 d.read) rfl; clear hSw; go_simp; try with_reducible rfl)
    simp only [Act.put, List.getElem_toArray, List.getElem_cons_zero, List.getElem_cons_succ, List.setIfInBounds_toArray, List.set_cons_zero, List.set_cons_succ]
    refine Still.takeBy (i := 22) [24, 23] (v := ?v822) (by kernel_rfl) (by kernel_rfl) rfl (by kernel_rfl) (by kernel_rfl) (by kernel_rfl) (fun _ _ _ h => h) (Or.inl ⟨by rfl, ?y822⟩) hHeld ?r822
    case y822 => (intro w' hSw; (try dsimp only at hSw); have q0 := (R14.out.up hSw R14.out.lt).cell (j := 13) (v := .int .i64 c.read) rfl; have q1 := (R15.out.up hSw R15.out.lt).cell (j := 13) (v := .int .i64 d.read) rfl; clear hSw; go_simp; try with_reducible rfl)
    simp only [Act.put, List.getElem_toArray, List.getElem_cons_zero, List.getElem_cons_succ, List.setIfInBounds_toArray, List.set_cons_zero, List.set_cons_succ]
    refine Still.takeBy (i := 23) [24] (v := ?v823) (by kernel_rfl) (by kernel_rfl) rfl (by kernel_rfl) (by kernel_rfl) (by kernel_rfl) (fun _ _ _ h => h) (Or.inl ⟨by rfl, ?y823⟩) hHeld ?r823
    case y823 => (intro w' hSw; (try dsimp only at hSw); have q0 := (R14.out.up hSw R14.out.lt).cell (j := 13) (v := .int .i64 c.read) rfl; have q1 := (R15.out.up hSw R15.out.lt).cell (j := 13) (v := .int .i64 d.read) rfl; clear hSw; go_simp; try with_reducible rfl)
    simp only [Act.put, List.getElem_toArray, List.getElem_cons_zero, List.getElem_cons_succ, List.setIfInBounds_toArray, List.set_cons_zero, List.set_cons_succ]
    refine Still.takeBy (i := 24) [] (v := ?v824) (by kernel_rfl) (by kernel_rfl) rfl (by kernel_rfl) (by kernel_rfl) (by kernel_rfl) (fun _ _ _ h => h) (Or.inl ⟨by rfl, ?y824⟩) hHeld ?r824
    case y824 => (intro w' hSw; (try dsimp only at hSw); go_simp; simp only [B2.out]; try with_reducible rfl)
    simp only [Act.put, List.getElem_toArray, List.getElem_cons_zero, List.getElem_cons_succ, List.setIfInBounds_toArray, List.set_cons_zero, List.set_cons_succ]
    refine Still.all (rs := [25]) (by kernel_rfl) (by simp) (Still.one (i := 25) rfl rfl (fun K hK => ?_) (by simp))
    go_simp
    refine hK _ _ (fun h => absurd rfl h) (fun _ => ?_)
    clear hK K
    refine Still.over (by kernel_rfl) ?_ _
    have R14 := Lib.hid (R14.out.up hHeld R14.out.lt)
    have R15 := Lib.hid (R15.out.up hHeld R15.out.lt)
    have SO := Lib.hid (SO.out.up hHeld)
    have SX := Lib.hid (SX.out.up hHeld)
    have zd4 := HD4.out.size
    have HD5 := Lib.hid (HD4.out.trans (hHeld.mono zd4))
    clear hHeld ST HCK B1 B1n B2 HD4 hlen0 hox'
    go_wp2_with fail
    refine (kernBegun_any _ (HE.out.up HD5.out)).mono ?_
    rintro e wk ⟨rfl, bk⟩
    have R14 := Lib.hid (R14.out.up bk R14.out.lt)
    have R15 := Lib.hid (R15.out.up bk R15.out.lt)
    have SO := Lib.hid (SO.out.up bk)
    have SX := Lib.hid (SX.out.up bk)
    have zd5 := HD5.out.size
    have HD6 := Lib.hid (HD5.out.trans (bk.mono zd5))
    have zd6 := HD6.out.size
    have q5 := R14.out.cell (j := 15) (v := .int .i64 c.en) rfl
    clear bk HD5
    by_cases hen : c.en = 0
    · have hen' : (c.en == 0) = true := by simpa using hen
      clear hen HST
      go_wp2
      go_ret
      exact ⟨rfl, HD6.out⟩
    · have hen' : (c.en == 0) = false := by simpa using hen
      have hs := HST.out.same hen
      injection hs with hs1 hs2
      subst hs1 hs2
      have HCK := Lib.hid fun V hx hy => sameCells_agg d dout (.slice ao dout.length oc) (.slice ax dout.length ox) V hx hy (by omega)
      clear hen HST
      go_wp2_with (first | (refine wpList_load_rowG (by rfl) 54 (.tmp 14) rfl g14 rfl 54 (d.cs (.slice ao dout.length oc)) (0, 0) _ R14.out Tryd.underlying54 rfl sizeCell ?_) | (refine wpList_load_rowG (by rfl) 54 (.tmp 15) rfl g15 rfl 54 (d.cs (.slice ax dout.length ox)) (0, 0) _ R15.out Tryd.underlying54 rfl sizeCell ?_))
      refine (HCK.out _ SO.out SX.out).mono ?_
      rintro e wz ⟨rfl, bz⟩
      have HZ2 := Lib.hid (HD6.out.trans (bz.mono zd6))
      clear bz
      go_wp2
      go_ret
      exact ⟨rfl, HZ2.out⟩
  · have h0' : (v0 != 0) = true := by simpa using h0
    clear h0 HV HDD R9 N9 R0 s0
    go_wp2_with fail
    refine (kernBegun_any _ (HE.out.up HD2.out)).mono ?_
    rintro e wk ⟨rfl, bk⟩
    have zk := HD2.out.size
    have HZ := Lib.hid (HD2.out.trans (bk.mono zk))
    clear bk
    go_wp2
    go_ret
    exact ⟨rfl, HZ.out⟩
end Go.Proofs.YtjhjaafoikadgaaDoor
