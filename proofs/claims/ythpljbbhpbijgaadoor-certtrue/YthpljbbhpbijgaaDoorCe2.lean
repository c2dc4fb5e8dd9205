/- cert.rightPolicy and Check. -/
import Derived.Test.YthpljbbhpbijgaaDoorJw
namespace Go.Proofs.YthpljbbhpbijgaaDoor
set_option linter.unusedSimpArgs false
set_option linter.unusedVariables false
open Go.RowKit Go.Sort Go.Shelf Go.Lib Go.Maps

theorem ent_less : Enters 72 := enters Tryd.func72 (by kernel_rfl) (by kernel_rfl)
set_option maxRecDepth 100000 in
set_option maxHeartbeats 8000000 in
theorem rightPolicy_any (n : Nat) (hn : n ≤ 4) (L : List Edg) (vL : Value) (w : World) (hL : Sl w 2 vL L.length (rowC Edg.cells L)) :
    Calls Tryd.prog 49 #[.int .i64 (n : Int), .agg #[vL]] w fun e w' => e = .returned (.bool (polB n L)) ∧ RowKit.Below w.heap.size w w' := by
  obtain ⟨pa, pc, rfl⟩ := hL.form
  have HL := Lib.hid hL
  clear hL
  go_enter Tryd.func49, Tryd.ntmps49
  go_wp2
  go_loopw [10] (fun i wr => ∃ k : Nat, i = .int .i64 k ∧ k ≤ L.length ∧ Hid (PolUp n L k) ∧ wr.cell? ⟨w.heap.size, 0, none⟩ = some (.slice pa L.length pc) ∧ w.heap.size < wr.heap.size ∧ Hid (RowKit.Below w.heap.size w wr)) (fun i _ => L.length - (intOf i).toNat)
  case atStart => exact ⟨0, rfl, Nat.zero_le _, Lib.hid (polUp_zero _ _), by simp, by simp, (by repeat (first | exact Below.refl _ _ | assumption | refine Below.drew ?_ | refine Below.alloc ?_ (by first | (simp; done) | (simp; omega)) _ | refine Below.setCell ?_ (by first | (simp; done) | (simp; omega)) _))⟩
  case round =>
    obtain ⟨k, rfl, hk, HP, hb0, hws, HT⟩ := hrel
    by_cases hlt : k < L.length
    · have hli : (k : Int) < L.length := by omega
      have hk16 := polUp_len hn HP.out hk
      obtain ⟨pb, po, pc', e1, hpc, hpb, hpx⟩ := (HL.out.up HT.out).open (by omega)
      cases e1
      obtain ⟨c0, c1⟩ := edge_cells hpx k hlt
      have HB1 := Lib.hid (polUp_bad1 (n := n) hlt)
      have HB2 := Lib.hid (polUp_bad2 (n := n) hlt)
      have HST := Lib.hid (fun h1 h2 => polUp_step HP.out hlt h1 h2)
      have HPX := Lib.hid hpx
      clear hpx
      generalize hEd : L[k] = ed at c0 c1 HB1 HB2 HST
      obtain ⟨ef, et⟩ := ed
      have HEd := Lib.hid hEd
      clear hEd
      simp only at c0 c1
      unfold edIn at HB1 HST
      simp only at HB1 HST
      cases hA : withinB ef 0 ((n : Int) - 1) with
      | false =>
        have HBAD := Lib.hid (HB1.out (by rw [hA]; simp))
        clear HB1 HB2 HST
        skip
        go_wp2_with (go_at_call 71; refine (ceIsPart_any _ _ _).mono ?_; rintro e w' ⟨rfl, rfl⟩)
        go_ret
        exact ⟨ret_bool HBAD.out.symm, HT.out.trans (RowKit.Below.alloc (RowKit.Below.refl _ _) HT.out.size _)⟩
      | true =>
        cases hB : withinB et 0 ((n : Int) - 1) with
        | false =>
          have HBAD := Lib.hid (HB1.out (by rw [hB]; simp))
          clear HB1 HB2 HST
          skip
          go_wp2_with (go_at_call 71; refine (ceIsPart_any _ _ _).mono ?_; rintro e w' ⟨rfl, rfl⟩)
          go_ret
          exact ⟨ret_bool HBAD.out.symm, HT.out.trans (RowKit.Below.alloc (RowKit.Below.refl _ _) HT.out.size _)⟩
        | true =>
          by_cases hC : ef = et
          · have HBAD := Lib.hid (HB1.out (by simp [hC]))
            subst hC
            clear HB1 HB2 HST
            skip
            go_wp2_with (go_at_call 71; refine (ceIsPart_any _ _ _).mono ?_; rintro e w' ⟨rfl, rfl⟩)
            go_ret
            exact ⟨ret_bool HBAD.out.symm, HT.out.trans (RowKit.Below.alloc (RowKit.Below.refl _ _) HT.out.size _)⟩
          · have hC' : (ef == et) = false := by simpa using hC
            rcases Nat.eq_zero_or_pos k with e0 | h0
            · subst e0
              have HS2 := Lib.hid (HST.out ⟨hA, hB, hC⟩ (fun h => by omega))
              clear HB1 HB2 HST hC
              simp only [Nat.zero_mul, Nat.add_zero, Nat.zero_add] at c0 c1
              go_upto_region 6 with (go_at_call 71; refine (ceIsPart_any _ _ _).mono ?_; rintro e w' ⟨rfl, rfl⟩)
              have HX : Hid (RowKit.Below wr.heap.size wr (wr.alloc (.cells #[.int .i64 ef, .int .i64 et] 37))) := Lib.hid ((RowKit.Below.refl _ _).alloc (Nat.le_refl _) _)
              have x0 : (wr.alloc (.cells #[.int .i64 ef, .int .i64 et] 37)).cell? ⟨wr.heap.size, 0, none⟩ = some (.int .i64 ef) := by simp
              have x1 : (wr.alloc (.cells #[.int .i64 ef, .int .i64 et] 37)).cell? ⟨wr.heap.size, 1, none⟩ = some (.int .i64 et) := by simp
              have hxs : wr.heap.size < (wr.alloc (.cells #[.int .i64 ef, .int .i64 et] 37)).heap.size := by simp
              have y0 := bcl HX.out (by omega) hb0
              generalize wr.alloc (.cells #[.int .i64 ef, .int .i64 et] 37) = X at HX x0 x1 hxs y0 ⊢
              refine region_still (S := fun w' => w'.cell? ⟨w.heap.size, 0, none⟩ = some (.slice (some ⟨pb, po, none⟩) L.length pc)) 12 (by kernel_rfl) y0 (fun hHeld => ?_)
              refine Still.takeBy (i := 0) [2, 1] (v := ?v1) (by kernel_rfl) (by kernel_rfl) rfl (by kernel_rfl) (by kernel_rfl) (by kernel_rfl) (fun _ _ _ h => h) (Or.inl ⟨by rfl, ?y1⟩) hHeld ?r1
              case y1 => (intro w' hSw; (try dsimp only at hSw); go_simp; try with_reducible rfl)
              simp only [Act.put, List.getElem_toArray, List.getElem_cons_zero, List.getElem_cons_succ, List.setIfInBounds_toArray, List.set_cons_zero, List.set_cons_succ]
              refine Still.takeBy (i := 1) [2] (v := ?v2) (by kernel_rfl) (by kernel_rfl) rfl (by kernel_rfl) (by kernel_rfl) (by kernel_rfl) (fun _ _ _ h => h) (Or.inl ⟨by rfl, ?y2⟩) hHeld ?r2
              case y2 => (intro w' hSw; (try dsimp only at hSw); go_simp; try with_reducible rfl)
              simp only [Act.put, List.getElem_toArray, List.getElem_cons_zero, List.getElem_cons_succ, List.setIfInBounds_toArray, List.set_cons_zero, List.set_cons_succ]
              refine Still.takeBy (i := 2) [] (v := ?v3) (by kernel_rfl) (by kernel_rfl) rfl (by kernel_rfl) (by kernel_rfl) (by kernel_rfl) (fun _ _ _ h => h) (Or.inl ⟨by rfl, ?y3⟩) hHeld ?r3
              case y3 => (intro w' hSw; (try dsimp only at hSw); go_simp; try with_reducible rfl)
              simp only [Act.put, List.getElem_toArray, List.getElem_cons_zero, List.getElem_cons_succ, List.setIfInBounds_toArray, List.set_cons_zero, List.set_cons_succ]
              refine Still.takeBy (i := 3) [11, 10, 8, 7, 4] (by kernel_rfl) (by kernel_rfl) rfl (by kernel_rfl) (by kernel_rfl) (by kernel_rfl) (fun _ _ _ h => h) (Or.inr ⟨by rfl, rfl⟩) hHeld ?r4
              simp only [Act.put, List.getElem_toArray, List.getElem_cons_zero, List.getElem_cons_succ, List.setIfInBounds_toArray, List.set_cons_zero, List.set_cons_succ]
              refine Still.takeBy (i := 4) [11, 10, 8, 7] (by kernel_rfl) (by kernel_rfl) rfl (by kernel_rfl) (by kernel_rfl) (by kernel_rfl) (fun _ _ _ h => h) (Or.inr ⟨by rfl, rfl⟩) hHeld ?r5
              simp only [Act.put, List.getElem_toArray, List.getElem_cons_zero, List.getElem_cons_succ, List.setIfInBounds_toArray, List.set_cons_zero, List.set_cons_succ]
              refine Still.takeBy (i := 5) [11, 10, 8, 7, 6] (by kernel_rfl) (by kernel_rfl) rfl (by kernel_rfl) (by kernel_rfl) (by kernel_rfl) (fun _ _ _ h => h) (Or.inr ⟨by rfl, rfl⟩) hHeld ?r6
              simp only [Act.put, List.getElem_toArray, List.getElem_cons_zero, List.getElem_cons_succ, List.setIfInBounds_toArray, List.set_cons_zero, List.set_cons_succ]
              refine Still.takeBy (i := 6) [11, 10, 8, 7] (by kernel_rfl) (by kernel_rfl) rfl (by kernel_rfl) (by kernel_rfl) (by kernel_rfl) (fun _ _ _ h => h) (Or.inr ⟨by rfl, rfl⟩) hHeld ?r7
              simp only [Act.put, List.getElem_toArray, List.getElem_cons_zero, List.getElem_cons_succ, List.setIfInBounds_toArray, List.set_cons_zero, List.set_cons_succ]
              refine Still.takeBy (i := 7) [11, 10, 8] (by kernel_rfl) (by kernel_rfl) rfl (by kernel_rfl) (by kernel_rfl) (by kernel_rfl) (fun _ _ _ h => h) (Or.inr ⟨by rfl, rfl⟩) hHeld ?r8
              simp only [Act.put, List.getElem_toArray, List.getElem_cons_zero, List.getElem_cons_succ, List.setIfInBounds_toArray, List.set_cons_zero, List.set_cons_succ]
              refine Still.takeBy (i := 8) [11, 10] (by kernel_rfl) (by kernel_rfl) rfl (by kernel_rfl) (by kernel_rfl) (by kernel_rfl) (fun _ _ _ h => h) (Or.inr ⟨by rfl, rfl⟩) hHeld ?r9
              simp only [Act.put, List.getElem_toArray, List.getElem_cons_zero, List.getElem_cons_succ, List.setIfInBounds_toArray, List.set_cons_zero, List.set_cons_succ]
              refine Still.takeBy (i := 9) [11, 10] (by kernel_rfl) (by kernel_rfl) rfl (by kernel_rfl) (by kernel_rfl) (by kernel_rfl) (fun _ _ _ h => h) (Or.inr ⟨by rfl, rfl⟩) hHeld ?r10
              simp only [Act.put, List.getElem_toArray, List.getElem_cons_zero, List.getElem_cons_succ, List.setIfInBounds_toArray, List.set_cons_zero, List.set_cons_succ]
              refine Still.takeBy (i := 10) [11] (by kernel_rfl) (by kernel_rfl) rfl (by kernel_rfl) (by kernel_rfl) (by kernel_rfl) (fun _ _ _ h => h) (Or.inr ⟨by rfl, rfl⟩) hHeld ?r11
              simp only [Act.put, List.getElem_toArray, List.getElem_cons_zero, List.getElem_cons_succ, List.setIfInBounds_toArray, List.set_cons_zero, List.set_cons_succ]
              refine Still.takeBy (i := 11) [] (by kernel_rfl) (by kernel_rfl) rfl (by kernel_rfl) (by kernel_rfl) (by kernel_rfl) (fun _ _ _ h => h) (Or.inr ⟨by rfl, rfl⟩) hHeld ?r12
              simp only [Act.put, List.getElem_toArray, List.getElem_cons_zero, List.getElem_cons_succ, List.setIfInBounds_toArray, List.set_cons_zero, List.set_cons_succ]
              refine Still.all (rs := [12]) (by kernel_rfl) (by simp) (Still.one (i := 12) rfl rfl (fun K hK => ?_) (by simp))
              go_simp
              refine hK _ _ (fun h => absurd rfl h) (fun _ => ?_)
              clear hK K
              refine Still.over (by kernel_rfl) ?_ _
              clear hHeld
              have HV : Hid (RowKit.Below wr.heap.size wr X.drew) := Lib.hid (HX.out.trans (RowKit.Below.refl _ _).drew)
              go_wp2
              go_roundw
              case rel => exact ⟨1, by go_num, by omega, HS2, bcl HV.out hws hb0, Nat.lt_of_lt_of_le hws HV.out.size, Lib.hid (HT.out.trans (HV.out.mono HT.out.size))⟩
              case measure => simp [intOf]; omega
            · have hk0 : (0 : Int) < k := by omega
              obtain ⟨d0, d1⟩ := edge_cells HPX.out (k - 1) (by omega)
              cases hls : ltEB (L[k - 1]'(by omega)) ⟨ef, et⟩ with
              | true =>
                have HS2 := Lib.hid (HST.out ⟨hA, hB, hC⟩ (fun _ => hls))
                clear HB1 HB2 HST hC
                generalize (L[k - 1]'(by omega)) = pd at d0 d1 hls
                obtain ⟨pf, pt⟩ := pd
                simp only at d0 d1
                have hwr : IntKind.i64.wrap ((k : Int) - 1) = ((k - 1 : Nat) : Int) := by simp [IntKind.wrap, IntKind.bits, IntKind.signed]; omega
                have hkl : ((k - 1 : Nat) : Int) < L.length := by omega
                generalize k - 1 = j at d0 d1 hwr hkl
                go_upto_region 6 with (go_at_call 71; refine (ceIsPart_any _ _ _).mono ?_; rintro e w' ⟨rfl, rfl⟩)
                have HX : Hid (RowKit.Below wr.heap.size wr (wr.alloc (.cells #[.int .i64 ef, .int .i64 et] 37))) := Lib.hid ((RowKit.Below.refl _ _).alloc (Nat.le_refl _) _)
                have x0 : (wr.alloc (.cells #[.int .i64 ef, .int .i64 et] 37)).cell? ⟨wr.heap.size, 0, none⟩ = some (.int .i64 ef) := by simp
                have x1 : (wr.alloc (.cells #[.int .i64 ef, .int .i64 et] 37)).cell? ⟨wr.heap.size, 1, none⟩ = some (.int .i64 et) := by simp
                have hxs : wr.heap.size < (wr.alloc (.cells #[.int .i64 ef, .int .i64 et] 37)).heap.size := by simp
                have y0 := bcl HX.out (by omega) hb0
                have y1 := bcl HX.out (by omega) d0
                have y2 := bcl HX.out (by omega) d1
                generalize wr.alloc (.cells #[.int .i64 ef, .int .i64 et] 37) = X at HX x0 x1 hxs y0 y1 y2 ⊢
                refine region_still (S := fun w' => w'.cell? ⟨wr.heap.size, 0, none⟩ = some (.int .i64 ef) ∧ w'.cell? ⟨wr.heap.size, 1, none⟩ = some (.int .i64 et) ∧ w'.cell? ⟨w.heap.size, 0, none⟩ = some (.slice (some ⟨pb, po, none⟩) L.length pc) ∧ w'.cell? ⟨pb, po + j * 2, none⟩ = some (.int .i64 pf) ∧ w'.cell? ⟨pb, po + j * 2 + 1, none⟩ = some (.int .i64 pt)) 12 (by kernel_rfl) ⟨x0, x1, y0, y1, y2⟩ (fun hHeld => ?_)
                refine Still.takeBy (i := 0) [2, 1] (v := ?v101) (by kernel_rfl) (by kernel_rfl) rfl (by kernel_rfl) (by kernel_rfl) (by kernel_rfl) (fun _ _ _ h => h) (Or.inl ⟨by rfl, ?y101⟩) hHeld ?r101
                case y101 => (intro w' hSw; (try dsimp only at hSw); obtain ⟨q0, q1, q2, q3, q4⟩ := hSw; go_simp; try with_reducible rfl)
                simp only [Act.put, List.getElem_toArray, List.getElem_cons_zero, List.getElem_cons_succ, List.setIfInBounds_toArray, List.set_cons_zero, List.set_cons_succ]
                refine Still.takeBy (i := 1) [2] (v := ?v102) (by kernel_rfl) (by kernel_rfl) rfl (by kernel_rfl) (by kernel_rfl) (by kernel_rfl) (fun _ _ _ h => h) (Or.inl ⟨by rfl, ?y102⟩) hHeld ?r102
                case y102 => (intro w' hSw; (try dsimp only at hSw); obtain ⟨q0, q1, q2, q3, q4⟩ := hSw; go_simp; try with_reducible rfl)
                simp only [Act.put, List.getElem_toArray, List.getElem_cons_zero, List.getElem_cons_succ, List.setIfInBounds_toArray, List.set_cons_zero, List.set_cons_succ]
                refine Still.takeBy (i := 2) [] (v := ?v103) (by kernel_rfl) (by kernel_rfl) rfl (by kernel_rfl) (by kernel_rfl) (by kernel_rfl) (fun _ _ _ h => h) (Or.inl ⟨by rfl, ?y103⟩) hHeld ?r103
                case y103 => (intro w' hSw; (try dsimp only at hSw); obtain ⟨q0, q1, q2, q3, q4⟩ := hSw; go_simp; try with_reducible rfl)
                simp only [Act.put, List.getElem_toArray, List.getElem_cons_zero, List.getElem_cons_succ, List.setIfInBounds_toArray, List.set_cons_zero, List.set_cons_succ]
                refine Still.takeBy (i := 3) [11, 10, 8, 7, 4] (v := ?v104) (by kernel_rfl) (by kernel_rfl) rfl (by kernel_rfl) (by kernel_rfl) (by kernel_rfl) (fun _ _ _ h => h) (Or.inl ⟨by rfl, ?y104⟩) hHeld ?r104
                case y104 => (intro w' hSw; (try dsimp only at hSw); obtain ⟨q0, q1, q2, q3, q4⟩ := hSw; go_simp; try with_reducible rfl)
                simp only [Act.put, List.getElem_toArray, List.getElem_cons_zero, List.getElem_cons_succ, List.setIfInBounds_toArray, List.set_cons_zero, List.set_cons_succ]
                refine Still.takeBy (i := 4) [11, 10, 8, 7] (v := ?v105) (by kernel_rfl) (by kernel_rfl) rfl (by kernel_rfl) (by kernel_rfl) (by kernel_rfl) (fun _ _ _ h => h) (Or.inl ⟨by rfl, ?y105⟩) hHeld ?r105
                case y105 => (intro w' hSw; (try dsimp only at hSw); obtain ⟨q0, q1, q2, q3, q4⟩ := hSw; go_simp; try with_reducible rfl)
                simp only [Act.put, List.getElem_toArray, List.getElem_cons_zero, List.getElem_cons_succ, List.setIfInBounds_toArray, List.set_cons_zero, List.set_cons_succ]
                refine Still.takeBy (i := 5) [11, 10, 8, 7, 6] (v := ?v106) (by kernel_rfl) (by kernel_rfl) rfl (by kernel_rfl) (by kernel_rfl) (by kernel_rfl) (fun _ _ _ h => h) (Or.inl ⟨by rfl, ?y106⟩) hHeld ?r106
                case y106 => (intro w' hSw; (try dsimp only at hSw); obtain ⟨q0, q1, q2, q3, q4⟩ := hSw; go_simp; try with_reducible rfl)
                simp only [Act.put, List.getElem_toArray, List.getElem_cons_zero, List.getElem_cons_succ, List.setIfInBounds_toArray, List.set_cons_zero, List.set_cons_succ]
                refine Still.takeBy (i := 6) [11, 10, 8, 7] (v := ?v107) (by kernel_rfl) (by kernel_rfl) rfl (by kernel_rfl) (by kernel_rfl) (by kernel_rfl) (fun _ _ _ h => h) (Or.inl ⟨by rfl, ?y107⟩) hHeld ?r107
                case y107 => (intro w' hSw; (try dsimp only at hSw); obtain ⟨q0, q1, q2, q3, q4⟩ := hSw; go_simp; try with_reducible rfl)
                simp only [Act.put, List.getElem_toArray, List.getElem_cons_zero, List.getElem_cons_succ, List.setIfInBounds_toArray, List.set_cons_zero, List.set_cons_succ]
                refine Still.takeBy (i := 7) [11, 10, 8] (v := ?v108) (by kernel_rfl) (by kernel_rfl) rfl (by kernel_rfl) (by kernel_rfl) (by kernel_rfl) (fun _ _ _ h => h) (Or.inl ⟨by rfl, ?y108⟩) hHeld ?r108
                case y108 => (intro w' hSw; (try dsimp only at hSw); obtain ⟨q0, q1, q2, q3, q4⟩ := hSw; go_simp; try with_reducible rfl)
                simp only [Act.put, List.getElem_toArray, List.getElem_cons_zero, List.getElem_cons_succ, List.setIfInBounds_toArray, List.set_cons_zero, List.set_cons_succ]
                refine Still.takeBy (i := 8) [11, 10] (v := ?v109) (by kernel_rfl) (by kernel_rfl) rfl (by kernel_rfl) (by kernel_rfl) (by kernel_rfl) (fun _ _ _ h => h) (Or.inl ⟨by rfl, ?y109⟩) hHeld ?r109
                case y109 => (intro w' hSw; (try dsimp only at hSw); obtain ⟨q0, q1, q2, q3, q4⟩ := hSw; go_simp; try with_reducible rfl)
                simp only [Act.put, List.getElem_toArray, List.getElem_cons_zero, List.getElem_cons_succ, List.setIfInBounds_toArray, List.set_cons_zero, List.set_cons_succ]
                refine Still.takeBy (i := 9) [11, 10] (v := ?v110) (by kernel_rfl) (by kernel_rfl) rfl (by kernel_rfl) (by kernel_rfl) (by kernel_rfl) (fun _ _ _ h => h) (Or.inl ⟨by rfl, ?y110⟩) hHeld ?r110
                case y110 => (intro w' hSw; (try dsimp only at hSw); obtain ⟨q0, q1, q2, q3, q4⟩ := hSw; go_simp; try with_reducible rfl)
                simp only [Act.put, List.getElem_toArray, List.getElem_cons_zero, List.getElem_cons_succ, List.setIfInBounds_toArray, List.set_cons_zero, List.set_cons_succ]
                refine Still.all (rs := [10]) (by kernel_rfl) (by simp) (Still.oneG (i := 10) rfl (by rfl) (fun K hK => ?_) (by simp))
                refine wp_call 72 _ _ rfl ent_less #[(⟨pf, pt⟩ : Edg).v, (⟨ef, et⟩ : Edg).v] (by first | rfl | simp [Act.eval, Act.put, Edg.v]) ((less_any _ _ _).mono ?_)
                rintro e V1 ⟨rfl, b5⟩
                have HV : Hid (RowKit.Below wr.heap.size wr V1) := Lib.hid ((HX.out.trans (RowKit.Below.refl _ _).drew).trans (b5.mono HX.out.size))
                refine ⟨_, rfl, hK _ _ (fun _ => ⟨bcl b5 hxs x0, bcl b5 hxs x1, bcl b5 (by show w.heap.size < X.heap.size; omega) y0, bcl b5 (by show pb < X.heap.size; omega) y1, bcl b5 (by show pb < X.heap.size; omega) y2⟩) (fun hh => ?_)⟩
                have hHeld := hh (by decide)
                clear hK K hh b5
                try simp only [Act.put, List.getElem_toArray, List.getElem_cons_zero, List.getElem_cons_succ, List.setIfInBounds_toArray, List.set_cons_zero, List.set_cons_succ]
                rw [hls]
                refine Still.takeBy (i := 11) [] (v := ?v111) (by kernel_rfl) (by kernel_rfl) rfl (by kernel_rfl) (by kernel_rfl) (by kernel_rfl) (fun _ _ _ h => h) (Or.inl ⟨by rfl, ?y111⟩) hHeld ?r111
                case y111 => (intro w' hSw; (try dsimp only at hSw); obtain ⟨q0, q1, q2, q3, q4⟩ := hSw; go_simp; try with_reducible rfl)
                simp only [Act.put, List.getElem_toArray, List.getElem_cons_zero, List.getElem_cons_succ, List.setIfInBounds_toArray, List.set_cons_zero, List.set_cons_succ]
                refine Still.all (rs := [12]) (by kernel_rfl) (by simp) (Still.one (i := 12) rfl rfl (fun K hK => ?_) (by simp))
                go_simp
                refine hK _ _ (fun h => absurd rfl h) (fun _ => ?_)
                clear hK K
                refine Still.over (by kernel_rfl) ?_ _
                clear hHeld
                go_wp2
                go_roundw
                case rel => exact ⟨k + 1, by go_num, by omega, HS2, bcl HV.out hws hb0, Nat.lt_of_lt_of_le hws HV.out.size, Lib.hid (HT.out.trans (HV.out.mono HT.out.size))⟩
                case measure => simp [intOf]; omega
              | false =>
                have HBAD := Lib.hid (HB2.out h0 hls)
                clear HB1 HB2 HST hC
                generalize (L[k - 1]'(by omega)) = pd at d0 d1 hls
                obtain ⟨pf, pt⟩ := pd
                simp only at d0 d1
                have hwr : IntKind.i64.wrap ((k : Int) - 1) = ((k - 1 : Nat) : Int) := by simp [IntKind.wrap, IntKind.bits, IntKind.signed]; omega
                have hkl : ((k - 1 : Nat) : Int) < L.length := by omega
                generalize k - 1 = j at d0 d1 hwr hkl
                go_upto_region 6 with (go_at_call 71; refine (ceIsPart_any _ _ _).mono ?_; rintro e w' ⟨rfl, rfl⟩)
                have HX : Hid (RowKit.Below wr.heap.size wr (wr.alloc (.cells #[.int .i64 ef, .int .i64 et] 37))) := Lib.hid ((RowKit.Below.refl _ _).alloc (Nat.le_refl _) _)
                have x0 : (wr.alloc (.cells #[.int .i64 ef, .int .i64 et] 37)).cell? ⟨wr.heap.size, 0, none⟩ = some (.int .i64 ef) := by simp
                have x1 : (wr.alloc (.cells #[.int .i64 ef, .int .i64 et] 37)).cell? ⟨wr.heap.size, 1, none⟩ = some (.int .i64 et) := by simp
                have hxs : wr.heap.size < (wr.alloc (.cells #[.int .i64 ef, .int .i64 et] 37)).heap.size := by simp
                have y0 := bcl HX.out (by omega) hb0
                have y1 := bcl HX.out (by omega) d0
                have y2 := bcl HX.out (by omega) d1
                generalize wr.alloc (.cells #[.int .i64 ef, .int .i64 et] 37) = X at HX x0 x1 hxs y0 y1 y2 ⊢
                refine region_still (S := fun w' => w'.cell? ⟨wr.heap.size, 0, none⟩ = some (.int .i64 ef) ∧ w'.cell? ⟨wr.heap.size, 1, none⟩ = some (.int .i64 et) ∧ w'.cell? ⟨w.heap.size, 0, none⟩ = some (.slice (some ⟨pb, po, none⟩) L.length pc) ∧ w'.cell? ⟨pb, po + j * 2, none⟩ = some (.int .i64 pf) ∧ w'.cell? ⟨pb, po + j * 2 + 1, none⟩ = some (.int .i64 pt)) 12 (by kernel_rfl) ⟨x0, x1, y0, y1, y2⟩ (fun hHeld => ?_)
                refine Still.takeBy (i := 0) [2, 1] (v := ?v201) (by kernel_rfl) (by kernel_rfl) rfl (by kernel_rfl) (by kernel_rfl) (by kernel_rfl) (fun _ _ _ h => h) (Or.inl ⟨by rfl, ?y201⟩) hHeld ?r201
                case y201 => (intro w' hSw; (try dsimp only at hSw); obtain ⟨q0, q1, q2, q3, q4⟩ := hSw; go_simp; try with_reducible rfl)
                simp only [Act.put, List.getElem_toArray, List.getElem_cons_zero, List.getElem_cons_succ, List.setIfInBounds_toArray, List.set_cons_zero, List.set_cons_succ]
                refine Still.takeBy (i := 1) [2] (v := ?v202) (by kernel_rfl) (by kernel_rfl) rfl (by kernel_rfl) (by kernel_rfl) (by kernel_rfl) (fun _ _ _ h => h) (Or.inl ⟨by rfl, ?y202⟩) hHeld ?r202
                case y202 => (intro w' hSw; (try dsimp only at hSw); obtain ⟨q0, q1, q2, q3, q4⟩ := hSw; go_simp; try with_reducible rfl)
                simp only [Act.put, List.getElem_toArray, List.getElem_cons_zero, List.getElem_cons_succ, List.setIfInBounds_toArray, List.set_cons_zero, List.set_cons_succ]
                refine Still.takeBy (i := 2) [] (v := ?v203) (by kernel_rfl) (by kernel_rfl) rfl (by kernel_rfl) (by kernel_rfl) (by kernel_rfl) (fun _ _ _ h => h) (Or.inl ⟨by rfl, ?y203⟩) hHeld ?r203
                case y203 => (intro w' hSw; (try dsimp only at hSw); obtain ⟨q0, q1, q2, q3, q4⟩ := hSw; go_simp; try with_reducible rfl)
                simp only [Act.put, List.getElem_toArray, List.getElem_cons_zero, List.getElem_cons_succ, List.setIfInBounds_toArray, List.set_cons_zero, List.set_cons_succ]
                refine Still.takeBy (i := 3) [11, 10, 8, 7, 4] (v := ?v204) (by kernel_rfl) (by kernel_rfl) rfl (by kernel_rfl) (by kernel_rfl) (by kernel_rfl) (fun _ _ _ h => h) (Or.inl ⟨by rfl, ?y204⟩) hHeld ?r204
                case y204 => (intro w' hSw; (try dsimp only at hSw); obtain ⟨q0, q1, q2, q3, q4⟩ := hSw; go_simp; try with_reducible rfl)
                simp only [Act.put, List.getElem_toArray, List.getElem_cons_zero, List.getElem_cons_succ, List.setIfInBounds_toArray, List.set_cons_zero, List.set_cons_succ]
                refine Still.takeBy (i := 4) [11, 10, 8, 7] (v := ?v205) (by kernel_rfl) (by kernel_rfl) rfl (by kernel_rfl) (by kernel_rfl) (by kernel_rfl) (fun _ _ _ h => h) (Or.inl ⟨by rfl, ?y205⟩) hHeld ?r205
                case y205 => (intro w' hSw; (try dsimp only at hSw); obtain ⟨q0, q1, q2, q3, q4⟩ := hSw; go_simp; try with_reducible rfl)
                simp only [Act.put, List.getElem_toArray, List.getElem_cons_zero, List.getElem_cons_succ, List.setIfInBounds_toArray, List.set_cons_zero, List.set_cons_succ]
                refine Still.takeBy (i := 5) [11, 10, 8, 7, 6] (v := ?v206) (by kernel_rfl) (by kernel_rfl) rfl (by kernel_rfl) (by kernel_rfl) (by kernel_rfl) (fun _ _ _ h => h) (Or.inl ⟨by rfl, ?y206⟩) hHeld ?r206
                case y206 => (intro w' hSw; (try dsimp only at hSw); obtain ⟨q0, q1, q2, q3, q4⟩ := hSw; go_simp; try with_reducible rfl)
                simp only [Act.put, List.getElem_toArray, List.getElem_cons_zero, List.getElem_cons_succ, List.setIfInBounds_toArray, List.set_cons_zero, List.set_cons_succ]
                refine Still.takeBy (i := 6) [11, 10, 8, 7] (v := ?v207) (by kernel_rfl) (by kernel_rfl) rfl (by kernel_rfl) (by kernel_rfl) (by kernel_rfl) (fun _ _ _ h => h) (Or.inl ⟨by rfl, ?y207⟩) hHeld ?r207
                case y207 => (intro w' hSw; (try dsimp only at hSw); obtain ⟨q0, q1, q2, q3, q4⟩ := hSw; go_simp; try with_reducible rfl)
                simp only [Act.put, List.getElem_toArray, List.getElem_cons_zero, List.getElem_cons_succ, List.setIfInBounds_toArray, List.set_cons_zero, List.set_cons_succ]
                refine Still.takeBy (i := 7) [11, 10, 8] (v := ?v208) (by kernel_rfl) (by kernel_rfl) rfl (by kernel_rfl) (by kernel_rfl) (by kernel_rfl) (fun _ _ _ h => h) (Or.inl ⟨by rfl, ?y208⟩) hHeld ?r208
                case y208 => (intro w' hSw; (try dsimp only at hSw); obtain ⟨q0, q1, q2, q3, q4⟩ := hSw; go_simp; try with_reducible rfl)
                simp only [Act.put, List.getElem_toArray, List.getElem_cons_zero, List.getElem_cons_succ, List.setIfInBounds_toArray, List.set_cons_zero, List.set_cons_succ]
                refine Still.takeBy (i := 8) [11, 10] (v := ?v209) (by kernel_rfl) (by kernel_rfl) rfl (by kernel_rfl) (by kernel_rfl) (by kernel_rfl) (fun _ _ _ h => h) (Or.inl ⟨by rfl, ?y209⟩) hHeld ?r209
                case y209 => (intro w' hSw; (try dsimp only at hSw); obtain ⟨q0, q1, q2, q3, q4⟩ := hSw; go_simp; try with_reducible rfl)
                simp only [Act.put, List.getElem_toArray, List.getElem_cons_zero, List.getElem_cons_succ, List.setIfInBounds_toArray, List.set_cons_zero, List.set_cons_succ]
                refine Still.takeBy (i := 9) [11, 10] (v := ?v210) (by kernel_rfl) (by kernel_rfl) rfl (by kernel_rfl) (by kernel_rfl) (by kernel_rfl) (fun _ _ _ h => h) (Or.inl ⟨by rfl, ?y210⟩) hHeld ?r210
                case y210 => (intro w' hSw; (try dsimp only at hSw); obtain ⟨q0, q1, q2, q3, q4⟩ := hSw; go_simp; try with_reducible rfl)
                simp only [Act.put, List.getElem_toArray, List.getElem_cons_zero, List.getElem_cons_succ, List.setIfInBounds_toArray, List.set_cons_zero, List.set_cons_succ]
                refine Still.all (rs := [10]) (by kernel_rfl) (by simp) (Still.oneG (i := 10) rfl (by rfl) (fun K hK => ?_) (by simp))
                refine wp_call 72 _ _ rfl ent_less #[(⟨pf, pt⟩ : Edg).v, (⟨ef, et⟩ : Edg).v] (by first | rfl | simp [Act.eval, Act.put, Edg.v]) ((less_any _ _ _).mono ?_)
                rintro e V1 ⟨rfl, b5⟩
                have HV : Hid (RowKit.Below wr.heap.size wr V1) := Lib.hid ((HX.out.trans (RowKit.Below.refl _ _).drew).trans (b5.mono HX.out.size))
                refine ⟨_, rfl, hK _ _ (fun _ => ⟨bcl b5 hxs x0, bcl b5 hxs x1, bcl b5 (by show w.heap.size < X.heap.size; omega) y0, bcl b5 (by show pb < X.heap.size; omega) y1, bcl b5 (by show pb < X.heap.size; omega) y2⟩) (fun hh => ?_)⟩
                have hHeld := hh (by decide)
                clear hK K hh b5
                try simp only [Act.put, List.getElem_toArray, List.getElem_cons_zero, List.getElem_cons_succ, List.setIfInBounds_toArray, List.set_cons_zero, List.set_cons_succ]
                rw [hls]
                refine Still.takeBy (i := 11) [] (v := ?v211) (by kernel_rfl) (by kernel_rfl) rfl (by kernel_rfl) (by kernel_rfl) (by kernel_rfl) (fun _ _ _ h => h) (Or.inl ⟨by rfl, ?y211⟩) hHeld ?r211
                case y211 => (intro w' hSw; (try dsimp only at hSw); obtain ⟨q0, q1, q2, q3, q4⟩ := hSw; go_simp; try with_reducible rfl)
                simp only [Act.put, List.getElem_toArray, List.getElem_cons_zero, List.getElem_cons_succ, List.setIfInBounds_toArray, List.set_cons_zero, List.set_cons_succ]
                refine Still.all (rs := [12]) (by kernel_rfl) (by simp) (Still.one (i := 12) rfl rfl (fun K hK => ?_) (by simp))
                go_simp
                refine hK _ _ (fun h => absurd rfl h) (fun _ => ?_)
                clear hK K
                refine Still.over (by kernel_rfl) ?_ _
                clear hHeld
                go_wp2
                go_ret
                exact ⟨ret_bool HBAD.out.symm, HT.out.trans (HV.out.mono HT.out.size)⟩
    · have hli : ¬ (k : Int) < L.length := by omega
      have HG := Lib.hid (polUp_all HP.out hlt)
      go_wp2
      go_ret
      exact ⟨ret_bool HG.out.symm, HT.out⟩
noncomputable def polE (S : SysD) (L : List Edg) : Int := if chkS S = 0 then (if polB S.parts.length L = true then 0 else 1) else chkS S
set_option maxHeartbeats 2000000 in
theorem ceCheck_any (S : SysD) (L : List Edg) (vp vc vs vL : Value) (w : World) (he : Env w) (hS : Sys w vp vc vs S) (hL : Sl w 2 vL L.length (rowC Edg.cells L)) :
    Calls Tryd.prog 24 #[.agg #[vp, vc, vs], .agg #[vL]] w fun e w' => e = .returned (.int .i64 (polE S L)) ∧ RowKit.Below w.heap.size w w' := by
  generalize hc : polE S L = c
  obtain ⟨pa, pc, rfl⟩ := hS.p.form
  obtain ⟨ca, cc, rfl⟩ := hS.c.form
  obtain ⟨sa, sc, rfl⟩ := hS.s.form
  obtain ⟨la, lc, rfl⟩ := hL.form
  unfold polE at hc
  generalize hr : chkS S = r at hc
  have HS := Lib.hid hS
  have HR := Lib.hid hr
  have HL := Lib.hid hL
  clear hS hr hL
  go_enter Tryd.func24, Tryd.ntmps24
  go_wp2_with fail
  refine (confCheck_any S _ _ _ _ (he.up (by repeat (first | exact Below.refl _ _ | assumption | refine Below.drew ?_ | refine Below.alloc ?_ (by first | (simp; done) | (simp; omega)) _ | refine Below.setCell ?_ (by first | (simp; done) | (simp; omega)) _))) (HS.out.up (by repeat (first | exact Below.refl _ _ | assumption | refine Below.drew ?_ | refine Below.alloc ?_ (by first | (simp; done) | (simp; omega)) _ | refine Below.setCell ?_ (by first | (simp; done) | (simp; omega)) _)))).mono ?_
  rw [HR.out]
  rintro e w1 ⟨rfl, bb⟩
  have k0 := (((box_new w (.slice pa S.parts.length pc) (.slice ca S.chans.length cc) (.slice sa S.slots.length sc) 26 _ rfl).up ((RowKit.Below.refl _ _).alloc (Nat.le_refl _) (.cells #[.slice la L.length lc] 52))).up bb).p
  have k1 : w1.cell? ⟨w.heap.size + 1, 0, none⟩ = some (.slice la L.length lc) := bcl bb (by simp) (by simp)
  have D := Lib.hid (RowKit.Below.trans (show RowKit.Below w.heap.size w _ from (by repeat (first | exact Below.refl _ _ | assumption | refine Below.drew ?_ | refine Below.alloc ?_ (by first | (simp; done) | (simp; omega)) _ | refine Below.setCell ?_ (by first | (simp; done) | (simp; omega)) _))) (bb.mono (by simp; omega)))
  clear bb
  by_cases h0 : r = 0
  · subst h0
    rw [if_pos rfl] at hc
    have sm := (chk_flow HR.out).1
    go_wp2_with fail
    refine (rightPolicy_any S.parts.length sm L _ _ (HL.out.up D.out)).mono ?_
    rintro e w2 ⟨rfl, b2⟩
    have D2 := Lib.hid (D.out.trans (b2.mono D.out.size))
    clear b2 D k0 k1
    cases hw : polB S.parts.length L
    all_goals
      rw [hw] at hc
      simp at hc
      subst hc
      go_wp2
      go_ret
      exact ⟨rfl, D2.out⟩
  · have h0' : (r != 0) = true := by simpa using h0
    rw [if_neg h0] at hc
    subst hc
    clear h0
    go_wp2
    go_ret
    exact ⟨rfl, D.out⟩
end Go.Proofs.YthpljbbhpbijgaaDoor
