/- The law SchedTrue, walked. -/
import Derived.Test.YtdijpjmbicfcdaaDoorSm0
import Derived.Test.YtdijpjmbicfcdaaDoorCc3
import Derived.Test.YtdijpjmbicfcdaaDoorSc5
namespace Go.Proofs.YtdijpjmbicfcdaaDoor
set_option linter.unusedSimpArgs false
set_option linter.unusedVariables false
open Go.RowKit Go.Sort

set_option maxRecDepth 100000 in
set_option maxHeartbeats 8000000 in
theorem schedTrue_any (S : SysD) (vp vc vs : Value) (tick part : Int) (htk : in64 tick) (hpt : in64 part) (w : World) (he : Env w) (hS : Sys w vp vc vs S) :
    Calls Tryd.prog 6 #[.agg #[vp, vc, vs], .int .i64 tick, .int .i64 part] w fun e w' => e = .returned (.bool true) ∧ Below w.heap.size w w' := by
  obtain ⟨pa, pc, rfl⟩ := hS.p.form
  obtain ⟨ca, cc, rfl⟩ := hS.c.form
  obtain ⟨sa, sc, rfl⟩ := hS.s.form
  have HS := Lib.hid hS
  generalize hz : chkS S = z
  have HZ := Lib.hid hz
  generalize hfr : (if z = 0 then sumT 0 S.slots else 0) = fr
  have HFR := Lib.hid hfr
  clear hS hz hfr
  go_enter Tryd.func6, Tryd.ntmps6
  go_wp2_with fail
  refine (frameC_any S _ _ _ _ (he.up (by repeat (first | exact Below.refl _ _ | assumption | refine Below.drew ?_ | refine Below.alloc ?_ (by first | (simp; done) | (simp; omega)) _ | refine Below.setCell ?_ (by first | (simp; done) | (simp; omega)) _))) (HS.out.up (by repeat (first | exact Below.refl _ _ | assumption | refine Below.drew ?_ | refine Below.alloc ?_ (by first | (simp; done) | (simp; omega)) _ | refine Below.setCell ?_ (by first | (simp; done) | (simp; omega)) _))) z HZ.out fr HFR.out).mono ?_
  rintro e w1 ⟨rfl, bb⟩
  have HB := Lib.hid ((box_new w (.slice pa S.parts.length pc) (.slice ca S.chans.length cc) (.slice sa S.slots.length sc) 26 _ rfl).up bb)
  have D := Lib.hid (Below.trans (show Below w.heap.size w _ from (by repeat (first | exact Below.refl _ _ | assumption | refine Below.drew ?_ | refine Below.alloc ?_ (by first | (simp; done) | (simp; omega)) _ | refine Below.setCell ?_ (by first | (simp; done) | (simp; omega)) _))) (bb.mono (by simp)))
  clear bb
  have k0 := HB.out.p
  have k1 := HB.out.c
  have k2 := HB.out.s
  by_cases h0 : z = 0
  · subst h0
    have hsl := slots_ok HZ.out
    have HSL := Lib.hid hsl
    have hcn := (countsB_is (chkS_zero HZ.out).1).1
    have hn1 : 1 ≤ S.parts.length := hcn.1
    have hn4 : S.parts.length ≤ 4 := hcn.2.1
    have hn6 : S.slots.length ≤ 6 := hcn.2.2.2.2
    have hp0 : ((S.parts.length : Int) == 0) = false := beq_false_of_ne (by omega)
    have hfp := frame_pos hsl.1 hsl.2
    have HFR1 : Hid (sumT 0 S.slots = fr) := HFR.out
    have hf1 : 1 ≤ fr := by rw [← HFR1.out]; exact hfp.1
    have hf2 : fr ≤ 48 := by rw [← HFR1.out]; exact hfp.2
    obtain ⟨N, hN⟩ := Int.eq_ofNat_of_zero_le (Int.le_trans (by decide) hf1 : (0 : Int) ≤ fr)
    subst hN
    have hN1 : 1 ≤ N := by omega
    have hN48 : N ≤ 48 := by omega
    clear hsl hcn hfp hf1 hf2
    go_wp2_with fail
    refine (choose_any tick htk 1048576 (by decide) (by decide) _).mono ?_
    rintro e w2 ⟨t, rfl, ht, rfl⟩
    go_wp2_with fail
    refine (who_any S _ _ _ (t : Int) _ (he.up D.out) (HS.out.up D.out) 0 (by rw [HZ.out, if_pos rfl, if_neg (by omega)]) (whoS S t) (if_pos rfl)).mono ?_
    rintro e w3 ⟨rfl, bb⟩
    have HB := Lib.hid (HB.out.up bb)
    have D := Lib.hid (D.out.trans (bb.mono D.out.size))
    clear bb k0 k1 k2
    have k0 := HB.out.p
    have k1 := HB.out.c
    have k2 := HB.out.s
    have hwf : Hid (whoS S ((t : Int) + N) = whoS S t) := by show _ = _; rw [← HFR1.out]; exact who_frame S t
    go_wp2_with fail
    refine (who_any S _ _ _ ((t : Int) + N) _ (he.up D.out) (HS.out.up D.out) 0 (by rw [HZ.out, if_pos rfl, if_neg (by omega)]) (whoS S t) (by rw [if_pos rfl]; exact hwf.out)).mono ?_
    rintro e w4 ⟨rfl, bb⟩
    have HB := Lib.hid (HB.out.up bb)
    have D := Lib.hid (D.out.trans (bb.mono D.out.size))
    clear bb k0 k1 k2
    have k0 := HB.out.p
    have k1 := HB.out.c
    have k2 := HB.out.s
    go_wp2_with fail
    refine (choose_any part hpt S.parts.length hn1 (by omega) _).mono ?_
    rintro e w5 ⟨u, rfl, hu, rfl⟩
    go_wp2_with fail
    refine (calm_yes S _ _ _ u _ (he.up D.out) (HS.out.up D.out) HZ.out hu).mono ?_
    rintro e w6 ⟨xp, xc, xs, rfl, hx, bb⟩
    obtain ⟨xpa, xpc, rfl⟩ := hx.sys.p.form
    obtain ⟨xca, xcc, rfl⟩ := hx.sys.c.form
    obtain ⟨xsa, xsc, rfl⟩ := hx.sys.s.form
    have HX := Lib.hid hx.sys
    have HB := Lib.hid (HB.out.up bb)
    have D := Lib.hid (D.out.trans (bb.mono D.out.size))
    clear bb k0 k1 k2 hx
    go_wp2_with fail
    refine (who_any (calmS S u) _ _ _ (t : Int) _ ((he.up D.out).up (by repeat (first | exact Below.refl _ _ | assumption | refine Below.drew ?_ | refine Below.alloc ?_ (by first | (simp; done) | (simp; omega)) _ | refine Below.setCell ?_ (by first | (simp; done) | (simp; omega)) _))) (HX.out.up (by repeat (first | exact Below.refl _ _ | assumption | refine Below.drew ?_ | refine Below.alloc ?_ (by first | (simp; done) | (simp; omega)) _ | refine Below.setCell ?_ (by first | (simp; done) | (simp; omega)) _))) 0 (by rw [calm_right HZ.out u, if_pos rfl, if_neg (by omega)]) (whoS S t) (if_pos rfl)).mono ?_
    rintro e w7 ⟨rfl, bb⟩
    have D67 := Lib.hid (show Below w6.heap.size w6 w7 from Below.trans (by repeat (first | exact Below.refl _ _ | assumption | refine Below.drew ?_ | refine Below.alloc ?_ (by first | (simp; done) | (simp; omega)) _ | refine Below.setCell ?_ (by first | (simp; done) | (simp; omega)) _)) (bb.mono (by simp)))
    have HB := Lib.hid (HB.out.up D67.out)
    have D := Lib.hid (D.out.trans (D67.out.mono D.out.size))
    clear bb D67 HX
    generalize hwh : whoS S (t : Int) = p0
    have hpp : (p0 != p0) = false := by simp
    have k2 := HB.out.s
    clear hwh hwf
    have hti : (t : Int) < 1048576 := by omega
    have HSS := Lib.hid (HS.out.s.up D.out)
    go_wp2
    go_loopw [19, 21] (fun wv i wr => ∃ k : Nat, i = .int .i64 k ∧ k ≤ S.slots.length ∧ wv = .int .i64 (wantT (u : Int) 0 (S.slots.take k)) ∧ wr = w7) (fun _ i _ => S.slots.length - (intOf i).toNat)
    case atStart => exact ⟨0, rfl, Nat.zero_le _, rfl, rfl⟩
    case round =>
      obtain ⟨k, rfl, hk, rfl, rfl⟩ := hrel
      have hbd := wantT_bd HSL.out.1 (u : Int) k hk
      by_cases hlt : k < S.slots.length
      · have hli : (k : Int) < S.slots.length := by omega
        obtain ⟨b, off, cap', e1, hcap, hbw, hc⟩ := HSS.out.open (by omega)
        cases e1
        obtain ⟨c0, c1⟩ := slot_cells hc k hlt
        have hb8 := HSL.out.1.2 k hlt
        generalize hq : (S.slots[k].pt == (u : Int)) = q
        have HW : Hid (wantT (u : Int) 0 (S.slots.take (k + 1)) = if q = true then wantT (u : Int) 0 (S.slots.take k) + S.slots[k].tk else wantT (u : Int) 0 (S.slots.take k)) := by
          show _ = _
          rw [List.take_succ_eq_append_getElem hlt, wantT_snoc, hq]
        clear hc
        generalize wantT (u : Int) 0 (S.slots.take k) = W at *
        cases q
        all_goals
          go_wp2
          go_roundw
          case rel => exact ⟨k + 1, by go_num, by omega, by rw [HW.out]; rfl, by first | rfl | trivial⟩
          case measure => simp [intOf]; omega
      · have hli : ¬ (k : Int) < S.slots.length := by omega
        have hWT : Hid (wantT (u : Int) 0 (S.slots.take k) = wantT (u : Int) 0 S.slots) := by show _ = _; rw [List.take_of_length_le (by omega)]
        generalize wantT (u : Int) 0 (S.slots.take k) = W at *
        clear hbd k2 hlt hk HSS
        have k2 := HB.out.s
        go_wp2
        go_loopw [20, 22] (fun hv i wr => ∃ m : Nat, i = .int .i64 m ∧ m ≤ N ∧ hv = .int .i64 ((cntF (fun x => whoS S ((t : Int) + x) == (u : Int)) m : Nat) : Int) ∧ Hid (Box wr w.heap.size (.slice pa S.parts.length pc) (.slice ca S.chans.length cc) (.slice sa S.slots.length sc)) ∧ Hid (Below w.heap.size w wr)) (fun _ i _ => N - (intOf i).toNat)
        case atStart => exact ⟨0, rfl, Nat.zero_le _, rfl, HB, D⟩
        case round =>
          clear HB D k2 hli
          obtain ⟨m, rfl, hm, rfl, HB, D⟩ := hrel
          have hcl := cntF_le (fun x => whoS S ((t : Int) + x) == (u : Int)) m
          by_cases hlt : m < N
          · have hl1 : (m : Int) < N := by omega
            have hl2 : (m : Int) < 48 := by omega
            have k0 := HB.out.p
            have k1 := HB.out.c
            have k2 := HB.out.s
            generalize hq : (whoS S ((t : Int) + (m : Int)) == (u : Int)) = q
            have HC : Hid (cntF (fun x => whoS S ((t : Int) + x) == (u : Int)) (m + 1) = cntF (fun x => whoS S ((t : Int) + x) == (u : Int)) m + if q = true then 1 else 0) := by show _ = _; rw [cntF, hq]
            generalize hpw : whoS S ((t : Int) + (m : Int)) = pw at hq
            have HPW := Lib.hid hpw
            clear hpw
            generalize cntF (fun x => whoS S ((t : Int) + x) == (u : Int)) m = cn at *
            go_wp2_with fail
            refine (who_any S _ _ _ ((t : Int) + (m : Int)) _ (he.up D.out) (HS.out.up D.out) 0 (by rw [HZ.out, if_pos rfl, if_neg (by omega)]) pw (by rw [if_pos rfl]; exact HPW.out)).mono ?_
            rintro e w8 ⟨rfl, bb⟩
            have HB := Lib.hid (HB.out.up bb)
            have D := Lib.hid (D.out.trans (bb.mono D.out.size))
            clear bb k0 k1 k2
            cases q
            all_goals
              go_wp2
              go_roundw
              case rel => exact ⟨m + 1, by go_num, by omega, by rw [HC.out]; go_num, HB, D⟩
              case measure => simp [intOf]; omega
          · have hl1 : ¬ (m : Int) < N := by omega
            obtain rfl : m = N := by omega
            have HE : Hid (((cntF (fun x => whoS S ((t : Int) + x) == (u : Int)) m : Nat) : Int) = W) := by
              show _ = _
              rw [hWT.out]
              exact frame_count HSL.out.1 HSL.out.2 (u : Int) t m HFR1.out.symm
            generalize ((cntF (fun x => whoS S ((t : Int) + x) == (u : Int)) m : Nat) : Int) = cn at *
            have e2 := HE.out
            subst e2
            have hww : (cn == cn) = true := by simp
            go_wp2_with fail
            refine (schedBegun_any _ (he.up D.out)).mono ?_
            rintro e w9 ⟨rfl, bb⟩
            have D := Lib.hid (D.out.trans (bb.mono D.out.size))
            clear bb
            go_wp2
            go_ret
            exact ⟨rfl, D.out⟩
  · have hz' : (z != 0) = true := by simpa using h0
    clear h0
    go_wp2_with fail
    refine (schedBegun_any _ (he.up D.out)).mono ?_
    rintro e w4 ⟨rfl, bb⟩
    have D := Lib.hid (D.out.trans (bb.mono D.out.size))
    clear bb
    go_wp2
    go_ret
    exact ⟨rfl, D.out⟩
end Go.Proofs.YtdijpjmbicfcdaaDoor
