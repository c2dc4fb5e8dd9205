/- The law ChansTrue, walked. -/
import Derived.Test.YtpikadbljhfoiaaChansT1
import Derived.Deep.CutRange
namespace Go.Proofs.Ytpikadbljhfoiaa
set_option linter.unusedSimpArgs false
set_option linter.unusedVariables false
open Go.RowKit Go.Sort

set_option maxRecDepth 100000 in
set_option maxHeartbeats 8000000 in
theorem true_any (xs : List Int) (v : Value) (gets : Int) (w : World) (hS : Sl w 1 v xs.length (ints xs)) :
    Calls Try.prog 4 #[v, .int .i64 gets] w fun e w' => e = .returned (.bool true) ∧ Below w.heap.size w w' := by
  obtain ⟨i0, hi, hz0, hz1, hz2⟩ := info_parts info3
  obtain ⟨ax, cx, rfl⟩ := hS.form
  have HS := Lib.hid hS
  clear hS
  go_enter Try.func4, Try.ntmps4
  go_wp2
  go_loopw [7, 8, 9] (fun vi vo i wr => ∃ (k : Nat) (Q S I O : List Int) (q s : Value), i = .int .i64 k ∧ k ≤ xs.length ∧ k ≤ 40 ∧ Q.length ≤ 3 ∧ S.length ≤ 1 ∧ Hid (I = O ++ Q) ∧ I.length ≤ k ∧ O.length ≤ k ∧ Hid (Inv w wr w.heap.size Q S I O q s vi vo)) (fun _ _ i _ => 40 - (intOf i).toNat)
  case atStart =>
    refine ⟨0, [], [], [], [], .slice none 0 0, .slice none 0 0, rfl, by omega, by omega, by simp, by simp, rfl, by simp, by simp, ?_⟩
    exact ⟨cl_alloc _ (by simp) (by simp), fr_alloc _ (by simp) (by simp), by simp, by simp, Sl.nil _ _, Sl.nil _ _, (fun h => by simp at h), (fun h => by simp at h), World.ownsRow_nil _ _ _ _, World.ownsRow_nil _ _ _ _, (fun h => by simp at h), (fun h => by simp at h), (fun k h => by cases h), (by repeat (first | exact Below.refl _ _ | assumption | refine Below.drew ?_ | refine Below.alloc ?_ (by first | (simp; done) | (simp; omega)) _ | refine Below.setCell ?_ (by first | (simp; done) | (simp; omega)) _)), by simp⟩
  case round =>
    obtain ⟨k, Q, S, I, O, q, s, rfl, hkl, hk40, hQ, hSS, HE, hIk, hOk, HI⟩ := hrel
    obtain ⟨qa, qc, rfl⟩ := HI.out.sq.form
    obtain ⟨sa, sc, rfl⟩ := HI.out.ss.form
    obtain ⟨ia, ic, rfl⟩ := own_form HI.out.oi
    obtain ⟨oa, oc, rfl⟩ := own_form HI.out.oo
    have hsz := HI.out.sz
    by_cases hlt : k < xs.length ∧ k < 40
    · obtain ⟨hl1, hl2⟩ := hlt
      obtain ⟨b, off, cap, e1, hcap, hbw, hcs⟩ := HS.out.open (by omega)
      cases e1
      have i0' : (0 : Int) ≤ k := by omega
      have i1 : (k : Int) < xs.length := by omega
      have i2 : (k : Int) < 40 := by omega
      have HX := Lib.hid (hcs k _ (ints_at xs k hl1))
      generalize hx : xs[k] = x at HX
      have x0 : wr.cell? ⟨b, off + k, none⟩ = some (.int .i64 x) := bcl HI.out.bel hbw HX.out
      have cq := HI.out.cq
      have x0' : (wr.alloc (.cells #[.slice none 0 0] 24)).cell? ⟨b, off + k, none⟩ = some (.int .i64 x) := cl_alloc _ (Nat.lt_of_lt_of_le hbw HI.out.bel.size) x0
      have cq' : (wr.alloc (.cells #[.slice none 0 0] 24)).cell? ⟨w.heap.size, 0, none⟩ = some (.slice qa Q.length qc) := cl_alloc _ (by omega) cq
      clear hcs hx
      obtain ⟨Z, t, hz⟩ : ∃ Z t, putR 2 Q x = (Z, t) := ⟨_, _, rfl⟩
      have HZ := Lib.hid hz
      have hZ : Z.length ≤ 3 ∧ 0 < Z.length ∧ Hid (t = true → Z = Q ++ [x]) ∧ Hid (t = false → Z = Q) := by
        rw [putR2 Q x hQ] at hz
        split at hz <;> cases hz
        · exact ⟨by omega, by omega, fun e => (by cases e), fun _ => rfl⟩
        · exact ⟨by simp; omega, by simp, fun _ => rfl, fun e => (by cases e)⟩
      obtain ⟨hZ3, hZ0, HZt, HZf⟩ := hZ
      clear hz
      go_wp2
      go_cut [10, 11, 12] from 31 to 138 (fun a t' e wc => ∃ b1 v1, a = .pointer (some ⟨b1, 0, none⟩) ∧ t' = .bool t ∧ e = .int .i64 0 ∧ Hid (Fresh1 wr wc b1 v1 Z))
      case first =>
        --<
        go_region_with (first | (go_at_call 5; refine (put_c 2 Q _ x _ (HI.out.sq.up (by repeat (first | exact Below.refl _ _ | assumption | refine Below.drew ?_ | refine Below.alloc ?_ (by first | (simp; done) | (simp; omega)) _ | refine Below.setCell ?_ (by first | (simp; done) | (simp; omega)) _))) 0 (chk2 hQ) Z t HZ.out).mono ?_; rintro e w1 ⟨v, rfl, s, bb⟩; obtain ⟨a1, c1, rfl⟩ := s.1.form; have F := Lib.hid (fresh_A (wr := wr) (u := .slice none 0 0) (by repeat (first | exact Below.refl _ _ | assumption | refine Below.drew ?_ | refine Below.alloc ?_ (by first | (simp; done) | (simp; omega)) _ | refine Below.setCell ?_ (by first | (simp; done) | (simp; omega)) _)) (by simp) (by simp) s bb); have z : w1.cell? ⟨wr.heap.size, 0, none⟩ = some (.slice none 0 0) := bcl bb (by simp) (by simp); have y : w1.frozen? ⟨wr.heap.size, 0, none⟩ = false := bfr bb (by simp) (by simp); have tt : wr.heap.size < w1.heap.size := (by have := bb.size; simp at this; omega); clear s bb) | (go_at_call 5; refine (put_c 2 Q _ x _ (HI.out.sq.up (by repeat (first | exact Below.refl _ _ | assumption | refine Below.drew ?_ | refine Below.alloc ?_ (by first | (simp; done) | (simp; omega)) _ | refine Below.setCell ?_ (by first | (simp; done) | (simp; omega)) _))) 0 (chk2 hQ) Z t HZ.out).mono ?_; rintro e w1 ⟨v, rfl, s, bb⟩; obtain ⟨a1, c1, rfl⟩ := s.1.form; have F := Lib.hid (fresh_B (wr := wr) (t := 24) (by repeat (first | exact Below.refl _ _ | assumption | refine Below.drew ?_ | refine Below.alloc ?_ (by first | (simp; done) | (simp; omega)) _ | refine Below.setCell ?_ (by first | (simp; done) | (simp; omega)) _)) (by simp) s bb); clear s bb))
        all_goals go_wp2
        all_goals go_meet
        all_goals exact ⟨_, _, rfl, rfl, rfl, F⟩
        -->
      case rest =>
        obtain ⟨b1, v1, rfl, rfl, rfl, F1⟩ := hcut
        obtain ⟨W1, hW1⟩ : ∃ W1, W1 = wc := ⟨_, rfl⟩
        subst hW1
        clear x0 x0' cq cq'
        have hs1 := F1.out.bel.size
        have HI1 := Lib.hid (HI.out.up F1.out.bel)
        have x0 : W1.cell? ⟨b, off + k, none⟩ = some (.int .i64 x) := bcl HI1.out.bel hbw HX.out
        have cs := HI1.out.cs
        have x0' : (W1.alloc (.cells #[.slice none 0 0] 24)).cell? ⟨b, off + k, none⟩ = some (.int .i64 x) := cl_alloc _ (Nat.lt_of_lt_of_le hbw HI1.out.bel.size) x0
        have cs' : (W1.alloc (.cells #[.slice none 0 0] 24)).cell? ⟨w.heap.size + 1, 0, none⟩ = some (.slice sa S.length sc) := cl_alloc _ (by omega) cs
        go_wp2
        go_cut [13, 14, 15] from 31 to 138 (fun a t' e wc => ∃ b2 v2, a = .pointer (some ⟨b2, 0, none⟩) ∧ t' = .bool true ∧ e = .int .i64 0 ∧ Hid (Fresh1 W1 wc b2 v2 [x]))
        case first =>
          --<
          go_region_with (first | (go_at_call 5; refine (put_c 1 S _ x _ (HI1.out.ss.up (by repeat (first | exact Below.refl _ _ | assumption | refine Below.drew ?_ | refine Below.alloc ?_ (by first | (simp; done) | (simp; omega)) _ | refine Below.setCell ?_ (by first | (simp; done) | (simp; omega)) _))) 0 (chk1 hSS) [x] true (putR1 S x hSS)).mono ?_; rintro e w1 ⟨v, rfl, s, bb⟩; obtain ⟨a1, c1, rfl⟩ := s.1.form; have F := Lib.hid (fresh_A (wr := W1) (u := .slice none 0 0) (by repeat (first | exact Below.refl _ _ | assumption | refine Below.drew ?_ | refine Below.alloc ?_ (by first | (simp; done) | (simp; omega)) _ | refine Below.setCell ?_ (by first | (simp; done) | (simp; omega)) _)) (by simp) (by simp) s bb); have z : w1.cell? ⟨W1.heap.size, 0, none⟩ = some (.slice none 0 0) := bcl bb (by simp) (by simp); have y : w1.frozen? ⟨W1.heap.size, 0, none⟩ = false := bfr bb (by simp) (by simp); have tt : W1.heap.size < w1.heap.size := (by have := bb.size; simp at this; omega); clear s bb) | (go_at_call 5; refine (put_c 1 S _ x _ (HI1.out.ss.up (by repeat (first | exact Below.refl _ _ | assumption | refine Below.drew ?_ | refine Below.alloc ?_ (by first | (simp; done) | (simp; omega)) _ | refine Below.setCell ?_ (by first | (simp; done) | (simp; omega)) _))) 0 (chk1 hSS) [x] true (putR1 S x hSS)).mono ?_; rintro e w1 ⟨v, rfl, s, bb⟩; obtain ⟨a1, c1, rfl⟩ := s.1.form; have F := Lib.hid (fresh_B (wr := W1) (t := 24) (by repeat (first | exact Below.refl _ _ | assumption | refine Below.drew ?_ | refine Below.alloc ?_ (by first | (simp; done) | (simp; omega)) _ | refine Below.setCell ?_ (by first | (simp; done) | (simp; omega)) _)) (by simp) s bb); clear s bb))
          all_goals go_wp2
          all_goals go_meet
          all_goals exact ⟨_, _, rfl, rfl, rfl, F⟩
          -->
        case rest =>
          obtain ⟨b2, v2, rfl, rfl, rfl, F2⟩ := hcut
          obtain ⟨W2, hW2⟩ : ∃ W2, W2 = wc := ⟨_, rfl⟩
          subst hW2
          clear x0 x0' cs cs'
          have HI2 := Lib.hid (HI1.out.up F2.out.bel)
          have TW := Lib.hid (two_mk HI.out F1.out F2.out)
          clear HI HI1 F1 F2
          obtain ⟨a1, c1, rfl⟩ := TW.out.s1.form
          obtain ⟨a2, c2, rfl⟩ := TW.out.s2.form
          have k1 := TW.out.c1
          have k2 := TW.out.c2
          go_wp2_with fail
          refine (chk_any 2 a1 Z.length c1 _ 0 (chk2 hZ3)).mono ?_
          rintro e w3 ⟨rfl, bb⟩
          have k2 : w3.cell? ⟨b2, 0, none⟩ = some (.slice a2 1 c2) := bcl bb TW.out.l2 k2
          go_wp2_with fail
          refine (chk_any 1 a2 1 c2 _ 0 (chk1 (by simp))).mono ?_
          rintro e w4 ⟨rfl, bb4⟩
          have D := bb.trans (bb4.mono bb.size)
          have HI4 := Lib.hid (HI2.out.up D)
          have TW4 := Lib.hid (TW.out.up D)
          clear k1 k2 bb bb4 D HI2 TW
          go_upto_if 77 with fail
          go_cut [7] from 31 to 138 (fun vi wc => ∃ I', Hid (I' = O ++ Z) ∧ I'.length ≤ k + 1 ∧ Hid (Inv w wc w.heap.size Q S I' O (.slice qa Q.length qc) (.slice sa S.length sc) vi (.slice oa O.length oc)) ∧ Hid (Two wc w.heap.size b1 b2 (.slice a1 Z.length c1) (.slice a2 1 c2) vi (.slice oa O.length oc) Z [x]))
          case first =>
            --<
            have hsz4 := HI4.out.sz
            cases t
            · have HZq := Lib.hid (HZf.out rfl)
              clear HZt HZf HZ
              go_wp2
              go_meet
              case rel => exact ⟨I, by show I = O ++ Z; rw [HZq.out, HE.out], by omega, HI4, TW4⟩
            · have HZq := Lib.hid (HZt.out rfl)
              clear HZt HZf HZ
              have x4 : w4.cell? ⟨b, off + k, none⟩ = some (.int .i64 x) := bcl HI4.out.bel hbw HX.out
              go_wp2_with (at_builtin; refine wpList_append_lies _ rfl (.tmp 78) (.tmp 83) 22 rfl (w.heap.size + 2) 3 i0 (.int .i64 0) 1 8 Try.underlying22 hi hz0 hz1 hz2 rfl (by decide) (.slice ia I.length ic) I.length (ints I) rfl (HI4.out.oi.alloc _) ⟨_, 0, none⟩ 1 1 [.int .i64 x] rfl rfl (one_at _ _ 3 _ (by simp)) (int_cell _) (by decide) (by unfold maxLen; omega) (by omega) (by simp; omega) _ rfl ?_)
              intro g cap1 w5 hown hgrow hat hglt
              have hb4 : Below w4.heap.size w4 (w4.alloc (.cells #[.int .i64 x] 3)) := (Below.refl _ _).alloc (Nat.le_refl _) _
              have hnew := lies_new (H := (w4.alloc (.cells #[.int .i64 x] 3)).heap.size) (n := I.length + 1) (cap := cap1) (hat.imp id (fun e => by rw [e]; simp)) 0
              have HI5 := Lib.hid (Inv.addi (z := x) (HI4.out.up hb4) hgrow (by simpa [ints] using hown) hnew)
              have TW5 := Lib.hid ((TW4.out.up hb4).addi hgrow hnew)
              clear hown hgrow hat hnew hb4
              go_wp2
              go_meet
              case rel => exact ⟨I ++ [x], by show I ++ [x] = O ++ Z; rw [HZq.out, HE.out]; simp, by simp; omega, HI5, TW5⟩
            -->
          case rest =>
            obtain ⟨I', HE', hI', HI5, TW5⟩ := hcut
            obtain ⟨W5, hW5⟩ : ∃ W5, W5 = wc := ⟨_, rfl⟩
            subst hW5
            clear HE HI4 TW4 HZ HZt HZf hIk
            obtain ⟨ia', ic', rfl⟩ := own_form HI5.out.oi
            have k1 := TW5.out.c1
            have k2 := TW5.out.c2
            have cq := HI5.out.cq
            have fq := HI5.out.fq
            have cs := HI5.out.cs
            have fs := HI5.out.fs
            have hg1 := TW5.out.g1
            have hg2 := TW5.out.g2
            go_wp2
            go_cut [] from 31 to 138 (fun wc => Hid (Inv w wc w.heap.size Z [x] I' O (.slice a1 Z.length c1) (.slice a2 1 c2) (.slice ia' I'.length ic') (.slice oa O.length oc)))
            case first =>
              --<
              go_region
              all_goals go_wp2
              all_goals go_meet
              all_goals first | exact (Two.store HI5.out TW5.out).up (by repeat (first | exact Below.refl _ _ | assumption | refine Below.drew ?_ | refine Below.alloc ?_ (by first | (simp; done) | (simp; omega)) _ | refine Below.setCell ?_ (by first | (simp; done) | (simp; omega)) _)) | exact (Two.store' HI5.out TW5.out).up (by repeat (first | exact Below.refl _ _ | assumption | refine Below.drew ?_ | refine Below.alloc ?_ (by first | (simp; done) | (simp; omega)) _ | refine Below.setCell ?_ (by first | (simp; done) | (simp; omega)) _))
              -->
            case rest =>
              obtain ⟨W6, hW6⟩ : ∃ W6, W6 = wc := ⟨_, rfl⟩
              subst hW6
              have HI6 := hcut
              clear hcut k1 k2 cq fq cs fs hg1 hg2 HI5 TW5
              have hk1 : ((k : Int) + 1 == 0) = false := by simp; omega
              go_wp2_with fail
              refine (choose_any _ _).mono ?_
              rintro e w' ⟨m, rfl, rfl⟩
              by_cases hm : m = 0
              · have hm' : (m == 0) = true := by simp [hm]
                clear hm
                go_wp2
                go_roundw
                case rel => exact ⟨k + 1, Z, [x], I', O, _, _, by go_num, by omega, by omega, hZ3, by simp, HE', by omega, by omega, HI6⟩
                case measure => simp [intOf]; omega
              · have hm' : (m == 0) = false := by simp [hm]
                clear hm
                have HR : ∃ R z, Hid (getR 2 Z = (R, z, true)) ∧ Hid (Z = z :: R) ∧ R.length + 1 = Z.length := by
                  cases Z with
                  | nil => simp at hZ0
                  | cons z R => exact ⟨R, z, getR2 _ hZ3, rfl, rfl⟩
                obtain ⟨R, z, HG, HZR, hRl⟩ := HR
                have HRL := Lib.hid hRl
                have hR2 : R.length ≤ 2 := by omega
                clear hRl
                have cq := HI6.out.cq
                go_wp2_with fail
                refine (get_c 2 Z _ _ HI6.out.sq 0 (chk2 hZ3) R z true HG.out).mono ?_
                rintro e w7 ⟨v3, rfl, s3, bb7⟩
                obtain ⟨a3, c3, rfl⟩ := s3.1.form
                have F3 := Lib.hid (fresh_B (wr := w') (t := 24) (Below.refl _ _) rfl s3 bb7)
                have HI7 := Lib.hid (HI6.out.up F3.out.bel)
                have cs := HI7.out.cs
                clear s3 bb7 cq
                go_wp2_with fail
                refine (get_c 1 [x] _ _ HI7.out.ss 0 (chk1 (by simp)) [x] x true rfl).mono ?_
                rintro e w8 ⟨v4, rfl, s4, bb8⟩
                obtain ⟨a4, c4, hv4⟩ : ∃ a c, v4 = .slice a 1 c := s4.1.form
                subst hv4
                have F4 := Lib.hid (fresh_B (wr := w7.alloc (.cells #[.slice a3 R.length c3] 24)) (t := 24) (Below.refl _ _) rfl s4 bb8)
                have HI8 := Lib.hid (HI7.out.up F4.out.bel)
                have TW8 := Lib.hid (two_mk HI6.out F3.out F4.out)
                clear s4 bb8 cs HI6 HI7 F3 F4
                have cs := HI8.out.cs
                have k4 := TW8.out.c2
                have x8 : (w8.alloc (.cells #[.slice a4 1 c4] 24)).cell? ⟨b, off + k, none⟩ = some (.int .i64 x) := bcl HI8.out.bel hbw HX.out
                have hxx : (x != x) = false := by simp
                go_wp2_with fail
                refine (sameInts_any [x] [x] _ _ _ TW8.out.s2 HI8.out.ss (by simp) true (by simp)).mono ?_
                rintro e w9 ⟨rfl, bb9⟩
                have HI9 := Lib.hid (HI8.out.up bb9)
                have TW9 := Lib.hid (TW8.out.up bb9)
                have hsz9 := HI9.out.sz
                clear cs k4 x8 HI8 TW8 bb9
                go_wp2_with (at_builtin; refine wpList_append_lies _ rfl (.tmp 134) (.tmp 136) 22 rfl (w.heap.size + 2) 3 i0 (.int .i64 0) 1 8 Try.underlying22 hi hz0 hz1 hz2 rfl (by decide) (.slice oa O.length oc) O.length (ints O) rfl (HI9.out.oo.alloc _) ⟨_, 0, none⟩ 1 1 [.int .i64 z] rfl rfl (one_at _ _ 3 _ (by simp)) (int_cell _) (by decide) (by unfold maxLen; omega) (by omega) (by simp; omega) _ rfl ?_)
                intro g cap1 w10 hown hgrow hat hglt
                have hb9 : Below w9.heap.size w9 (w9.alloc (.cells #[.int .i64 z] 3)) := (Below.refl _ _).alloc (Nat.le_refl _) _
                have hnew := lies_new (H := (w9.alloc (.cells #[.int .i64 z] 3)).heap.size) (n := O.length + 1) (cap := cap1) (hat.imp id (fun e => by rw [e]; simp)) 0
                have HI10 := Lib.hid (Inv.addo (z := z) (HI9.out.up hb9) hgrow (by simpa [ints] using hown) hnew)
                have TW10 := Lib.hid ((TW9.out.up hb9).addo hgrow hnew)
                clear hown hgrow hat hnew hb9 HI9 TW9
                have k3 := TW10.out.c1
                have cq := HI10.out.cq
                have fq := HI10.out.fq
                have HI11 := Lib.hid (Two.storeq HI10.out TW10.out)
                go_wp2
                go_roundw
                case rel => exact ⟨k + 1, R, [x], I', O ++ [z], _, _, by go_num, by omega, by omega, by omega, by simp, by show I' = O ++ [z] ++ R; rw [HE'.out, HZR.out]; simp, by omega, by simp; omega, HI11⟩
                case measure => simp [intOf]; omega
    · have hI40 : I.length ≤ 40 := by omega
      have hO40 : O.length ≤ 40 := by omega
      have hx : ¬ ((k : Int) < xs.length) ∨ ((k : Int) < xs.length ∧ ¬ ((k : Int) < 40)) := by omega
      clear hlt hkl hk40 hIk hOk
      rcases hx with hx | ⟨hx, hx'⟩
      all_goals
        go_wp2
        go_loopw [8, 24] (fun vo j wr' => ∃ (n : Nat) (Q O : List Int) (q : Value), j = .int .i64 n ∧ n ≤ 3 ∧ Q.length + n ≤ 3 ∧ Hid (I = O ++ Q) ∧ O.length ≤ 40 + n ∧ Hid (Inv w wr' w.heap.size Q S I O q (.slice sa S.length sc) (.slice ia I.length ic) vo)) (fun _ j _ => 3 - (intOf j).toNat)
        case atStart => exact ⟨0, Q, O, _, rfl, by omega, by omega, HE, by omega, HI⟩
        case round =>
          clear HI HE hQ hO40
          obtain ⟨n, Q, O, q, rfl, hn, hQn, HE, hO, HI⟩ := hrel
          obtain ⟨qa, qc, rfl⟩ := HI.out.sq.form
          obtain ⟨oa, oc, rfl⟩ := own_form HI.out.oo
          have hsz := HI.out.sz
          by_cases hlt : n < 3
          · have hli : (n : Int) < 3 := by omega
            have cq := HI.out.cq
            by_cases hQ0 : Q = []
            · subst hQ0
              have cq : wr.cell? ⟨w.heap.size, 0, none⟩ = some (.slice qa 0 qc) := cq
              go_wp2_with fail
              refine (get_c 2 [] _ _ HI.out.sq 0 rfl [] 0 false rfl).mono ?_
              rintro e w7 ⟨v3, rfl, s3, bb7⟩
              obtain ⟨a3, c3, hv3⟩ : ∃ a c, v3 = .slice a 0 c := s3.1.form
              subst hv3
              have F3 := Lib.hid (fresh_B (wr := wr) (t := 24) (Below.refl _ _) rfl s3 bb7)
              have HI7 := Lib.hid (HI.out.up F3.out.bel)
              have TW7 := Lib.hid (two_one HI.out F3.out)
              clear s3 bb7 cq
              have k3 := TW7.out.c1
              have cq := HI7.out.cq
              have fq := HI7.out.fq
              have HI8 := Lib.hid (Two.storeq HI7.out TW7.out)
              go_wp2
              go_roundw
              case rel => exact ⟨n + 1, [], O, _, by go_num, by omega, by simp; omega, HE, by omega, HI8⟩
              case measure => simp [intOf]; omega
            · have HR : ∃ R z, Hid (getR 2 Q = (R, z, true)) ∧ Hid (Q = z :: R) ∧ R.length + 1 = Q.length := by
                cases Q with
                | nil => exact absurd rfl hQ0
                | cons z R => exact ⟨R, z, getR2 _ (by omega), rfl, rfl⟩
              obtain ⟨R, z, HG, HZR, hRl⟩ := HR
              have hR2 : R.length + (n + 1) ≤ 3 := by omega
              clear hRl hQ0
              go_wp2_with fail
              refine (get_c 2 Q _ _ HI.out.sq 0 (chk2 (by omega)) R z true HG.out).mono ?_
              rintro e w7 ⟨v3, rfl, s3, bb7⟩
              obtain ⟨a3, c3, rfl⟩ := s3.1.form
              have F3 := Lib.hid (fresh_B (wr := wr) (t := 24) (Below.refl _ _) rfl s3 bb7)
              have HI7 := Lib.hid (HI.out.up F3.out.bel)
              have TW7 := Lib.hid (two_one HI.out F3.out)
              have hsz7 := HI7.out.sz
              clear s3 bb7 cq
              go_wp2_with (at_builtin; refine wpList_append_lies _ rfl (.tmp 153) (.tmp 155) 22 rfl (w.heap.size + 2) 3 i0 (.int .i64 0) 1 8 Try.underlying22 hi hz0 hz1 hz2 rfl (by decide) (.slice oa O.length oc) O.length (ints O) rfl (HI7.out.oo.alloc _) ⟨_, 0, none⟩ 1 1 [.int .i64 z] rfl rfl (one_at _ _ 3 _ (by simp)) (int_cell _) (by decide) (by unfold maxLen; omega) (by omega) (by simp; simp at hsz7; omega) _ rfl ?_)
              intro g cap1 w10 hown hgrow hat hglt
              have hb9 : Below (w7.alloc (.cells #[.slice a3 R.length c3] 24)).heap.size (w7.alloc (.cells #[.slice a3 R.length c3] 24)) ((w7.alloc (.cells #[.slice a3 R.length c3] 24)).alloc (.cells #[.int .i64 z] 3)) := (Below.refl _ _).alloc (Nat.le_refl _) _
              have hnew := lies_new (H := ((w7.alloc (.cells #[.slice a3 R.length c3] 24)).alloc (.cells #[.int .i64 z] 3)).heap.size) (n := O.length + 1) (cap := cap1) (hat.imp id (fun e => by rw [e]; simp)) 0
              have HI10 := Lib.hid (Inv.addo (z := z) (HI7.out.up hb9) hgrow (by simpa [ints] using hown) hnew)
              have TW10 := Lib.hid ((TW7.out.up hb9).addo hgrow hnew)
              clear hown hgrow hat hnew hb9 HI7 TW7
              have k3 := TW10.out.c1
              have cq := HI10.out.cq
              have fq := HI10.out.fq
              have HI11 := Lib.hid (Two.storeq HI10.out TW10.out)
              go_wp2
              go_roundw
              case rel => exact ⟨n + 1, R, O ++ [z], _, by go_num, by omega, by omega, by show I = O ++ [z] ++ R; rw [HE.out, HZR.out]; simp, by simp; omega, HI11⟩
              case measure => simp [intOf]; omega
          · have hli : ¬ ((n : Int) < 3) := by omega
            have HQ : Hid (I = O) := by
              show I = O
              have hq : Q = [] := List.length_eq_zero_iff.1 (by omega)
              rw [HE.out, hq]; simp
            go_wp2_with fail
            refine (begun_any _).mono ?_
            rintro e w5 ⟨rfl, bb⟩
            go_wp2_with fail
            refine (sameInts_any I O _ _ _ (own_sl (own_up HI.out.oi bb)) (own_sl (own_up HI.out.oo bb)) (by omega) true (by rw [HQ.out]; simp)).mono ?_
            rintro e w6 ⟨rfl, bb6⟩
            have D := Lib.hid (HI.out.bel.trans ((bb.trans (bb6.mono bb.size)).mono (by omega)))
            clear bb bb6
            go_wp2
            go_ret
            exact ⟨rfl, D.out⟩
end Go.Proofs.Ytpikadbljhfoiaa
