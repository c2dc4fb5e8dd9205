/- The law ImageBack. -/
import Derived.Test.YtbhfnkbflikliaaDoorJ8
namespace Go.Proofs.YtbhfnkbflikliaaDoor
set_option linter.unusedSimpArgs false
set_option linter.unusedVariables false
open Go.RowKit Go.Sort
set_option maxRecDepth 100000 in
set_option maxHeartbeats 16000000 in
theorem imageBack_any (S : SysD) (hok : S.ok) (hok2 : S.ok2) (b : List UInt8) (vp vc vs : Value) (w : World) (he : Env w) (hS : Sys w vp vc vs S) :
    Calls Tryd.prog 4 #[.agg #[vp, vc, vs], .string ⟨b.toArray⟩] w fun e w' => e = .returned (.bool true) ∧ Below w.heap.size w w' := by
  obtain ⟨pa, pc, rfl⟩ := hS.p.form
  obtain ⟨ka, kc, rfl⟩ := hS.c.form
  obtain ⟨sa, sc, rfl⟩ := hS.s.form
  have HE := Lib.hid he
  have HS := Lib.hid hS
  have HOK := Lib.hid hok
  have HOK2 := Lib.hid hok2
  have R0 := Lib.hid (Rw.new w 26 #[.slice pa S.parts.length pc, .slice ka S.chans.length kc, .slice sa S.slots.length sc] rfl)
  have D0 := Lib.hid ((Below.refl w.heap.size w).alloc (Nat.le_refl _) (.cells #[.slice pa S.parts.length pc, .slice ka S.chans.length kc, .slice sa S.slots.length sc] 26))
  clear he hS hok hok2
  go_enter Tryd.func4, Tryd.ntmps4
  go_wp2_with fail
  refine (imageWrite_any S _ _ _ _ (HE.out.up D0.out) (HS.out.up D0.out)).mono ?_
  rintro e w1 ⟨rfl, b1⟩
  have D1 := Lib.hid (D0.out.trans (b1.mono (by simp)))
  have R1 := Lib.hid (R0.out.up b1 (by simp))
  clear b1 R0 D0
  obtain ⟨tt, HTT⟩ : ∃ tt, Hid (imgB S = tt) := ⟨_, Lib.hid rfl⟩
  rw [HTT.out]
  obtain ⟨ck, HCK⟩ : ∃ ck, Hid (chkS S = ck) := ⟨_, Lib.hid rfl⟩
  rw [HCK.out]
  by_cases hk : ck = 0
  · subst hk
    have HT2 : Hid (cS.enc S = tt) := Lib.hid (by rw [← HTT.out]; unfold imgB; rw [if_pos HCK.out])
    have HRD := Lib.hid (rdS_enc HCK.out HOK.out HOK2.out)
    rw [HT2.out] at HRD
    go_wp2_with fail
    refine (imageRead_any tt _ (HE.out.up D1.out) 0 HRD.out.2 S HRD.out.1).mono ?_
    rintro e w2 ⟨xp, xc, xs, rfl, s4, b4⟩
    obtain ⟨xa, xd, rfl⟩ := s4.p.form
    obtain ⟨xb, xe, rfl⟩ := own_form s4.c
    obtain ⟨xc, xf, rfl⟩ := own_form s4.s
    have A4 : Below w2.heap.size w2 (w2.alloc (.cells #[.slice xa S.parts.length xd, .slice xb S.chans.length xe, .slice xc S.slots.length xf] 26)) := (Below.refl _ _).alloc (Nat.le_refl _) _
    have B4 := Lib.hid (b4.trans (A4.mono b4.size))
    have D2 := Lib.hid (D1.out.trans (B4.out.mono D1.out.size))
    have S2 := Lib.hid (s4.r.up A4)
    have R2 := Lib.hid (R1.out.up B4.out R1.out.lt)
    have P2 := Lib.hid (Rw.new w2 26 #[.slice xa S.parts.length xd, .slice xb S.chans.length xe, .slice xc S.slots.length xf] rfl)
    clear s4 b4 A4 B4 D1 R1
    go_upto_region 4 with fail
    obtain ⟨X, HX⟩ : ∃ X, Hid (w2.alloc (.cells #[.slice xa S.parts.length xd, .slice xb S.chans.length xe, .slice xc S.slots.length xf] 26) = X) := ⟨_, Lib.hid rfl⟩
    obtain ⟨gx, HGX⟩ : ∃ gx, Hid (w2.heap.size = gx) := ⟨_, Lib.hid rfl⟩
    rw [HX.out] at D2 S2 R2
    rw [HX.out, HGX.out] at P2
    rw [HX.out, HGX.out]
    have q0 := P2.out.cell (j := 0) (v := .slice xa S.parts.length xd) rfl
    have q1 := P2.out.cell (j := 1) (v := .slice xb S.chans.length xe) rfl
    have q2 := P2.out.cell (j := 2) (v := .slice xc S.slots.length xf) rfl
    have s0 := R2.out.cell (j := 0) (v := .slice pa S.parts.length pc) rfl
    have s1 := R2.out.cell (j := 1) (v := .slice ka S.chans.length kc) rfl
    have s2 := R2.out.cell (j := 2) (v := .slice sa S.slots.length sc) rfl
    go_wp2_with fail
    refine (sameSysI S (smallI HCK.out) _ _ _ _ _ _ _ S2.out (HS.out.up D2.out)).mono ?_
    rintro e w3 ⟨rfl, b3⟩
    have D3 := Lib.hid (D2.out.trans (b3.mono D2.out.size))
    clear b3 q0 q1 q2 s0 s1 s2 D2 S2 R2 P2
    have hQ : ∃ Q, rdS b = Q := ⟨_, rfl⟩
    obtain ⟨Q, hQ⟩ := hQ
    have hv : ∃ v, rdE b = v := ⟨_, rfl⟩
    obtain ⟨v, hv⟩ := hv
    have HV := Lib.hid hv
    have HQ := Lib.hid hQ
    go_wp2_with fail
    refine (imageRead_any b _ (HE.out.up D3.out) v hv Q hQ).mono ?_
    rintro e w4 ⟨xp, xc, xs, rfl, s4, b4⟩
    obtain ⟨xa, xd, rfl⟩ := s4.p.form
    obtain ⟨xb, xe, rfl⟩ := own_form s4.c
    obtain ⟨xc, xf, rfl⟩ := own_form s4.s
    have A4 : Below w4.heap.size w4 (w4.alloc (.cells #[.slice xa Q.parts.length xd, .slice xb Q.chans.length xe, .slice xc Q.slots.length xf] 26)) := (Below.refl _ _).alloc (Nat.le_refl _) _
    have D4 := Lib.hid ((D3.out.trans (b4.mono D3.out.size)).trans (A4.mono (by have := D3.out.size; have := b4.size; omega)))
    have S4 := Lib.hid (s4.r.up A4)
    have R4 := Lib.hid (Rw.new w4 26 #[.slice xa Q.parts.length xd, .slice xb Q.chans.length xe, .slice xc Q.slots.length xf] rfl)
    clear s4 b4 A4 D3 hv hQ
    go_upto_region 7 with fail
    obtain ⟨X, HX⟩ : ∃ X, Hid (w4.alloc (.cells #[.slice xa Q.parts.length xd, .slice xb Q.chans.length xe, .slice xc Q.slots.length xf] 26) = X) := ⟨_, Lib.hid rfl⟩
    obtain ⟨gx, HGX⟩ : ∃ gx, Hid (w4.heap.size = gx) := ⟨_, Lib.hid rfl⟩
    rw [HX.out] at D4 S4
    rw [HX.out, HGX.out] at R4
    rw [HX.out, HGX.out]
    by_cases hz : v = 0
    · subst hz
      have hr := rdE_zero HV.out
      rw [HQ.out] at hr
      have HW := Lib.hid (enc_read hr)
      have HI : Hid (imgB Q = b) := Lib.hid (by unfold imgB; rw [if_pos HW.out.1]; exact HW.out.2)
      clear hr
      have q0 := R4.out.cell (j := 0) (v := .slice xa Q.parts.length xd) rfl
      have q1 := R4.out.cell (j := 1) (v := .slice xb Q.chans.length xe) rfl
      have q2 := R4.out.cell (j := 2) (v := .slice xc Q.slots.length xf) rfl
      go_wp2_with fail
      refine (imageWrite_any Q _ _ _ _ (HE.out.up D4.out) S4.out).mono ?_
      rw [HW.out.1, HI.out]
      rintro e w5 ⟨rfl, b5⟩
      have D5 := Lib.hid (D4.out.trans (b5.mono D4.out.size))
      clear b5 q0 q1 q2 D4
      go_wp2_with fail
      refine (imageBegun_any _ (HE.out.up D5.out)).mono ?_
      rintro e w6 ⟨rfl, b6⟩
      have D6 := Lib.hid (D5.out.trans (b6.mono D5.out.size))
      clear b6
      go_wp2
      go_ret
      exact ⟨rfl, D6.out⟩
    · have hzb : (v == 0) = false := by simpa using hz
      clear hz
      go_wp2_with fail
      refine (imageBegun_any _ (HE.out.up D4.out)).mono ?_
      rintro e w6 ⟨rfl, b6⟩
      have D6 := Lib.hid (D4.out.trans (b6.mono D4.out.size))
      clear b6
      go_wp2
      go_ret
      exact ⟨rfl, D6.out⟩
  · have hkb : (ck == 0) = false := by simpa using hk
    have D3 := D1
    clear hk D1 R1
    have hQ : ∃ Q, rdS b = Q := ⟨_, rfl⟩
    obtain ⟨Q, hQ⟩ := hQ
    have hv : ∃ v, rdE b = v := ⟨_, rfl⟩
    obtain ⟨v, hv⟩ := hv
    have HV := Lib.hid hv
    have HQ := Lib.hid hQ
    go_wp2_with fail
    refine (imageRead_any b _ (HE.out.up D3.out) v hv Q hQ).mono ?_
    rintro e w4 ⟨xp, xc, xs, rfl, s4, b4⟩
    obtain ⟨xa, xd, rfl⟩ := s4.p.form
    obtain ⟨xb, xe, rfl⟩ := own_form s4.c
    obtain ⟨xc, xf, rfl⟩ := own_form s4.s
    have A4 : Below w4.heap.size w4 (w4.alloc (.cells #[.slice xa Q.parts.length xd, .slice xb Q.chans.length xe, .slice xc Q.slots.length xf] 26)) := (Below.refl _ _).alloc (Nat.le_refl _) _
    have D4 := Lib.hid ((D3.out.trans (b4.mono D3.out.size)).trans (A4.mono (by have := D3.out.size; have := b4.size; omega)))
    have S4 := Lib.hid (s4.r.up A4)
    have R4 := Lib.hid (Rw.new w4 26 #[.slice xa Q.parts.length xd, .slice xb Q.chans.length xe, .slice xc Q.slots.length xf] rfl)
    clear s4 b4 A4 D3 hv hQ
    go_upto_region 7 with fail
    obtain ⟨X, HX⟩ : ∃ X, Hid (w4.alloc (.cells #[.slice xa Q.parts.length xd, .slice xb Q.chans.length xe, .slice xc Q.slots.length xf] 26) = X) := ⟨_, Lib.hid rfl⟩
    obtain ⟨gx, HGX⟩ : ∃ gx, Hid (w4.heap.size = gx) := ⟨_, Lib.hid rfl⟩
    rw [HX.out] at D4 S4
    rw [HX.out, HGX.out] at R4
    rw [HX.out, HGX.out]
    by_cases hz : v = 0
    · subst hz
      have hr := rdE_zero HV.out
      rw [HQ.out] at hr
      have HW := Lib.hid (enc_read hr)
      have HI : Hid (imgB Q = b) := Lib.hid (by unfold imgB; rw [if_pos HW.out.1]; exact HW.out.2)
      clear hr
      have q0 := R4.out.cell (j := 0) (v := .slice xa Q.parts.length xd) rfl
      have q1 := R4.out.cell (j := 1) (v := .slice xb Q.chans.length xe) rfl
      have q2 := R4.out.cell (j := 2) (v := .slice xc Q.slots.length xf) rfl
      go_wp2_with fail
      refine (imageWrite_any Q _ _ _ _ (HE.out.up D4.out) S4.out).mono ?_
      rw [HW.out.1, HI.out]
      rintro e w5 ⟨rfl, b5⟩
      have D5 := Lib.hid (D4.out.trans (b5.mono D4.out.size))
      clear b5 q0 q1 q2 D4
      go_wp2_with fail
      refine (imageBegun_any _ (HE.out.up D5.out)).mono ?_
      rintro e w6 ⟨rfl, b6⟩
      have D6 := Lib.hid (D5.out.trans (b6.mono D5.out.size))
      clear b6
      go_wp2
      go_ret
      exact ⟨rfl, D6.out⟩
    · have hzb : (v == 0) = false := by simpa using hz
      clear hz
      go_wp2_with fail
      refine (imageBegun_any _ (HE.out.up D4.out)).mono ?_
      rintro e w6 ⟨rfl, b6⟩
      have D6 := Lib.hid (D4.out.trans (b6.mono D4.out.size))
      clear b6
      go_wp2
      go_ret
      exact ⟨rfl, D6.out⟩
end Go.Proofs.YtbhfnkbflikliaaDoor
