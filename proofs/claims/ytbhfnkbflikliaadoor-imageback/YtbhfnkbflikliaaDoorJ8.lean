/- What is written is read as it was, and nothing else is; what the laws on images begin with. -/
import Derived.Test.YtbhfnkbflikliaaDoorJ7
import Derived.Test.YtbhfnkbflikliaaDoorJ5
import Derived.WalkKit
import Derived.ProofKit
import Derived.OpenShut
import Derived.Carry
import Derived.Test.YtbhfnkbflikliaaDoorRows
import Derived.Test.YtbhfnkbflikliaaDoorJ0
import Derived.WideWitness
import Derived.LaidLaws
import Derived.Lib.SmallJoins
import Derived.Deep.DeepHandedRow
import Derived.Deep.Slices
import Derived.Deep.Strs
import Derived.KernelRfl
namespace Go.Proofs.YtbhfnkbflikliaaDoor
set_option linter.unusedSimpArgs false
set_option linter.unusedVariables false
open Go.RowKit Go.Sort
theorem from_read (b : List UInt8) : fromD b = readD b := by
  unfold fromD readD
  cases hd : cS.dec b with
  | none =>
    rw [if_neg]
    rintro ⟨_, h⟩
    have h1 := cS_ok.de _ [] (cS_ok.lg b)
    rw [List.append_nil, h, hd] at h1
    cases h1
  | some x =>
    obtain ⟨S, r⟩ := x
    have h1 := cS_ok.le _ _ _ hd
    have h2 := cS_ok.ed _ _ _ hd
    rw [h1]
    cases r with
    | nil =>
      rw [List.append_nil] at h2
      by_cases hk : chkS S = 0
      · rw [if_pos ⟨hk, h2.symm⟩]
        show some S = if chkS S = 0 then some S else none
        rw [if_pos hk]
      · rw [if_neg (fun h => hk h.1)]
        show none = if chkS S = 0 then some S else none
        rw [if_neg hk]
    | cons x r =>
      rw [if_neg]
      rintro ⟨_, h⟩
      have h' : cS.enc S = b := h
      rw [← h'] at h2
      have := congrArg List.length h2
      rw [List.length_append] at this
      simp at this
theorem chkI_small {op a b n : Int} (h : chkI op a b n = 0) : (0 ≤ op ∧ op < 256) ∧ (0 ≤ a ∧ a < 256) ∧ (0 ≤ b ∧ b < 256) := by
  unfold chkI at h
  split at h
  · cases h
  · rename_i ho
    unfold chkRow at h
    split at h
    · cases h
    · rename_i h3
      split at h
      · cases h
      · rename_i h1
        simp only [Bool.or_eq_true, Bool.and_eq_true, Bool.not_eq_true', not_or, not_and, bne_iff_ne, ne_eq, Decidable.not_not, Bool.not_eq_false] at h3 h1
        have fa : 0 ≤ a ∧ a < 256 := by
          cases hA : rowA op.toNat with
          | true =>
            have := h3.1.1 hA
            simp [regB] at this
            omega
          | false =>
            have := h1.1.1 hA
            omega
        have fb : 0 ≤ b ∧ b < 256 := by
          cases hB : rowB op.toNat with
          | true =>
            have := h3.1.2 hB
            simp [regB] at this
            omega
          | false =>
            have := h1.1.2 hB
            omega
        exact ⟨by omega, fa, fb⟩
def SysD.ok2 (S : SysD) : Prop := ∀ p ∈ S.parts, ∀ x ∈ p.inn, in64 x
theorem chk_good {S : SysD} (h : chkS S = 0) (hok : S.ok) (hok2 : S.ok2) : cS.good S := by
  have hs := smallI h
  obtain ⟨h1, h2, h3, h4, _⟩ := chkS_zero h
  have h3' : ∀ c ∈ S.chans, kindBad c = false := fun c hc => by simpa using (List.any_eq_false.1 h3) c hc
  unfold placesB at h4
  simp only [Bool.and_eq_true, Bool.not_eq_true', List.any_eq_false] at h4
  have hp := hs.p
  refine ⟨⟨(show S.parts.length < 256 by omega), fun p (hpm : p ∈ S.parts) => ?_⟩, ⟨(show S.chans.length < 256 by have := hs.c; omega), fun c (hc : c ∈ S.chans) => ?_⟩, ⟨(show S.slots.length < 256 by have := hs.s; omega), fun t (ht : t ∈ S.slots) => ?_⟩⟩
  · have hx := hs.x p hpm
    obtain ⟨j, hj, rfl⟩ := List.mem_iff_getElem.1 hpm
    refine ⟨⟨(show S.parts[j].code.length < 256 by omega), fun i (hi : i ∈ S.parts[j].code) => ?_⟩, ⟨(show S.parts[j].inn.length < 256 by omega), fun x hxm => hok2 _ hpm x hxm⟩⟩
    obtain ⟨k, hk, rfl⟩ := List.mem_iff_getElem.1 hi
    have hc := (chkC_zero (h2 j hj)).2.2 k hk
    obtain ⟨a, b, c⟩ := chkI_small (show chkI _ _ _ _ = 0 from hc)
    exact ⟨a, b, c, (hok _ hpm k hk).2.2.2⟩
  · have k1 := h3' c hc
    have k2 := h4.1 c hc
    unfold kindBad at k1
    unfold placeBad at k2
    simp only [Bool.and_eq_false_iff, bne_eq_false_iff_eq, Bool.or_eq_true, Bool.not_eq_true', not_or, Bool.not_eq_false, withinB, Bool.and_eq_true, decide_eq_true_eq] at k1 k2
    refine ⟨?_, ?_, ?_⟩
    · show 0 ≤ c.kd ∧ c.kd < 256
      omega
    · show 0 ≤ c.fr ∧ c.fr < 256
      omega
    · show 0 ≤ c.tt ∧ c.tt < 256
      omega
  · have k2 := h4.2 t ht
    unfold slotBad at k2
    simp only [Bool.or_eq_true, Bool.not_eq_true', not_or, Bool.not_eq_false, withinB, Bool.and_eq_true, decide_eq_true_eq] at k2
    refine ⟨?_, ?_⟩
    · show 0 ≤ t.pt ∧ t.pt < 256
      omega
    · show 0 ≤ t.tk ∧ t.tk < 256
      omega
theorem read_enc {S : SysD} (h : chkS S = 0) (hok : S.ok) (hok2 : S.ok2) : readD (cS.enc S) = some S := by
  have h1 := cS_ok.de S [] (chk_good h hok hok2)
  rw [List.append_nil] at h1
  unfold readD
  rw [h1]
  show (if chkS S = 0 then some S else none) = _
  rw [if_pos h]
theorem rdS_enc {S : SysD} (h : chkS S = 0) (hok : S.ok) (hok2 : S.ok2) : rdS (cS.enc S) = S ∧ rdE (cS.enc S) = 0 := by
  have hl := cS_len (smallI h)
  unfold rdS rdE
  rw [if_neg (by omega), if_neg (by omega), read_enc h hok hok2]
  exact ⟨rfl, rfl⟩
theorem enc_read {b : List UInt8} {S : SysD} (h : readD b = some S) : chkS S = 0 ∧ cS.enc S = b := by
  rw [← from_read] at h
  unfold fromD at h
  split at h
  · rename_i hc
    injection h with h
    subst h
    exact hc
  · cases h
theorem rdE_zero {b : List UInt8} (h : rdE b = 0) : readD b = some (rdS b) := by
  unfold rdE at h
  split at h
  · cases h
  · rename_i hl
    unfold rdS
    rw [if_neg hl]
    cases hr : readD b with
    | none => rw [hr] at h; cases h
    | some S => rfl
theorem relay_ok2 : relayS.ok2 := by
  intro p hp x hx
  have h : ∀ p ∈ relayS.parts, ∀ x ∈ p.inn, -9223372036854775808 ≤ x ∧ x ≤ 9223372036854775807 := by decide +kernel
  exact h p hp x hx
theorem relay_rd : rdS (cS.enc relayS) = relayS ∧ rdE (cS.enc relayS) = 0 := rdS_enc relay_chk relay_ok relay_ok2
theorem relay_len : (cS.enc relayS).length = 187 := by decide +kernel
theorem relay_imgB : imgB relayS = cS.enc relayS := by unfold imgB; rw [if_pos relay_chk]
theorem relay_more : rdE (cS.enc relayS ++ [120]) = 1 := by
  have h1 := cS_ok.de relayS [120] (chk_good relay_chk relay_ok relay_ok2)
  unfold rdE
  rw [if_neg (by rw [List.length_append, relay_len]; simp)]
  have : readD (cS.enc relayS ++ [120]) = none := by unfold readD; rw [h1]
  rw [this]
  rfl
theorem ba_one (l : List UInt8) : (⟨l.toArray⟩ : ByteArray) ++ ⟨#[120]⟩ = ⟨(l ++ [120]).toArray⟩ := by
  apply ByteArray.ext
  simp
theorem entRelayI : Enters 20 := enters Tryd.func20 (by kernel_rfl) (by kernel_rfl)
theorem entSameSysI : Enters 10 := enters Tryd.func10 (by kernel_rfl) (by kernel_rfl)
theorem smallZ {S : SysD} (h : SmallI S) : S.parts.length ≤ 1000 ∧ S.chans.length ≤ 1000 ∧ S.slots.length ≤ 1000 ∧ ∀ j (hj : j < S.parts.length), S.parts[j].code.length ≤ 1000 ∧ S.parts[j].inn.length ≤ 1000 :=
  ⟨by have := h.p; omega, by have := h.c; omega, by have := h.s; omega, fun j hj => by have := h.x _ (List.getElem_mem hj); omega⟩
theorem sameSysI (S : SysD) (h : SmallI S) (vp vc vs up uc us : Value) (w : World) (hS : Sys w vp vc vs S) (hS' : Sys w up uc us S) :
    Calls Tryd.prog 10 #[.agg #[vp, vc, vs], .agg #[up, uc, us]] w fun e w' => e = .returned (.bool true) ∧ Below w.heap.size w w' :=
  let ⟨a, b, c, d⟩ := smallZ h
  sameSys_any S a b c d vp vc vs up uc us w hS hS'
set_option maxRecDepth 100000 in
set_option maxHeartbeats 8000000 in
theorem imageBegun_any (w : World) (he : Env w) : Calls Tryd.prog 9 #[] w fun e w' => e = .returned (.bool true) ∧ Below w.heap.size w w' := by
  have HE := Lib.hid he
  obtain ⟨bb, HBB⟩ : ∃ bb, Hid (cS.enc relayS = bb) := ⟨_, Lib.hid rfl⟩
  have HRS : Hid (rdS bb = relayS) := Lib.hid (by rw [← HBB.out]; exact relay_rd.1)
  have HRE : Hid (rdE bb = 0) := Lib.hid (by rw [← HBB.out]; exact relay_rd.2)
  have HRM : Hid (rdE (bb ++ [120]) = 1) := Lib.hid (by rw [← HBB.out]; exact relay_more)
  have HLN : Hid (bb.length = 187) := Lib.hid (by rw [← HBB.out]; exact relay_len)
  clear he
  go_enter Tryd.func9, Tryd.ntmps9
  go_wp2_with fail
  refine (relay_any _).mono ?_
  rintro e w1 ⟨vp, vc, vs, rfl, s1, b1⟩
  have S1 := Lib.hid s1.sys
  have D1 := Lib.hid b1
  clear s1 b1
  go_wp2_with fail
  refine (imageWrite_any relayS _ _ _ _ (HE.out.up D1.out) S1.out).mono ?_
  rw [relay_chk, relay_imgB, HBB.out]
  rintro e w2 ⟨rfl, b2⟩
  have D2 := Lib.hid (D1.out.trans (b2.mono D1.out.size))
  clear b2 S1 D1
  go_wp2_with fail
  refine (imageRead_any bb _ (HE.out.up D2.out) 0 HRE.out relayS HRS.out).mono ?_
  rintro e w3 ⟨up, uc, us, rfl, s3, b3⟩
  obtain ⟨pa, pc, rfl⟩ := s3.p.form
  obtain ⟨ka, kc, rfl⟩ := own_form s3.c
  obtain ⟨sa, sc, rfl⟩ := own_form s3.s
  have A3 : Below w3.heap.size w3 (w3.alloc (.cells #[.slice pa relayS.parts.length pc, .slice ka relayS.chans.length kc, .slice sa relayS.slots.length sc] 26)) := (Below.refl _ _).alloc (Nat.le_refl _) _
  have D3 := Lib.hid ((D2.out.trans (b3.mono D2.out.size)).trans (A3.mono (by have := D2.out.size; have := b3.size; omega)))
  have S3 := Lib.hid (s3.r.up A3)
  have R3 := Lib.hid (Rw.new w3 26 #[.slice pa relayS.parts.length pc, .slice ka relayS.chans.length kc, .slice sa relayS.slots.length sc] rfl)
  clear s3 b3 D2 A3
  go_upto_region 3 with fail
  obtain ⟨X, HX⟩ : ∃ X, Hid (w3.alloc (.cells #[.slice pa relayS.parts.length pc, .slice ka relayS.chans.length kc, .slice sa relayS.slots.length sc] 26) = X) := ⟨_, Lib.hid rfl⟩
  obtain ⟨gx, HGX⟩ : ∃ gx, Hid (w3.heap.size = gx) := ⟨_, Lib.hid rfl⟩
  rw [HX.out] at D3 S3
  rw [HX.out, HGX.out] at R3
  rw [HX.out, HGX.out]
  have hcat : ¬ (9223372036854775807 < (bb.length : Int) + 1) := by rw [HLN.out]; decide
  go_wp2_with fail
  rw [ba_one]
  refine (imageRead_any (bb ++ [120]) _ (HE.out.up D3.out) 1 HRM.out _ rfl).mono ?_
  rintro e w4 ⟨xp, xc, xs, rfl, s4, b4⟩
  obtain ⟨xa, xd, rfl⟩ := s4.p.form
  obtain ⟨ya, yd, rfl⟩ := own_form s4.c
  obtain ⟨za, zd, rfl⟩ := own_form s4.s
  generalize rdS (bb ++ [120]) = Q at *
  have A4 : Below w4.heap.size w4 (w4.alloc (.cells #[.slice xa Q.parts.length xd, .slice ya Q.chans.length yd, .slice za Q.slots.length zd] 26)) := (Below.refl _ _).alloc (Nat.le_refl _) _
  have D4 := Lib.hid ((D3.out.trans (b4.mono D3.out.size)).trans (A4.mono (by have := D3.out.size; have := b4.size; omega)))
  have S4 := Lib.hid ((S3.out.up b4).up A4)
  have R4 := Lib.hid ((R3.out.up b4 R3.out.lt).alloc (.cells #[.slice xa Q.parts.length xd, .slice ya Q.chans.length yd, .slice za Q.slots.length zd] 26))
  clear s4 b4 D3 S3 R3 A4
  go_upto_region 4 with fail
  obtain ⟨Y, HY⟩ : ∃ Y, Hid (w4.alloc (.cells #[.slice xa Q.parts.length xd, .slice ya Q.chans.length yd, .slice za Q.slots.length zd] 26) = Y) := ⟨_, Lib.hid rfl⟩
  rw [HY.out] at D4 S4 R4
  rw [HY.out]
  have hlb : ((bb.length : Int) == 187) = true := by rw [HLN.out]; rfl
  refine region_still (S := fun W => W.cell? ⟨gx, 0, none⟩ = some (.slice pa relayS.parts.length pc) ∧ W.cell? ⟨gx, 1, none⟩ = some (.slice ka relayS.chans.length kc) ∧ W.cell? ⟨gx, 2, none⟩ = some (.slice sa relayS.slots.length sc)) 20 (by kernel_rfl) ⟨R4.out.cell (j := 0) rfl, R4.out.cell (j := 1) rfl, R4.out.cell (j := 2) rfl⟩ (fun hHeld => ?_)
  refine Still.takeBy (i := 0) [] (v := ?v1) (by kernel_rfl) (by kernel_rfl) rfl (by kernel_rfl) (by kernel_rfl) (by kernel_rfl) (fun _ _ _ h => h) (Or.inl ⟨by kernel_rfl, ?y1⟩) hHeld ?r1
  case y1 => (intro w' hSw; (try dsimp only at hSw); obtain ⟨x0, x1, x2⟩ := hSw; go_simp; try with_reducible rfl)
  simp only [Act.put, List.getElem_toArray, List.getElem_cons_zero, List.getElem_cons_succ, List.setIfInBounds_toArray, List.set_cons_zero, List.set_cons_succ]
  refine Still.takeBy (i := 1) [] (v := ?v2) (by kernel_rfl) (by kernel_rfl) rfl (by kernel_rfl) (by kernel_rfl) (by kernel_rfl) (fun _ _ _ h => h) (Or.inl ⟨by kernel_rfl, ?y2⟩) hHeld ?r2
  case y2 => (intro w' hSw; (try dsimp only at hSw); obtain ⟨x0, x1, x2⟩ := hSw; go_simp; try with_reducible rfl)
  simp only [Act.put, List.getElem_toArray, List.getElem_cons_zero, List.getElem_cons_succ, List.setIfInBounds_toArray, List.set_cons_zero, List.set_cons_succ]
  refine Still.takeBy (i := 2) [] (v := ?v3) (by kernel_rfl) (by kernel_rfl) rfl (by kernel_rfl) (by kernel_rfl) (by kernel_rfl) (fun _ _ _ h => h) (Or.inl ⟨by kernel_rfl, ?y3⟩) hHeld ?r3
  case y3 => (intro w' hSw; (try dsimp only at hSw); obtain ⟨x0, x1, x2⟩ := hSw; go_simp; try with_reducible rfl)
  simp only [Act.put, List.getElem_toArray, List.getElem_cons_zero, List.getElem_cons_succ, List.setIfInBounds_toArray, List.set_cons_zero, List.set_cons_succ]
  refine Still.takeBy (i := 3) [] (v := ?v4) (by kernel_rfl) (by kernel_rfl) rfl (by kernel_rfl) (by kernel_rfl) (by kernel_rfl) (fun _ _ _ h => h) (Or.inl ⟨by kernel_rfl, ?y4⟩) hHeld ?r4
  case y4 => (intro w' hSw; (try dsimp only at hSw); obtain ⟨x0, x1, x2⟩ := hSw; go_simp; try with_reducible rfl)
  simp only [Act.put, List.getElem_toArray, List.getElem_cons_zero, List.getElem_cons_succ, List.setIfInBounds_toArray, List.set_cons_zero, List.set_cons_succ]
  refine Still.takeBy (i := 4) [] (v := ?v5) (by kernel_rfl) (by kernel_rfl) rfl (by kernel_rfl) (by kernel_rfl) (by kernel_rfl) (fun _ _ _ h => h) (Or.inl ⟨by kernel_rfl, ?y5⟩) hHeld ?r5
  case y5 => (intro w' hSw; (try dsimp only at hSw); obtain ⟨x0, x1, x2⟩ := hSw; go_simp; try with_reducible rfl)
  simp only [Act.put, List.getElem_toArray, List.getElem_cons_zero, List.getElem_cons_succ, List.setIfInBounds_toArray, List.set_cons_zero, List.set_cons_succ]
  refine Still.takeBy (i := 5) [] (v := ?v6) (by kernel_rfl) (by kernel_rfl) rfl (by kernel_rfl) (by kernel_rfl) (by kernel_rfl) (fun _ _ _ h => h) (Or.inl ⟨by kernel_rfl, ?y6⟩) hHeld ?r6
  case y6 => (intro w' hSw; (try dsimp only at hSw); obtain ⟨x0, x1, x2⟩ := hSw; go_simp; try with_reducible rfl)
  simp only [Act.put, List.getElem_toArray, List.getElem_cons_zero, List.getElem_cons_succ, List.setIfInBounds_toArray, List.set_cons_zero, List.set_cons_succ]
  refine Still.takeBy (i := 6) [] (v := ?v7) (by kernel_rfl) (by kernel_rfl) rfl (by kernel_rfl) (by kernel_rfl) (by kernel_rfl) (fun _ _ _ h => h) (Or.inl ⟨by kernel_rfl, ?y7⟩) hHeld ?r7
  case y7 => (intro w' hSw; (try dsimp only at hSw); obtain ⟨x0, x1, x2⟩ := hSw; go_simp; try with_reducible rfl)
  simp only [Act.put, List.getElem_toArray, List.getElem_cons_zero, List.getElem_cons_succ, List.setIfInBounds_toArray, List.set_cons_zero, List.set_cons_succ]
  refine Still.takeBy (i := 7) [] (v := ?v8) (by kernel_rfl) (by kernel_rfl) rfl (by kernel_rfl) (by kernel_rfl) (by kernel_rfl) (fun _ _ _ h => h) (Or.inl ⟨by kernel_rfl, ?y8⟩) hHeld ?r8
  case y8 => (intro w' hSw; (try dsimp only at hSw); obtain ⟨x0, x1, x2⟩ := hSw; go_simp; try with_reducible rfl)
  simp only [Act.put, List.getElem_toArray, List.getElem_cons_zero, List.getElem_cons_succ, List.setIfInBounds_toArray, List.set_cons_zero, List.set_cons_succ]
  refine Still.takeBy (i := 8) [] (v := ?v9) (by kernel_rfl) (by kernel_rfl) rfl (by kernel_rfl) (by kernel_rfl) (by kernel_rfl) (fun _ _ _ h => h) (Or.inl ⟨by kernel_rfl, ?y9⟩) hHeld ?r9
  case y9 => (intro w' hSw; (try dsimp only at hSw); obtain ⟨x0, x1, x2⟩ := hSw; go_simp; try with_reducible rfl)
  simp only [Act.put, List.getElem_toArray, List.getElem_cons_zero, List.getElem_cons_succ, List.setIfInBounds_toArray, List.set_cons_zero, List.set_cons_succ]
  refine Still.takeBy (i := 9) [] (v := ?v10) (by kernel_rfl) (by kernel_rfl) rfl (by kernel_rfl) (by kernel_rfl) (by kernel_rfl) (fun _ _ _ h => h) (Or.inl ⟨by kernel_rfl, ?y10⟩) hHeld ?r10
  case y10 => (intro w' hSw; (try dsimp only at hSw); obtain ⟨x0, x1, x2⟩ := hSw; go_simp; try with_reducible rfl)
  simp only [Act.put, List.getElem_toArray, List.getElem_cons_zero, List.getElem_cons_succ, List.setIfInBounds_toArray, List.set_cons_zero, List.set_cons_succ]
  refine Still.takeBy (i := 10) [] (v := ?v11) (by kernel_rfl) (by kernel_rfl) rfl (by kernel_rfl) (by kernel_rfl) (by kernel_rfl) (fun _ _ _ h => h) (Or.inl ⟨by kernel_rfl, ?y11⟩) hHeld ?r11
  case y11 => (intro w' hSw; (try dsimp only at hSw); obtain ⟨x0, x1, x2⟩ := hSw; go_simp; try with_reducible rfl)
  simp only [Act.put, List.getElem_toArray, List.getElem_cons_zero, List.getElem_cons_succ, List.setIfInBounds_toArray, List.set_cons_zero, List.set_cons_succ]
  refine Still.takeBy (i := 11) [] (v := ?v12) (by kernel_rfl) (by kernel_rfl) rfl (by kernel_rfl) (by kernel_rfl) (by kernel_rfl) (fun _ _ _ h => h) (Or.inl ⟨by kernel_rfl, ?y12⟩) hHeld ?r12
  case y12 => (intro w' hSw; (try dsimp only at hSw); obtain ⟨x0, x1, x2⟩ := hSw; go_simp; try with_reducible rfl)
  simp only [Act.put, List.getElem_toArray, List.getElem_cons_zero, List.getElem_cons_succ, List.setIfInBounds_toArray, List.set_cons_zero, List.set_cons_succ]
  refine Still.takeBy (i := 12) [] (v := ?v13) (by kernel_rfl) (by kernel_rfl) rfl (by kernel_rfl) (by kernel_rfl) (by kernel_rfl) (fun _ _ _ h => h) (Or.inl ⟨by kernel_rfl, ?y13⟩) hHeld ?r13
  case y13 => (intro w' hSw; (try dsimp only at hSw); obtain ⟨x0, x1, x2⟩ := hSw; go_simp; try with_reducible rfl)
  simp only [Act.put, List.getElem_toArray, List.getElem_cons_zero, List.getElem_cons_succ, List.setIfInBounds_toArray, List.set_cons_zero, List.set_cons_succ]
  refine Still.takeBy (i := 13) [] (v := ?v14) (by kernel_rfl) (by kernel_rfl) rfl (by kernel_rfl) (by kernel_rfl) (by kernel_rfl) (fun _ _ _ h => h) (Or.inl ⟨by kernel_rfl, ?y14⟩) hHeld ?r14
  case y14 => (intro w' hSw; (try dsimp only at hSw); obtain ⟨x0, x1, x2⟩ := hSw; go_simp; try with_reducible rfl)
  simp only [Act.put, List.getElem_toArray, List.getElem_cons_zero, List.getElem_cons_succ, List.setIfInBounds_toArray, List.set_cons_zero, List.set_cons_succ]
  refine Still.takeBy (i := 14) [] (v := ?v15) (by kernel_rfl) (by kernel_rfl) rfl (by kernel_rfl) (by kernel_rfl) (by kernel_rfl) (fun _ _ _ h => h) (Or.inl ⟨by kernel_rfl, ?y15⟩) hHeld ?r15
  case y15 => (intro w' hSw; (try dsimp only at hSw); obtain ⟨x0, x1, x2⟩ := hSw; go_simp; try with_reducible rfl)
  simp only [Act.put, List.getElem_toArray, List.getElem_cons_zero, List.getElem_cons_succ, List.setIfInBounds_toArray, List.set_cons_zero, List.set_cons_succ]
  refine Still.takeBy (i := 15) [] (v := ?v16) (by kernel_rfl) (by kernel_rfl) rfl (by kernel_rfl) (by kernel_rfl) (by kernel_rfl) (fun _ _ _ h => h) (Or.inl ⟨by kernel_rfl, ?y16⟩) hHeld ?r16
  case y16 => (intro w' hSw; (try dsimp only at hSw); obtain ⟨x0, x1, x2⟩ := hSw; go_simp; try with_reducible rfl)
  simp only [Act.put, List.getElem_toArray, List.getElem_cons_zero, List.getElem_cons_succ, List.setIfInBounds_toArray, List.set_cons_zero, List.set_cons_succ]
  refine Still.takeBy (i := 16) [] (v := ?v17) (by kernel_rfl) (by kernel_rfl) rfl (by kernel_rfl) (by kernel_rfl) (by kernel_rfl) (fun _ _ _ h => h) (Or.inl ⟨by kernel_rfl, ?y17⟩) hHeld ?r17
  case y17 => (intro w' hSw; (try dsimp only at hSw); obtain ⟨x0, x1, x2⟩ := hSw; go_simp; try with_reducible rfl)
  simp only [Act.put, List.getElem_toArray, List.getElem_cons_zero, List.getElem_cons_succ, List.setIfInBounds_toArray, List.set_cons_zero, List.set_cons_succ]
  refine Still.all (rs := [17]) (by kernel_rfl) (by simp) (Still.oneG (i := 17) rfl (by kernel_rfl) (fun K hK => ?_) (by simp))
  refine wp_call 20 _ _ rfl entRelayI #[] (by first | rfl | simp [Act.eval, Act.put]) ((relay_any _).mono ?_)
  rintro e V1 ⟨vp5, vc5, vs5, rfl, s5, b5⟩
  have HV1 : Hid (Below Y.heap.size Y V1) := Lib.hid (Below.trans (Below.refl _ _).drew b5)
  have HS5 := Lib.hid s5.sys
  have R5 := Lib.hid (R4.out.up HV1.out R4.out.lt)
  have HSX := Lib.hid (S4.out.up HV1.out)
  refine ⟨_, rfl, hK _ _ (fun _ => ⟨R5.out.cell (j := 0) rfl, R5.out.cell (j := 1) rfl, R5.out.cell (j := 2) rfl⟩) (fun hh => ?_)⟩
  have hHeld := hh (by decide)
  clear hK K hh s5 b5
  try simp only [Act.put, List.getElem_toArray, List.getElem_cons_zero, List.getElem_cons_succ, List.setIfInBounds_toArray, List.set_cons_zero, List.set_cons_succ]
  refine Still.all (rs := [18]) (by kernel_rfl) (by simp) (Still.oneG (i := 18) rfl (by kernel_rfl) (fun K hK => ?_) (by simp))
  refine wp_call 10 _ _ rfl entSameSysI #[.agg #[.slice pa relayS.parts.length pc, .slice ka relayS.chans.length kc, .slice sa relayS.slots.length sc], .agg #[vp5, vc5, vs5]] (by first | rfl | simp [Act.eval, Act.put]) ((sameSysI relayS (smallI relay_chk) _ _ _ _ _ _ _ HSX.out HS5.out).mono ?_)
  rintro e V2 ⟨rfl, b6⟩
  have R6 := Lib.hid (R5.out.up b6 R5.out.lt)
  have HV2 : Hid (Below Y.heap.size Y V2) := Lib.hid (HV1.out.trans (b6.mono HV1.out.size))
  refine ⟨_, rfl, hK _ _ (fun _ => ⟨R6.out.cell (j := 0) rfl, R6.out.cell (j := 1) rfl, R6.out.cell (j := 2) rfl⟩) (fun hh => ?_)⟩
  have hHeld := hh (by decide)
  clear hK K hh b6
  try simp only [Act.put, List.getElem_toArray, List.getElem_cons_zero, List.getElem_cons_succ, List.setIfInBounds_toArray, List.set_cons_zero, List.set_cons_succ]
  refine Still.takeBy (i := 19) [] (v := ?v18) (by kernel_rfl) (by kernel_rfl) rfl (by kernel_rfl) (by kernel_rfl) (by kernel_rfl) (fun _ _ _ h => h) (Or.inl ⟨by kernel_rfl, ?y18⟩) hHeld ?r18
  case y18 => (intro w' hSw; (try dsimp only at hSw); go_simp; try with_reducible rfl)
  simp only [Act.put, List.getElem_toArray, List.getElem_cons_zero, List.getElem_cons_succ, List.setIfInBounds_toArray, List.set_cons_zero, List.set_cons_succ]
  refine Still.all (rs := [20]) (by kernel_rfl) (by simp) (Still.one (i := 20) rfl rfl (fun K hK => ?_) (by simp))
  go_simp
  refine hK _ _ (fun h => absurd rfl h) (fun _ => ?_)
  clear hK K
  refine Still.over (by kernel_rfl) ?_ _
  clear hHeld
  go_wp2
  go_ret
  exact ⟨rfl, D4.out.trans (HV2.out.mono D4.out.size)⟩
end Go.Proofs.YtbhfnkbflikliaaDoor

namespace Go.Proofs.YtbhfnkbflikliaaDoor
set_option linter.unusedSimpArgs false
set_option linter.unusedVariables false
open Go.RowKit Go.Sort
theorem smallI_z : SmallI sysZ := ⟨Nat.zero_le _, Nat.zero_le _, Nat.zero_le _, fun p hp => by cases hp⟩
theorem sys_nil (w : World) : Sys w (.slice none 0 0) (.slice none 0 0) (.slice none 0 0) sysZ := (SysO.nil 0 w).r
set_option maxRecDepth 100000 in
set_option maxHeartbeats 16000000 in
theorem imageWrites_any (S : SysD) (hok : S.ok) (b : List UInt8) (vp vc vs : Value) (w : World) (he : Env w) (hS : Sys w vp vc vs S) :
    Calls Tryd.prog 3 #[.agg #[vp, vc, vs], .string ⟨b.toArray⟩] w fun e w' => e = .returned (.bool true) ∧ Below w.heap.size w w' := by
  obtain ⟨pa, pc, rfl⟩ := hS.p.form
  obtain ⟨ka, kc, rfl⟩ := hS.c.form
  obtain ⟨sa, sc, rfl⟩ := hS.s.form
  have HE := Lib.hid he
  have HS := Lib.hid hS
  have HOK := Lib.hid hok
  have R0 := Lib.hid (Rw.new w 26 #[.slice pa S.parts.length pc, .slice ka S.chans.length kc, .slice sa S.slots.length sc] rfl)
  have D0 := Lib.hid ((Below.refl w.heap.size w).alloc (Nat.le_refl _) (.cells #[.slice pa S.parts.length pc, .slice ka S.chans.length kc, .slice sa S.slots.length sc] 26))
  clear he hS hok
  go_enter Tryd.func3, Tryd.ntmps3
  go_wp2_with fail
  refine (imageWrite_any S _ _ _ _ (HE.out.up D0.out) (HS.out.up D0.out)).mono ?_
  rintro e w1 ⟨rfl, b1⟩
  have D1 := Lib.hid (D0.out.trans (b1.mono (by simp)))
  have R1 := Lib.hid (R0.out.up b1 (by simp))
  have s0 := R1.out.cell (j := 0) (v := .slice pa S.parts.length pc) rfl
  have s1 := R1.out.cell (j := 1) (v := .slice ka S.chans.length kc) rfl
  have s2 := R1.out.cell (j := 2) (v := .slice sa S.slots.length sc) rfl
  clear b1 R0 D0
  obtain ⟨tt, HTT⟩ : ∃ tt, Hid (imgB S = tt) := ⟨_, Lib.hid rfl⟩
  rw [HTT.out]
  go_wp2_with fail
  refine (sysRef_any S HOK.out _ _ _ _ (HS.out.up D1.out)).mono ?_
  rintro e w2 ⟨rfl, b2⟩
  have D2 := Lib.hid (D1.out.trans (b2.mono D1.out.size))
  have R2 := Lib.hid (R1.out.up b2 R1.out.lt)
  clear b2 R1 D1 s0 s1 s2
  obtain ⟨ck, HCK⟩ : ∃ ck, Hid (chkS S = ck) := ⟨_, Lib.hid rfl⟩
  rw [HCK.out]
  by_cases hk : ck = 0
  · subst hk
    have s0 := R2.out.cell (j := 0) (v := .slice pa S.parts.length pc) rfl
    have s1 := R2.out.cell (j := 1) (v := .slice ka S.chans.length kc) rfl
    have s2 := R2.out.cell (j := 2) (v := .slice sa S.slots.length sc) rfl
    have HT2 : Hid (cS.enc S = tt) := Lib.hid (by rw [← HTT.out]; unfold imgB; rw [if_pos HCK.out])
    go_wp2_with fail
    refine (imageBytes_any S (smallI HCK.out) _ _ _ _ (HS.out.up D2.out)).mono ?_
    rw [HT2.out]
    rintro e w3 ⟨rfl, b3⟩
    have D3 := Lib.hid (D2.out.trans (b3.mono D2.out.size))
    clear b3 D2 R2 s0 s1 s2
    by_cases hl : 8192 < b.length
    · have hli : (8192 : Int) < b.length := by omega
      have e1 : rdE b = 2 := by unfold rdE; rw [if_pos hl]
      have e2 : rdS b = sysZ := by unfold rdS; rw [if_pos hl]
      clear hl
      go_wp2_with fail
      refine (imageRead_any b _ (HE.out.up D3.out) 2 e1 sysZ e2).mono ?_
      rintro e w4 ⟨xp, xc, xs, rfl, s4, b4⟩
      obtain ⟨xa, xd, rfl⟩ := s4.p.form
      obtain ⟨xb, xe, rfl⟩ := own_form s4.c
      obtain ⟨xc, xf, rfl⟩ := own_form s4.s
      have A4 : Below w4.heap.size w4 (w4.alloc (.cells #[.slice xa sysZ.parts.length xd, .slice xb sysZ.chans.length xe, .slice xc sysZ.slots.length xf] 26)) := (Below.refl _ _).alloc (Nat.le_refl _) _
      have D4 := Lib.hid ((D3.out.trans (b4.mono D3.out.size)).trans (A4.mono (by have := D3.out.size; have := b4.size; omega)))
      have S4 := Lib.hid (s4.r.up A4)
      have R4 := Lib.hid (Rw.new w4 26 #[.slice xa sysZ.parts.length xd, .slice xb sysZ.chans.length xe, .slice xc sysZ.slots.length xf] rfl)
      clear s4 b4 A4 D3 e1 e2
      go_upto_region 8 with fail
      obtain ⟨X, HX⟩ : ∃ X, Hid (w4.alloc (.cells #[.slice xa sysZ.parts.length xd, .slice xb sysZ.chans.length xe, .slice xc sysZ.slots.length xf] 26) = X) := ⟨_, Lib.hid rfl⟩
      obtain ⟨gx, HGX⟩ : ∃ gx, Hid (w4.heap.size = gx) := ⟨_, Lib.hid rfl⟩
      rw [HX.out] at D4 S4
      rw [HX.out, HGX.out] at R4
      rw [HX.out, HGX.out]
      go_wp2_with fail
      refine (imageBegun_any _ (HE.out.up D4.out)).mono ?_
      rintro e w5 ⟨rfl, b5⟩
      have D5 := Lib.hid (D4.out.trans (b5.mono D4.out.size))
      have S5 := Lib.hid (S4.out.up b5)
      have R5 := Lib.hid (R4.out.up b5 R4.out.lt)
      have q0 := R5.out.cell (j := 0) (v := .slice xa sysZ.parts.length xd) rfl
      have q1 := R5.out.cell (j := 1) (v := .slice xb sysZ.chans.length xe) rfl
      have q2 := R5.out.cell (j := 2) (v := .slice xc sysZ.slots.length xf) rfl
      clear b5 D4 S4 R4
      go_wp2_with fail
      refine (sameSysI sysZ smallI_z _ _ _ _ _ _ _ S5.out (sys_nil _)).mono ?_
      rintro e w6 ⟨rfl, b6⟩
      have D6 := Lib.hid (D5.out.trans (b6.mono D5.out.size))
      clear b6 q0 q1 q2
      go_wp2
      go_ret
      exact ⟨rfl, D6.out⟩
    · have hli : ¬ (8192 : Int) < b.length := by omega
      cases hr : readD b with
      | none =>
        have e1 : rdE b = 1 := by unfold rdE; rw [if_neg hl, hr]; rfl
        have e2 : rdS b = sysZ := by unfold rdS; rw [if_neg hl, hr]; rfl
        have HF : Hid (fromD b = none) := Lib.hid (by rw [from_read, hr])
        have HSM := Lib.hid smallI_z
        clear hr hl
        go_wp2_with fail
        refine (imageRead_any b _ (HE.out.up D3.out) 1 e1 sysZ e2).mono ?_
        rintro e w4 ⟨xp, xc, xs, rfl, s4, b4⟩
        obtain ⟨xa, xd, rfl⟩ := s4.p.form
        obtain ⟨xb, xe, rfl⟩ := own_form s4.c
        obtain ⟨xc, xf, rfl⟩ := own_form s4.s
        have A4 : Below w4.heap.size w4 (w4.alloc (.cells #[.slice xa sysZ.parts.length xd, .slice xb sysZ.chans.length xe, .slice xc sysZ.slots.length xf] 26)) := (Below.refl _ _).alloc (Nat.le_refl _) _
        have D4 := Lib.hid ((D3.out.trans (b4.mono D3.out.size)).trans (A4.mono (by have := D3.out.size; have := b4.size; omega)))
        have S4 := Lib.hid (s4.r.up A4)
        have R4 := Lib.hid (Rw.new w4 26 #[.slice xa sysZ.parts.length xd, .slice xb sysZ.chans.length xe, .slice xc sysZ.slots.length xf] rfl)
        clear s4 b4 A4 D3 e1 e2
        go_upto_region 9 with fail
        obtain ⟨X, HX⟩ : ∃ X, Hid (w4.alloc (.cells #[.slice xa sysZ.parts.length xd, .slice xb sysZ.chans.length xe, .slice xc sysZ.slots.length xf] 26) = X) := ⟨_, Lib.hid rfl⟩
        obtain ⟨gx, HGX⟩ : ∃ gx, Hid (w4.heap.size = gx) := ⟨_, Lib.hid rfl⟩
        rw [HX.out] at D4 S4
        rw [HX.out, HGX.out] at R4
        rw [HX.out, HGX.out]
        go_wp2_with fail
        refine (imageFrom_any b _).mono ?_
        rintro e w5 (⟨hn, rfl, b5⟩ | ⟨D2, hn, yp, yc, ys, rfl, s5, b5⟩)
        rotate_left
        · rw [HF.out] at hn; cases hn
        have s5 := sys_nil w5
        have A5 : Below w5.heap.size w5 (w5.alloc (.cells #[.slice none 0 0, .slice none 0 0, .slice none 0 0] 26)) := (Below.refl _ _).alloc (Nat.le_refl _) _
        have B5 := Lib.hid (b5.trans (A5.mono b5.size))
        have D5 := Lib.hid (D4.out.trans (B5.out.mono D4.out.size))
        have S5 := Lib.hid (S4.out.up B5.out)
        have R5 := Lib.hid (R4.out.up B5.out R4.out.lt)
        have T5 := Lib.hid (s5.up A5)
        have P5 := Lib.hid (Rw.new w5 26 #[.slice none 0 0, .slice none 0 0, .slice none 0 0] rfl)
        clear s5 b5 A5 B5 D4 S4 R4
        go_upto_region 13 with fail
        obtain ⟨Y, HY⟩ : ∃ Y, Hid (w5.alloc (.cells #[.slice none 0 0, .slice none 0 0, .slice none 0 0] 26) = Y) := ⟨_, Lib.hid rfl⟩
        obtain ⟨gy, HGY⟩ : ∃ gy, Hid (w5.heap.size = gy) := ⟨_, Lib.hid rfl⟩
        rw [HY.out] at D5 S5 R5 T5
        rw [HY.out, HGY.out] at P5
        rw [HY.out, HGY.out]
        go_wp2_with fail
        refine (imageBegun_any _ (HE.out.up D5.out)).mono ?_
        rintro e w6 ⟨rfl, b6⟩
        have D6 := Lib.hid (D5.out.trans (b6.mono D5.out.size))
        have S6 := Lib.hid (S5.out.up b6)
        have T6 := Lib.hid (T5.out.up b6)
        have R6 := Lib.hid (R5.out.up b6 R5.out.lt)
        have P6 := Lib.hid (P5.out.up b6 P5.out.lt)
        have q0 := R6.out.cell (j := 0) (v := .slice xa sysZ.parts.length xd) rfl
        have q1 := R6.out.cell (j := 1) (v := .slice xb sysZ.chans.length xe) rfl
        have q2 := R6.out.cell (j := 2) (v := .slice xc sysZ.slots.length xf) rfl
        have u0 := P6.out.cell (j := 0) (v := .slice none 0 0) rfl
        have u1 := P6.out.cell (j := 1) (v := .slice none 0 0) rfl
        have u2 := P6.out.cell (j := 2) (v := .slice none 0 0) rfl
        clear b6 D5 S5 R5 T5 P5
        go_wp2_with fail
        refine (sameSysI sysZ HSM.out _ _ _ _ _ _ _ S6.out T6.out).mono ?_
        rintro e w7 ⟨rfl, b7⟩
        have D7 := Lib.hid (D6.out.trans (b7.mono D6.out.size))
        clear b7 q0 q1 q2 u0 u1 u2
        go_wp2
        go_ret
        exact ⟨rfl, D7.out⟩
      | some D =>
        have e1 : rdE b = 0 := by unfold rdE; rw [if_neg hl, hr]; rfl
        have e2 : rdS b = D := by unfold rdS; rw [if_neg hl, hr]; rfl
        have HF : Hid (fromD b = some D) := Lib.hid (by rw [from_read, hr])
        have HSM := Lib.hid (smallI (enc_read hr).1)
        clear hr hl
        go_wp2_with fail
        refine (imageRead_any b _ (HE.out.up D3.out) 0 e1 D e2).mono ?_
        rintro e w4 ⟨xp, xc, xs, rfl, s4, b4⟩
        obtain ⟨xa, xd, rfl⟩ := s4.p.form
        obtain ⟨xb, xe, rfl⟩ := own_form s4.c
        obtain ⟨xc, xf, rfl⟩ := own_form s4.s
        have A4 : Below w4.heap.size w4 (w4.alloc (.cells #[.slice xa D.parts.length xd, .slice xb D.chans.length xe, .slice xc D.slots.length xf] 26)) := (Below.refl _ _).alloc (Nat.le_refl _) _
        have D4 := Lib.hid ((D3.out.trans (b4.mono D3.out.size)).trans (A4.mono (by have := D3.out.size; have := b4.size; omega)))
        have S4 := Lib.hid (s4.r.up A4)
        have R4 := Lib.hid (Rw.new w4 26 #[.slice xa D.parts.length xd, .slice xb D.chans.length xe, .slice xc D.slots.length xf] rfl)
        clear s4 b4 A4 D3 e1 e2
        go_upto_region 9 with fail
        obtain ⟨X, HX⟩ : ∃ X, Hid (w4.alloc (.cells #[.slice xa D.parts.length xd, .slice xb D.chans.length xe, .slice xc D.slots.length xf] 26) = X) := ⟨_, Lib.hid rfl⟩
        obtain ⟨gx, HGX⟩ : ∃ gx, Hid (w4.heap.size = gx) := ⟨_, Lib.hid rfl⟩
        rw [HX.out] at D4 S4
        rw [HX.out, HGX.out] at R4
        rw [HX.out, HGX.out]
        go_wp2_with fail
        refine (imageFrom_any b _).mono ?_
        rintro e w5 (⟨hn, rfl, b5⟩ | ⟨D2, hn, yp, yc, ys, rfl, s5, b5⟩)
        · rw [HF.out] at hn; cases hn
        rw [HF.out] at hn
        injection hn with hn
        subst hn
        obtain ⟨ya, yd, rfl⟩ := s5.p.form
        obtain ⟨yb, ye, rfl⟩ := s5.c.form
        obtain ⟨yc, yf, rfl⟩ := s5.s.form
        have A5 : Below w5.heap.size w5 (w5.alloc (.cells #[.slice ya D.parts.length yd, .slice yb D.chans.length ye, .slice yc D.slots.length yf] 26)) := (Below.refl _ _).alloc (Nat.le_refl _) _
        have B5 := Lib.hid (b5.trans (A5.mono b5.size))
        have D5 := Lib.hid (D4.out.trans (B5.out.mono D4.out.size))
        have S5 := Lib.hid (S4.out.up B5.out)
        have R5 := Lib.hid (R4.out.up B5.out R4.out.lt)
        have T5 := Lib.hid (s5.up A5)
        have P5 := Lib.hid (Rw.new w5 26 #[.slice ya D.parts.length yd, .slice yb D.chans.length ye, .slice yc D.slots.length yf] rfl)
        clear s5 b5 A5 B5 D4 S4 R4
        go_upto_region 13 with fail
        obtain ⟨Y, HY⟩ : ∃ Y, Hid (w5.alloc (.cells #[.slice ya D.parts.length yd, .slice yb D.chans.length ye, .slice yc D.slots.length yf] 26) = Y) := ⟨_, Lib.hid rfl⟩
        obtain ⟨gy, HGY⟩ : ∃ gy, Hid (w5.heap.size = gy) := ⟨_, Lib.hid rfl⟩
        rw [HY.out] at D5 S5 R5 T5
        rw [HY.out, HGY.out] at P5
        rw [HY.out, HGY.out]
        go_wp2_with fail
        refine (imageBegun_any _ (HE.out.up D5.out)).mono ?_
        rintro e w6 ⟨rfl, b6⟩
        have D6 := Lib.hid (D5.out.trans (b6.mono D5.out.size))
        have S6 := Lib.hid (S5.out.up b6)
        have T6 := Lib.hid (T5.out.up b6)
        have R6 := Lib.hid (R5.out.up b6 R5.out.lt)
        have P6 := Lib.hid (P5.out.up b6 P5.out.lt)
        have q0 := R6.out.cell (j := 0) (v := .slice xa D.parts.length xd) rfl
        have q1 := R6.out.cell (j := 1) (v := .slice xb D.chans.length xe) rfl
        have q2 := R6.out.cell (j := 2) (v := .slice xc D.slots.length xf) rfl
        have u0 := P6.out.cell (j := 0) (v := .slice ya D.parts.length yd) rfl
        have u1 := P6.out.cell (j := 1) (v := .slice yb D.chans.length ye) rfl
        have u2 := P6.out.cell (j := 2) (v := .slice yc D.slots.length yf) rfl
        clear b6 D5 S5 R5 T5 P5
        go_wp2_with fail
        refine (sameSysI D HSM.out _ _ _ _ _ _ _ S6.out T6.out).mono ?_
        rintro e w7 ⟨rfl, b7⟩
        have D7 := Lib.hid (D6.out.trans (b7.mono D6.out.size))
        clear b7 q0 q1 q2 u0 u1 u2
        go_wp2
        go_ret
        exact ⟨rfl, D7.out⟩
  · have hkb : (ck == 0) = false := by simpa using hk
    have e0 : tt = [] := by rw [← HTT.out]; unfold imgB; rw [if_neg (by rw [HCK.out]; exact hk)]
    subst e0
    have D3 := D2
    clear hk D2 R2
    by_cases hl : 8192 < b.length
    · have hli : (8192 : Int) < b.length := by omega
      have e1 : rdE b = 2 := by unfold rdE; rw [if_pos hl]
      have e2 : rdS b = sysZ := by unfold rdS; rw [if_pos hl]
      clear hl
      go_wp2_with fail
      refine (imageRead_any b _ (HE.out.up D3.out) 2 e1 sysZ e2).mono ?_
      rintro e w4 ⟨xp, xc, xs, rfl, s4, b4⟩
      obtain ⟨xa, xd, rfl⟩ := s4.p.form
      obtain ⟨xb, xe, rfl⟩ := own_form s4.c
      obtain ⟨xc, xf, rfl⟩ := own_form s4.s
      have A4 : Below w4.heap.size w4 (w4.alloc (.cells #[.slice xa sysZ.parts.length xd, .slice xb sysZ.chans.length xe, .slice xc sysZ.slots.length xf] 26)) := (Below.refl _ _).alloc (Nat.le_refl _) _
      have D4 := Lib.hid ((D3.out.trans (b4.mono D3.out.size)).trans (A4.mono (by have := D3.out.size; have := b4.size; omega)))
      have S4 := Lib.hid (s4.r.up A4)
      have R4 := Lib.hid (Rw.new w4 26 #[.slice xa sysZ.parts.length xd, .slice xb sysZ.chans.length xe, .slice xc sysZ.slots.length xf] rfl)
      clear s4 b4 A4 D3 e1 e2
      go_upto_region 8 with fail
      obtain ⟨X, HX⟩ : ∃ X, Hid (w4.alloc (.cells #[.slice xa sysZ.parts.length xd, .slice xb sysZ.chans.length xe, .slice xc sysZ.slots.length xf] 26) = X) := ⟨_, Lib.hid rfl⟩
      obtain ⟨gx, HGX⟩ : ∃ gx, Hid (w4.heap.size = gx) := ⟨_, Lib.hid rfl⟩
      rw [HX.out] at D4 S4
      rw [HX.out, HGX.out] at R4
      rw [HX.out, HGX.out]
      go_wp2_with fail
      refine (imageBegun_any _ (HE.out.up D4.out)).mono ?_
      rintro e w5 ⟨rfl, b5⟩
      have D5 := Lib.hid (D4.out.trans (b5.mono D4.out.size))
      have S5 := Lib.hid (S4.out.up b5)
      have R5 := Lib.hid (R4.out.up b5 R4.out.lt)
      have q0 := R5.out.cell (j := 0) (v := .slice xa sysZ.parts.length xd) rfl
      have q1 := R5.out.cell (j := 1) (v := .slice xb sysZ.chans.length xe) rfl
      have q2 := R5.out.cell (j := 2) (v := .slice xc sysZ.slots.length xf) rfl
      clear b5 D4 S4 R4
      go_wp2_with fail
      refine (sameSysI sysZ smallI_z _ _ _ _ _ _ _ S5.out (sys_nil _)).mono ?_
      rintro e w6 ⟨rfl, b6⟩
      have D6 := Lib.hid (D5.out.trans (b6.mono D5.out.size))
      clear b6 q0 q1 q2
      go_wp2
      go_ret
      exact ⟨rfl, D6.out⟩
    · have hli : ¬ (8192 : Int) < b.length := by omega
      cases hr : readD b with
      | none =>
        have e1 : rdE b = 1 := by unfold rdE; rw [if_neg hl, hr]; rfl
        have e2 : rdS b = sysZ := by unfold rdS; rw [if_neg hl, hr]; rfl
        have HF : Hid (fromD b = none) := Lib.hid (by rw [from_read, hr])
        have HSM := Lib.hid smallI_z
        clear hr hl
        go_wp2_with fail
        refine (imageRead_any b _ (HE.out.up D3.out) 1 e1 sysZ e2).mono ?_
        rintro e w4 ⟨xp, xc, xs, rfl, s4, b4⟩
        obtain ⟨xa, xd, rfl⟩ := s4.p.form
        obtain ⟨xb, xe, rfl⟩ := own_form s4.c
        obtain ⟨xc, xf, rfl⟩ := own_form s4.s
        have A4 : Below w4.heap.size w4 (w4.alloc (.cells #[.slice xa sysZ.parts.length xd, .slice xb sysZ.chans.length xe, .slice xc sysZ.slots.length xf] 26)) := (Below.refl _ _).alloc (Nat.le_refl _) _
        have D4 := Lib.hid ((D3.out.trans (b4.mono D3.out.size)).trans (A4.mono (by have := D3.out.size; have := b4.size; omega)))
        have S4 := Lib.hid (s4.r.up A4)
        have R4 := Lib.hid (Rw.new w4 26 #[.slice xa sysZ.parts.length xd, .slice xb sysZ.chans.length xe, .slice xc sysZ.slots.length xf] rfl)
        clear s4 b4 A4 D3 e1 e2
        go_upto_region 9 with fail
        obtain ⟨X, HX⟩ : ∃ X, Hid (w4.alloc (.cells #[.slice xa sysZ.parts.length xd, .slice xb sysZ.chans.length xe, .slice xc sysZ.slots.length xf] 26) = X) := ⟨_, Lib.hid rfl⟩
        obtain ⟨gx, HGX⟩ : ∃ gx, Hid (w4.heap.size = gx) := ⟨_, Lib.hid rfl⟩
        rw [HX.out] at D4 S4
        rw [HX.out, HGX.out] at R4
        rw [HX.out, HGX.out]
        go_wp2_with fail
        refine (imageFrom_any b _).mono ?_
        rintro e w5 (⟨hn, rfl, b5⟩ | ⟨D2, hn, yp, yc, ys, rfl, s5, b5⟩)
        rotate_left
        · rw [HF.out] at hn; cases hn
        have s5 := sys_nil w5
        have A5 : Below w5.heap.size w5 (w5.alloc (.cells #[.slice none 0 0, .slice none 0 0, .slice none 0 0] 26)) := (Below.refl _ _).alloc (Nat.le_refl _) _
        have B5 := Lib.hid (b5.trans (A5.mono b5.size))
        have D5 := Lib.hid (D4.out.trans (B5.out.mono D4.out.size))
        have S5 := Lib.hid (S4.out.up B5.out)
        have R5 := Lib.hid (R4.out.up B5.out R4.out.lt)
        have T5 := Lib.hid (s5.up A5)
        have P5 := Lib.hid (Rw.new w5 26 #[.slice none 0 0, .slice none 0 0, .slice none 0 0] rfl)
        clear s5 b5 A5 B5 D4 S4 R4
        go_upto_region 13 with fail
        obtain ⟨Y, HY⟩ : ∃ Y, Hid (w5.alloc (.cells #[.slice none 0 0, .slice none 0 0, .slice none 0 0] 26) = Y) := ⟨_, Lib.hid rfl⟩
        obtain ⟨gy, HGY⟩ : ∃ gy, Hid (w5.heap.size = gy) := ⟨_, Lib.hid rfl⟩
        rw [HY.out] at D5 S5 R5 T5
        rw [HY.out, HGY.out] at P5
        rw [HY.out, HGY.out]
        go_wp2_with fail
        refine (imageBegun_any _ (HE.out.up D5.out)).mono ?_
        rintro e w6 ⟨rfl, b6⟩
        have D6 := Lib.hid (D5.out.trans (b6.mono D5.out.size))
        have S6 := Lib.hid (S5.out.up b6)
        have T6 := Lib.hid (T5.out.up b6)
        have R6 := Lib.hid (R5.out.up b6 R5.out.lt)
        have P6 := Lib.hid (P5.out.up b6 P5.out.lt)
        have q0 := R6.out.cell (j := 0) (v := .slice xa sysZ.parts.length xd) rfl
        have q1 := R6.out.cell (j := 1) (v := .slice xb sysZ.chans.length xe) rfl
        have q2 := R6.out.cell (j := 2) (v := .slice xc sysZ.slots.length xf) rfl
        have u0 := P6.out.cell (j := 0) (v := .slice none 0 0) rfl
        have u1 := P6.out.cell (j := 1) (v := .slice none 0 0) rfl
        have u2 := P6.out.cell (j := 2) (v := .slice none 0 0) rfl
        clear b6 D5 S5 R5 T5 P5
        go_wp2_with fail
        refine (sameSysI sysZ HSM.out _ _ _ _ _ _ _ S6.out T6.out).mono ?_
        rintro e w7 ⟨rfl, b7⟩
        have D7 := Lib.hid (D6.out.trans (b7.mono D6.out.size))
        clear b7 q0 q1 q2 u0 u1 u2
        go_wp2
        go_ret
        exact ⟨rfl, D7.out⟩
      | some D =>
        have e1 : rdE b = 0 := by unfold rdE; rw [if_neg hl, hr]; rfl
        have e2 : rdS b = D := by unfold rdS; rw [if_neg hl, hr]; rfl
        have HF : Hid (fromD b = some D) := Lib.hid (by rw [from_read, hr])
        have HSM := Lib.hid (smallI (enc_read hr).1)
        clear hr hl
        go_wp2_with fail
        refine (imageRead_any b _ (HE.out.up D3.out) 0 e1 D e2).mono ?_
        rintro e w4 ⟨xp, xc, xs, rfl, s4, b4⟩
        obtain ⟨xa, xd, rfl⟩ := s4.p.form
        obtain ⟨xb, xe, rfl⟩ := own_form s4.c
        obtain ⟨xc, xf, rfl⟩ := own_form s4.s
        have A4 : Below w4.heap.size w4 (w4.alloc (.cells #[.slice xa D.parts.length xd, .slice xb D.chans.length xe, .slice xc D.slots.length xf] 26)) := (Below.refl _ _).alloc (Nat.le_refl _) _
        have D4 := Lib.hid ((D3.out.trans (b4.mono D3.out.size)).trans (A4.mono (by have := D3.out.size; have := b4.size; omega)))
        have S4 := Lib.hid (s4.r.up A4)
        have R4 := Lib.hid (Rw.new w4 26 #[.slice xa D.parts.length xd, .slice xb D.chans.length xe, .slice xc D.slots.length xf] rfl)
        clear s4 b4 A4 D3 e1 e2
        go_upto_region 9 with fail
        obtain ⟨X, HX⟩ : ∃ X, Hid (w4.alloc (.cells #[.slice xa D.parts.length xd, .slice xb D.chans.length xe, .slice xc D.slots.length xf] 26) = X) := ⟨_, Lib.hid rfl⟩
        obtain ⟨gx, HGX⟩ : ∃ gx, Hid (w4.heap.size = gx) := ⟨_, Lib.hid rfl⟩
        rw [HX.out] at D4 S4
        rw [HX.out, HGX.out] at R4
        rw [HX.out, HGX.out]
        go_wp2_with fail
        refine (imageFrom_any b _).mono ?_
        rintro e w5 (⟨hn, rfl, b5⟩ | ⟨D2, hn, yp, yc, ys, rfl, s5, b5⟩)
        · rw [HF.out] at hn; cases hn
        rw [HF.out] at hn
        injection hn with hn
        subst hn
        obtain ⟨ya, yd, rfl⟩ := s5.p.form
        obtain ⟨yb, ye, rfl⟩ := s5.c.form
        obtain ⟨yc, yf, rfl⟩ := s5.s.form
        have A5 : Below w5.heap.size w5 (w5.alloc (.cells #[.slice ya D.parts.length yd, .slice yb D.chans.length ye, .slice yc D.slots.length yf] 26)) := (Below.refl _ _).alloc (Nat.le_refl _) _
        have B5 := Lib.hid (b5.trans (A5.mono b5.size))
        have D5 := Lib.hid (D4.out.trans (B5.out.mono D4.out.size))
        have S5 := Lib.hid (S4.out.up B5.out)
        have R5 := Lib.hid (R4.out.up B5.out R4.out.lt)
        have T5 := Lib.hid (s5.up A5)
        have P5 := Lib.hid (Rw.new w5 26 #[.slice ya D.parts.length yd, .slice yb D.chans.length ye, .slice yc D.slots.length yf] rfl)
        clear s5 b5 A5 B5 D4 S4 R4
        go_upto_region 13 with fail
        obtain ⟨Y, HY⟩ : ∃ Y, Hid (w5.alloc (.cells #[.slice ya D.parts.length yd, .slice yb D.chans.length ye, .slice yc D.slots.length yf] 26) = Y) := ⟨_, Lib.hid rfl⟩
        obtain ⟨gy, HGY⟩ : ∃ gy, Hid (w5.heap.size = gy) := ⟨_, Lib.hid rfl⟩
        rw [HY.out] at D5 S5 R5 T5
        rw [HY.out, HGY.out] at P5
        rw [HY.out, HGY.out]
        go_wp2_with fail
        refine (imageBegun_any _ (HE.out.up D5.out)).mono ?_
        rintro e w6 ⟨rfl, b6⟩
        have D6 := Lib.hid (D5.out.trans (b6.mono D5.out.size))
        have S6 := Lib.hid (S5.out.up b6)
        have T6 := Lib.hid (T5.out.up b6)
        have R6 := Lib.hid (R5.out.up b6 R5.out.lt)
        have P6 := Lib.hid (P5.out.up b6 P5.out.lt)
        have q0 := R6.out.cell (j := 0) (v := .slice xa D.parts.length xd) rfl
        have q1 := R6.out.cell (j := 1) (v := .slice xb D.chans.length xe) rfl
        have q2 := R6.out.cell (j := 2) (v := .slice xc D.slots.length xf) rfl
        have u0 := P6.out.cell (j := 0) (v := .slice ya D.parts.length yd) rfl
        have u1 := P6.out.cell (j := 1) (v := .slice yb D.chans.length ye) rfl
        have u2 := P6.out.cell (j := 2) (v := .slice yc D.slots.length yf) rfl
        clear b6 D5 S5 R5 T5 P5
        go_wp2_with fail
        refine (sameSysI D HSM.out _ _ _ _ _ _ _ S6.out T6.out).mono ?_
        rintro e w7 ⟨rfl, b7⟩
        have D7 := Lib.hid (D6.out.trans (b7.mono D6.out.size))
        clear b7 q0 q1 q2 u0 u1 u2
        go_wp2
        go_ret
        exact ⟨rfl, D7.out⟩
end Go.Proofs.YtbhfnkbflikliaaDoor

namespace Go.Proofs.YtbhfnkbflikliaaDoor
set_option linter.unusedSimpArgs false
set_option linter.unusedVariables false
open Go.ChangeShapes Go.WideShapes Go.ChangeAt Go.RowKit
theorem trodAll_below {H : Type} {enc : TypeId × Value → H} {P : Program} (hl : laidOutB P = true) {W W' : World} (hb : Below W.heap.size W W') :
    ∀ (ts : List TypeId) (vs : List Value) (ds : List (DataW H)) (ps : List MemPlace), (∀ t ∈ ts, P.readableRec t = true ∧ t < P.types.size) → DataW.TrodAll enc P W 0 (fun _ => true) true ts vs ds ps → (∀ x ∈ ps, x.block < W.heap.size) →
      DataW.TrodAll enc P W' 0 (fun b => decide (b < W.heap.size)) true ts vs ds ps
  | [], [], [], _, _, h, _ => h
  | t :: ts, v :: vs, d :: ds, ps, hr, h, hlt => by
    obtain ⟨p, q, h1, h2, rfl⟩ := h
    exact ⟨p, q, Below.trod hl (hr t (by simp)).1 (hr t (by simp)).2 h1 hb (fun x hx => hlt x (by simp [hx])), trodAll_below hl hb ts vs ds q (fun t ht => hr t (by simp [ht])) h2 (fun x hx => hlt x (by simp [hx])), rfl⟩
  | [], _ :: _, _, _, _, h, _ => by cases h
  | [], [], _ :: _, _, _, h, _ => by cases h
  | _ :: _, [], _, _, _, h, _ => by cases h
  | _ :: _, _ :: _, [], _, _, h, _ => by cases h
theorem law_post {H : Type} {enc : TypeId × Value → H} {P : Program} {fn : Func} {s : ChangeSpec} {W W' : World} {args : Array Value} {ds gs : List (DataW H)} {before : List MemPlace} {tb : TypeId}
    (hl : laidOutB P = true) (hp : ∀ t ∈ fn.params.toList, P.readableRec t = true ∧ t < P.types.size) (hvars : s.vars = []) (hres : fn.resultTypes = #[tb]) (hbool : P.underlying tb = some .bool)
    (hW : DataW.Whole enc P fn.params.toList s.vars false W args.toList ds gs before)
    (hfn : gs = [] → (s.fn H (ds ++ gs)).results = [.lit (.bool true)] ∧ (s.fn H (ds ++ gs)).args = ds ∧ (s.fn H (ds ++ gs)).vars = [])
    (hb : Below W.heap.size W W') : s.post enc P fn false true false false W args (.bool true) W' := by
  have hW' := hW
  have hlt := hW.lt
  obtain ⟨p, q, hA, hV, rfl, hfz, hnd⟩ := hW
  rw [hvars] at hV
  obtain ⟨rfl, rfl⟩ := trodVars_none hV
  obtain ⟨e1, e2, e3⟩ := hfn rfl
  refine ⟨ds, [], p ++ [], [], p, [], hW', ?_, ?_, ?_, hb.frame _, fun h => by cases h⟩
  · rw [e1, hres]
    exact trodAll_cons_mk (shut_bool hbool _) trodAll_mk0
  · rw [e2]
    exact trodAll_below hl hb _ _ _ _ hp hA (fun x hx => hlt x (by simp [hx]))
  · rw [e3, hvars]
    rfl
end Go.Proofs.YtbhfnkbflikliaaDoor

namespace Go.Proofs.YtbhfnkbflikliaaDoor
set_option linter.unusedSimpArgs false
set_option linter.unusedVariables false
open Go.ChangeShapes Go.WideShapes Go.ChangeAt Go.RowKit Go.Joins Go.Deep
theorem own : ownKnob Tryd.prog.godebug = none := by kernel_rfl
theorem laidOut : laidOutB Tryd.prog = true := by kernel_rfl
theorem in64_of {n : Int} (h : (Lit.int .i64 n).wf = true) : in64 n := by
  have := bounds_i64 h
  exact ⟨this.1, this.2⟩
set_option maxRecDepth 100000 in
theorem sl_of {H : Type} {enc : TypeId × Value → H} {P : Program} {W : World} {base : Nat} {sp : Nat → Bool} {held : Bool} {t e : TypeId} {size : Nat} {α : Type} [Inhabited α] (f : α → List Value) (Q : α → Prop)
    (ht : P.underlying t = some (.slice e)) (hc : P.cellsOf e = size) (hs0 : 0 < size) (hfl : ∀ x, (f x).length = size)
    (elem : ∀ (n : Nat) (cs : List Value) (y : DataW H × List MemPlace), cs.length = size → DataW.trod enc P W base sp held n e cs = some y → ∃ q, cs = f q ∧ Q q)
    {v : Value} {fuel : Nat} {x : DataW H × List MemPlace} (hf : DataW.trod enc P W base sp held fuel t [v] = some x) : ∃ l : List α, Sl W size v l.length (rowC f l) ∧ ∀ j (hj : j < l.length), Q l[j] := by
  rcases open_slice ht hf with ⟨h1, _⟩ | ⟨a, len, cap, m, n, D, Pl, e1, hb, hl, hm, hmm, _, hx⟩
  · obtain rfl : v = .slice none 0 0 := by simpa using h1
    exact ⟨[], Sl.nil W size, fun j hj => absurd hj (by simp)⟩
  · obtain rfl : v = .slice (some a) len cap := by simpa using e1
    have hlm : len ≤ m := by rw [hmm]; split <;> omega
    have each : ∀ i, i < len → ∃ q : α, (∀ k, k < size → W.cell? (a.add (i * size + k)) = (f q)[k]?) ∧ Q q := by
      intro i hi
      obtain ⟨cs', h1, h2⟩ := hx i (by omega)
      rw [hc] at h1
      obtain ⟨_, hlen, hcell⟩ := World.cells?_some h1
      obtain ⟨q, rfl, hq⟩ := elem _ _ _ hlen h2
      refine ⟨q, fun k hk => ?_, hq⟩
      have := hcell k hk
      rwa [add_add] at this
    obtain ⟨q, hq⟩ := choose_lt each
    refine ⟨(List.range len).map q, ?_, fun j hj => by simpa using (hq j (by simpa using hj)).2⟩
    have hlen : ((List.range len).map q).length = len := by simp
    refine ⟨rowC_len hfl _, some a, cap, by rw [hlen], by omega, fun hpos => ?_⟩
    have h00 := (hq 0 (by omega)).1 0 hs0
    obtain ⟨v0, hv0⟩ : ∃ v0, (f (q 0))[0]? = some v0 := ⟨(f (q 0))[0]'(by rw [hfl]; exact hs0), List.getElem?_eq_getElem _⟩
    rw [hv0, Nat.zero_mul] at h00
    have hs : a.spot = none := by
      have := World.cell?_spot h00
      simpa [Addr.add] using this
    obtain ⟨b, off, s⟩ := a
    simp only at hs
    subst hs
    refine ⟨b, off, rfl, ?_, fun j u hj => ?_⟩
    · simp only [Addr.add, if_true] at h00
      unfold World.cell? at h00
      by_cases hlt : b < W.heap.size
      · exact hlt
      · simp [Array.getElem?_eq_none (Nat.le_of_not_lt hlt)] at h00
    · have hjl : j < len * size := by
        have := (List.getElem?_eq_some_iff.1 hj).1
        rw [rowC_len hfl, hlen] at this
        exact this
      have hdm : j / size * size + j % size = j := by rw [Nat.mul_comm]; exact Nat.div_add_mod j size
      have hdl : j / size < len := Nat.div_lt_of_lt_mul (by rw [Nat.mul_comm]; exact hjl)
      have hml : j % size < size := Nat.mod_lt _ hs0
      rw [← hdm, rowC_at hfl _ _ _ (by rw [hlen]; exact hdl) hml] at hj
      simp only [List.getElem_map, List.getElem_range] at hj
      have key : ∀ x : Nat, (⟨b, off + x, none⟩ : Addr) = (⟨b, off, none⟩ : Addr).add x := fun x => by
        unfold Addr.add
        by_cases h0 : x = 0 <;> simp [h0]
      rw [key, ← hdm, (hq (j / size) hdl).1 _ hml]
      exact hj
theorem codeC_row : ∀ l : List Ins, codeC l = rowC Ins.cells l
  | [] => rfl
  | i :: r => by rw [codeC, codeC_row r]; rfl
theorem ints_row (l : List Int) : ints l = rowC (fun z : Int => [Value.int .i64 z]) l := by
  unfold ints rowC
  induction l with
  | nil => rfl
  | cons z r ih => rw [List.map_cons, List.flatMap_cons, ih]; rfl
instance : Inhabited Ins := ⟨⟨0, 0, 0, 0⟩⟩
theorem cellsInt : Tryd.prog.cellsOf 3 = 1 := by kernel_rfl
theorem cellsCode : Tryd.prog.cellsOf 48 = 1 := by kernel_rfl
theorem cellsInts : Tryd.prog.cellsOf 49 = 1 := by kernel_rfl
set_option maxRecDepth 100000 in
theorem code_of {H : Type} {enc : TypeId × Value → H} {W : World} {base : Nat} {sp : Nat → Bool} {held : Bool} {v : Value} {fuel : Nat} {x : DataW H × List MemPlace} (hf : DataW.trod enc Tryd.prog W base sp held fuel 48 [v] = some x) :
    ∃ l : List Ins, Sl W 4 v l.length (codeC l) ∧ ∀ j (hj : j < l.length), l[j].ok := by
  obtain ⟨l, h1, h2⟩ := sl_of (size := 4) Ins.cells Ins.ok Tryd.underlying48 (by kernel_rfl) (by decide) (fun _ => rfl) (fun n cs y hl h => by
    obtain ⟨y0, y1, y2, y3, k, hxy, _, g0, g1, g2, g3⟩ := trod_struct4 Tryd.underlying59 h
    match cs, hl with
    | [v0, v1, v2, v3], _ =>
      obtain ⟨op, e0, -, w0⟩ := DataW.trod_int Tryd.underlying3 g0
      obtain ⟨a', e1, -, w1⟩ := DataW.trod_int Tryd.underlying3 g1
      obtain ⟨b, e2, -, w2⟩ := DataW.trod_int Tryd.underlying3 g2
      obtain ⟨n', e3, -, w3⟩ := DataW.trod_int Tryd.underlying3 g3
      simp [cellsInt] at e0 e1 e2 e3
      subst e0 e1 e2 e3
      exact ⟨⟨op, a', b, n'⟩, rfl, in64_of w0, in64_of w1, in64_of w2, in64_of w3⟩) hf
  exact ⟨l, by rw [codeC_row]; exact h1, h2⟩
set_option maxRecDepth 100000 in
theorem ints_of {H : Type} {enc : TypeId × Value → H} {W : World} {base : Nat} {sp : Nat → Bool} {held : Bool} {v : Value} {fuel : Nat} {x : DataW H × List MemPlace} (hf : DataW.trod enc Tryd.prog W base sp held fuel 49 [v] = some x) :
    ∃ l : List Int, Sl W 1 v l.length (ints l) ∧ ∀ j (hj : j < l.length), in64 l[j] := by
  obtain ⟨l, h1, h2⟩ := sl_of (fun z : Int => [Value.int .i64 z]) in64 Tryd.underlying49 (by kernel_rfl) (by decide) (fun _ => rfl) (fun n cs y hl h => by
    obtain ⟨q, e0, -, w0⟩ := DataW.trod_int Tryd.underlying3 h
    exact ⟨q, e0, in64_of w0⟩) hf
  exact ⟨l, by rw [ints_row]; exact h1, h2⟩
end Go.Proofs.YtbhfnkbflikliaaDoor

namespace Go.Proofs.YtbhfnkbflikliaaDoor
set_option linter.unusedSimpArgs false
set_option linter.unusedVariables false
open Go.ChangeShapes Go.WideShapes Go.ChangeAt Go.RowKit Go.Joins Go.Deep
instance : Inhabited Chn := ⟨⟨0, 0, 0⟩⟩
instance : Inhabited Slt := ⟨⟨0, 0⟩⟩
instance : Inhabited Prt := ⟨⟨[], []⟩⟩
set_option maxRecDepth 100000 in
theorem chans_of {H : Type} {enc : TypeId × Value → H} {W : World} {base : Nat} {sp : Nat → Bool} {held : Bool} {v : Value} {fuel : Nat} {x : DataW H × List MemPlace} (hf : DataW.trod enc Tryd.prog W base sp held fuel 23 [v] = some x) :
    ∃ l : List Chn, Sl W 3 v l.length (rowC chC l) ∧ ∀ j (hj : j < l.length), in64 l[j].kd ∧ in64 l[j].fr ∧ in64 l[j].tt :=
  sl_of chC (fun c => in64 c.kd ∧ in64 c.fr ∧ in64 c.tt) Tryd.underlying23 (by kernel_rfl) (by decide) (fun _ => rfl) (fun n cs y hl h => by
    obtain ⟨y0, y1, y2, k, hxy, _, g0, g1, g2⟩ := trod_struct3 Tryd.underlying55 h
    match cs, hl with
    | [v0, v1, v2], _ =>
      obtain ⟨a, e0, -, w0⟩ := DataW.trod_int Tryd.underlying3 g0
      obtain ⟨b, e1, -, w1⟩ := DataW.trod_int Tryd.underlying3 g1
      obtain ⟨c, e2, -, w2⟩ := DataW.trod_int Tryd.underlying3 g2
      simp [cellsInt] at e0 e1 e2
      subst e0 e1 e2
      exact ⟨⟨a, b, c⟩, rfl, in64_of w0, in64_of w1, in64_of w2⟩) hf
set_option maxRecDepth 100000 in
theorem slots_of {H : Type} {enc : TypeId × Value → H} {W : World} {base : Nat} {sp : Nat → Bool} {held : Bool} {v : Value} {fuel : Nat} {x : DataW H × List MemPlace} (hf : DataW.trod enc Tryd.prog W base sp held fuel 24 [v] = some x) :
    ∃ l : List Slt, Sl W 2 v l.length (rowC slC l) ∧ ∀ j (hj : j < l.length), in64 l[j].pt ∧ in64 l[j].tk :=
  sl_of slC (fun c => in64 c.pt ∧ in64 c.tk) Tryd.underlying24 (by kernel_rfl) (by decide) (fun _ => rfl) (fun n cs y hl h => by
    obtain ⟨y0, y1, k, hxy, _, g0, g1⟩ := trod_struct2 Tryd.underlying57 h
    match cs, hl with
    | [v0, v1], _ =>
      obtain ⟨a, e0, -, w0⟩ := DataW.trod_int Tryd.underlying3 g0
      obtain ⟨b, e1, -, w1⟩ := DataW.trod_int Tryd.underlying3 g1
      simp [cellsInt] at e0 e1
      subst e0 e1
      exact ⟨⟨a, b⟩, rfl, in64_of w0, in64_of w1⟩) hf
def Prt.ok (p : Prt) : Prop := (∀ j (hj : j < p.code.length), p.code[j].ok) ∧ ∀ j (hj : j < p.inn.length), in64 p.inn[j]
set_option maxRecDepth 100000 in
theorem parts_of {H : Type} {enc : TypeId × Value → H} {W : World} {base : Nat} {sp : Nat → Bool} {held : Bool} {v : Value} {fuel : Nat} {x : DataW H × List MemPlace} (hf : DataW.trod enc Tryd.prog W base sp held fuel 22 [v] = some x) :
    ∃ ps : List Prt, PartsR W v ps ∧ ∀ p ∈ ps, p.ok := by
  obtain ⟨l, h1, h2⟩ := sl_of (size := 2) prC (fun q => ∃ p : Prt, PrtR W q.1 q.2 p ∧ p.ok) Tryd.underlying22 (by kernel_rfl) (by decide) (fun _ => rfl) (fun n cs y hl h => by
    obtain ⟨y0, y1, k, hxy, _, g0, g1⟩ := trod_struct2 Tryd.underlying51 h
    match cs, hl with
    | [v0, v1], _ =>
      simp only [List.drop, cellsCode, List.take] at g0
      simp only [List.drop, cellsInts, List.take] at g1
      obtain ⟨c, hc, hc2⟩ := code_of g0
      obtain ⟨i, hi, hi2⟩ := ints_of g1
      exact ⟨(v0, v1), rfl, ⟨c, i⟩, ⟨hc, hi⟩, hc2, hi2⟩) hf
  obtain ⟨g, hg⟩ := choose_lt (n := l.length) (p := fun j p => ∀ hj : j < l.length, PrtR W l[j].1 l[j].2 p ∧ p.ok) (fun j hj => by
    obtain ⟨p, hp⟩ := h2 j hj
    exact ⟨p, fun _ => hp⟩)
  refine ⟨(List.range l.length).map g, ⟨l, by simp, by simpa using h1, fun k hk hk' => ?_⟩, fun p hp => ?_⟩
  · have := (hg k hk' hk').1
    simpa using this
  · obtain ⟨j, hj, rfl⟩ := List.mem_map.1 hp
    have hj : j < l.length := by simpa using hj
    exact (hg j hj hj).2
end Go.Proofs.YtbhfnkbflikliaaDoor

namespace Go.Proofs.YtbhfnkbflikliaaDoor
set_option linter.unusedSimpArgs false
set_option linter.unusedVariables false
open Go.ChangeShapes Go.WideShapes Go.ChangeAt Go.RowKit Go.Joins
open Go.ChangeMaps (open_string)
set_option maxRecDepth 100000 in
theorem open_str {H : Type} {enc : TypeId × Value → H} {W : World} {r : Reach} {b0 base : Nat} {sp : Nat → Bool} {held : Bool} {v : Value} {d : DataW H} {p : List MemPlace} (hv : Value.okWide Tryd.prog W r b0 9 v) (h : DataW.Trod enc Tryd.prog W base sp held 9 v d p) :
    ∃ l : List UInt8, v = .string ⟨l.toArray⟩ := by
  obtain ⟨s, rfl, rfl, -, -⟩ := open_string Tryd.underlying9 hv h
  exact ⟨s.data.toList, by simp⟩
set_option maxRecDepth 100000 in
theorem open_system2 {H : Type} {enc : TypeId × Value → H} {W : World} {r : Reach} {b0 base : Nat} {sp : Nat → Bool} {held : Bool} {v : Value} {d : DataW H} {p : List MemPlace} (hv : Value.okWide Tryd.prog W r b0 26 v) (h : DataW.Trod enc Tryd.prog W base sp held 26 v d p) :
    ∃ (vp vc vs : Value) (S : SysD), v = .agg #[vp, vc, vs] ∧ Sys W vp vc vs S ∧ S.ok ∧ S.ok2 := by
  obtain ⟨c0, c1, c2, y0, y1, y2, m, rfl, rfl, rfl, h0, h1, h2⟩ := open_agg3 Tryd.underlying26 (by kernel_rfl) (by kernel_rfl) hv h
  obtain ⟨ps, hp, hpo⟩ := parts_of h0
  obtain ⟨cs, hc, hco⟩ := chans_of h1
  obtain ⟨ss, hs, hso⟩ := slots_of h2
  refine ⟨c0, c1, c2, ⟨ps, cs, ss⟩, rfl, ⟨hp, hc, hs⟩, fun p hp' => (hpo p hp').1, fun p hp' x hx => ?_⟩
  obtain ⟨j, hj, rfl⟩ := List.mem_iff_getElem.1 hx
  exact (hpo p hp').2 j hj
end Go.Proofs.YtbhfnkbflikliaaDoor

namespace Go.Proofs.YtbhfnkbflikliaaDoor
set_option linter.unusedSimpArgs false
set_option linter.unusedVariables false
open Go.RowKit Go.Sort
theorem gShp : Tryd.prog.globalNamed "lychgate/isa.shapes" = some 0 := by kernel_rfl
theorem gShpType : (Tryd.prog.globals[0]?).map (·.type) = some 108 := by kernel_rfl
theorem cells9 : Tryd.prog.cellsOf 9 = 1 := by kernel_rfl
theorem cells55 : Tryd.prog.cellsOf 107 = 6 := by kernel_rfl
theorem cells4 : Tryd.prog.cellsOf 4 = 1 := by kernel_rfl
theorem cells3 : Tryd.prog.cellsOf 3 = 1 := by kernel_rfl
def rowD {H : Type} (k : Nat) : DataW H := .agg [.lit (.string (rowW k)), .lit (.bool (rowA k)), .lit (.bool (rowB k)), .lit (.bool (rowN k)), .lit (.int .i64 (rowLo k)), .lit (.int .i64 (rowHi k))]
theorem laid_rows {H : Type} : (Rows.laid_lychgate_isa_shapes : DataW H) = .agg ((List.range 16).map rowD) := rfl
theorem at_of {cs : List Value} {o : Nat} {v : Value} (h : (cs.drop o).take 1 = [v]) : cs[o]? = some v := by
  have := congrArg (·[0]?) h
  simpa [List.getElem?_take, List.getElem?_drop] using this
theorem at_in {cs : List Value} {a o : Nat} {v : Value} (h : ((cs.drop a).take 6)[o]? = some v) (ho : o < 6) : cs[a + o]? = some v := by
  rw [List.getElem?_take, if_pos ho, List.getElem?_drop] at h; exact h
theorem row_cells {H : Type} {enc : TypeId × Value → H} {W : World} {base : Nat} {sp : Nat → Bool} {held : Bool} {fuel : Nat} {cs : List Value} {k : Nat} {p : List MemPlace}
    (h : DataW.trod enc Tryd.prog W base sp held fuel 107 cs = some (rowD k, p)) :
    cs[0]? = some (.string ⟨(rowW k).toArray⟩) ∧ cs[1]? = some (.bool (rowA k)) ∧ cs[2]? = some (.bool (rowB k)) ∧ cs[3]? = some (.bool (rowN k)) ∧ cs[4]? = some (.int .i64 (rowLo k)) ∧ cs[5]? = some (.int .i64 (rowHi k)) := by
  obtain ⟨xs, n, _, hx, hl, hlen, hf⟩ := DataW.trod_struct Tryd.underlying107 h
  have f0 := hf 0 _ rfl
  have f1 := hf 1 _ rfl
  have f2 := hf 2 _ rfl
  have f3 := hf 3 _ rfl
  have f4 := hf 4 _ rfl
  have f5 := hf 5 _ rfl
  match xs, hlen with
  | [y0, y1, y2, y3, y4, y5], _ =>
    simp only [rowD, Prod.mk.injEq, DataW.agg.injEq, List.map_cons, List.map_nil, List.cons.injEq, and_true] at hx
    obtain ⟨⟨e0, e1, e2, e3, e4, e5⟩, _⟩ := hx
    obtain ⟨s, c0, d0, _⟩ := DataW.trod_string Tryd.underlying9 f0
    obtain ⟨b1, c1, d1⟩ := DataW.trod_bool Tryd.underlying4 f1
    obtain ⟨b2, c2, d2⟩ := DataW.trod_bool Tryd.underlying4 f2
    obtain ⟨b3, c3, d3⟩ := DataW.trod_bool Tryd.underlying4 f3
    obtain ⟨n4, c4, d4, _⟩ := DataW.trod_int Tryd.underlying3 f4
    obtain ⟨n5, c5, d5, _⟩ := DataW.trod_int Tryd.underlying3 f5
    subst d0 d1 d2 d3 d4 d5
    simp only [DataW.lit.injEq, Lit.string.injEq, Lit.bool.injEq, Lit.int.injEq, true_and] at e0 e1 e2 e3 e4 e5
    subst e1 e2 e3 e4 e5
    change (cs.drop 0).take (Tryd.prog.cellsOf 9) = _ at c0
    change (cs.drop 1).take (Tryd.prog.cellsOf 4) = _ at c1
    change (cs.drop 2).take (Tryd.prog.cellsOf 4) = _ at c2
    change (cs.drop 3).take (Tryd.prog.cellsOf 4) = _ at c3
    change (cs.drop 4).take (Tryd.prog.cellsOf 3) = _ at c4
    change (cs.drop 5).take (Tryd.prog.cellsOf 3) = _ at c5
    rw [cells9] at c0
    rw [cells4] at c1 c2 c3
    rw [cells3] at c4 c5
    have es : s = ⟨(rowW k).toArray⟩ := by
      apply ByteArray.ext
      rw [e0]
    exact ⟨es ▸ at_of c0, at_of c1, at_of c2, at_of c3, at_of c4, at_of c5⟩
theorem shp_of {W : World} {r : List (String × DataW Unit)} (h : laidMet Tryd.prog (("lychgate/isa.shapes", Rows.laid_lychgate_isa_shapes) :: r) W) : Shp W := by
  obtain ⟨ps, ⟨g', t', cs, fuel, p, q, hg', ht', hvar, hd, _, _⟩, _⟩ := h
  obtain rfl := Option.some.inj (gShp.symm.trans hg')
  obtain rfl := Option.some.inj (gShpType.symm.trans ht')
  obtain ⟨xs, m, _, hx, hl, hlen, hf⟩ := DataW.trod_array Tryd.underlying108 hd
  have hrow : ∀ k, k < 16 → ∃ p', DataW.trod (fun _ => ()) Tryd.prog W 0 (fun _ => true) false m 107 ((cs.toList.drop (k * 6)).take 6) = some (rowD k, p') := by
    intro k hk
    have h1 := hf k hk
    rw [cells55] at h1
    have h2 : xs.map (·.1) = (List.range 16).map rowD := by
      have := congrArg Prod.fst hx
      simp only [laid_rows, DataW.agg.injEq] at this
      exact this.symm
    have h3 := congrArg (·[k]?) h2
    simp only [List.getElem?_map, List.getElem?_range hk, Option.map_some] at h3
    cases hy : xs[k]? with
    | none => rw [hy] at h3; cases h3
    | some y =>
      rw [hy] at h3
      simp only [Option.map_some, Option.some.injEq] at h3
      refine ⟨y.2, ?_⟩
      rw [h1, hy, ← h3]
  have cell : ∀ i, W.cell? ⟨0, i, none⟩ = cs[i]? := fun i => World.var?_cell gShp hvar i
  have key : ∀ k, k < 16 → ∀ j v, j < 6 → ((cs.toList.drop (k * 6)).take 6)[j]? = some v → W.cell? ⟨0, k * 6 + j, none⟩ = some v := by
    intro k hk j v hj h
    have := at_in h hj
    rw [cell, ← Array.getElem?_toList]
    exact this
  refine ⟨?_, fun k hk => ?_, fun k hk => ?_, fun k hk => ?_, fun k hk => ?_, fun k hk => ?_, fun k hk => ?_⟩
  · have h0 : W.var? Tryd.prog "lychgate/isa.shapes" = some cs := hvar
    unfold World.var? at h0
    rw [gShp] at h0
    simp only [Option.bind_some] at h0
    rcases Nat.lt_or_ge 0 W.heap.size with h' | h'
    · exact h'
    · simp [Array.getElem?_eq_none h'] at h0
  all_goals obtain ⟨p', hp⟩ := hrow k hk
  all_goals obtain ⟨r0, r1, r2, r3, r4, r5⟩ := row_cells hp
  · exact key k hk 0 _ (by decide) r0
  · exact key k hk 1 _ (by decide) r1
  · exact key k hk 2 _ (by decide) r2
  · exact key k hk 3 _ (by decide) r3
  · exact key k hk 4 _ (by decide) r4
  · exact key k hk 5 _ (by decide) r5
theorem env_of {W : World} {r : List (String × DataW Unit)} (h : laidMet Tryd.prog (("lychgate/isa.shapes", Rows.laid_lychgate_isa_shapes) :: r) W) : Env W := ⟨shp_of h⟩
end Go.Proofs.YtbhfnkbflikliaaDoor

namespace Go.Proofs.YtbhfnkbflikliaaDoor
set_option linter.unusedSimpArgs false
set_option linter.unusedVariables false
def laidW (P : Program) (os : Os) : World :=
  let w0 := World.holding P os ⟨#[], #[], []⟩
  let put := fun (h : Array Obj) (g : Nat) (cs : Array Value) => h.modify g fun
      | .cells _ t frozen => .cells cs t frozen
      | o => o
  { w0 with heap := put w0.heap 0 #[.string ⟨#[]⟩, .bool false, .bool false, .bool false, .int .i64 0, .int .i64 0, .string ⟨#[115, 101, 116]⟩, .bool true, .bool false, .bool true, .int .i64 (-9223372036854775808), .int .i64 9223372036854775807, .string ⟨#[99, 111, 112, 121]⟩, .bool true, .bool true, .bool false, .int .i64 0, .int .i64 0, .string ⟨#[97, 100, 100]⟩, .bool true, .bool true, .bool false, .int .i64 0, .int .i64 0, .string ⟨#[115, 117, 98]⟩, .bool true, .bool true, .bool false, .int .i64 0, .int .i64 0, .string ⟨#[108, 101, 115, 115]⟩, .bool true, .bool true, .bool false, .int .i64 0, .int .i64 0, .string ⟨#[108, 111, 97, 100]⟩, .bool true, .bool true, .bool false, .int .i64 0, .int .i64 0, .string ⟨#[115, 97, 118, 101]⟩, .bool true, .bool true, .bool false, .int .i64 0, .int .i64 0, .string ⟨#[106, 117, 109, 112]⟩, .bool false, .bool false, .bool true, .int .i64 0, .int .i64 19, .string ⟨#[122, 101, 114, 111]⟩, .bool true, .bool false, .bool true, .int .i64 0, .int .i64 19, .string ⟨#[105, 110]⟩, .bool true, .bool false, .bool false, .int .i64 0, .int .i64 0, .string ⟨#[111, 117, 116]⟩, .bool true, .bool false, .bool false, .int .i64 0, .int .i64 0, .string ⟨#[112, 117, 116]⟩, .bool true, .bool false, .bool true, .int .i64 0, .int .i64 5, .string ⟨#[103, 101, 116]⟩, .bool true, .bool true, .bool true, .int .i64 0, .int .i64 5, .string ⟨#[114, 101, 115, 116]⟩, .bool false, .bool false, .bool false, .int .i64 0, .int .i64 0, .string ⟨#[115, 116, 111, 112]⟩, .bool false, .bool false, .bool false, .int .i64 0, .int .i64 0] }
end Go.Proofs.YtbhfnkbflikliaaDoor
