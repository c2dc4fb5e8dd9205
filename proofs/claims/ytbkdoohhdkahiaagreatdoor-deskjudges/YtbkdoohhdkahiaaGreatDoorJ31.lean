/- ref.RunOf. -/
import Derived.Test.YtbkdoohhdkahiaaGreatDoorJ30
import Derived.Test.YtbkdoohhdkahiaaGreatDoorJ22
import Derived.Test.YtbkdoohhdkahiaaGreatDoorJ14
import Derived.Test.YtbkdoohhdkahiaaGreatDoorJ25
import Derived.Test.YtbkdoohhdkahiaaGreatDoorJ27
import Derived.Test.YtbkdoohhdkahiaaGreatDoorJ24
import Derived.Test.YtbkdoohhdkahiaaGreatDoorJ21
namespace Go.Proofs.YtbkdoohhdkahiaaGreatDoor
set_option linter.unusedSimpArgs false
set_option linter.unusedVariables false
set_option maxRecDepth 100000
set_option maxHeartbeats 16000000
open Go.RowKit Go.Sort
variable {b : List UInt8} {S : SysD}
theorem xw9 (S : SysD) (m : Nat) (hm : m <= 300) (vp vc vs : Value) (w : World) (hS : Sys w vp vc vs S) (hk : xb3 S = 0) (D' : WldD) (hD : xly S m (xbg S) = D') :
  Calls Tryz.prog 24 #[.agg #[vp, vc, vs], .int .i64 m] w fun e w' => ∃ xc xl, e = .returned (.agg #[.int .i64 D'.tick, xc, xl]) /\ WldF w.heap.size w' xc xl D' /\ Below w.heap.size w w' := by
 obtain ⟨pa, pc, rfl⟩ := hS.p.form
 obtain ⟨ka, kc, rfl⟩ := hS.c.form
 obtain ⟨sa, sc, rfl⟩ := hS.s.form
 have HC := hd fun w hS => xr7 S (.slice pa S.parts.length pc) (.slice ka S.chans.length kc) (.slice sa S.slots.length sc) w hS hk
 have HS := hd hS
 have HRT := hd (xfi hk)
 have HNX := hd fun D uc ul w hS hW hR ht => xki S D (.slice pa S.parts.length pc) (.slice ka S.chans.length kc) (.slice sa S.slots.length sc) uc ul w hS hW hk (Right.t0 (S := S) hR) ht (Right.c hR) (Right.l hR)
 have HKS := hd hk
 have HD := hd hD
 clear hS hk hD
 go_enter Tryz.func24, Tryz.ntmps24
 go_wp2_with fail
 refine (HC.out _ (HS.out.up up0)).mono ?_
 rintro e w1 ⟨xc, xl, rfl, hN, b1⟩
 obtain ⟨a5, c5, rfl⟩ := hN.wld.c.form
 obtain ⟨a6, c6, rfl⟩ := hN.wld.l.form
 have z1 := b1.size
 simp at z1
 have R0 : Hid (Rw w1 w.heap.size 39 #[.slice pa S.parts.length pc, .slice ka S.chans.length kc, .slice sa S.slots.length sc]) := Rw.up rn0 b1 o3
 have RB : Hid (Rw w1 (w.heap.size + 1) 61 #[.int .i64 0, .slice none 0 0, .slice none 0 0]) := Rw.up rn0 b1 o3
 have HB : Hid (Below w.heap.size w w1) := by
  refine Below.trans ?_ (b1.mono o3)
  exact up0
 have HN := hd (hN.low (B' := w.heap.size + 2) (by simp))
 clear b1 HC hN
 go_wp2_with (refine xae rfl 61 (.tmp 5) (.tmp 8) rfl w1.heap.size #[.int .i64 0, .slice a5 (xbg S).cells.length c5, .slice a6 (xbg S).lines.length c6] rfl rfl 61 #[.int .i64 0, .slice none 0 0, .slice none 0 0] rn0 xa3 rfl (xbu _ _ _ _ _ _ _) ?_)
 intro W HW1
 have hRn : RnS w W w1.heap.size (.slice pa S.parts.length pc) (.slice ka S.chans.length kc) (.slice sa S.slots.length sc) (xbg S) := by
  rw [HW1.out]
  have hb0 : Below w1.heap.size w1 (w1.alloc (.cells #[.int .i64 0, .slice none 0 0, .slice none 0 0] 61)) := (Below.refl _ _).alloc (Nat.le_refl _) _
  refine ⟨xaa (HB.out.alloc om _) om _, (R0.out.up hb0 om).row_other _ om, (RB.out.up hb0 om).row_other _ om, ⟨a5, c5, a6, c6, Rw.row (cs := #[.int .i64 0, .slice none 0 0, .slice none 0 0]) rn0 _, HN.out.fresh _ _⟩, by omega⟩
 have RN := hd hRn
 clear HW1 RB HB R0 hRn HN
 go_wp2
 go_loopw [6] (fun i wr => ∃ k : Nat, i = .int .i64 k /\ k <= m /\ Hid (RnS w wr w1.heap.size (.slice pa S.parts.length pc) (.slice ka S.chans.length kc) (.slice sa S.slots.length sc) (xly S k (xbg S)))) (fun i _ => m - (intOf i).toNat)
 case atStart => exact ⟨0, rfl, Nat.zero_le _, RN⟩
 case round =>
  obtain ⟨k, rfl, hk, HR⟩ := hrel
  have hR := HR.out
  clear HR RN
  by_cases hlt : k < m
  .have hli : (k : Int) < m := by omega
   obtain ⟨hrt, htk⟩ := xeb HKS.out k HRT.out (by show (0 : Int) + k <= 300; omega)
   have hnr := (xi0 HKS.out hrt (by rw [htk]; show (0 : Int) + k < 300; omega)).2
   have hrn := xow S k (xbg S)
   have ht : (xly S k (xbg S)).tick < 300 := by rw [htk]; show (0 : Int) + k < 300; omega
   generalize xly S k (xbg S) = D at hR hrt hnr hrn ht
   obtain ⟨ua, uc, la, lc, r1, hwf⟩ := hR.r1
   have q0 := r1.cell (j := 0) (v := .int .i64 D.tick) rfl
   have q1 := r1.cell (j := 1) (v := .slice ua D.cells.length uc) rfl
   have q2 := r1.cell (j := 2) (v := .slice la D.lines.length lc) rfl
   have s0 := hR.r0.cell (j := 0) (v := .slice pa S.parts.length pc) rfl
   have s1 := hR.r0.cell (j := 1) (v := .slice ka S.chans.length kc) rfl
   have s2 := hR.r0.cell (j := 2) (v := .slice sa S.slots.length sc) rfl
   have HR := hd hR
   have HWF := hd hwf
   have R1 := hd r1
   have HRT2 := hd hrt
   have HNR := hd hnr
   have HRN := hd hrn
   clear hR hwf r1 hrt hnr hrn htk
   go_wp2_with fail
   refine (HNX.out D _ _ _ (HS.out.up HR.out.d) HWF.out.wld HRT2.out ht).mono ?_
   rintro e w3 ⟨xc, xl, rfl, hN, b3⟩
   obtain ⟨a7, c7, rfl⟩ := hN.wld.c.form
   obtain ⟨a8, c8, rfl⟩ := hN.wld.l.form
   have HN := hd hN
   have B3 := hd b3
   clear b3 hN q0 q1 q2 s0 s1 s2
   go_wp2_with (refine xae rfl 61 (.tmp 5) (.tmp 16) rfl w1.heap.size #[.int .i64 (D.tick + 1), .slice a7 (xcp S D).cells.length c7, .slice a8 (xcp S D).lines.length c8] rfl rfl 61 _ (R1.out.up B3.out R1.out.lt) xa3 rfl (xbu _ _ _ _ _ _ _) ?_)
   intro W4 HW4
   have RN4 : Hid (RnS w W4 w1.heap.size (.slice pa S.parts.length pc) (.slice ka S.chans.length kc) (.slice sa S.slots.length sc) (xcp S D)) := by
    show RnS _ _ _ _ _ _ _
    rw [HW4.out]
    have hg := HR.out.g0
    have hl1 := R1.out.lt
    have hsz := HR.out.d.size
    refine ⟨xaa (HR.out.d.trans (B3.out.mono hsz)) om _, (HR.out.r0.up B3.out HR.out.r0.lt).row_other _ om, (HR.out.rb.up B3.out HR.out.rb.lt).row_other _ om, ⟨a7, c7, a8, c8, ?_, (HN.out.row om _).low om⟩, hg⟩
    rw [HNR.out]
    exact (R1.out.up B3.out R1.out.lt).row _
   clear HW4 HN B3 HR HWF R1 HRT2 HNR
   go_wp2
   go_roundw
   case rel => exact ⟨k + 1, by go_num, by omega, by rw [HRN.out]; exact RN4⟩
   case measure => simp [intOf]; omega
  .obtain rfl : k = m := by omega
   have hli : ¬ (k : Int) < k := by omega
   rw [HD.out] at hR
   obtain ⟨ua, uc, la, lc, r1, hwf⟩ := hR.r1
   have HR := hd hR
   have HWF := hd hwf
   have R1 := hd r1
   have hsz := hR.d.size
   have hlb := hR.rb.lt
   clear hR hwf r1
   go_wp2_with (first | (refine wpList_load_row rfl 61 (.tmp 5) rfl w1.heap.size rfl 61 _ (0, 0) _ R1.out Tryz.underlying61 rfl xa3 ?_) | (refine wpList_store_row rfl 61 (.tmp 4) (.tmp 17) rfl (w.heap.size + 1) #[.int .i64 D'.tick, .slice ua D'.cells.length uc, .slice la D'.lines.length lc] rfl rfl 61 _ HR.out.rb xa3 rfl (xbu _ _ _ _ _ _ _) ?_))
   refine bodyPost_ret (results_cell_row Tryz.results24 _ _ (w.heap.size + 1) 61 #[.int .i64 D'.tick, .slice ua D'.cells.length uc, .slice la D'.lines.length lc] (0, 0) _ rfl (HR.out.rb.row _) Tryz.underlying61 rfl xa3) rfl ⟨.slice ua D'.cells.length uc, .slice la D'.lines.length lc, rfl, (HWF.out.row (x := w.heap.size + 1) om _).low (B' := w.heap.size) om, xaa (g := w.heap.size + 1) HR.out.d om _⟩
theorem xea : xav 23 := xa8 Tryz.func23 kr kr
theorem x39 (a : Array UInt8) (l : List UInt8) : (⟨a⟩ : ByteArray) ++ ⟨l.toArray⟩ = ⟨(a.toList ++ l).toArray⟩ := by
 apply ByteArray.ext; simp
theorem xij (Y : World) (m : Nat) (hm : m < 3) : (Y.alloc (.cells #[.string ⟨#[114, 117, 110, 115]⟩, .string ⟨#[115, 116, 111, 112, 112, 101, 100]⟩, .string ⟨#[102, 97, 117, 108, 116, 101, 100]⟩] 9)).cell? ⟨Y.heap.size, m, none⟩ = some (.string ⟨(xgj (m : Int)).toArray⟩) := by
 obtain rfl | rfl | rfl : m = 0 \/ m = 1 \/ m = 2 := by omega
 .simp [xgj]
 .simp [xgj]
 .simp [xgj]
theorem xye (hb : ¬ 8192 < b.length) (h : xjp b = some S) : rdE b = 0 /\ rdS b = S /\ xb3 S = 0 /\ S.ok := by
 rw [xo9] at h
 refine ⟨by unfold rdE; rw [if_neg hb, h]; rfl, by unfold rdS; rw [if_neg hb, h]; rfl, ?_⟩
 unfold xe3 at h
 split at h
 .rename_i S' hd
  split at h
  .rename_i hk
   injection h with h
   subst h
   refine ⟨hk, fun p hp j hj => ?_⟩
   have hg := xoe.eg _ _ _ hd
   have hi := (hg.1.2 p hp).1.2 p.code[j] (List.getElem_mem hj)
   have f : ∀ {n : Int}, 0 <= n /\ n < 256 -> xb6 n := fun h => ⟨by omega, by omega⟩
   exact ⟨f hi.1, f hi.2.1, f hi.2.2.1, hi.2.2.2⟩
  .cases h
 .cases h
theorem xx1 (hb : ¬ 8192 < b.length) (h : xjp b = none) : rdE b = 1 := by
 rw [xo9] at h
 unfold rdE
 rw [if_neg hb, h]
 rfl
theorem xz8 {n : Int} (hr : xmx S n = 0) : ∀ d ∈ (xlz S n).cells, ∃ m : Nat, d.c.en = m /\ m < 3 := by
 obtain ⟨hk, h0, h3⟩ := xho hr
 have hR : Right S (xlz S n) := by
  unfold xlz
  rw [if_pos hr]
  exact (xeb hk n.toNat (xfi hk) (by show (0 : Int) + _ <= 300; omega)).1
 have hlen := xdi hR.c
 intro d hd
 obtain ⟨k, hk, rfl⟩ := List.getElem_of_mem hd
 have hb := xef hR.c k om hk
 unfold xqg at hb
 rw [Bool.and_eq_true] at hb
 have hf := (xbv _ _).1 hb.1
 exact ⟨((xlz S n).cells[k].c.en).toNat, by omega, by omega⟩
theorem xus (b rules : List UInt8) (n : Int) (w : World) (hs : rules.length <= 281474976710656) :
  Calls Tryz.prog 6 #[.string ⟨b.toArray⟩, .string ⟨rules.toArray⟩, .int .i64 n] w fun e w' => e = .returned (.tuple #[.string ⟨(xcj b rules n).toArray⟩, .int .i64 (xbj b rules n)]) /\ Below w.heap.size w w' := by
 have HSL := Lib.hid hs
 have HJW : Hid (∀ e, xbj b rules n = e -> e ≠ 0 -> xcj b rules n = []) := Lib.hid (fun e h h' => by unfold xcj; rw [h, if_neg h'])
 clear hs
 by_cases hb : 8192 < b.length
 .have HEQ : Hid (xbj b rules n = 2 /\ xcj b rules n = []) := Lib.hid (by
   have h : xbj b rules n = 2 := by unfold xbj rdE; rw [if_pos hb]; rfl
   exact ⟨h, HJW.out 2 h (by decide)⟩)
  have hbi : (8192 : Int) < b.length := by omega
  go_enter Tryz.func6, Tryz.ntmps6
  go_wp2
  go_ret2
  exact ⟨by rw [HEQ.out.1, HEQ.out.2] <;> rfl, Below.refl _ _⟩
 .have hbi : ¬ (8192 : Int) < b.length := by omega
  have HFN := Lib.hid (fun h => xx1 hb h)
  have HFS := Lib.hid (fun S h => xye (S := S) hb h)
  have HRU := Lib.hid (fun w => xk0 rules w HSL.out)
  rw [xyt] at HRU
  clear hb
  go_enter Tryz.func6, Tryz.ntmps6
  go_wp2_with fail
  refine (xnx b _).mono ?_
  rintro e w1 (⟨hf, rfl, b1⟩ | ⟨S, hf, vp, vc, vs, rfl, s1, b1⟩)
  .have HEQ : Hid (xbj b rules n = 1 /\ xcj b rules n = []) := Lib.hid (by
    have h : xbj b rules n = 1 := by unfold xbj; rw [HFN.out hf]; rfl
    exact ⟨h, HJW.out 1 h (by decide)⟩)
   have B1 := Lib.hid b1
   clear hf b1
   go_wp2
   go_ret2
   exact ⟨by rw [HEQ.out.1, HEQ.out.2] <;> rfl, B1.out.alloc B1.out.size _⟩
  .obtain ⟨hr0, hrs, hck, hok⟩ := HFS.out S hf
   have HR0 := Lib.hid hr0
   have HRS := Lib.hid hrs
   have HCK := Lib.hid hck
   have HOK := Lib.hid hok
   have HS64 : Hid (S64 S) := Lib.hid (hrs ▸ x19 b)
   obtain ⟨pa, pc, rfl⟩ := s1.p.form
   obtain ⟨ka, kc, rfl⟩ := s1.c.form
   obtain ⟨sa, sc, rfl⟩ := s1.s.form
   have S1 := Lib.hid s1
   have B1 := Lib.hid b1
   have X1 : Hid (Below w1.heap.size w1 (w1.alloc (.cells #[.slice pa S.parts.length pc, .slice ka S.chans.length kc, .slice sa S.slots.length sc] 39))) := Lib.hid ((Below.refl _ _).alloc (Nat.le_refl _) _)
   have R1 := Lib.hid (Rw.new w1 39 #[.slice pa S.parts.length pc, .slice ka S.chans.length kc, .slice sa S.slots.length sc] rfl)
   clear hr0 hrs hck hok s1 b1 hf
   go_wp2_with fail
   refine (HRU.out _).mono ?_
   rintro e w2 ⟨vL, rfl, o2, b2⟩
   have B12 : Below w1.heap.size w1 w2 := X1.out.trans (b2.mono (by simp))
   have S2 := Lib.hid (S1.out.up B12)
   have R2 := Lib.hid (R1.out.up b2 R1.out.lt)
   have B2 := Lib.hid (B1.out.trans (B12.mono B1.out.size))
   cases hru : xb8 rules with
   | none =>
    rw [hru] at o2
    obtain ⟨la, lc, rfl⟩ := (xa7 o2).form
    have HEQ : Hid (xbj b rules n = 1 /\ xcj b rules n = []) := Lib.hid (by
     have h : xbj b rules n = 1 := by unfold xbj xcv; rw [HR0.out, hru]; rfl
     exact ⟨h, HJW.out 1 h (by decide)⟩)
    clear o2 b2 B12 S1 R1 X1 B1 hru
    go_wp2
    go_ret2
    exact ⟨by rw [HEQ.out.1, HEQ.out.2] <;> rfl, B2.out.alloc B2.out.size _⟩
   | some L =>
    rw [hru] at o2
    have o2 : w2.ownsRow _ 53 2 vL L.length (xbe Edg.cells L) := o2
    obtain ⟨la, lc, rfl⟩ := (xa7 o2).form
    have HRU0 : Hid (xcv rules = 0 /\ xco rules = L) := Lib.hid (by unfold xcv xco; rw [hru]; exact ⟨rfl, rfl⟩)
    have L2 := Lib.hid (xa7 o2)
    have X2 : Hid (Below w2.heap.size w2 (w2.alloc (.cells #[.slice la L.length lc] 27))) := Lib.hid ((Below.refl _ _).alloc (Nat.le_refl _) _)
    have R2' := Lib.hid (R2.out.alloc (.cells #[.slice la L.length lc] 27))
    have P2' := Lib.hid (Rw.new w2 27 #[.slice la L.length lc] rfl)
    have s0 := R2'.out.cell (j := 0) (v := .slice pa S.parts.length pc) rfl
    have s1 := R2'.out.cell (j := 1) (v := .slice ka S.chans.length kc) rfl
    have s2 := R2'.out.cell (j := 2) (v := .slice sa S.slots.length sc) rfl
    clear o2 b2 B12 S1 R1 X1 B1 hru
    have HCP := Lib.hid (xkg S HOK.out L)
    have HJ3 : Hid (xbj b rules n = if xiq S L ≠ 0 then xiq S L else xmx S n) := Lib.hid (by
     unfold xbj
     rw [HR0.out, HRU0.out.1, HRU0.out.2, HRS.out]
     simp)
    have HJ4 : Hid (xbj b rules n = 0 -> xcj b rules n = xeu (xdk S L).is (xdk S L).path (xlz S n).cells) := Lib.hid (fun h => by
     unfold xcj
     rw [h, if_pos rfl, HRU0.out.2, HRS.out])
    obtain ⟨e3, HE3⟩ : ∃ e3, Hid (xiq S L = e3) := ⟨_, Lib.hid rfl⟩
    rw [HE3.out] at HCP HJ3
    go_wp2_with fail
    refine (HCP.out _ _ _ _ _ (S2.out.up X2.out) (L2.out.up X2.out)).mono ?_
    rintro e w3 ⟨rfl, b3⟩
    have B23 : Below w2.heap.size w2 w3 := X2.out.trans (b3.mono (by simp))
    have S3 := Lib.hid (S2.out.up B23)
    have L3 := Lib.hid (L2.out.up B23)
    have R3 := Lib.hid (R2'.out.up b3 R2'.out.lt)
    have P3 := Lib.hid (P2'.out.up b3 P2'.out.lt)
    have B3 := Lib.hid (B2.out.trans (B23.mono B2.out.size))
    clear b3 B23 S2 L2 R2 R2' P2' X2 B2 s0 s1 s2
    by_cases h3 : e3 = 0
    .subst h3
     cases hwn : xaf n 0 300 with
     | false =>
      have HEQ : Hid (xbj b rules n = 3 /\ xcj b rules n = []) := Lib.hid (by
       have h : xbj b rules n = 3 := by
        rw [HJ3.out]
        simp [xmx, HCK.out, hwn]
       exact ⟨h, HJW.out 3 h (by decide)⟩)
      go_wp2_with (go_at_call 21; refine (xao _ _ _ _).mono ?_; rw [hwn]; rintro e w' ⟨rfl, rfl⟩)
      go_ret2
      exact ⟨by rw [HEQ.out.1, HEQ.out.2] <;> rfl, B3.out⟩
     | true =>
      have hrun : xmx S n = 0 := by simp [xmx, HCK.out, hwn]
      have HRN := Lib.hid hrun
      have HTO := Lib.hid (xxz HS64.out HE3.out hrun)
      have HCE := Lib.hid (xz8 hrun)
      have hJ0 : xbj b rules n = 0 := by rw [HJ3.out]; simp [hrun]
      have HEQ : Hid (xbj b rules n = 0 /\ xcj b rules n = xeu (xdk S L).is (xdk S L).path (xlz S n).cells) := Lib.hid ⟨hJ0, HJ4.out hJ0⟩
      obtain ⟨_, hn0, hn3⟩ := xho hrun
      have HRR : Hid (xlz S n = xly S n.toNat (xbg S)) := Lib.hid (by unfold xlz; rw [if_pos hrun])
      have HPL := Lib.hid (xx2 HE3.out)
      have HCG : Hid (xdk S L = xh5 S L) := Lib.hid (by unfold xdk; rw [if_pos HE3.out])
      have HCF := Lib.hid (xn6 S HPL.out.1 HPL.out.2.1 L HPL.out.2.2)
      rw [<- HCG.out] at HCF
      obtain ⟨⟨ss, pp, is⟩, HC⟩ : ∃ C, Hid (xdk S L = C) := ⟨_, Lib.hid rfl⟩
      rw [HC.out] at HCF HEQ HTO
      dsimp only at HCF HEQ HTO
      obtain ⟨D, HD⟩ : ∃ D, Hid (xlz S n = D) := ⟨_, Lib.hid rfl⟩
      rw [HD.out] at HEQ HTO HCE HRR
      obtain ⟨m0, hm0⟩ : ∃ m0 : Nat, n = m0 := ⟨n.toNat, by omega⟩
      have HRO := Lib.hid (fun vp vc vs w hS => xw9 S m0 om vp vc vs w hS HCK.out D (by rw [HRR.out, hm0]; simp))
      subst hm0
      have s0 := R3.out.cell (j := 0) (v := .slice pa S.parts.length pc) rfl
      have s1 := R3.out.cell (j := 1) (v := .slice ka S.chans.length kc) rfl
      have s2 := R3.out.cell (j := 2) (v := .slice sa S.slots.length sc) rfl
      have p0 := P3.out.cell (j := 0) (v := .slice la L.length lc) rfl
      clear HCG HC HD HRR HRN HPL hrun hJ0 HJ3 HJ4 HJW hn0 hn3
      go_wp2_with (first | (go_at_call 21; refine (xao _ _ _ _).mono ?_; rw [hwn]; rintro e w' ⟨rfl, rfl⟩) | fail)
      refine (HCF.out _ _ _ _ _ S3.out L3.out).mono ?_
      rintro e w4 ⟨vS, vP, rfl, o4, p4, _, b4⟩
      obtain ⟨ta, tc, rfl⟩ := o4.form
      obtain ⟨qa, qc, rfl⟩ := p4.form
      have S4 := Lib.hid (S3.out.up b4)
      have R4 := Lib.hid ((R3.out.up b4 R3.out.lt).alloc (.cells #[.slice ta ss.length tc] 46))
      have X4 : Hid (Below w4.heap.size w4 (w4.alloc (.cells #[.slice ta ss.length tc] 46))) := Lib.hid ((Below.refl _ _).alloc (Nat.le_refl _) _)
      have P4 := Lib.hid p4
      have B4 := Lib.hid (B3.out.trans (b4.mono B3.out.size))
      clear o4 p4 b4 S3 L3 R3 P3 B3 s0 s1 s2 p0
      have s0 := R4.out.cell (j := 0) (v := .slice pa S.parts.length pc) rfl
      have s1 := R4.out.cell (j := 1) (v := .slice ka S.chans.length kc) rfl
      have s2 := R4.out.cell (j := 2) (v := .slice sa S.slots.length sc) rfl
      cases is with
      | true =>
       have HRO2 := Lib.hid (HRO.out _ _ _ _ (S4.out.up X4.out))
       go_wp2_with fail
       refine HRO2.out.mono ?_
       rintro e w5 ⟨uc, ul, rfl, o5, b5⟩
       obtain ⟨ya, yc, rfl⟩ := o5.wld.c.form
       obtain ⟨za, zc, rfl⟩ := o5.wld.l.form
       obtain ⟨X, HX⟩ : ∃ X, Hid (w5.alloc (.cells #[.int .i64 D.tick, .slice ya D.cells.length yc, .slice za D.lines.length zc] 61) = X) := ⟨_, Lib.hid rfl⟩
       obtain ⟨gw, HGW⟩ : ∃ gw, Hid (w5.heap.size = gw) := ⟨_, Lib.hid rfl⟩
       have RX : Hid (Rw X gw 61 #[.int .i64 D.tick, .slice ya D.cells.length yc, .slice za D.lines.length zc]) := Lib.hid (by rw [<- HX.out, <- HGW.out]; exact Rw.new w5 61 _ rfl)
       have bX : Below w5.heap.size w5 X := by rw [<- HX.out]; exact (Below.refl _ _).alloc (Nat.le_refl _) _
       have BX : Hid (Below w.heap.size w X) := Lib.hid (B4.out.trans (((X4.out.trans (b5.mono X4.out.size)).trans (bX.mono (by have := b5.size; have := X4.out.size; omega))).mono B4.out.size))
       have HCX := Lib.hid (o5.wld.c.up bX)
       have hgX : gw < X.heap.size := RX.out.lt
       have k0 := RX.out.cell (j := 1) (v := .slice ya D.cells.length yc) rfl
       have hcl := HTO.out.cl
       clear o5 b5 bX S4 R4 X4 P4 B4 s0 s1 s2 HRO2 HRO HCF
       go_upto_region 19 with fail
       rw [HX.out, HGW.out]
       go_wp2
       go_loopw [12, 17] (fun sv i wr => ∃ k : Nat, i = .int .i64 k /\ k <= D.cells.length /\ sv = .string ⟨(xdx true pp ++ (D.cells.take k).flatMap xc7).toArray⟩ /\ wr.cell? ⟨gw, 1, none⟩ = some (.slice ya D.cells.length yc) /\ Hid (Below X.heap.size X wr)) (fun _ i _ => D.cells.length - (intOf i).toNat)
       case atStart => exact ⟨0, rfl, Nat.zero_le _, rfl, k0, Lib.hid (Below.refl _ _)⟩
       case round =>
        obtain ⟨k, rfl, hk, rfl, k1, WD⟩ := hrel
        clear k0
        by_cases hlt : k < D.cells.length
        .have hli : (k : Int) < D.cells.length := by omega
         obtain ⟨cb, off, cap, e1, hcap, hbw, hc⟩ := HCX.out.open om
         cases e1
         obtain ⟨ao, oc, hra, hso⟩ := hc k hlt
         have RA := Lib.hid (xda hra WD.out hbw)
         have HO16 := Lib.hid (HTO.out.ol D.cells[k] (List.getElem_mem hlt))
         have HO64 := Lib.hid (HTO.out.o64 D.cells[k] (List.getElem_mem hlt))
         have HSO := Lib.hid (hso.up WD.out)
         have HTK := Lib.hid (xbo xc7 D.cells k hlt)
         have hfl : ((D.cells.take k).flatMap xc7).length <= 400 * (D.cells.take k).length := xb0 (fun x hx => xii (HTO.out.ol x (xcw hx)) (HTO.out.o64 x (xcw hx)))
         have hyl : (xdx true pp ++ (D.cells.take k).flatMap xc7).length <= 4000 := by have := xh6 (sound := true) HTO.out.ll HTO.out.l64; rw [List.length_take] at hfl; rw [List.length_append]; omega
         obtain ⟨m, hen, hm⟩ := HCE.out D.cells[k] (List.getElem_mem hlt)
         obtain ⟨y, HY⟩ : ∃ y, Hid (xdx true pp ++ (D.cells.take k).flatMap xc7 = y) := ⟨_, Lib.hid rfl⟩
         rw [HY.out] at hyl
         rw [HY.out]
         generalize hd : D.cells[k] = d at RA HSO HTK HO16 HO64 hen
         obtain ⟨c, out⟩ := d
         simp only at RA HSO HO16 HO64 hen
         have HEN := Lib.hid hen
         have c14 : wr.cell? ⟨cb, off + k * 16 + 14, none⟩ = some (.slice ao out.length oc) := RA.out 14 _ rfl
         have c15 : wr.cell? ⟨cb, off + k * 16 + 15, none⟩ = some (.int .i64 (m : Int)) := by rw [<- hen]; exact RA.out 15 _ rfl
         have hol : (out.flatMap xj4).length <= 400 := by
          have := xgw out HO64.out
          have := HO16.out
          omega
         have HLST := Lib.hid (fun W (hb : Below wr.heap.size wr W) => xi4 out (.slice ao out.length oc) W (HSO.out.up hb) (by have := HO16.out; omega) HO64.out)
         obtain ⟨z, HZ⟩ : ∃ z, Hid (out.flatMap xj4 = z) := ⟨_, Lib.hid rfl⟩
         have HFIN : Hid (xdx true pp ++ (D.cells.take (k + 1)).flatMap xc7 = ((y ++ xgj (m : Int)) ++ z) ++ [10]) := Lib.hid (by
          rw [HTK.out, <- List.append_assoc, HY.out]
          show y ++ xib (xgj c.en) out = _
          unfold xib
          rw [hen, HZ.out]
          simp only [List.append_assoc])
         rw [HZ.out] at hol HLST
         have hwl := xf0 (m : Int)
         have hmi : (m : Int) < 3 := by omega
         have hzz := WD.out.size
         have hgw : gw < wr.heap.size := by omega
         have hcb : cb < wr.heap.size := by omega
         clear hra hso hc hd hfl RA hen
         go_wp2
         refine xad (S := fun w' => Below wr.heap.size wr w') 20 kr (Below.refl _ _).drew (fun hHeld => ?_)
         have hq := fun w' (hSw : (fun w' => Below wr.heap.size wr w') w') => And.intro (bcl hSw om k1) (And.intro (bcl hSw om c15) (bcl hSw om c14))
         refine Still.u 0 [] hHeld hq ?_
         refine Still.u 2 [] hHeld hq ?_
         refine Still.u 3 [] hHeld hq ?_
         refine Still.u 4 [] hHeld hq ?_
         refine Still.u 5 [] hHeld hq ?_
         refine Still.u 6 [] hHeld hq ?_
         refine Still.u 7 [] hHeld hq ?_
         refine Still.u 11 [] hHeld hq ?_
         refine Still.u 12 [] hHeld hq ?_
         refine Still.u 13 [] hHeld hq ?_
         refine Still.u 14 [] hHeld hq ?_
         refine Still.u 15 [] hHeld hq ?_
         refine Still.u 16 [] hHeld hq ?_
         have DD : Hid (Below wr.heap.size wr wr.drew) := Lib.hid (Below.refl _ _).drew
         generalize wr.drew = Y at DD hHeld ⊢
         refine Still.all (rs := [1, 17]) kr (by simp) (Still.one (i := 1) rfl rfl (fun K hK => ?_) (Still.one (i := 17) rfl rfl (fun K hK => ?_) (by simp)))
         .go_simp
          have ZZ : Hid (Below Y.heap.size Y (Y.alloc (.cells #[.string ⟨#[114, 117, 110, 115]⟩, .string ⟨#[115, 116, 111, 112, 112, 101, 100]⟩, .string ⟨#[102, 97, 117, 108, 116, 101, 100]⟩] 9))) := Lib.hid ((Below.refl _ _).alloc (Nat.le_refl _) _)
          have ZC := xij Y m hm
          refine hK _ _ (fun _ => hHeld.trans (ZZ.out.mono hHeld.size)) (fun hh => ?_)
          have hHeld := hh (by decide)
          clear hK K hh
          try simp only [Act.put, l1, l2, l3, l4, l5, l6]
          have ZG : Y.heap.size < (Y.alloc (.cells #[.string ⟨#[114, 117, 110, 115]⟩, .string ⟨#[115, 116, 111, 112, 112, 101, 100]⟩, .string ⟨#[102, 97, 117, 108, 116, 101, 100]⟩] 9)).heap.size := by simp
          obtain ⟨gz, HGZ⟩ : ∃ gz, Hid (Y.heap.size = gz) := ⟨_, Lib.hid rfl⟩
          rw [HGZ.out] at ZC ZG
          rw [HGZ.out]
          generalize Y.alloc (.cells #[.string ⟨#[114, 117, 110, 115]⟩, .string ⟨#[115, 116, 111, 112, 112, 101, 100]⟩, .string ⟨#[102, 97, 117, 108, 116, 101, 100]⟩] 9) = Z at ZC ZG hHeld ⊢
          clear ZZ
          refine Still.t 8 [] hHeld ?_
          refine Still.all (rs := [9, 17]) kr (by simp) (Still.one (i := 9) rfl rfl (fun K hK => ?_) (Still.one (i := 17) rfl rfl (fun K hK => ?_) (by simp)))
          .go_simp
           refine hK _ _ (fun _ => hHeld) (fun hh => ?_)
           clear hK K hh
           try simp only [Act.put, l1, l2, l3, l4, l5, l6]
           refine Still.t 10 [] hHeld ?_
           refine Still.o 17 rfl rfl (fun K hK => ?_)
           refine xap 23 _ _ rfl xea #[.slice ao out.length oc] ev ((HLST.out _ hHeld).mono ?_)
           rintro e V1 ⟨rfl, bvV1⟩
           refine ⟨_, rfl, hK _ _ (fun _ => hHeld.trans (bvV1.mono hHeld.size)) (fun hh => ?_)⟩
           have hHeld := hh (by decide)
           clear hK K hh
           try simp only [Act.put, l1, l2, l3, l4, l5, l6]
           refine Still.t 18 [] hHeld ?_
           refine Still.t 19 [] hHeld ?_
           refine Still.o 20 rfl rfl (fun K hK => ?_)
           go_simp
           refine hK _ _ ab (fun _ => Still.vv ?_)
           clear hK K
           have HBF := Lib.hid hHeld
           clear hHeld
           go_wp2
           go_roundw
           case rel => exact ⟨k + 1, by go_num, by omega, by rw [HFIN.out]; simp [xfu, xew], bcl HBF.out om k1, Lib.hid (WD.out.trans (HBF.out.mono WD.out.size))⟩
           case measure => simp [intOf]; omega
          .refine xap 23 _ _ rfl xea #[.slice ao out.length oc] ev ((HLST.out _ hHeld).mono ?_)
           rintro e V1 ⟨rfl, bvV1⟩
           have zc := bcl bvV1 (by show gz < Z.heap.size; exact ZG) ZC
           refine ⟨_, rfl, hK _ _ (fun _ => hHeld.trans (bvV1.mono hHeld.size)) (fun hh => ?_)⟩
           have hHeld := hh (by decide)
           clear hK K hh
           try simp only [Act.put, l1, l2, l3, l4, l5, l6]
           refine Still.o 9 rfl rfl (fun K hK => ?_)
           go_simp
           refine hK _ _ (fun _ => hHeld) (fun hh => ?_)
           clear hK K hh
           try simp only [Act.put, l1, l2, l3, l4, l5, l6]
           refine Still.t 10 [] hHeld ?_
           refine Still.t 18 [] hHeld ?_
           refine Still.t 19 [] hHeld ?_
           refine Still.o 20 rfl rfl (fun K hK => ?_)
           go_simp
           refine hK _ _ ab (fun _ => Still.vv ?_)
           clear hK K
           have HBF := Lib.hid hHeld
           clear hHeld
           go_wp2
           go_roundw
           case rel => exact ⟨k + 1, by go_num, by omega, by rw [HFIN.out]; simp [xfu, xew], bcl HBF.out om k1, Lib.hid (WD.out.trans (HBF.out.mono WD.out.size))⟩
           case measure => simp [intOf]; omega
         .refine xap 23 _ _ rfl xea #[.slice ao out.length oc] ev ((HLST.out _ hHeld).mono ?_)
          rintro e V1 ⟨rfl, bvV1⟩
          refine ⟨_, rfl, hK _ _ (fun _ => hHeld.trans (bvV1.mono hHeld.size)) (fun hh => ?_)⟩
          have hHeld := hh (by decide)
          clear hK K hh
          try simp only [Act.put, l1, l2, l3, l4, l5, l6]
          refine Still.o 1 rfl rfl (fun K hK => ?_)
          go_simp
          have ZZ : Hid (Below V1.heap.size V1 (V1.alloc (.cells #[.string ⟨#[114, 117, 110, 115]⟩, .string ⟨#[115, 116, 111, 112, 112, 101, 100]⟩, .string ⟨#[102, 97, 117, 108, 116, 101, 100]⟩] 9))) := Lib.hid ((Below.refl _ _).alloc (Nat.le_refl _) _)
          have ZC := xij V1 m hm
          refine hK _ _ (fun _ => hHeld.trans (ZZ.out.mono hHeld.size)) (fun hh => ?_)
          have hHeld := hh (by decide)
          clear hK K hh
          try simp only [Act.put, l1, l2, l3, l4, l5, l6]
          have ZG : V1.heap.size < (V1.alloc (.cells #[.string ⟨#[114, 117, 110, 115]⟩, .string ⟨#[115, 116, 111, 112, 112, 101, 100]⟩, .string ⟨#[102, 97, 117, 108, 116, 101, 100]⟩] 9)).heap.size := by simp
          obtain ⟨gz, HGZ⟩ : ∃ gz, Hid (V1.heap.size = gz) := ⟨_, Lib.hid rfl⟩
          rw [HGZ.out] at ZC ZG
          rw [HGZ.out]
          generalize V1.alloc (.cells #[.string ⟨#[114, 117, 110, 115]⟩, .string ⟨#[115, 116, 111, 112, 112, 101, 100]⟩, .string ⟨#[102, 97, 117, 108, 116, 101, 100]⟩] 9) = Z at ZC ZG hHeld ⊢
          clear ZZ
          refine Still.t 8 [] hHeld ?_
          refine Still.o 9 rfl rfl (fun K hK => ?_)
          go_simp
          refine hK _ _ (fun _ => hHeld) (fun hh => ?_)
          clear hK K hh
          try simp only [Act.put, l1, l2, l3, l4, l5, l6]
          refine Still.t 10 [] hHeld ?_
          refine Still.t 18 [] hHeld ?_
          refine Still.t 19 [] hHeld ?_
          refine Still.o 20 rfl rfl (fun K hK => ?_)
          go_simp
          refine hK _ _ ab (fun _ => Still.vv ?_)
          clear hK K
          have HBF := Lib.hid hHeld
          clear hHeld
          go_wp2
          go_roundw
          case rel => exact ⟨k + 1, by go_num, by omega, by rw [HFIN.out]; simp [xfu, xew], bcl HBF.out om k1, Lib.hid (WD.out.trans (HBF.out.mono WD.out.size))⟩
          case measure => simp [intOf]; omega
        .obtain rfl : k = D.cells.length := by omega
         have hli : ¬ ((D.cells.length : Int) < D.cells.length) := by omega
         rw [List.take_length]
         go_wp2
         go_ret2
         exact ⟨by rw [HEQ.out.1, HEQ.out.2] <;> rfl, BX.out.trans (WD.out.mono BX.out.size)⟩
      | false =>
       have hpl : (pp.flatMap xj4).length <= 400 := by
        have := xgw pp HTO.out.l64
        have := HTO.out.ll
        omega
       go_wp2_with fail
       have HLP := Lib.hid (xi4 pp _ _ (P4.out.up X4.out) (by have := HTO.out.ll; omega) HTO.out.l64)
       obtain ⟨zp, HZP⟩ : ∃ zp, Hid (pp.flatMap xj4 = zp) := ⟨_, Lib.hid rfl⟩
       rw [HZP.out] at HLP hpl
       refine HLP.out.mono ?_
       rintro e w4b ⟨rfl, b4b⟩
       clear HLP
       have R4b := Lib.hid (R4.out.up b4b R4.out.lt)
       have X4b := Lib.hid (X4.out.trans (b4b.mono (by simp)))
       clear b4b s0 s1 s2 R4 X4
       have R4 := R4b
       have X4 := X4b
       have s0 := R4.out.cell (j := 0) (v := .slice pa S.parts.length pc) rfl
       have s1 := R4.out.cell (j := 1) (v := .slice ka S.chans.length kc) rfl
       have s2 := R4.out.cell (j := 2) (v := .slice sa S.slots.length sc) rfl
       clear R4b X4b
       have HRO2 := Lib.hid (HRO.out _ _ _ _ (S4.out.up X4.out))
       go_wp2_with fail
       refine HRO2.out.mono ?_
       rintro e w5 ⟨uc, ul, rfl, o5, b5⟩
       obtain ⟨ya, yc, rfl⟩ := o5.wld.c.form
       obtain ⟨za, zc, rfl⟩ := o5.wld.l.form
       obtain ⟨X, HX⟩ : ∃ X, Hid (w5.alloc (.cells #[.int .i64 D.tick, .slice ya D.cells.length yc, .slice za D.lines.length zc] 61) = X) := ⟨_, Lib.hid rfl⟩
       obtain ⟨gw, HGW⟩ : ∃ gw, Hid (w5.heap.size = gw) := ⟨_, Lib.hid rfl⟩
       have RX : Hid (Rw X gw 61 #[.int .i64 D.tick, .slice ya D.cells.length yc, .slice za D.lines.length zc]) := Lib.hid (by rw [<- HX.out, <- HGW.out]; exact Rw.new w5 61 _ rfl)
       have bX : Below w5.heap.size w5 X := by rw [<- HX.out]; exact (Below.refl _ _).alloc (Nat.le_refl _) _
       have BX : Hid (Below w.heap.size w X) := Lib.hid (B4.out.trans (((X4.out.trans (b5.mono X4.out.size)).trans (bX.mono (by have := b5.size; have := X4.out.size; omega))).mono B4.out.size))
       have HCX := Lib.hid (o5.wld.c.up bX)
       have hgX : gw < X.heap.size := RX.out.lt
       have k0 := RX.out.cell (j := 1) (v := .slice ya D.cells.length yc) rfl
       have hcl := HTO.out.cl
       clear o5 b5 bX S4 R4 X4 P4 B4 s0 s1 s2 HRO2 HRO HCF
       go_upto_region 19 with fail
       rw [HX.out, HGW.out]
       go_wp2
       go_loopw [12, 17] (fun sv i wr => ∃ k : Nat, i = .int .i64 k /\ k <= D.cells.length /\ sv = .string ⟨(xdx false pp ++ (D.cells.take k).flatMap xc7).toArray⟩ /\ wr.cell? ⟨gw, 1, none⟩ = some (.slice ya D.cells.length yc) /\ Hid (Below X.heap.size X wr)) (fun _ i _ => D.cells.length - (intOf i).toNat)
       case atStart => exact ⟨0, rfl, Nat.zero_le _, by simp [xdx, xib, HZP.out, xfu, xew, x39], k0, Lib.hid (Below.refl _ _)⟩
       case round =>
        obtain ⟨k, rfl, hk, rfl, k1, WD⟩ := hrel
        clear k0
        by_cases hlt : k < D.cells.length
        .have hli : (k : Int) < D.cells.length := by omega
         obtain ⟨cb, off, cap, e1, hcap, hbw, hc⟩ := HCX.out.open om
         cases e1
         obtain ⟨ao, oc, hra, hso⟩ := hc k hlt
         have RA := Lib.hid (xda hra WD.out hbw)
         have HO16 := Lib.hid (HTO.out.ol D.cells[k] (List.getElem_mem hlt))
         have HO64 := Lib.hid (HTO.out.o64 D.cells[k] (List.getElem_mem hlt))
         have HSO := Lib.hid (hso.up WD.out)
         have HTK := Lib.hid (xbo xc7 D.cells k hlt)
         have hfl : ((D.cells.take k).flatMap xc7).length <= 400 * (D.cells.take k).length := xb0 (fun x hx => xii (HTO.out.ol x (xcw hx)) (HTO.out.o64 x (xcw hx)))
         have hyl : (xdx false pp ++ (D.cells.take k).flatMap xc7).length <= 4000 := by have := xh6 (sound := false) HTO.out.ll HTO.out.l64; rw [List.length_take] at hfl; rw [List.length_append]; omega
         obtain ⟨m, hen, hm⟩ := HCE.out D.cells[k] (List.getElem_mem hlt)
         obtain ⟨y, HY⟩ : ∃ y, Hid (xdx false pp ++ (D.cells.take k).flatMap xc7 = y) := ⟨_, Lib.hid rfl⟩
         rw [HY.out] at hyl
         rw [HY.out]
         generalize hd : D.cells[k] = d at RA HSO HTK HO16 HO64 hen
         obtain ⟨c, out⟩ := d
         simp only at RA HSO HO16 HO64 hen
         have HEN := Lib.hid hen
         have c14 : wr.cell? ⟨cb, off + k * 16 + 14, none⟩ = some (.slice ao out.length oc) := RA.out 14 _ rfl
         have c15 : wr.cell? ⟨cb, off + k * 16 + 15, none⟩ = some (.int .i64 (m : Int)) := by rw [<- hen]; exact RA.out 15 _ rfl
         have hol : (out.flatMap xj4).length <= 400 := by
          have := xgw out HO64.out
          have := HO16.out
          omega
         have HLST := Lib.hid (fun W (hb : Below wr.heap.size wr W) => xi4 out (.slice ao out.length oc) W (HSO.out.up hb) (by have := HO16.out; omega) HO64.out)
         obtain ⟨z, HZ⟩ : ∃ z, Hid (out.flatMap xj4 = z) := ⟨_, Lib.hid rfl⟩
         have HFIN : Hid (xdx false pp ++ (D.cells.take (k + 1)).flatMap xc7 = ((y ++ xgj (m : Int)) ++ z) ++ [10]) := Lib.hid (by
          rw [HTK.out, <- List.append_assoc, HY.out]
          show y ++ xib (xgj c.en) out = _
          unfold xib
          rw [hen, HZ.out]
          simp only [List.append_assoc])
         rw [HZ.out] at hol HLST
         have hwl := xf0 (m : Int)
         have hmi : (m : Int) < 3 := by omega
         have hzz := WD.out.size
         have hgw : gw < wr.heap.size := by omega
         have hcb : cb < wr.heap.size := by omega
         clear hra hso hc hd hfl RA hen
         go_wp2
         refine xad (S := fun w' => Below wr.heap.size wr w') 20 kr (Below.refl _ _).drew (fun hHeld => ?_)
         have hq := fun w' (hSw : (fun w' => Below wr.heap.size wr w') w') => And.intro (bcl hSw om k1) (And.intro (bcl hSw om c15) (bcl hSw om c14))
         refine Still.u 0 [] hHeld hq ?_
         refine Still.u 2 [] hHeld hq ?_
         refine Still.u 3 [] hHeld hq ?_
         refine Still.u 4 [] hHeld hq ?_
         refine Still.u 5 [] hHeld hq ?_
         refine Still.u 6 [] hHeld hq ?_
         refine Still.u 7 [] hHeld hq ?_
         refine Still.u 11 [] hHeld hq ?_
         refine Still.u 12 [] hHeld hq ?_
         refine Still.u 13 [] hHeld hq ?_
         refine Still.u 14 [] hHeld hq ?_
         refine Still.u 15 [] hHeld hq ?_
         refine Still.u 16 [] hHeld hq ?_
         have DD : Hid (Below wr.heap.size wr wr.drew) := Lib.hid (Below.refl _ _).drew
         generalize wr.drew = Y at DD hHeld ⊢
         refine Still.all (rs := [1, 17]) kr (by simp) (Still.one (i := 1) rfl rfl (fun K hK => ?_) (Still.one (i := 17) rfl rfl (fun K hK => ?_) (by simp)))
         .go_simp
          have ZZ : Hid (Below Y.heap.size Y (Y.alloc (.cells #[.string ⟨#[114, 117, 110, 115]⟩, .string ⟨#[115, 116, 111, 112, 112, 101, 100]⟩, .string ⟨#[102, 97, 117, 108, 116, 101, 100]⟩] 9))) := Lib.hid ((Below.refl _ _).alloc (Nat.le_refl _) _)
          have ZC := xij Y m hm
          refine hK _ _ (fun _ => hHeld.trans (ZZ.out.mono hHeld.size)) (fun hh => ?_)
          have hHeld := hh (by decide)
          clear hK K hh
          try simp only [Act.put, l1, l2, l3, l4, l5, l6]
          have ZG : Y.heap.size < (Y.alloc (.cells #[.string ⟨#[114, 117, 110, 115]⟩, .string ⟨#[115, 116, 111, 112, 112, 101, 100]⟩, .string ⟨#[102, 97, 117, 108, 116, 101, 100]⟩] 9)).heap.size := by simp
          obtain ⟨gz, HGZ⟩ : ∃ gz, Hid (Y.heap.size = gz) := ⟨_, Lib.hid rfl⟩
          rw [HGZ.out] at ZC ZG
          rw [HGZ.out]
          generalize Y.alloc (.cells #[.string ⟨#[114, 117, 110, 115]⟩, .string ⟨#[115, 116, 111, 112, 112, 101, 100]⟩, .string ⟨#[102, 97, 117, 108, 116, 101, 100]⟩] 9) = Z at ZC ZG hHeld ⊢
          clear ZZ
          refine Still.t 8 [] hHeld ?_
          refine Still.all (rs := [9, 17]) kr (by simp) (Still.one (i := 9) rfl rfl (fun K hK => ?_) (Still.one (i := 17) rfl rfl (fun K hK => ?_) (by simp)))
          .go_simp
           refine hK _ _ (fun _ => hHeld) (fun hh => ?_)
           clear hK K hh
           try simp only [Act.put, l1, l2, l3, l4, l5, l6]
           refine Still.t 10 [] hHeld ?_
           refine Still.o 17 rfl rfl (fun K hK => ?_)
           refine xap 23 _ _ rfl xea #[.slice ao out.length oc] ev ((HLST.out _ hHeld).mono ?_)
           rintro e V1 ⟨rfl, bvV1⟩
           refine ⟨_, rfl, hK _ _ (fun _ => hHeld.trans (bvV1.mono hHeld.size)) (fun hh => ?_)⟩
           have hHeld := hh (by decide)
           clear hK K hh
           try simp only [Act.put, l1, l2, l3, l4, l5, l6]
           refine Still.t 18 [] hHeld ?_
           refine Still.t 19 [] hHeld ?_
           refine Still.o 20 rfl rfl (fun K hK => ?_)
           go_simp
           refine hK _ _ ab (fun _ => Still.vv ?_)
           clear hK K
           have HBF := Lib.hid hHeld
           clear hHeld
           go_wp2
           go_roundw
           case rel => exact ⟨k + 1, by go_num, by omega, by rw [HFIN.out]; simp [xfu, xew], bcl HBF.out om k1, Lib.hid (WD.out.trans (HBF.out.mono WD.out.size))⟩
           case measure => simp [intOf]; omega
          .refine xap 23 _ _ rfl xea #[.slice ao out.length oc] ev ((HLST.out _ hHeld).mono ?_)
           rintro e V1 ⟨rfl, bvV1⟩
           have zc := bcl bvV1 (by show gz < Z.heap.size; exact ZG) ZC
           refine ⟨_, rfl, hK _ _ (fun _ => hHeld.trans (bvV1.mono hHeld.size)) (fun hh => ?_)⟩
           have hHeld := hh (by decide)
           clear hK K hh
           try simp only [Act.put, l1, l2, l3, l4, l5, l6]
           refine Still.o 9 rfl rfl (fun K hK => ?_)
           go_simp
           refine hK _ _ (fun _ => hHeld) (fun hh => ?_)
           clear hK K hh
           try simp only [Act.put, l1, l2, l3, l4, l5, l6]
           refine Still.t 10 [] hHeld ?_
           refine Still.t 18 [] hHeld ?_
           refine Still.t 19 [] hHeld ?_
           refine Still.o 20 rfl rfl (fun K hK => ?_)
           go_simp
           refine hK _ _ ab (fun _ => Still.vv ?_)
           clear hK K
           have HBF := Lib.hid hHeld
           clear hHeld
           go_wp2
           go_roundw
           case rel => exact ⟨k + 1, by go_num, by omega, by rw [HFIN.out]; simp [xfu, xew], bcl HBF.out om k1, Lib.hid (WD.out.trans (HBF.out.mono WD.out.size))⟩
           case measure => simp [intOf]; omega
         .refine xap 23 _ _ rfl xea #[.slice ao out.length oc] ev ((HLST.out _ hHeld).mono ?_)
          rintro e V1 ⟨rfl, bvV1⟩
          refine ⟨_, rfl, hK _ _ (fun _ => hHeld.trans (bvV1.mono hHeld.size)) (fun hh => ?_)⟩
          have hHeld := hh (by decide)
          clear hK K hh
          try simp only [Act.put, l1, l2, l3, l4, l5, l6]
          refine Still.o 1 rfl rfl (fun K hK => ?_)
          go_simp
          have ZZ : Hid (Below V1.heap.size V1 (V1.alloc (.cells #[.string ⟨#[114, 117, 110, 115]⟩, .string ⟨#[115, 116, 111, 112, 112, 101, 100]⟩, .string ⟨#[102, 97, 117, 108, 116, 101, 100]⟩] 9))) := Lib.hid ((Below.refl _ _).alloc (Nat.le_refl _) _)
          have ZC := xij V1 m hm
          refine hK _ _ (fun _ => hHeld.trans (ZZ.out.mono hHeld.size)) (fun hh => ?_)
          have hHeld := hh (by decide)
          clear hK K hh
          try simp only [Act.put, l1, l2, l3, l4, l5, l6]
          have ZG : V1.heap.size < (V1.alloc (.cells #[.string ⟨#[114, 117, 110, 115]⟩, .string ⟨#[115, 116, 111, 112, 112, 101, 100]⟩, .string ⟨#[102, 97, 117, 108, 116, 101, 100]⟩] 9)).heap.size := by simp
          obtain ⟨gz, HGZ⟩ : ∃ gz, Hid (V1.heap.size = gz) := ⟨_, Lib.hid rfl⟩
          rw [HGZ.out] at ZC ZG
          rw [HGZ.out]
          generalize V1.alloc (.cells #[.string ⟨#[114, 117, 110, 115]⟩, .string ⟨#[115, 116, 111, 112, 112, 101, 100]⟩, .string ⟨#[102, 97, 117, 108, 116, 101, 100]⟩] 9) = Z at ZC ZG hHeld ⊢
          clear ZZ
          refine Still.t 8 [] hHeld ?_
          refine Still.o 9 rfl rfl (fun K hK => ?_)
          go_simp
          refine hK _ _ (fun _ => hHeld) (fun hh => ?_)
          clear hK K hh
          try simp only [Act.put, l1, l2, l3, l4, l5, l6]
          refine Still.t 10 [] hHeld ?_
          refine Still.t 18 [] hHeld ?_
          refine Still.t 19 [] hHeld ?_
          refine Still.o 20 rfl rfl (fun K hK => ?_)
          go_simp
          refine hK _ _ ab (fun _ => Still.vv ?_)
          clear hK K
          have HBF := Lib.hid hHeld
          clear hHeld
          go_wp2
          go_roundw
          case rel => exact ⟨k + 1, by go_num, by omega, by rw [HFIN.out]; simp [xfu, xew], bcl HBF.out om k1, Lib.hid (WD.out.trans (HBF.out.mono WD.out.size))⟩
          case measure => simp [intOf]; omega
        .obtain rfl : k = D.cells.length := by omega
         have hli : ¬ ((D.cells.length : Int) < D.cells.length) := by omega
         rw [List.take_length]
         go_wp2
         go_ret2
         exact ⟨by rw [HEQ.out.1, HEQ.out.2] <;> rfl, BX.out.trans (WD.out.mono BX.out.size)⟩
    .have h3' : (e3 != 0) = true := by simpa using h3
     have HEQ : Hid (xbj b rules n = e3 /\ xcj b rules n = []) := Lib.hid (by
      have h : xbj b rules n = e3 := by rw [HJ3.out]; simp [h3]
      exact ⟨h, HJW.out e3 h h3⟩)
     clear h3
     go_wp2
     go_ret2
     exact ⟨by rw [HEQ.out.1, HEQ.out.2] <;> rfl, B3.out⟩
def wB : WldD := ⟨0, [⟨⟨0, 0, 0, 0, 0, 0, 0, 0, 0, 0, 0, 0, 0, 0, 0⟩, []⟩, ⟨⟨0, 0, 0, 0, 0, 0, 0, 0, 0, 0, 0, 0, 0, 0, 0⟩, []⟩, ⟨⟨0, 0, 0, 0, 0, 0, 0, 0, 0, 0, 0, 0, 0, 0, 0⟩, []⟩, ⟨⟨0, 0, 0, 0, 0, 0, 0, 0, 0, 0, 0, 0, 0, 0, 0⟩, []⟩], [[], []]⟩
def w12 : WldD := ⟨12, [⟨⟨2, 1, 0, 0, 0, 0, 0, 0, 0, 0, 0, 0, 0, 1, 1⟩, []⟩, ⟨⟨4, 6, 1, 0, 0, 0, 0, 0, 0, 0, 0, 0, 0, 0, 0⟩, [6]⟩, ⟨⟨3, 6, 1, 0, 0, 0, 0, 0, 0, 0, 0, 0, 0, 0, 1⟩, [6]⟩, ⟨⟨1, 0, 0, 0, 0, 0, 0, 0, 0, 0, 0, 0, 0, 0, 0⟩, [0]⟩], [[], [6]]⟩
theorem x2z : xlz xbm 12 = w12 := by kernel_rfl
theorem x0i : xmx xbm 12 = 0 := by kernel_rfl
theorem x2y (w : World) : Calls Tryz.prog 32 #[] w fun e w' => ∃ vp vc vs, e = .returned (.agg #[vp, vc, vs]) /\ Sys w' vp vc vs xbm /\ Below w.heap.size w w' := by
 refine (xzp w).mono ?_
 rintro e w' ⟨vp, vc, vs, h1, h2, h3⟩
 exact ⟨vp, vc, vs, h1, h2.sys, h3⟩
end Go.Proofs.YtbkdoohhdkahiaaGreatDoor
