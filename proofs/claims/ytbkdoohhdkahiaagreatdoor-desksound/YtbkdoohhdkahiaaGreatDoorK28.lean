/- Partitions and systems, written; image.Write. -/
import Derived.Test.YtbkdoohhdkahiaaGreatDoorK24
import Derived.Test.YtbkdoohhdkahiaaGreatDoorK22
import Derived.Test.YtbkdoohhdkahiaaGreatDoorK5
import Derived.Test.YtbkdoohhdkahiaaGreatDoorK12
import Derived.Test.YtbkdoohhdkahiaaGreatDoorK27
import Derived.Test.YtbkdoohhdkahiaaGreatDoorK25
import Derived.Test.YtbkdoohhdkahiaaGreatDoorK7
import Derived.Laws.IdiomStrings
import Derived.Deep.RegionLaw
import Derived.Deep.CutRange
import Derived.Test.YtbkdoohhdkahiaaGreatDoorK26
import Derived.Deep.QuietTactic
import Derived.BigQuiet
import Derived.Test.YtbkdoohhdkahiaaGreatDoorK15
import Derived.Test.YtbkdoohhdkahiaaGreatDoorK19
import Derived.Test.YtbkdoohhdkahiaaGreatDoorK21
import Derived.Deep.AppendLies
import Derived.Deep.LoopGhost
namespace Go.Proofs.YtbkdoohhdkahiaaGreatDoor
set_option linter.unusedSimpArgs false
set_option linter.unusedVariables false
open Go.RowKit Go.Sort
set_option maxRecDepth 100000 in
set_option maxHeartbeats 2000000 in
theorem ppart_any (B b : Nat) (l : List UInt8) (p : Prt) (vc vi : Value) (w0 w : World) (hB : B = w0.heap.size) (h0 : Below B w0 w) (hS : PrtR w0 vc vi p) (h : Pap B b l w) (hl : l.length ≤ 600000) (hc : p.code.length ≤ 1000) (hi : p.inn.length ≤ 1000) (hb : b < w.heap.size) :
    Calls Tryz.prog 88 #[.pointer (some ⟨b, 0, none⟩), .agg #[vc, vi]] w fun e w' => e = .returned (.tuple #[]) ∧ Pap B b (l ++ cP.enc p) w' ∧ Wr B b w w' := by
  obtain ⟨ca, cc, rfl⟩ := hS.code.form
  obtain ⟨ia, ic, rfl⟩ := hS.inn.form
  have HE : Hid (l ++ cP.enc p = (l ++ cI.ls.enc p.code) ++ cN.ls.enc p.inn) := Lib.hid (by rw [show cP.enc p = cI.ls.enc p.code ++ cN.ls.enc p.inn from rfl, List.append_assoc])
  have H := Lib.hid h
  have HL := Lib.hid hl
  have H0 := Lib.hid h0
  have HS := Lib.hid hS
  have hwr : ∀ o : Obj, Wr B b w (w.alloc o) := fun o => Wr.up ((Below.refl _ _).alloc (Nat.le_refl _) _) h.2
  have HW := Lib.hid hwr
  have hle : (cI.ls.enc p.code).length ≤ 1 + 11 * p.code.length := by
    have := flat_len (enc := cI.enc) (m := 11) (xs := p.code) (fun x _ => cI_len x)
    show (by8 _ :: p.code.flatMap cI.enc).length ≤ _
    rw [List.length_cons]
    omega
  have HLE : Hid ((l ++ cI.ls.enc p.code).length ≤ 700000) := Lib.hid (by rw [List.length_append]; omega)
  have HC := Lib.hid hc
  have HI := Lib.hid hi
  have HBE := Lib.hid hB
  clear h hl h0 hS hwr hle hc hi hB
  go_enter Tryz.func88, Tryz.ntmps88
  go_wp2_with fail
  refine (writeI_any B b l p.code _ w0 _ HBE.out (H0.out.trans (HW.out _).b) HS.out.code (H.out.alloc _) (by have := HL.out; omega) HC.out (by simp; omega)).mono ?_
  rintro e w1 ⟨rfl, p1, b1⟩
  have r1 : Rw w1 w.heap.size 43 #[.slice ca p.code.length cc, .slice ia p.inn.length ic] := b1.k _ _ _ (by omega) (by decide) (Rw.new _ _ _ rfl)
  have W1 := Lib.hid ((HW.out _).trans b1)
  have P1 := Lib.hid p1
  have k1 := r1.cell (j := 1) rfl
  clear p1 b1 r1 H HW
  go_wp2_with fail
  refine (writeN_any B b (l ++ cI.ls.enc p.code) p.inn _ w0 _ HBE.out (H0.out.trans W1.out.b) HS.out.inn P1.out HLE.out HI.out (by have := W1.out.size; omega)).mono ?_
  rintro e w4 ⟨rfl, p4, b4⟩
  go_wp2
  go_end0
  exact ⟨rfl, by rw [HE.out]; exact p4, W1.out.trans b4⟩
theorem cP_len {p : Prt} (hc : p.code.length ≤ 20) (hi : p.inn.length ≤ 12) : (cP.enc p).length ≤ 400 := by
  have h1 := flat_len (enc := cI.enc) (m := 11) (xs := p.code) (fun x _ => cI_len x)
  have h2 := flat_len (enc := cN.enc) (m := 11) (xs := p.inn) (fun x _ => cN_len x)
  show ((by8 _ :: p.code.flatMap cI.enc) ++ (by8 _ :: p.inn.flatMap cN.enc)).length ≤ _
  rw [List.length_append, List.length_cons, List.length_cons]
  omega
set_option maxRecDepth 100000 in
set_option maxHeartbeats 2000000 in
theorem writeP_any (B b : Nat) (l : List UInt8) (xs : List Prt) (v : Value) (w0 w : World) (hB : B = w0.heap.size) (h0 : Below B w0 w) (hS : PartsR w0 v xs) (h : Pap B b l w) (hl : l.length ≤ 500000) (hx : xs.length ≤ 4) (hb : b < w.heap.size) (hxs : ∀ p ∈ xs, p.code.length ≤ 20 ∧ p.inn.length ≤ 12) :
    Calls Tryz.prog 87 #[.pointer (some ⟨b, 0, none⟩), v, .func (.func 88) #[.pointer (some ⟨b, 0, none⟩)] #[]] w fun e w' => e = .returned (.tuple #[]) ∧ Pap B b (l ++ cP.ls.enc xs) w' ∧ Wr B b w w' := by
  have hen : Enters 88 := enters Tryz.func88 (by kernel_rfl) (by kernel_rfl)
  unfold Enters at hen
  obtain ⟨ao, cap, rfl⟩ := hS.form
  have H := Lib.hid h
  have HL := Lib.hid hl
  have H0 := Lib.hid h0
  have HS := Lib.hid hS
  have HB := Lib.hid hB
  have HXS := Lib.hid hxs
  clear h hl h0 hS hB hxs
  go_enter Tryz.func87, Tryz.ntmps87
  go_wp2_with fail
  refine (small_any B b l _ _ H.out (by have := HL.out; omega)).mono ?_
  rintro e w1 ⟨rfl, p1, b1⟩
  have P1 := Lib.hid p1
  have W1 := Lib.hid b1
  clear p1 b1
  go_wp2
  go_loopw [14] (fun i wr => ∃ k : Nat, i = .int .i64 k ∧ k ≤ xs.length ∧ Hid (Pap B b ((l ++ [by8 xs.length]) ++ (xs.take k).flatMap cP.enc) wr) ∧ Hid (Wr B b w wr)) (fun i _ => xs.length - (intOf i).toNat)
  case atStart => exact ⟨0, rfl, Nat.zero_le _, by rw [List.take_zero, List.flatMap_nil, List.append_nil]; exact P1, W1⟩
  case round =>
    obtain ⟨k, rfl, hk, HP, WD⟩ := hrel
    by_cases hlt : k < xs.length
    · have hli : (k : Int) < xs.length := by omega
      have hbz : b < wr.heap.size := Nat.lt_of_lt_of_le hb WD.out.size
      have B0 := Lib.hid (H0.out.trans WD.out.b)
      have B0' := B0
      rw [HB.out] at B0
      obtain ⟨sb, off, cap', e1, hcap, hbw, hcs⟩ := HS.out.open (by omega)
      cases e1
      obtain ⟨vc, vi, c0, c1, hp⟩ := hcs k hlt
      obtain ⟨ca, cc, rfl⟩ := hp.code.form
      obtain ⟨ia, ic, rfl⟩ := hp.inn.form
      have HPR := Lib.hid hp
      have c0 := bcl B0.out hbw c0
      have c1 := bcl B0.out hbw c1
      have HT := Lib.hid (flat_take cP.enc xs k hlt)
      have hfl : ((xs.take k).flatMap cP.enc).length ≤ 400 * (xs.take k).length := flat_len (fun x hx => cP_len (HXS.out x (List.mem_of_mem_take hx)).1 (HXS.out x (List.mem_of_mem_take hx)).2)
      have HFL : Hid (((l ++ [by8 xs.length]) ++ (xs.take k).flatMap cP.enc).length ≤ 600000) := Lib.hid (by have := HL.out; rw [List.length_take] at hfl; simp at hfl ⊢; omega)
      have HCL := Lib.hid (HXS.out xs[k] (List.getElem_mem _))
      clear hcs hfl hp
      generalize xs[k] = q at *
      go_wp2_with fail
      refine (ppart_any B b ((l ++ [by8 xs.length]) ++ (xs.take k).flatMap cP.enc) q _ _ w0 _ HB.out (B0'.out.alloc (Nat.le_trans H.out.2 (by have := WD.out.size; omega)) _) HPR.out (HP.out.alloc _) HFL.out (by have := HCL.out.1; omega) (by have := HCL.out.2; omega) (by simp; omega)).mono ?_
      rintro e w2 ⟨rfl, p1, b1⟩
      have P2 := Lib.hid p1
      have W2 := Lib.hid ((WD.out.trans (Wr.up ((Below.refl _ _).alloc (Nat.le_refl _) _) HP.out.2)).trans b1)
      clear p1 b1
      go_wp2
      go_roundw
      case rel => exact ⟨k + 1, by go_num, by omega, by rw [HT.out, ← List.append_assoc]; exact P2, W2⟩
      case measure => simp [intOf]; omega
    · obtain rfl : k = xs.length := by omega
      have hli : ¬ ((xs.length : Int) < xs.length) := by omega
      have P2 : Pap B b ((l ++ [by8 xs.length]) ++ (xs.take xs.length).flatMap cP.enc) wr := HP.out
      rw [List.take_length, List.append_assoc] at P2
      have HP2 := Lib.hid P2
      clear P2
      go_wp2
      go_end0
      exact ⟨rfl, HP2.out, WD.out⟩
structure SmallI (S : SysD) : Prop where
  p : S.parts.length ≤ 4
  c : S.chans.length ≤ 6
  s : S.slots.length ≤ 6
  x : ∀ p ∈ S.parts, p.code.length ≤ 20 ∧ p.inn.length ≤ 12
theorem cPs_len {xs : List Prt} (hx : xs.length ≤ 4) (hxs : ∀ p ∈ xs, p.code.length ≤ 20 ∧ p.inn.length ≤ 12) : (cP.ls.enc xs).length ≤ 1601 := by
  have h1 := flat_len (enc := cP.enc) (m := 400) (xs := xs) (fun x hx => cP_len (hxs x hx).1 (hxs x hx).2)
  show (by8 _ :: xs.flatMap cP.enc).length ≤ _
  rw [List.length_cons]
  omega
theorem cCs_len {xs : List Chn} (hx : xs.length ≤ 6) : (cC.ls.enc xs).length ≤ 67 := by
  have h1 := flat_len (enc := cC.enc) (m := 11) (xs := xs) (fun x hx => cC_len x)
  show (by8 _ :: xs.flatMap cC.enc).length ≤ _
  rw [List.length_cons]
  omega
theorem cTs_len {xs : List Slt} (hx : xs.length ≤ 6) : (cT.ls.enc xs).length ≤ 67 := by
  have h1 := flat_len (enc := cT.enc) (m := 11) (xs := xs) (fun x hx => cT_len x)
  show (by8 _ :: xs.flatMap cT.enc).length ≤ _
  rw [List.length_cons]
  omega
theorem cS_enc (S : SysD) : cS.enc S = (cP.ls.enc S.parts ++ cC.ls.enc S.chans) ++ cT.ls.enc S.slots := by
  rw [show cS.enc S = cP.ls.enc S.parts ++ (cC.ls.enc S.chans ++ cT.ls.enc S.slots) from rfl, List.append_assoc]
theorem cS_len {S : SysD} (h : SmallI S) : (cS.enc S).length ≤ 2000 := by
  rw [cS_enc, List.length_append, List.length_append]
  have h1 := cPs_len h.p h.x
  have h2 := cCs_len h.c
  have h3 := cTs_len h.s
  omega
theorem smallI {S : SysD} (h : chkS S = 0) : SmallI S := by
  obtain ⟨h1, h2, _⟩ := chkS_zero h
  unfold countsB at h1
  simp only [Bool.and_eq_true, decide_eq_true_eq, Bool.not_eq_true', List.any_eq_false] at h1
  obtain ⟨⟨a, b, c, d, e⟩, f⟩ := h1
  refine ⟨b, c, e, fun p hp => ?_⟩
  obtain ⟨j, hj, rfl⟩ := List.mem_iff_getElem.1 hp
  have := chkC_zero (h2 j hj)
  have g := f _ hp
  exact ⟨this.2.1, by omega⟩
set_option maxRecDepth 100000 in
set_option maxHeartbeats 2000000 in
theorem psystem_any (B b : Nat) (S : SysD) (hsm : SmallI S) (vp vc vs : Value) (w0 w : World) (hB : B = w0.heap.size) (h0 : Below B w0 w) (hS : Sys w0 vp vc vs S) (h : Pap B b [] w) (hb : b < w.heap.size) :
    Calls Tryz.prog 47 #[.pointer (some ⟨b, 0, none⟩), .agg #[vp, vc, vs]] w fun e w' => e = .returned (.tuple #[]) ∧ Pap B b (cS.enc S) w' ∧ Wr B b w w' := by
  obtain ⟨pa, pc, rfl⟩ := hS.p.form
  obtain ⟨ka, kc, rfl⟩ := hS.c.form
  obtain ⟨sa, sc, rfl⟩ := hS.s.form
  have HE := Lib.hid (cS_enc S)
  have H := Lib.hid h
  have H0 := Lib.hid h0
  have HS := Lib.hid hS
  have hwr : ∀ o : Obj, Wr B b w (w.alloc o) := fun o => Wr.up ((Below.refl _ _).alloc (Nat.le_refl _) _) h.2
  have HW := Lib.hid hwr
  have HSM := Lib.hid hsm
  have HBE := Lib.hid hB
  have HL1 := Lib.hid (cPs_len hsm.p hsm.x)
  have HL2 := Lib.hid (cCs_len hsm.c)
  clear h h0 hS hwr hsm hB
  go_enter Tryz.func47, Tryz.ntmps47
  go_wp2_with fail
  refine (writeP_any B b [] S.parts _ w0 _ HBE.out (H0.out.trans (HW.out _).b) HS.out.p (H.out.alloc _) (by simp) HSM.out.p (by simp; omega) HSM.out.x).mono ?_
  rintro e w1 ⟨rfl, p1, b1⟩
  rw [List.nil_append] at p1
  have r1 : Rw w1 w.heap.size 39 #[.slice pa S.parts.length pc, .slice ka S.chans.length kc, .slice sa S.slots.length sc] := b1.k _ _ _ (by omega) (by decide) (Rw.new _ _ _ rfl)
  have W1 := Lib.hid ((HW.out _).trans b1)
  have P1 := Lib.hid p1
  have k1 := r1.cell (j := 1) rfl
  have R1 := Lib.hid r1
  clear p1 b1 r1 H HW
  go_wp2_with fail
  refine (writeC_any B b (cP.ls.enc S.parts) S.chans _ w0 _ HBE.out (H0.out.trans W1.out.b) HS.out.c P1.out (by have := HL1.out; omega) (by have := HSM.out.c; omega) (by have := W1.out.size; omega)).mono ?_
  rintro e w2 ⟨rfl, p2, b2⟩
  have r2 := b2.k _ _ _ (by omega) (by decide) R1.out
  have W2 := Lib.hid (W1.out.trans b2)
  have P2 := Lib.hid p2
  have k2 := r2.cell (j := 2) rfl
  clear p2 b2 r2 W1 P1 k1 R1
  go_wp2_with fail
  refine (writeT_any B b (cP.ls.enc S.parts ++ cC.ls.enc S.chans) S.slots _ w0 _ HBE.out (H0.out.trans W2.out.b) HS.out.s P2.out (by have := HL1.out; have := HL2.out; rw [List.length_append]; omega) (by have := HSM.out.s; omega) (by have := W2.out.size; omega)).mono ?_
  rintro e w4 ⟨rfl, p4, b4⟩
  go_wp2
  go_end0
  exact ⟨rfl, by rw [HE.out]; exact p4, W2.out.trans b4⟩
def imgB (S : SysD) : List UInt8 := if chkS S = 0 then cS.enc S else []
set_option maxRecDepth 100000 in
set_option maxHeartbeats 2000000 in
theorem imageWrite_any (S : SysD) (vp vc vs : Value) (w : World) (he : Env w) (hS : Sys w vp vc vs S) :
    Calls Tryz.prog 14 #[.agg #[vp, vc, vs]] w fun e w' => e = .returned (.tuple #[.string ⟨(imgB S).toArray⟩, .int .i64 (chkS S)]) ∧ Below w.heap.size w w' := by
  obtain ⟨pa, pc, rfl⟩ := hS.p.form
  obtain ⟨ka, kc, rfl⟩ := hS.c.form
  obtain ⟨sa, sc, rfl⟩ := hS.s.form
  have HE := Lib.hid he
  have HS := Lib.hid hS
  clear he hS
  go_enter Tryz.func14, Tryz.ntmps14
  go_wp2_with fail
  refine (confCheck_any S _ _ _ _ (HE.out.up up0) (HS.out.up up0)).mono ?_
  rintro e w1 ⟨rfl, b1⟩
  have z1 := b1.size
  simp at z1
  have R0 : Hid (Rw w1 w.heap.size 39 #[.slice pa S.parts.length pc, .slice ka S.chans.length kc, .slice sa S.slots.length sc]) := Rw.up (by repeat (first | exact Rw.new _ _ _ (by first | rfl | (simp; done) | omega | (simp; omega)) | refine Rw.alloc ?_ _)) b1 (by first | omega | (simp; done) | (simp; omega))
  have HB : Hid (Below w.heap.size w w1) := by
    refine Below.trans ?_ (b1.mono (by first | omega | (simp; done) | (simp; omega)))
    exact up0
  clear b1
  by_cases hk : chkS S = 0
  · have HI : Hid (imgB S = cS.enc S) := Lib.hid (by unfold imgB; rw [if_pos hk])
    have HSM := Lib.hid (smallI hk)
    have s0 := R0.out.cell (j := 0) (v := .slice pa S.parts.length pc) rfl
    have s1 := R0.out.cell (j := 1) (v := .slice ka S.chans.length kc) rfl
    have s2 := R0.out.cell (j := 2) (v := .slice sa S.slots.length sc) rfl
    have HK := Lib.hid hk
    rw [hk]
    clear hk
    have R1 := Lib.hid (R0.out.alloc (.cells #[.pointer none, .slice none 0 0] 110))
    have s3 := R1.out.cell (j := 0) (v := .slice pa S.parts.length pc) rfl
    have s4 := R1.out.cell (j := 1) (v := .slice ka S.chans.length kc) rfl
    have s5 := R1.out.cell (j := 2) (v := .slice sa S.slots.length sc) rfl
    clear s0 s1 s2
    go_wp2_with fail
    refine (psystem_any w.heap.size w1.heap.size S HSM.out _ _ _ w _ rfl (HB.out.alloc (by omega) _) HS.out ⟨Or.inl ⟨by omega, .slice none 0 0, _root_.Go.heap_alloc_new _ _, World.ownsRow_nil _ _ _ _, by simp [Value.ownBlock]⟩, by simp; omega⟩ (by simp)).mono ?_
    rintro e w2 ⟨rfl, p2, b2⟩
    have HB2 := Lib.hid ((HB.out.alloc (by omega) _).trans b2.b)
    have P2 := Lib.hid p2
    clear p2 b2 s3 s4 s5
    go_wp2_with fail
    refine (bldString_any _ w.heap.size w1.heap.size (cS.enc S) _ P2.out.1 (by rw [cS_enc]; simp [Cod.ls])).mono ?_
    rintro e w3 ⟨rfl, b3⟩
    have HB3 := Lib.hid (HB2.out.trans b3)
    clear b3
    go_wp2
    go_ret2
    exact ⟨by rw [HI.out, HK.out] <;> rfl, HB3.out⟩
  · have hkb : (chkS S == 0) = false := by simpa using hk
    have HI : Hid (imgB S = []) := Lib.hid (by unfold imgB; rw [if_neg hk])
    go_wp2
    go_ret2
    exact ⟨by rw [HI.out] <;> rfl, HB.out⟩
end Go.Proofs.YtbkdoohhdkahiaaGreatDoor
namespace Go.Proofs.YtbkdoohhdkahiaaGreatDoor
set_option linter.unusedSimpArgs false
set_option linter.unusedVariables false
open Go.RowKit Go.Sort
structure Ib (w wr : World) (row : Array Value) (v : Value) (n : Nat) (l : List UInt8) : Prop where
  r : Rw wr w.heap.size 39 row
  o : wr.ownsRow (w.heap.size + 1) 5 1 v n (Lib.byteCells l)
  b : Below w.heap.size w wr
section
variable {w wr wr' : World} {row : Array Value} {v v' : Value} {n m : Nat} {l news : List UInt8}
theorem Ib.z (h : Ib w wr row v n l) : w.heap.size + 1 ≤ wr.heap.size := h.r.lt
theorem Ib.len (h : Ib w wr row v n l) : l.length = n := by have := h.o.1; rw [Lib.byteCells_length] at this; omega
theorem Ib.alloc (h : Ib w wr row v n l) (o : Obj) : Ib w (wr.alloc o) row v n l := ⟨h.r.alloc _, h.o.alloc _, h.b.alloc h.b.size _⟩
theorem Ib.drew (h : Ib w wr row v n l) : Ib w wr.drew row v n l := ⟨h.r, h.o, h.b.drew⟩
theorem keepB {c : Nat} {t : TypeId} {cs : Array Value} (hr : Rw wr c t cs) (ht : t ≠ 5) (h : Ib w wr row v n l) (hg : wr.grownBy wr' v.ownBlock) : Rw wr' c t cs := by
  refine (hg.block c hr.lt (fun e => ?_)).trans hr
  rcases h.o.2 with ⟨rfl, _⟩ | ⟨g', cap', cur', rfl, _, hh, _⟩
  · cases e
  · simp [Value.ownBlock] at e
    subst e
    have h5 := (show wr.heap[c]? = _ from hr).symm.trans hh
    injection h5 with h5
    injection h5 with _ h5
    exact ht h5
theorem Ib.grow (h : Ib w wr row v n l) (hg : wr.grownBy wr' v.ownBlock) (ho : wr'.ownsRow (w.heap.size + 1) 5 1 v' (n + m) (Lib.byteCells l ++ Lib.byteCells news)) : Ib w wr' row v' (n + m) (l ++ news) :=
  ⟨keepB h.r (by decide) h hg, by rw [byteCells_app]; exact ho, h.b.grown hg h.b.size (fun k e => by have := own_block h.o k e; omega)⟩
end
end Go.Proofs.YtbkdoohhdkahiaaGreatDoor
namespace Go.Proofs.YtbkdoohhdkahiaaGreatDoor
set_option linter.unusedSimpArgs false
set_option linter.unusedVariables false
open Go.RowKit Go.Sort
theorem Eye.alloc {W : World} {g : Nat} {q : List UInt8} (he : Eye W g q) (o : Obj) : Eye (W.alloc o) g q := Rw.alloc he o
theorem Eye.set {W : World} {g c i : Nat} {q : List UInt8} (he : Eye W g q) (v : Value) (hc : g ≠ c) : Eye (W.setCell ⟨c, i, none⟩ v) g q := Rw.set_other he v hc
theorem Rw.grownN {c : Nat} {t : TypeId} {cs : Array Value} {w1 w2 : World} (h : Rw w1 c t cs) {row : Option Nat} (hgr : w1.grownBy w2 row) (hrow : ∀ k, row = some k → c < k) : Rw w2 c t cs := (hgr.block c h.lt (fun e => by have := hrow c e.symm; omega)).trans h
theorem Eye.grown {g : Nat} {w1 w2 : World} {q : List UInt8} (h : Eye w1 g q) {row : Option Nat} (hgr : w1.grownBy w2 row) (hrow : ∀ k, row = some k → g < k) : Eye w2 g q := Rw.grownN h hgr hrow
theorem own_ne {w : World} {B : Nat} {e : TypeId} {size : Nat} {v : Value} {n : Nat} {xs : List Value} (h : w.ownsRow B e size v n xs) {c : Nat} (hc : c < B) : v.ownBlock ≠ some c := fun e => by have := own_block h c e; omega
structure Ic (ge px : Nat) (w0 wr : World) (v u : Value) (p : Prt) (q : List UInt8) : Prop where
  r : Rw wr px 43 #[v, u]
  o : PrtO (px + 1) wr v u p
  e : Eye wr ge q
  s : One ge w0 wr
section
variable {ge px : Nat} {w0 wr wr' : World} {v u v' : Value} {p p' : Prt} {q q' : List UInt8}
theorem Ic.call (h : Ic ge px w0 wr v u p q) (ho : One ge wr wr') (he : Eye wr' ge q') (hg : ge < px) : Ic ge px w0 wr' v u p q' := ⟨ho.rw h.r (by omega), h.o.one ho (by omega), he, h.s.trans ho⟩
theorem Ic.alloc (h : Ic ge px w0 wr v u p q) (hg : ge < px) (o : Obj) : Ic ge px w0 (wr.alloc o) v u p q := ⟨h.r.alloc _, h.o.alloc _, h.e.alloc _, h.s.alloc (by have := h.r.lt; omega) _⟩
theorem Ic.drew (h : Ic ge px w0 wr v u p q) : Ic ge px w0 wr.drew v u p q := ⟨h.r, ⟨h.o.code, h.o.inn⟩, h.e, ⟨h.s.b.drew, h.s.k⟩⟩
theorem Ic.code (h : Ic ge px w0 wr v u p q) (hg : ge < px) (hp : w0.heap.size ≤ px) (hw0 : ge < w0.heap.size) (hgr : wr.grownBy wr' v.ownBlock) {ds : List Ins} (ho : wr'.ownsRow (px + 1) 124 4 v' ds.length (codeC ds)) :
    Ic ge px w0 (wr'.setCell ⟨px, 0, none⟩ v') v' u ⟨ds, p.inn⟩ q ∧ Rw wr' px 43 #[v, u] := by
  have hb : ∀ k, v.ownBlock = some k → px + 1 ≤ k := own_block h.o.code
  have hr := h.r.grownN hgr (fun k e => by have := hb k e; omega)
  refine ⟨⟨hr.set 0 _, ⟨own_set ho _ (own_ne ho (show px < px + 1 by omega)), own_set (own_growT h.o.inn hgr h.o.code rfl (by decide)) _ (own_ne h.o.inn (show px < px + 1 by omega))⟩, (h.e.grown hgr (fun k e => by have := hb k e; omega)).set _ (by omega), (h.s.grown hgr (fun k e => by have := hb k e; omega) hw0).put hp (by omega) _ _⟩, hr⟩
theorem Ic.inn (h : Ic ge px w0 wr v u p q) (hg : ge < px) (hp : w0.heap.size ≤ px) (hw0 : ge < w0.heap.size) (hgr : wr.grownBy wr' u.ownBlock) {es : List Int} (ho : wr'.ownsRow (px + 1) 3 1 v' es.length (ints es)) :
    Ic ge px w0 (wr'.setCell ⟨px, 1, none⟩ v') v v' ⟨p.code, es⟩ q ∧ Rw wr' px 43 #[v, u] := by
  have hb : ∀ k, u.ownBlock = some k → px + 1 ≤ k := own_block h.o.inn
  have hr := h.r.grownN hgr (fun k e => by have := hb k e; omega)
  refine ⟨⟨hr.set 1 _, ⟨own_set (own_growT h.o.code hgr h.o.inn rfl (by decide)) _ (own_ne h.o.code (show px < px + 1 by omega)), own_set ho _ (own_ne ho (show px < px + 1 by omega))⟩, (h.e.grown hgr (fun k e => by have := hb k e; omega)).set _ (by omega), (h.s.grown hgr (fun k e => by have := hb k e; omega) hw0).put hp (by omega) _ _⟩, hr⟩
end
structure Iy (ge iy : Nat) (t : TypeId) (w0 wr : World) (cs : Array Value) (q : List UInt8) : Prop where
  y : Rw wr iy t cs
  e : Eye wr ge q
  s : One ge w0 wr
section
variable {ge iy : Nat} {t : TypeId} {w0 wr wr' : World} {cs : Array Value} {q q' : List UInt8}
theorem Iy.call (h : Iy ge iy t w0 wr cs q) (ho : One ge wr wr') (he : Eye wr' ge q') (hg : ge < iy) : Iy ge iy t w0 wr' cs q' := ⟨ho.rw h.y (by omega), he, h.s.trans ho⟩
theorem Iy.put (h : Iy ge iy t w0 wr cs q) (hg : ge < iy) (hi : w0.heap.size ≤ iy) (i : Nat) (v : Value) : Iy ge iy t w0 (wr.setCell ⟨iy, i, none⟩ v) (cs.setIfInBounds i v) q := ⟨h.y.set i v, h.e.set _ (by omega), h.s.put hi (by omega) _ _⟩
theorem Iy.new {w1 : World} (ho : One ge w0 w1) (he : Eye w1 ge q) (t : TypeId) (cs : Array Value) (hg : ge ≤ w1.heap.size) : Iy ge w1.heap.size t w0 (w1.alloc (.cells cs t)) cs q := ⟨Rw.new _ _ _ rfl, he.alloc _, ho.alloc hg _⟩
end
structure If (w wr : World) (vp vc vs : Value) (S : SysD) (q : List UInt8) : Prop where
  r2 : Rw wr w.heap.size 39 #[.slice none 0 0, .slice none 0 0, .slice none 0 0]
  e : Eye wr (w.heap.size + 1) q
  s : Rw wr (w.heap.size + 2) 39 #[vp, vc, vs]
  o : SysO (w.heap.size + 3) wr vp vc vs S
  b : Below w.heap.size w wr
section
variable {w wr wr' : World} {vp vc vs v' : Value} {S : SysD} {q q' : List UInt8}
theorem If.z (h : If w wr vp vc vs S q) : w.heap.size + 3 ≤ wr.heap.size := h.s.lt
theorem If.call (h : If w wr vp vc vs S q) (ho : One (w.heap.size + 1) wr wr') (he : Eye wr' (w.heap.size + 1) q') : If w wr' vp vc vs S q' :=
  ⟨ho.rw h.r2 (by omega), he, ho.rw h.s (by omega), h.o.one ho (by omega), h.b.trans (ho.b.mono (by omega))⟩
theorem If.alloc (h : If w wr vp vc vs S q) (o : Obj) : If w (wr.alloc o) vp vc vs S q := h.call (One.up ((Below.refl _ _).alloc (Nat.le_refl _) _) (by have := h.z; omega)) (h.e.alloc _)
theorem If.grow (h : If w wr vp vc vs S q) {row : Option Nat} (hgr : wr.grownBy wr' row) (hrow : ∀ k, row = some k → w.heap.size + 3 ≤ k) :
    Rw wr' w.heap.size 39 #[.slice none 0 0, .slice none 0 0, .slice none 0 0] ∧ Eye wr' (w.heap.size + 1) q ∧ Rw wr' (w.heap.size + 2) 39 #[vp, vc, vs] ∧ Below w.heap.size w wr' :=
  ⟨h.r2.grownN hgr (fun k e => by have := hrow k e; omega), h.e.grown hgr (fun k e => by have := hrow k e; omega), h.s.grownN hgr (fun k e => by have := hrow k e; omega), h.b.grown hgr h.b.size (fun k e => by have := hrow k e; omega)⟩
theorem If.putC (h : If w wr vp vc vs S q) (hgr : wr.grownBy wr' vc.ownBlock) (hrow : ∀ k, vc.ownBlock = some k → w.heap.size + 3 ≤ k) {S' : SysD} (ho : SysO (w.heap.size + 3) wr' vp v' vs S') : If w (wr'.setCell ⟨w.heap.size + 2, 1, none⟩ v') vp v' vs S' q :=
  let ⟨a, b, c, d⟩ := h.grow hgr hrow
  ⟨a.set_other _ (by simp), b.set _ (by omega), c.set 1 _, ho.setC (by simp) _, d.setCell (by simp) _⟩
theorem If.putS (h : If w wr vp vc vs S q) (hgr : wr.grownBy wr' vs.ownBlock) (hrow : ∀ k, vs.ownBlock = some k → w.heap.size + 3 ≤ k) {S' : SysD} (ho : SysO (w.heap.size + 3) wr' vp vc v' S') : If w (wr'.setCell ⟨w.heap.size + 2, 2, none⟩ v') vp vc v' S' q :=
  let ⟨a, b, c, d⟩ := h.grow hgr hrow
  ⟨a.set_other _ (by simp), b.set _ (by omega), c.set 2 _, ho.setC (by simp) _, d.setCell (by simp) _⟩
theorem If.drew (h : If w wr vp vc vs S q) : If w wr.drew vp vc vs S q := ⟨h.r2, h.e, h.s, h.o.up (Below.refl _ _).drew, h.b.drew⟩
end
end Go.Proofs.YtbkdoohhdkahiaaGreatDoor
namespace Go.Proofs.YtbkdoohhdkahiaaGreatDoor
set_option linter.unusedSimpArgs false
set_option linter.unusedVariables false
open Go.RowKit Go.Sort
end Go.Proofs.YtbkdoohhdkahiaaGreatDoor
namespace Go.Proofs.YtbkdoohhdkahiaaGreatDoor
set_option linter.unusedSimpArgs false
set_option linter.unusedVariables false
open Go.RowKit Go.Sort
theorem Sl.drewN {w : World} {size : Nat} {v : Value} {m : Nat} {xs : List Value} (h : Sl w size v m xs) (n : Nat) : Sl (w.drewN n) size v m xs := h
end Go.Proofs.YtbkdoohhdkahiaaGreatDoor
namespace Go.Proofs.YtbkdoohhdkahiaaGreatDoor
set_option linter.unusedSimpArgs false
set_option linter.unusedVariables false
open Go.RowKit Go.Sort
theorem chkI_small {op a b n : Int} (h : chkI op a b n = 0) : (0 ≤ op ∧ op < 256) ∧ (0 ≤ a ∧ a < 256) ∧ (0 ≤ b ∧ b < 256) := by
  unfold chkI at h
  split at h
  · cases h
  · rename_i ho
    unfold chkRow at h
    split at h
    · cases h
    · rename_i h3
      split at h
      · cases h
      · rename_i h1
        simp only [Bool.or_eq_true, Bool.and_eq_true, Bool.not_eq_true', not_or, not_and, bne_iff_ne, ne_eq, Decidable.not_not, Bool.not_eq_false] at h3 h1
        have fa : 0 ≤ a ∧ a < 256 := by
          cases hA : rowA op.toNat with
          | true =>
            have := h3.1.1 hA
            simp [regB] at this
            omega
          | false =>
            have := h1.1.1 hA
            omega
        have fb : 0 ≤ b ∧ b < 256 := by
          cases hB : rowB op.toNat with
          | true =>
            have := h3.1.2 hB
            simp [regB] at this
            omega
          | false =>
            have := h1.1.2 hB
            omega
        exact ⟨by omega, fa, fb⟩
def SysD.ok2 (S : SysD) : Prop := ∀ p ∈ S.parts, ∀ x ∈ p.inn, in64 x
theorem chk_good {S : SysD} (h : chkS S = 0) (hok : S.ok) (hok2 : S.ok2) : cS.good S := by
  have hs := smallI h
  obtain ⟨h1, h2, h3, h4, _⟩ := chkS_zero h
  have h3' : ∀ c ∈ S.chans, kindBad c = false := fun c hc => by simpa using (List.any_eq_false.1 h3) c hc
  unfold placesB at h4
  simp only [Bool.and_eq_true, Bool.not_eq_true', List.any_eq_false] at h4
  have hp := hs.p
  refine ⟨⟨(show S.parts.length < 256 by omega), fun p (hpm : p ∈ S.parts) => ?_⟩, ⟨(show S.chans.length < 256 by have := hs.c; omega), fun c (hc : c ∈ S.chans) => ?_⟩, ⟨(show S.slots.length < 256 by have := hs.s; omega), fun t (ht : t ∈ S.slots) => ?_⟩⟩
  · have hx := hs.x p hpm
    obtain ⟨j, hj, rfl⟩ := List.mem_iff_getElem.1 hpm
    refine ⟨⟨(show S.parts[j].code.length < 256 by omega), fun i (hi : i ∈ S.parts[j].code) => ?_⟩, ⟨(show S.parts[j].inn.length < 256 by omega), fun x hxm => hok2 _ hpm x hxm⟩⟩
    obtain ⟨k, hk, rfl⟩ := List.mem_iff_getElem.1 hi
    have hc := (chkC_zero (h2 j hj)).2.2 k hk
    obtain ⟨a, b, c⟩ := chkI_small (show chkI _ _ _ _ = 0 from hc)
    exact ⟨a, b, c, (hok _ hpm k hk).2.2.2⟩
  · have k1 := h3' c hc
    have k2 := h4.1 c hc
    unfold kindBad at k1
    unfold placeBad at k2
    simp only [Bool.and_eq_false_iff, bne_eq_false_iff_eq, Bool.or_eq_true, Bool.not_eq_true', not_or, Bool.not_eq_false, withinB, Bool.and_eq_true, decide_eq_true_eq] at k1 k2
    refine ⟨?_, ?_, ?_⟩
    · show 0 ≤ c.kd ∧ c.kd < 256
      omega
    · show 0 ≤ c.fr ∧ c.fr < 256
      omega
    · show 0 ≤ c.tt ∧ c.tt < 256
      omega
  · have k2 := h4.2 t ht
    unfold slotBad at k2
    simp only [Bool.or_eq_true, Bool.not_eq_true', not_or, Bool.not_eq_false, withinB, Bool.and_eq_true, decide_eq_true_eq] at k2
    refine ⟨?_, ?_⟩
    · show 0 ≤ t.pt ∧ t.pt < 256
      omega
    · show 0 ≤ t.tk ∧ t.tk < 256
      omega
theorem read_enc {S : SysD} (h : chkS S = 0) (hok : S.ok) (hok2 : S.ok2) : readD (cS.enc S) = some S := by
  have h1 := cS_ok.de S [] (chk_good h hok hok2)
  rw [List.append_nil] at h1
  unfold readD
  rw [h1]
  show (if chkS S = 0 then some S else none) = _
  rw [if_pos h]
theorem rdS_enc {S : SysD} (h : chkS S = 0) (hok : S.ok) (hok2 : S.ok2) : rdS (cS.enc S) = S ∧ rdE (cS.enc S) = 0 := by
  have hl := cS_len (smallI h)
  unfold rdS rdE
  rw [if_neg (by omega), if_neg (by omega), read_enc h hok hok2]
  exact ⟨rfl, rfl⟩
theorem relay_ok2 : relayS.ok2 := by
  intro p hp x hx
  have h : ∀ p ∈ relayS.parts, ∀ x ∈ p.inn, -9223372036854775808 ≤ x ∧ x ≤ 9223372036854775807 := by decide +kernel
  exact h p hp x hx
theorem relay_rd : rdS (cS.enc relayS) = relayS ∧ rdE (cS.enc relayS) = 0 := rdS_enc relay_chk relay_ok relay_ok2
end Go.Proofs.YtbkdoohhdkahiaaGreatDoor
namespace Go.Proofs.YtbkdoohhdkahiaaGreatDoor
set_option linter.unusedSimpArgs false
set_option linter.unusedVariables false
open Go.RowKit Go.Sort
def cutN : List UInt8 → List UInt8 × Option (List UInt8)
  | [] => ([], none)
  | c :: l => if c = 10 then ([], some l) else (c :: (cutN l).1, (cutN l).2)
def lineN (l : List UInt8) : Nat → List UInt8
  | 0 => match (cutN l).2 with
    | some _ => (cutN l).1
    | none => []
  | n + 1 => match (cutN l).2 with
    | some r => lineN r n
    | none => []
theorem cutN_line : ∀ (s r : List UInt8), (∀ c ∈ s, c ≠ 10) → cutN (s ++ 10 :: r) = (s, some r)
  | [], r, _ => by simp [cutN]
  | c :: s, r, h => by
    have ih := cutN_line s r (fun x hx => h x (by simp [hx]))
    have hc : c ≠ 10 := h c (by simp)
    show cutN (c :: (s ++ 10 :: r)) = _
    rw [cutN, if_neg hc, ih]
theorem cutN_none : ∀ (s : List UInt8), (∀ c ∈ s, c ≠ 10) → cutN s = (s, none)
  | [], _ => rfl
  | c :: s, h => by
    have ih := cutN_none s (fun x hx => h x (by simp [hx]))
    rw [cutN, if_neg (h c (by simp)), ih]
theorem lineN_zero {s r : List UInt8} (h : ∀ c ∈ s, c ≠ 10) : lineN (s ++ 10 :: r) 0 = s := by
  unfold lineN
  rw [cutN_line s r h]
theorem lineN_succ {s r : List UInt8} (h : ∀ c ∈ s, c ≠ 10) (n : Nat) : lineN (s ++ 10 :: r) (n + 1) = lineN r n := by
  rw [lineN, cutN_line s r h]
theorem lineN_none {s : List UInt8} (h : ∀ c ∈ s, c ≠ 10) (n : Nat) : lineN s n = [] := by
  cases n with
  | zero => rw [lineN, cutN_none s h]
  | succ n => rw [lineN, cutN_none s h]
theorem digit_no (k : Nat) (h : k < 10) : UInt8.ofNat (48 + k) ≠ 10 := by
  intro e
  have := congrArg UInt8.toNat e
  rw [UInt8.toNat_ofNat'] at this
  have e2 : (10 : UInt8).toNat = 10 := rfl
  omega
theorem decDigits_no (u : Nat) : ∀ c ∈ Lib.decDigits u, c ≠ 10 := by
  induction u using Nat.strongRecOn with
  | ind u ih =>
    intro c hc
    rw [Lib.decDigits] at hc
    split at hc
    · rename_i h
      rw [List.mem_singleton] at hc
      subst hc
      exact digit_no u h
    · rename_i h
      rcases List.mem_append.1 hc with hc | hc
      · exact ih (u / 10) (by omega) c hc
      · rw [List.mem_singleton] at hc
        subst hc
        exact digit_no _ (by omega)
theorem itoa_no (n : Int) : ∀ c ∈ Lib.itoa n, c ≠ 10 := by
  intro c hc
  unfold Lib.itoa at hc
  split at hc
  · rcases List.mem_cons.1 hc with rfl | hc
    · decide
    · exact decDigits_no _ c hc
  · exact decDigits_no _ c hc
theorem nums_no (ns : List Int) : ∀ c ∈ ns.flatMap numW, c ≠ 10 := by
  intro c hc
  obtain ⟨n, _, hc⟩ := List.mem_flatMap.1 hc
  unfold numW at hc
  rcases List.mem_cons.1 hc with rfl | hc
  · decide
  · exact itoa_no n c hc
theorem wordW_no (e : Int) : ∀ c ∈ wordW e, c ≠ 10 := by
  unfold wordW
  split
  · decide
  · split <;> decide
theorem body_no {s : List UInt8} (h : ∀ c ∈ s, c ≠ 10) (ns : List Int) : ∀ c ∈ s ++ ns.flatMap numW, c ≠ 10 := fun c hc => by
  rcases List.mem_append.1 hc with hc | hc
  · exact h c hc
  · exact nums_no ns c hc
theorem lineW_form (s : List UInt8) (ns : List Int) (r : List UInt8) : lineW s ns ++ r = (s ++ ns.flatMap numW) ++ 10 :: r := by simp [lineW]
def tellW (d : CelD) : List UInt8 := wordW d.c.en ++ d.out.flatMap numW
theorem cells_line : ∀ (cs : List CelD) (u : Nat), lineN (cs.flatMap cellW) u = match cs[u]? with
    | some d => tellW d
    | none => []
  | [], u => by simp only [List.flatMap_nil, List.getElem?_nil]; exact lineN_none (by simp) u
  | d :: cs, 0 => by
    rw [List.flatMap_cons]
    unfold cellW
    rw [lineW_form, lineN_zero (body_no (wordW_no _) _)]
    rfl
  | d :: cs, u + 1 => by
    rw [List.flatMap_cons]
    unfold cellW
    rw [lineW_form, lineN_succ (body_no (wordW_no _) _)]
    have := cells_line cs u
    unfold cellW at this
    rw [this]
    simp
def soundT : List UInt8 := [115, 111, 117, 110, 100]
theorem soundT_no : ∀ c ∈ soundT, c ≠ 10 := by decide
theorem written_zero (p : List Int) (cs : List CelD) : lineN (writtenW true p cs) 0 = soundT := by
  unfold writtenW headW
  rw [if_pos rfl, lineW_form]
  show lineN (soundT ++ List.flatMap numW [] ++ 10 :: List.flatMap cellW cs) 0 = soundT
  rw [lineN_zero (body_no soundT_no _)]
  rfl
theorem written_succ (p : List Int) (cs : List CelD) (u : Nat) : lineN (writtenW true p cs) (u + 1) = lineN (cs.flatMap cellW) u := by
  unfold writtenW headW
  rw [if_pos rfl, lineW_form]
  show lineN (soundT ++ List.flatMap numW [] ++ 10 :: List.flatMap cellW cs) (u + 1) = _
  rw [lineN_succ (body_no soundT_no _)]
theorem certO_sound {S : SysD} {L : List Edg} (h : (certO S L).is = true) : polE S L = 0 ∧ leakL S L = [] := by
  unfold certO at h
  split at h
  · rename_i hp
    refine ⟨hp, ?_⟩
    unfold certG at h
    cases hl : leakL S L with
    | nil => rfl
    | cons e r => rw [hl] at h; cases h
  · cases h
theorem certO_of {S : SysD} {L : List Edg} (hp : polE S L = 0) (hl : leakL S L = []) : certO S L = ⟨certS S, [], true⟩ := by
  unfold certO certG
  rw [if_pos hp, hl]
theorem certS_len (S : SysD) : (certS S).length = S.parts.length := gath_len _ _
theorem pairs_memD {n : Nat} {p : Nat → Nat → Bool} {a b : Nat} (ha : a < n) (hb : b < n) (h : p a b = true) : (⟨a, b⟩ : Edg) ∈ pairsL n p := by
  unfold pairsL outP
  refine List.mem_flatMap.2 ⟨a, by simpa using ha, ?_⟩
  unfold rowP
  exact List.mem_map.2 ⟨b, by simp [hb, h], rfl⟩
theorem sound_alone {S : SysD} {L : List Edg} (hl : leakL S L = []) {u v : Nat} (hu : u < S.parts.length) (hv : v < S.parts.length) (hne : u ≠ v) (hL : ∀ j (hj : j < L.length), L[j] ≠ ⟨(v : Int), (u : Int)⟩) : reachB S v u = false := by
  cases hr : reachB S v u with
  | false => rfl
  | true =>
    exfalso
    have hm : mayB L v u = true := by
      cases hm : mayB L v u with
      | true => rfl
      | false =>
        have := pairs_memD (n := S.parts.length) (p := fun a b => reachB S a b && !(mayB L a b)) hv hu (by simp [hr, hm])
        unfold leakL at hl
        rw [hl] at this
        cases this
    unfold mayB at hm
    rw [Bool.or_eq_true] at hm
    rcases hm with hm | hm
    · simp at hm; omega
    · obtain ⟨e, he, heq⟩ := List.any_eq_true.1 hm
      obtain ⟨j, hj, rfl⟩ := List.getElem_of_mem he
      refine hL j hj ?_
      unfold edIs at heq
      simpa using heq
theorem other_reachN (S : SysD) (v : Nat) (p : Prt) : ∀ (m : Nat) (a b : Int), reachN (otherS S v p) m a b = reachN S m a b
  | 0, _, _ => rfl
  | m + 1, a, b => by
    rw [reachN, reachN]
    have hl : (otherS S v p).parts.length = S.parts.length := by simp [otherS]
    rw [hl]
    congr 1
    refine congrArg (fun f => (List.range S.parts.length).any f) (funext fun c => ?_)
    rw [other_reachN S v p m]
    rfl
theorem other_leak (S : SysD) (v : Nat) (p : Prt) (L : List Edg) : leakL (otherS S v p) L = leakL S L := by
  have hl : (otherS S v p).parts.length = S.parts.length := by simp [otherS]
  unfold leakL
  rw [hl]
  refine congrArg (pairsL S.parts.length) (funext fun a => funext fun b => ?_)
  unfold reachB
  rw [other_reachN, hl]
theorem other_pol {S : SysD} {v : Nat} {p : Prt} {L : List Edg} (h : polE S L = 0) (h' : chkS (otherS S v p) = 0) : polE (otherS S v p) L = 0 := by
  obtain ⟨_, hp⟩ := polE_is h
  refine polE_zero h' (polB_true ?_)
  have hl : (otherS S v p).parts.length = S.parts.length := by simp [otherS]
  rw [hl]
  exact hp
theorem other_ok {S : SysD} {v : Nat} {p : Prt} (h : S.ok) (hp : ∀ j (hj : j < p.code.length), p.code[j].ok) : (otherS S v p).ok := fun q hq => by
  rcases List.mem_or_eq_of_mem_set hq with hq | rfl
  · exact h q hq
  · exact hp
theorem other_ok2 {S : SysD} {v : Nat} {p : Prt} (h : S.ok2) (hp : ∀ x ∈ p.inn, in64 x) : (otherS S v p).ok2 := fun q hq => by
  rcases List.mem_or_eq_of_mem_set hq with hq | rfl
  · exact h q hq
  · exact hp
theorem otherE_okD {S : SysD} {v : Nat} {p : Prt} (h : otherE S (v : Int) p = 0) : chkS (otherS S v p) = 0 ∧ otherR S (v : Int) p = otherS S v p := by
  have h2 := h
  unfold otherE at h
  split at h
  · rename_i hh; exact absurd h hh
  · refine ⟨h, ?_⟩
    unfold otherR
    rw [if_pos h2]
    rfl
theorem judge_sound {S : SysD} {rules : List UInt8} {n : Int} (hk : chkS S = 0) (hok : S.ok) (hok2 : S.ok2) (hr : rulesE rules = 0) (hp : polE S (rulesL rules) = 0) (hl : leakL S (rulesL rules) = []) (h0 : 0 ≤ n) (h1 : n ≤ 300) :
    judgeE (imgB S) rules n = 0 ∧ judgeW (imgB S) rules n = writtenW true [] (runR S n).cells := by
  have hi : imgB S = cS.enc S := by unfold imgB; rw [if_pos hk]
  obtain ⟨e1, e2⟩ := rdS_enc hk hok hok2
  have hE : judgeE (imgB S) rules n = 0 := by
    unfold judgeE
    rw [hi, e1, e2, hr, hp, runE_right hk h0 h1]
    rfl
  refine ⟨hE, ?_⟩
  unfold judgeW
  rw [if_pos hE, hi, e1, certO_of hp hl]
theorem imgB_len {S : SysD} (hk : chkS S = 0) : (imgB S).length ≤ 2000 := by
  have hi : imgB S = cS.enc S := by unfold imgB; rw [if_pos hk]
  rw [hi]
  exact cS_len (smallI hk)
theorem cell_same {S S' : SysD} {u : Nat} (h : Alike S S' u) (n : Int) (h0 : 0 ≤ n) (h1 : n ≤ 300) : (runR S' n).cells[u]? = (runR S n).cells[u]? := by
  have r1 := runE_right h.k h0 h1
  have r2 := runE_right h.k' h0 h1
  have d1 : runR S n = runN S n.toNat (beginC S) := by unfold runR; rw [if_pos r1]
  have d2 : runR S' n = runN S' n.toNat (beginC S') := by unfold runR; rw [if_pos r2]
  have hA := agree_run h n.toNat (begin_right h.k) (begin_right h.k') (by show (0 : Int) + (n.toNat : Int) ≤ 300; omega) (alike_begin h)
  rw [d1, d2]
  exact hA.c u (reach_me S u)
theorem line_same {S S' : SysD} {u : Nat} (h : Alike S S' u) (n : Int) (h0 : 0 ≤ n) (h1 : n ≤ 300) : lineN (writtenW true [] (runR S' n).cells) (u + 1) = lineN (writtenW true [] (runR S n).cells) (u + 1) := by
  rw [written_succ, written_succ, cells_line, cells_line, cell_same h n h0 h1]
theorem written_len {p : List Int} {cs : List CelD} (h : TellOK p cs) : (writtenW true p cs).length ≤ 100000 := by
  have h1 := headW_len (sound := true) h.ll h.l64
  have h2 : (cs.flatMap cellW).length ≤ 400 * cs.length := flat_len (fun d hd => cellW_len (h.ol d hd) (h.o64 d hd))
  have h3 := h.cl
  unfold writtenW
  rw [List.length_append]
  omega
theorem sys64 {S : SysD} (hok : S.ok) (hok2 : S.ok2) : S64 S := ⟨fun p hp i hi => by
    obtain ⟨j, hj, rfl⟩ := List.getElem_of_mem hi
    exact (hok p hp j hj).2.2.2, fun p hp x hx => hok2 p hp x hx⟩
theorem judge_len {S : SysD} {L : List Edg} {n : Int} (hk : chkS S = 0) (hok : S.ok) (hok2 : S.ok2) (hp : polE S L = 0) (hl : leakL S L = []) (h0 : 0 ≤ n) (h1 : n ≤ 300) : (writtenW true [] (runR S n).cells).length ≤ 100000 := by
  have := tell_ok (S := S) (sys64 hok hok2) hp (runE_right hk h0 h1)
  rw [certO_of hp hl] at this
  exact written_len this
end Go.Proofs.YtbkdoohhdkahiaaGreatDoor
namespace Go.Proofs.YtbkdoohhdkahiaaGreatDoor
set_option linter.unusedSimpArgs false
set_option linter.unusedVariables false
open Go.RowKit Go.Sort
structure LInv (l T : List UInt8) (fr k n : Nat) : Prop where
  t : lineN (l.drop fr) n = T
  f : fr ≤ k
  no : ∀ j (h : j < l.length), fr ≤ j → j < k → l[j] ≠ 10
theorem LInv.miss {l T : List UInt8} {fr k n : Nat} (h : LInv l T fr k n) (hk : k < l.length) (hc : l[k] ≠ 10) : LInv l T fr (k + 1) n :=
  ⟨h.t, by have := h.f; omega, fun j hj h1 h2 => by
    by_cases e : j = k
    · subst e; exact hc
    · exact h.no j hj h1 (by omega)⟩
theorem LInv.take_no {l T : List UInt8} {fr k n : Nat} (h : LInv l T fr k n) : ∀ c ∈ (l.drop fr).take (k - fr), c ≠ 10 := fun c hc => by
  obtain ⟨j, hj, rfl⟩ := List.getElem_of_mem hc
  have hj' := hj
  simp at hj'
  rw [List.getElem_take, List.getElem_drop]
  exact h.no (fr + j) (by omega) (by omega) (by have := h.f; omega)
theorem LInv.split {l T : List UInt8} {fr k n : Nat} (h : LInv l T fr k n) (hk : k < l.length) (hc : l[k] = 10) : l.drop fr = (l.drop fr).take (k - fr) ++ 10 :: l.drop (k + 1) := by
  have e : l.drop k = 10 :: l.drop (k + 1) := by rw [List.drop_eq_getElem_cons hk, hc]
  have e2 : (l.drop fr).drop (k - fr) = l.drop k := by rw [List.drop_drop]; congr 1; have := h.f; omega
  rw [← e, ← e2, List.take_append_drop]
theorem LInv.hit0 {l T : List UInt8} {fr k : Nat} (h : LInv l T fr k 0) (hk : k < l.length) (hc : l[k] = 10) : (l.drop fr).take (k - fr) = T := by
  have := h.t
  rw [h.split hk hc, lineN_zero h.take_no] at this
  exact this
theorem LInv.hit {l T : List UInt8} {fr k n : Nat} (h : LInv l T fr k (n + 1)) (hk : k < l.length) (hc : l[k] = 10) : LInv l T (k + 1) (k + 1) n :=
  ⟨by have := h.t; rw [h.split hk hc, lineN_succ h.take_no] at this; exact this, Nat.le_refl _, fun j _ h1 h2 => by omega⟩
theorem LInv.over {l T : List UInt8} {fr n : Nat} (h : LInv l T fr l.length n) : T = [] := by
  rw [← h.t]
  refine lineN_none (fun c hc => ?_) n
  obtain ⟨j, hj, rfl⟩ := List.getElem_of_mem hc
  have hj' := hj
  simp at hj'
  rw [List.getElem_drop]
  exact h.no (fr + j) (by omega) (by omega) (by omega)
set_option maxRecDepth 100000 in
set_option maxHeartbeats 2000000 in
theorem lineOf_any (l : List UInt8) (m : Nat) (hm : m ≤ 1000) (hl : l.length ≤ 1000000) (w : World) : Calls Tryz.prog 15 #[.string ⟨l.toArray⟩, .int .i64 (m : Int)] w fun e w' => e = .returned (.string ⟨(lineN l m).toArray⟩) ∧ w' = w := by
  generalize hT : lineN l m = T
  have HI : Hid (LInv l T 0 0 m) := Lib.hid ⟨by simpa using hT, Nat.le_refl _, fun j _ _ h => by omega⟩
  clear hT
  go_enter Tryz.func15, Tryz.ntmps15
  go_wp2
  go_loopw [1, 5, 6] (fun a f i wr => ∃ n fr k : Nat, a = .int .i64 n ∧ f = .int .i64 fr ∧ i = .int .i64 k ∧ n ≤ 1000 ∧ k ≤ l.length ∧ fr ≤ k ∧ Hid (LInv l T fr k n) ∧ wr = w) (fun _ _ i _ => l.length - (intOf i).toNat)
  case atStart => exact ⟨m, 0, 0, rfl, rfl, rfl, hm, Nat.zero_le _, Nat.le_refl _, HI, rfl⟩
  case round =>
    obtain ⟨n, fr, k, rfl, rfl, rfl, hn, hk, hfk, HL, hwr⟩ := hrel
    subst hwr
    by_cases hlt : k < l.length
    · by_cases h4 : l[k] = 10
      · have h4' : ((((⟨l.toArray⟩ : ByteArray)[k]'hlt).toNat : Int) == 10) = true := by rw [ba_at l k hlt, h4]; rfl
        have H4 := Lib.hid h4
        clear h4
        by_cases hn0 : n = 0
        · subst hn0
          obtain ⟨pc, hpc⟩ : ∃ pc, pc = (l.drop fr).take (k - fr) := ⟨_, rfl⟩
          have hext : (⟨l.toArray⟩ : ByteArray).extract fr k = ⟨pc.toArray⟩ := by rw [hpc]; exact ext_eq l fr k
          have HPC : Hid (pc = T) := Lib.hid (hpc.trans (HL.out.hit0 hlt H4.out))
          clear hpc
          go_wp2
          go_ret
          exact ⟨by rw [← HPC.out] <;> rfl, rfl⟩
        · have hn1 : ((n : Int) == 0) = false := by simp; omega
          obtain ⟨q, hq⟩ : ∃ q, n = q + 1 := ⟨n - 1, by omega⟩
          have HN : Hid (LInv l T (k + 1) (k + 1) q) := Lib.hid (LInv.hit (by rw [← hq]; exact HL.out) hlt H4.out)
          have hq' : q ≤ 1000 := by omega
          have HQ : Hid (n = q + 1) := Lib.hid hq
          clear hq
          go_wp2
          go_roundw
          case rel => exact ⟨q, k + 1, k + 1, by have := HQ.out; subst this; go_num, by go_num, by go_num, hq', by omega, Nat.le_refl _, HN, by first | rfl | trivial⟩
          case measure => simp [intOf]; omega
      · have h4' : ((((⟨l.toArray⟩ : ByteArray)[k]'hlt).toNat : Int) == 10) = false := by
          rw [ba_at l k hlt]; simp; intro e; exact h4 (UInt8.toNat_inj.1 (by have : (10 : UInt8).toNat = 10 := rfl; omega))
        have HN : Hid (LInv l T fr (k + 1) n) := Lib.hid (HL.out.miss hlt h4)
        clear h4
        go_wp2
        go_roundw
        case rel => exact ⟨n, fr, k + 1, rfl, rfl, by go_num, hn, by omega, by omega, HN, by first | rfl | trivial⟩
        case measure => simp [intOf]; omega
    · have HO : Hid (T = []) := Lib.hid (by
        have hkl : k = l.length := by omega
        subst hkl
        exact HL.out.over)
      go_wp2
      go_ret
      exact ⟨by rw [HO.out] <;> rfl, rfl⟩
end Go.Proofs.YtbkdoohhdkahiaaGreatDoor
namespace Go.Proofs.YtbkdoohhdkahiaaGreatDoor
set_option linter.unusedSimpArgs false
set_option linter.unusedVariables false
open Go.RowKit Go.Sort
def strs (ps : List (List UInt8)) : List Value := ps.map fun p => .string ⟨p.toArray⟩
end Go.Proofs.YtbkdoohhdkahiaaGreatDoor
