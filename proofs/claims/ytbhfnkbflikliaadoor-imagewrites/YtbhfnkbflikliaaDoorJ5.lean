/- Partitions and systems, written; image.Write. -/
import Derived.Test.YtbhfnkbflikliaaDoorJ4
import Derived.Test.YtbhfnkbflikliaaDoorJ3
import Derived.Test.YtbhfnkbflikliaaDoorJ1
import Derived.Deep.RegionLaw
import Derived.Deep.RegionHeld3
namespace Go.Proofs.YtbhfnkbflikliaaDoor
set_option linter.unusedSimpArgs false
set_option linter.unusedVariables false
open Go.RowKit Go.Sort
set_option maxRecDepth 100000 in
set_option maxHeartbeats 2000000 in
theorem ppart_any (B b : Nat) (l : List UInt8) (p : Prt) (vc vi : Value) (w0 w : World) (hB : B = w0.heap.size) (h0 : Below B w0 w) (hS : PrtR w0 vc vi p) (h : Pap B b l w) (hl : l.length ≤ 600000) (hc : p.code.length ≤ 1000) (hi : p.inn.length ≤ 1000) (hb : b < w.heap.size) :
    Calls Tryd.prog 32 #[.pointer (some ⟨b, 0, none⟩), .agg #[vc, vi]] w fun e w' => e = .returned (.tuple #[]) ∧ Pap B b (l ++ cP.enc p) w' ∧ Wr B b w w' := by
  obtain ⟨ca, cc, rfl⟩ := hS.code.form
  obtain ⟨ia, ic, rfl⟩ := hS.inn.form
  have HE : Hid (l ++ cP.enc p = (l ++ cI.ls.enc p.code) ++ cN.ls.enc p.inn) := Lib.hid (by rw [show cP.enc p = cI.ls.enc p.code ++ cN.ls.enc p.inn from rfl, List.append_assoc])
  have H := Lib.hid h
  have HL := Lib.hid hl
  have H0 := Lib.hid h0
  have HS := Lib.hid hS
  have hwr : ∀ o : Obj, Wr B b w (w.alloc o) := fun o => Wr.up ((Below.refl _ _).alloc (Nat.le_refl _) _) h.2
  have HW := Lib.hid hwr
  have hle : (cI.ls.enc p.code).length ≤ 1 + 11 * p.code.length := by
    have := flat_len (enc := cI.enc) (m := 11) (xs := p.code) (fun x _ => cI_len x)
    show (by8 _ :: p.code.flatMap cI.enc).length ≤ _
    rw [List.length_cons]
    omega
  have HLE : Hid ((l ++ cI.ls.enc p.code).length ≤ 700000) := Lib.hid (by rw [List.length_append]; omega)
  have HC := Lib.hid hc
  have HI := Lib.hid hi
  have HBE := Lib.hid hB
  clear h hl h0 hS hwr hle hc hi hB
  go_enter Tryd.func32, Tryd.ntmps32
  go_wp2_with fail
  refine (writeI_any B b l p.code _ w0 _ HBE.out (H0.out.trans (HW.out _).b) HS.out.code (H.out.alloc _) (by have := HL.out; omega) HC.out (by simp; omega)).mono ?_
  rintro e w1 ⟨rfl, p1, b1⟩
  have r1 : Rw w1 w.heap.size 51 #[.slice ca p.code.length cc, .slice ia p.inn.length ic] := b1.k _ _ _ (by omega) (by decide) (Rw.new _ _ _ rfl)
  have W1 := Lib.hid ((HW.out _).trans b1)
  have P1 := Lib.hid p1
  have k1 := r1.cell (j := 1) rfl
  clear p1 b1 r1 H HW
  go_wp2_with fail
  refine (writeN_any B b (l ++ cI.ls.enc p.code) p.inn _ w0 _ HBE.out (H0.out.trans W1.out.b) HS.out.inn P1.out HLE.out HI.out (by have := W1.out.size; omega)).mono ?_
  rintro e w4 ⟨rfl, p4, b4⟩
  go_wp2
  go_end0
  exact ⟨rfl, by rw [HE.out]; exact p4, W1.out.trans b4⟩
theorem cP_len {p : Prt} (hc : p.code.length ≤ 20) (hi : p.inn.length ≤ 12) : (cP.enc p).length ≤ 400 := by
  have h1 := flat_len (enc := cI.enc) (m := 11) (xs := p.code) (fun x _ => cI_len x)
  have h2 := flat_len (enc := cN.enc) (m := 11) (xs := p.inn) (fun x _ => cN_len x)
  show ((by8 _ :: p.code.flatMap cI.enc) ++ (by8 _ :: p.inn.flatMap cN.enc)).length ≤ _
  rw [List.length_append, List.length_cons, List.length_cons]
  omega
set_option maxRecDepth 100000 in
set_option maxHeartbeats 2000000 in
theorem writeP_any (B b : Nat) (l : List UInt8) (xs : List Prt) (v : Value) (w0 w : World) (hB : B = w0.heap.size) (h0 : Below B w0 w) (hS : PartsR w0 v xs) (h : Pap B b l w) (hl : l.length ≤ 500000) (hx : xs.length ≤ 4) (hb : b < w.heap.size) (hxs : ∀ p ∈ xs, p.code.length ≤ 20 ∧ p.inn.length ≤ 12) :
    Calls Tryd.prog 31 #[.pointer (some ⟨b, 0, none⟩), v, .func (.func 32) #[.pointer (some ⟨b, 0, none⟩)] #[]] w fun e w' => e = .returned (.tuple #[]) ∧ Pap B b (l ++ cP.ls.enc xs) w' ∧ Wr B b w w' := by
  have hen : Enters 32 := enters Tryd.func32 (by kernel_rfl) (by kernel_rfl)
  unfold Enters at hen
  obtain ⟨ao, cap, rfl⟩ := hS.form
  have H := Lib.hid h
  have HL := Lib.hid hl
  have H0 := Lib.hid h0
  have HS := Lib.hid hS
  have HB := Lib.hid hB
  have HXS := Lib.hid hxs
  clear h hl h0 hS hB hxs
  go_enter Tryd.func31, Tryd.ntmps31
  go_wp2_with fail
  refine (small_any B b l _ _ H.out (by have := HL.out; omega)).mono ?_
  rintro e w1 ⟨rfl, p1, b1⟩
  have P1 := Lib.hid p1
  have W1 := Lib.hid b1
  clear p1 b1
  go_wp2
  go_loopw [14] (fun i wr => ∃ k : Nat, i = .int .i64 k ∧ k ≤ xs.length ∧ Hid (Pap B b ((l ++ [by8 xs.length]) ++ (xs.take k).flatMap cP.enc) wr) ∧ Hid (Wr B b w wr)) (fun i _ => xs.length - (intOf i).toNat)
  case atStart => exact ⟨0, rfl, Nat.zero_le _, by rw [List.take_zero, List.flatMap_nil, List.append_nil]; exact P1, W1⟩
  case round =>
    obtain ⟨k, rfl, hk, HP, WD⟩ := hrel
    by_cases hlt : k < xs.length
    · have hli : (k : Int) < xs.length := by omega
      have hbz : b < wr.heap.size := Nat.lt_of_lt_of_le hb WD.out.size
      have B0 := Lib.hid (H0.out.trans WD.out.b)
      have B0' := B0
      rw [HB.out] at B0
      obtain ⟨sb, off, cap', e1, hcap, hbw, hcs⟩ := HS.out.open (by omega)
      cases e1
      obtain ⟨vc, vi, c0, c1, hp⟩ := hcs k hlt
      obtain ⟨ca, cc, rfl⟩ := hp.code.form
      obtain ⟨ia, ic, rfl⟩ := hp.inn.form
      have HPR := Lib.hid hp
      have c0 := bcl B0.out hbw c0
      have c1 := bcl B0.out hbw c1
      have HT := Lib.hid (flat_take cP.enc xs k hlt)
      have hfl : ((xs.take k).flatMap cP.enc).length ≤ 400 * (xs.take k).length := flat_len (fun x hx => cP_len (HXS.out x (List.mem_of_mem_take hx)).1 (HXS.out x (List.mem_of_mem_take hx)).2)
      have HFL : Hid (((l ++ [by8 xs.length]) ++ (xs.take k).flatMap cP.enc).length ≤ 600000) := Lib.hid (by have := HL.out; rw [List.length_take] at hfl; simp at hfl ⊢; omega)
      have HCL := Lib.hid (HXS.out xs[k] (List.getElem_mem _))
      clear hcs hfl hp
      generalize xs[k] = q at *
      go_wp2_with fail
      refine (ppart_any B b ((l ++ [by8 xs.length]) ++ (xs.take k).flatMap cP.enc) q _ _ w0 _ HB.out (B0'.out.alloc (Nat.le_trans H.out.2 (by have := WD.out.size; omega)) _) HPR.out (HP.out.alloc _) HFL.out (by have := HCL.out.1; omega) (by have := HCL.out.2; omega) (by simp; omega)).mono ?_
      rintro e w2 ⟨rfl, p1, b1⟩
      have P2 := Lib.hid p1
      have W2 := Lib.hid ((WD.out.trans (Wr.up ((Below.refl _ _).alloc (Nat.le_refl _) _) HP.out.2)).trans b1)
      clear p1 b1
      go_wp2
      go_roundw
      case rel => exact ⟨k + 1, by go_num, by omega, by rw [HT.out, ← List.append_assoc]; exact P2, W2⟩
      case measure => simp [intOf]; omega
    · obtain rfl : k = xs.length := by omega
      have hli : ¬ ((xs.length : Int) < xs.length) := by omega
      have P2 : Pap B b ((l ++ [by8 xs.length]) ++ (xs.take xs.length).flatMap cP.enc) wr := HP.out
      rw [List.take_length, List.append_assoc] at P2
      have HP2 := Lib.hid P2
      clear P2
      go_wp2
      go_end0
      exact ⟨rfl, HP2.out, WD.out⟩
structure SmallI (S : SysD) : Prop where
  p : S.parts.length ≤ 4
  c : S.chans.length ≤ 6
  s : S.slots.length ≤ 6
  x : ∀ p ∈ S.parts, p.code.length ≤ 20 ∧ p.inn.length ≤ 12
theorem cPs_len {xs : List Prt} (hx : xs.length ≤ 4) (hxs : ∀ p ∈ xs, p.code.length ≤ 20 ∧ p.inn.length ≤ 12) : (cP.ls.enc xs).length ≤ 1601 := by
  have h1 := flat_len (enc := cP.enc) (m := 400) (xs := xs) (fun x hx => cP_len (hxs x hx).1 (hxs x hx).2)
  show (by8 _ :: xs.flatMap cP.enc).length ≤ _
  rw [List.length_cons]
  omega
theorem cCs_len {xs : List Chn} (hx : xs.length ≤ 6) : (cC.ls.enc xs).length ≤ 67 := by
  have h1 := flat_len (enc := cC.enc) (m := 11) (xs := xs) (fun x hx => cC_len x)
  show (by8 _ :: xs.flatMap cC.enc).length ≤ _
  rw [List.length_cons]
  omega
theorem cTs_len {xs : List Slt} (hx : xs.length ≤ 6) : (cT.ls.enc xs).length ≤ 67 := by
  have h1 := flat_len (enc := cT.enc) (m := 11) (xs := xs) (fun x hx => cT_len x)
  show (by8 _ :: xs.flatMap cT.enc).length ≤ _
  rw [List.length_cons]
  omega
theorem cS_enc (S : SysD) : cS.enc S = (cP.ls.enc S.parts ++ cC.ls.enc S.chans) ++ cT.ls.enc S.slots := by
  rw [show cS.enc S = cP.ls.enc S.parts ++ (cC.ls.enc S.chans ++ cT.ls.enc S.slots) from rfl, List.append_assoc]
theorem cS_len {S : SysD} (h : SmallI S) : (cS.enc S).length ≤ 2000 := by
  rw [cS_enc, List.length_append, List.length_append]
  have h1 := cPs_len h.p h.x
  have h2 := cCs_len h.c
  have h3 := cTs_len h.s
  omega
theorem smallI {S : SysD} (h : chkS S = 0) : SmallI S := by
  obtain ⟨h1, h2, _⟩ := chkS_zero h
  unfold countsB at h1
  simp only [Bool.and_eq_true, decide_eq_true_eq, Bool.not_eq_true', List.any_eq_false] at h1
  obtain ⟨⟨a, b, c, d, e⟩, f⟩ := h1
  refine ⟨b, c, e, fun p hp => ?_⟩
  obtain ⟨j, hj, rfl⟩ := List.mem_iff_getElem.1 hp
  have := chkC_zero (h2 j hj)
  have g := f _ hp
  exact ⟨this.2.1, by omega⟩
set_option maxRecDepth 100000 in
set_option maxHeartbeats 2000000 in
theorem psystem_any (B b : Nat) (S : SysD) (hsm : SmallI S) (vp vc vs : Value) (w0 w : World) (hB : B = w0.heap.size) (h0 : Below B w0 w) (hS : Sys w0 vp vc vs S) (h : Pap B b [] w) (hb : b < w.heap.size) :
    Calls Tryd.prog 13 #[.pointer (some ⟨b, 0, none⟩), .agg #[vp, vc, vs]] w fun e w' => e = .returned (.tuple #[]) ∧ Pap B b (cS.enc S) w' ∧ Wr B b w w' := by
  obtain ⟨pa, pc, rfl⟩ := hS.p.form
  obtain ⟨ka, kc, rfl⟩ := hS.c.form
  obtain ⟨sa, sc, rfl⟩ := hS.s.form
  have HE := Lib.hid (cS_enc S)
  have H := Lib.hid h
  have H0 := Lib.hid h0
  have HS := Lib.hid hS
  have hwr : ∀ o : Obj, Wr B b w (w.alloc o) := fun o => Wr.up ((Below.refl _ _).alloc (Nat.le_refl _) _) h.2
  have HW := Lib.hid hwr
  have HSM := Lib.hid hsm
  have HBE := Lib.hid hB
  have HL1 := Lib.hid (cPs_len hsm.p hsm.x)
  have HL2 := Lib.hid (cCs_len hsm.c)
  clear h h0 hS hwr hsm hB
  go_enter Tryd.func13, Tryd.ntmps13
  go_wp2_with fail
  refine (writeP_any B b [] S.parts _ w0 _ HBE.out (H0.out.trans (HW.out _).b) HS.out.p (H.out.alloc _) (by simp) HSM.out.p (by simp; omega) HSM.out.x).mono ?_
  rintro e w1 ⟨rfl, p1, b1⟩
  rw [List.nil_append] at p1
  have r1 : Rw w1 w.heap.size 26 #[.slice pa S.parts.length pc, .slice ka S.chans.length kc, .slice sa S.slots.length sc] := b1.k _ _ _ (by omega) (by decide) (Rw.new _ _ _ rfl)
  have W1 := Lib.hid ((HW.out _).trans b1)
  have P1 := Lib.hid p1
  have k1 := r1.cell (j := 1) rfl
  have R1 := Lib.hid r1
  clear p1 b1 r1 H HW
  go_wp2_with fail
  refine (writeC_any B b (cP.ls.enc S.parts) S.chans _ w0 _ HBE.out (H0.out.trans W1.out.b) HS.out.c P1.out (by have := HL1.out; omega) (by have := HSM.out.c; omega) (by have := W1.out.size; omega)).mono ?_
  rintro e w2 ⟨rfl, p2, b2⟩
  have r2 := b2.k _ _ _ (by omega) (by decide) R1.out
  have W2 := Lib.hid (W1.out.trans b2)
  have P2 := Lib.hid p2
  have k2 := r2.cell (j := 2) rfl
  clear p2 b2 r2 W1 P1 k1 R1
  go_wp2_with fail
  refine (writeT_any B b (cP.ls.enc S.parts ++ cC.ls.enc S.chans) S.slots _ w0 _ HBE.out (H0.out.trans W2.out.b) HS.out.s P2.out (by have := HL1.out; have := HL2.out; rw [List.length_append]; omega) (by have := HSM.out.s; omega) (by have := W2.out.size; omega)).mono ?_
  rintro e w4 ⟨rfl, p4, b4⟩
  go_wp2
  go_end0
  exact ⟨rfl, by rw [HE.out]; exact p4, W2.out.trans b4⟩
def imgB (S : SysD) : List UInt8 := if chkS S = 0 then cS.enc S else []
set_option maxRecDepth 100000 in
set_option maxHeartbeats 2000000 in
theorem imageWrite_any (S : SysD) (vp vc vs : Value) (w : World) (he : Env w) (hS : Sys w vp vc vs S) :
    Calls Tryd.prog 5 #[.agg #[vp, vc, vs]] w fun e w' => e = .returned (.tuple #[.string ⟨(imgB S).toArray⟩, .int .i64 (chkS S)]) ∧ Below w.heap.size w w' := by
  obtain ⟨pa, pc, rfl⟩ := hS.p.form
  obtain ⟨ka, kc, rfl⟩ := hS.c.form
  obtain ⟨sa, sc, rfl⟩ := hS.s.form
  have HE := Lib.hid he
  have HS := Lib.hid hS
  clear he hS
  go_enter Tryd.func5, Tryd.ntmps5
  go_wp2_with fail
  refine (confCheck_any S _ _ _ _ (HE.out.up (by repeat (first | exact Below.refl _ _ | assumption | refine Below.drew ?_ | refine Below.alloc ?_ (by first | (simp; done) | (simp; omega)) _ | refine Below.setCell ?_ (by first | (simp; done) | (simp; omega)) _))) (HS.out.up (by repeat (first | exact Below.refl _ _ | assumption | refine Below.drew ?_ | refine Below.alloc ?_ (by first | (simp; done) | (simp; omega)) _ | refine Below.setCell ?_ (by first | (simp; done) | (simp; omega)) _)))).mono ?_
  rintro e w1 ⟨rfl, b1⟩
  have z1 := b1.size
  simp at z1
  have R0 : Hid (Rw w1 w.heap.size 26 #[.slice pa S.parts.length pc, .slice ka S.chans.length kc, .slice sa S.slots.length sc]) := Rw.up (by repeat (first | exact Rw.new _ _ _ (by first | rfl | (simp; done) | omega | (simp; omega)) | refine Rw.alloc ?_ _)) b1 (by first | omega | (simp; done) | (simp; omega))
  have HB : Hid (Below w.heap.size w w1) := by
    refine Below.trans ?_ (b1.mono (by first | omega | (simp; done) | (simp; omega)))
    exact (by repeat (first | exact Below.refl _ _ | assumption | refine Below.drew ?_ | refine Below.alloc ?_ (by first | (simp; done) | (simp; omega)) _ | refine Below.setCell ?_ (by first | (simp; done) | (simp; omega)) _))
  clear b1
  by_cases hk : chkS S = 0
  · have HI : Hid (imgB S = cS.enc S) := Lib.hid (by unfold imgB; rw [if_pos hk])
    have HSM := Lib.hid (smallI hk)
    have s0 := R0.out.cell (j := 0) (v := .slice pa S.parts.length pc) rfl
    have s1 := R0.out.cell (j := 1) (v := .slice ka S.chans.length kc) rfl
    have s2 := R0.out.cell (j := 2) (v := .slice sa S.slots.length sc) rfl
    have HK := Lib.hid hk
    rw [hk]
    clear hk
    have R1 := Lib.hid (R0.out.alloc (.cells #[.pointer none, .slice none 0 0] 44))
    have s3 := R1.out.cell (j := 0) (v := .slice pa S.parts.length pc) rfl
    have s4 := R1.out.cell (j := 1) (v := .slice ka S.chans.length kc) rfl
    have s5 := R1.out.cell (j := 2) (v := .slice sa S.slots.length sc) rfl
    clear s0 s1 s2
    go_wp2_with fail
    refine (psystem_any w.heap.size w1.heap.size S HSM.out _ _ _ w _ rfl (HB.out.alloc (by omega) _) HS.out ⟨Or.inl ⟨by omega, .slice none 0 0, _root_.Go.heap_alloc_new _ _, World.ownsRow_nil _ _ _ _, by simp [Value.ownBlock]⟩, by simp; omega⟩ (by simp)).mono ?_
    rintro e w2 ⟨rfl, p2, b2⟩
    have HB2 := Lib.hid ((HB.out.alloc (by omega) _).trans b2.b)
    have P2 := Lib.hid p2
    clear p2 b2 s3 s4 s5
    go_wp2_with fail
    refine (bldString_any _ w.heap.size w1.heap.size (cS.enc S) _ P2.out.1 (by rw [cS_enc]; simp [Cod.ls])).mono ?_
    rintro e w3 ⟨rfl, b3⟩
    have HB3 := Lib.hid (HB2.out.trans b3)
    clear b3
    go_wp2
    go_ret2
    exact ⟨by rw [HI.out, HK.out] <;> rfl, HB3.out⟩
  · have hkb : (chkS S == 0) = false := by simpa using hk
    have HI : Hid (imgB S = []) := Lib.hid (by unfold imgB; rw [if_neg hk])
    go_wp2
    go_ret2
    exact ⟨by rw [HI.out] <;> rfl, HB.out⟩
end Go.Proofs.YtbhfnkbflikliaaDoor

namespace Go.Proofs.YtbhfnkbflikliaaDoor
set_option linter.unusedSimpArgs false
set_option linter.unusedVariables false
open Go.RowKit Go.Sort
theorem wp_call {o : Oper} {a : Act} {w : World} {K : Act → World → Prop} {Q : Exit → Act → World → Prop} (f : Nat) (args : Array Operand) (tys : Array TypeId)
    (ho : o.op = .call { callee := .value (.func f), args := args, argTypes := tys }) (hen : Enters f) (vs : Array Value) (hvs : args.map a.eval = vs) (h : Calls Tryd.prog f vs w fun e w' => ∃ v, e = .returned v ∧ K (a.put o.dst v) w') : Oper.wp Tryd.prog o a w K Q := by
  unfold Oper.wp
  subst hvs
  unfold Enters at hen
  simp [execOp, ho, resolve, invoke, hen, Result.andThen, go_sem]
  refine h.mono ?_
  rintro e w' ⟨v, rfl, hk⟩
  exact hk
end Go.Proofs.YtbhfnkbflikliaaDoor

namespace Go.Proofs.YtbhfnkbflikliaaDoor
set_option linter.unusedSimpArgs false
set_option linter.unusedVariables false
open Go.RowKit Go.Sort
section
variable {P : Program} {ops : Array Oper} {Q : Exit → Act → World → Prop} {md : Region.Mode} {S : World → Prop}
def Still (P : Program) (md : Region.Mode) (ops : Array Oper) (Q : Exit → Act → World → Prop) (S : World → Prop) (z : Nat) : Nat → Array Bool → Act → World → Prop
  | 0, done, a, w => Region.ready md ops done = [] ∧ Q .normal a w
  | n + 1, done, a, w => (Region.ready md ops done = [] → Q .normal a w) ∧
    ∀ i ∈ Region.ready md ops done, wpOp P ops Q i (fun a' w' => (i ≠ z → S w') ∧ Still P md ops Q S z n (done.setIfInBounds i true) a' w') a w
theorem Still.any {z : Nat} : ∀ (n : Nat) (done : Array Bool) (a : Act) (w : World), Still P md ops Q S z n done a w → wpAny P md ops Q n done a w
  | 0, _, _, _, h => h
  | n + 1, _, _, _, h => ⟨h.1, fun i hi => wpOp_mono (fun a' w' h' => Still.any n _ a' w' h'.2) (h.2 i hi)⟩
def waitsAll (md : Region.Mode) (ops : Array Oper) (z : Nat) : Bool :=
  match ops[z]? with
  | none => false
  | some o => (List.range ops.size).all fun i => i == z || o.after.any fun e => Region.binds md e && e.on == i
theorem waitsAll_spec {z i : Nat} {o : Oper} (h : waitsAll md ops z = true) (ho : ops[z]? = some o) (hi : i < ops.size) (hne : i ≠ z) : ∃ e ∈ o.after, Region.binds md e = true ∧ e.on = i := by
  simp only [waitsAll, ho, List.all_eq_true, List.mem_range] at h
  have h1 := h i hi
  simp only [Bool.or_eq_true, beq_iff_eq, hne, false_or] at h1
  obtain ⟨e, he, hb⟩ := Array.any_eq_true'.1 h1
  simp only [Bool.and_eq_true, beq_iff_eq] at hb
  exact ⟨e, he, hb.1, hb.2⟩
theorem unready {i : Nat} {done : Array Bool} {oj : Oper} (hr : i ∈ Region.ready md ops done) (hall : ∀ e ∈ oj.after, Region.binds md e = true → done.getD e.on false = true) :
    ∀ e ∈ oj.after, Region.binds md e = true → e.on ≠ i := by
  intro e he hb hei
  have h1 := hall e he hb
  have h0 := (mem_ready.1 hr).1
  rw [hei] at h1
  by_cases hl : i < done.size
  · simp [hl] at h0 h1
    simp [h0] at h1
  · simp [Array.getElem?_eq_none (Nat.le_of_not_lt hl)] at h1
theorem Still.first {z i : Nat} {oi : Oper} {v : Value} (hz : waitsAll md ops z = true) (hi : ops[i]? = some oi) (hs : Region.noSelect ops = true) (hQ : ∀ c a w, Q (.panic c) (a.put oi.dst v) w → Q (.panic c) a w) (n : Nat) :
    ∀ (done : Array Bool) (a : Act) (w : World),
      (∀ j oj, ops[j]? = some oj → j ≠ i → done.getD j true = false → (∀ e ∈ oj.after, Region.binds md e = true → e.on ≠ i) → oi.apart ops oj = true) →
      i ∈ Region.ready md ops done → YieldsIf P ops S oi v a → S w → Still P md ops Q S z n (done.setIfInBounds i true) (a.put oi.dst v) w → Still P md ops Q S z (n + 1) done a w := by
  have sel := Region.noSelect_spec hs
  have hlt : i < ops.size := (Array.getElem?_eq_some_iff.1 hi).1
  induction n with
  | zero =>
    intro done a w _ hr hy hS H
    refine ⟨fun e => by simp [e] at hr, fun j hj => ?_⟩
    rcases Decidable.em (j = i) with rfl | hne
    · exact hy.wpOp hi hS ⟨fun _ => hS, H⟩
    · have hm := ready_mono hj hne
      simp [H.1] at hm
  | succ n ih =>
    intro done a w hap hr hy hS H
    refine ⟨fun e => by simp [e] at hr, fun j hj => ?_⟩
    rcases Decidable.em (j = i) with rfl | hne
    · exact hy.wpOp hi hS ⟨fun _ => hS, H⟩
    · obtain ⟨hju, oj, hoj, hall⟩ := mem_ready.1 hj
      have hno := unready hr hall
      have hjz : j ≠ z := by
        rintro rfl
        obtain ⟨e, he, hb, hei⟩ := waitsAll_spec hz hoj hlt (Ne.symm hne)
        exact hno e he hb hei
      refine wpOp_mono (fun a' w' hK => ?_) (wpOp_putIf hoj (hap j oj hoj hne hju hno) (fun cs b => sel i oi cs b hi) (fun cs b => sel j oj cs b hoj) hQ hy (H.2 j (ready_mono hj hne)))
      obtain ⟨hy', hst, hrest⟩ := hK
      have hS' := hst hjz
      refine ⟨fun _ => hS', ih _ a' w' (fun k ok hk hki hun hno' => hap k ok hk hki ?_ hno') (ready_mono hr (Ne.symm hne)) hy' hS' (by rw [Array.setIfInBounds_comm _ _ hne]; exact hrest)⟩
      rcases Decidable.em (j = k) with rfl | hjk
      · exact hju
      · rwa [getD_set_ne true hjk] at hun
theorem Still.take {z i : Nat} {oi : Oper} {v : Value} {n : Nat} {done : Array Bool} {a : Act} {w : World} (hz : waitsAll md ops z = true) (hi : ops[i]? = some oi) (hs : Region.noSelect ops = true)
    (hf : Region.free md ops done i = true) (hr : (Region.ready md ops done).contains i = true) (hQ : ∀ c a w, Q (.panic c) (a.put oi.dst v) w → Q (.panic c) a w) (hy : YieldsIf P ops S oi v a) (hS : S w)
    (h : Still P md ops Q S z n (done.setIfInBounds i true) (a.put oi.dst v) w) : Still P md ops Q S z (n + 1) done a w :=
  Still.first hz hi hs hQ n done a w (Region.free_spec hi hf) (by simpa using hr) hy hS h
def waitsOn (md : Region.Mode) (ops : Array Oper) (z i : Nat) : Bool :=
  match ops[z]? with
  | none => false
  | some o => o.after.any fun e => Region.binds md e && e.on == i
def waitsBy (md : Region.Mode) (ops : Array Oper) : Nat → List Nat → Nat → Bool
  | z, [], i => waitsOn md ops z i
  | z, p :: ps, i => waitsOn md ops z p && waitsBy md ops p ps i
theorem waitsOn_ready {z i : Nat} {done : Array Bool} (h : waitsOn md ops z i = true) (hr : z ∈ Region.ready md ops done) : done.getD i false = true := by
  obtain ⟨_, o, ho, hall⟩ := mem_ready.1 hr
  simp only [waitsOn, ho] at h
  obtain ⟨e, he, hb⟩ := Array.any_eq_true'.1 h
  simp only [Bool.and_eq_true, beq_iff_eq] at hb
  have := hall e he hb.1
  rwa [hb.2] at this
theorem getD_both {done : Array Bool} {p : Nat} (h : done.getD p true = false) : done.getD p false = false := by
  by_cases hp : p < done.size
  · simp [hp] at h ⊢; exact h
  · simp [Array.getElem?_eq_none (Nat.le_of_not_lt hp)]
theorem waitsBy_ready {i j : Nat} {done : Array Bool} (hi : done.getD i true = false) (hj : j ∈ Region.ready md ops done) : ∀ (ps : List Nat) (z : Nat), waitsBy md ops z ps i = true → (∀ p ∈ ps, done.getD p true = false) → j ∉ z :: ps
  | [], z, h, _ => by
    intro hm
    simp at hm
    subst hm
    have := waitsOn_ready h hj
    rw [getD_both hi] at this
    cases this
  | p :: ps, z, h, hu => by
    simp only [waitsBy, Bool.and_eq_true] at h
    intro hm
    rcases List.mem_cons.1 hm with rfl | hm
    · have := waitsOn_ready h.1 hj
      rw [getD_both (hu p (by simp))] at this
      cases this
    · exact waitsBy_ready hi hj ps p h.2 (fun q hq => hu q (by simp [hq])) hm
theorem Still.firstBy {z i : Nat} {ps : List Nat} {oi : Oper} {v : Value} (hz : waitsBy md ops z ps i = true) (hi : ops[i]? = some oi) (hs : Region.noSelect ops = true) (hQ : ∀ c a w, Q (.panic c) (a.put oi.dst v) w → Q (.panic c) a w) (n : Nat) :
    ∀ (done : Array Bool) (a : Act) (w : World), (∀ p ∈ ps, done.getD p true = false) →
      (∀ j oj, ops[j]? = some oj → j ≠ i → done.getD j true = false → (∀ e ∈ oj.after, Region.binds md e = true → e.on ≠ i) → oi.apart ops oj = true) →
      i ∈ Region.ready md ops done → YieldsIf P ops S oi v a → S w → Still P md ops Q S z n (done.setIfInBounds i true) (a.put oi.dst v) w → Still P md ops Q S z (n + 1) done a w := by
  have sel := Region.noSelect_spec hs
  have hlt : i < ops.size := (Array.getElem?_eq_some_iff.1 hi).1
  induction n with
  | zero =>
    intro done a w _ _ hr hy hS H
    refine ⟨fun e => by simp [e] at hr, fun j hj => ?_⟩
    rcases Decidable.em (j = i) with rfl | hne
    · exact hy.wpOp hi hS ⟨fun _ => hS, H⟩
    · have hm := ready_mono hj hne
      simp [H.1] at hm
  | succ n ih =>
    intro done a w hu hap hr hy hS H
    refine ⟨fun e => by simp [e] at hr, fun j hj => ?_⟩
    rcases Decidable.em (j = i) with rfl | hne
    · exact hy.wpOp hi hS ⟨fun _ => hS, H⟩
    · obtain ⟨hju, oj, hoj, hall⟩ := mem_ready.1 hj
      have hno := unready hr hall
      have hnm := waitsBy_ready (mem_ready.1 hr).1 hj ps z hz hu
      have hjz : j ≠ z := fun e => hnm (by simp [e])
      refine wpOp_mono (fun a' w' hK => ?_) (wpOp_putIf hoj (hap j oj hoj hne hju hno) (fun cs b => sel i oi cs b hi) (fun cs b => sel j oj cs b hoj) hQ hy (H.2 j (ready_mono hj hne)))
      obtain ⟨hy', hst, hrest⟩ := hK
      have hS' := hst hjz
      refine ⟨fun _ => hS', ih _ a' w' (fun p hp => ?_) (fun k ok hk hki hun hno' => hap k ok hk hki ?_ hno') (ready_mono hr (Ne.symm hne)) hy' hS' (by rw [Array.setIfInBounds_comm _ _ hne]; exact hrest)⟩
      · rw [getD_set_ne true (fun e => hnm (by simp [e, hp]))]
        exact hu p hp
      · rcases Decidable.em (j = k) with rfl | hjk
        · exact hju
        · rwa [getD_set_ne true hjk] at hun
theorem Still.takeBy {z i : Nat} (ps : List Nat) {oi : Oper} {v : Value} {n : Nat} {done : Array Bool} {a : Act} {w : World} (hz : waitsBy md ops z ps i = true) (hu : ps.all (fun p => done.getD p true == false) = true) (hi : ops[i]? = some oi) (hs : Region.noSelect ops = true)
    (hf : Region.free md ops done i = true) (hr : (Region.ready md ops done).contains i = true) (hQ : ∀ c a w, Q (.panic c) (a.put oi.dst v) w → Q (.panic c) a w) (hy : YieldsIf P ops S oi v a) (hS : S w)
    (h : Still P md ops Q S z n (done.setIfInBounds i true) (a.put oi.dst v) w) : Still P md ops Q S z (n + 1) done a w :=
  Still.firstBy hz hi hs hQ n done a w (fun p hp => by simpa using (List.all_eq_true.1 hu) p hp) (Region.free_spec hi hf) (by simpa using hr) hy hS h
theorem Still.all {z : Nat} {rs : List Nat} {n : Nat} {done : Array Bool} {a : Act} {w : World} (hr : Region.ready md ops done = rs) (hne : rs ≠ [])
    (h : ∀ i ∈ rs, wpOp P ops Q i (fun a' w' => (i ≠ z → S w') ∧ Still P md ops Q S z n (done.setIfInBounds i true) a' w') a w) : Still P md ops Q S z (n + 1) done a w :=
  ⟨fun e => absurd (hr ▸ e) hne, hr ▸ h⟩
theorem Still.over {z : Nat} {done : Array Bool} {a : Act} {w : World} (hr : Region.ready md ops done = []) (h : Q .normal a w) (n : Nat) : Still P md ops Q S z n done a w := by
  cases n with
  | zero => exact ⟨hr, h⟩
  | succ n => exact ⟨fun _ => h, by rw [hr]; simp⟩
theorem region_still {id : Nat} {a : Act} {w : World} (z : Nat) (hm : P.follows .mixedOrders = true) (hS : S w.drew) (h : S w.drew → Still P .any ops Q S z ops.size (Array.replicate ops.size false) a w.drew) : (Code.region id ops true).wp P Q a w :=
  wp_region_any hm (Still.any _ _ _ _ (h hS))
theorem Still.one {z i : Nat} {o : Oper} {rs : List Nat} {n : Nat} {done : Array Bool} {a : Act} {w : World} (ho : ops[i]? = some o) (hg : o.guard = none)
    (h : ∀ K : Act → World → Prop, (∀ a' w', (i ≠ z → S w') → ((i ≠ z → S w') → Still P md ops Q S z n (done.setIfInBounds i true) a' w') → K a' w') → Oper.wp P o a w K Q)
    (hs : ∀ j ∈ rs, wpOp P ops Q j (fun a' w' => (j ≠ z → S w') ∧ Still P md ops Q S z n (done.setIfInBounds j true) a' w') a w) :
    ∀ j ∈ i :: rs, wpOp P ops Q j (fun a' w' => (j ≠ z → S w') ∧ Still P md ops Q S z n (done.setIfInBounds j true) a' w') a w := by
  intro j hj
  rcases List.mem_cons.1 hj with rfl | hj
  · unfold wpOp
    simp only [ho, Region.wanted, hg, if_true]
    exact .inl (h _ fun a' w' h1 h2 => ⟨h1, h2 h1⟩)
  · exact hs j hj
end
end Go.Proofs.YtbhfnkbflikliaaDoor

namespace Go.Proofs.YtbhfnkbflikliaaDoor
set_option linter.unusedSimpArgs false
set_option linter.unusedVariables false
open Go.RowKit Go.Sort
section
variable {P : Program} {ops : Array Oper} {Q : Exit → Act → World → Prop} {md : Region.Mode} {S : World → Prop}
theorem Still.oneG {z i : Nat} {o : Oper} {rs : List Nat} {n : Nat} {done : Array Bool} {a : Act} {w : World} (ho : ops[i]? = some o) (hw : Region.wanted o (yielded ops a.tmps) = true)
    (h : ∀ K : Act → World → Prop, (∀ a' w', (i ≠ z → S w') → ((i ≠ z → S w') → Still P md ops Q S z n (done.setIfInBounds i true) a' w') → K a' w') → Oper.wp P o a w K Q)
    (hs : ∀ j ∈ rs, wpOp P ops Q j (fun a' w' => (j ≠ z → S w') ∧ Still P md ops Q S z n (done.setIfInBounds j true) a' w') a w) :
    ∀ j ∈ i :: rs, wpOp P ops Q j (fun a' w' => (j ≠ z → S w') ∧ Still P md ops Q S z n (done.setIfInBounds j true) a' w') a w := by
  intro j hj
  rcases List.mem_cons.1 hj with rfl | hj
  · unfold wpOp
    simp only [ho, hw, if_true]
    exact .inl (h _ fun a' w' h1 h2 => ⟨h1, h2 h1⟩)
  · exact hs j hj
end
end Go.Proofs.YtbhfnkbflikliaaDoor
