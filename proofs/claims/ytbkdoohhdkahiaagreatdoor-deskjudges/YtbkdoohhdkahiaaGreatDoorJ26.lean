/- Partitions and systems, written; image.Write. -/
import Derived.Test.YtbkdoohhdkahiaaGreatDoorJ5
import Derived.Test.YtbkdoohhdkahiaaGreatDoorJ4
import Derived.Test.YtbkdoohhdkahiaaGreatDoorJ6
import Derived.Test.YtbkdoohhdkahiaaGreatDoorJ19
import Derived.Test.YtbkdoohhdkahiaaGreatDoorJ25
import Derived.Test.YtbkdoohhdkahiaaGreatDoorJ12
import Derived.Test.YtbkdoohhdkahiaaGreatDoorJ9
import Derived.Laws.IdiomStrings
import Derived.Deep.RegionLaw
import Derived.Deep.CutRange
import Derived.Test.YtbkdoohhdkahiaaGreatDoorJ7
namespace Go.Proofs.YtbkdoohhdkahiaaGreatDoor
set_option linter.unusedSimpArgs false
set_option linter.unusedVariables false
set_option maxRecDepth 100000
set_option maxHeartbeats 8000000
open Go.RowKit Go.Sort
variable {xs : List Value} {S : SysD} {B c g n size : Nat} {e t : TypeId} {cs : Array Value} {W w w' w1 w2 : World} {q : List UInt8} {v : Value}
theorem xx3 (B b : Nat) (l : List UInt8) (p : Prt) (vc vi : Value) (w0 w : World) (hB : B = w0.heap.size) (h0 : Below B w0 w) (hS : PrtR w0 vc vi p) (h : Pap B b l w) (hl : l.length <= 600000) (hc : p.code.length <= 1000) (hi : p.inn.length <= 1000) (hb : b < w.heap.size) :
  Calls Tryz.prog 88 #[.pointer (some ⟨b, 0, none⟩), .agg #[vc, vi]] w fun e w' => e = .returned (.tuple #[]) /\ Pap B b (l ++ cP.enc p) w' /\ Wr B b w w' := by
 obtain ⟨ca, cc, rfl⟩ := hS.code.form
 obtain ⟨ia, ic, rfl⟩ := hS.inn.form
 have HE : Hid (l ++ cP.enc p = (l ++ cI.ls.enc p.code) ++ cN.ls.enc p.inn) := hd (by rw [show cP.enc p = cI.ls.enc p.code ++ cN.ls.enc p.inn from rfl, List.append_assoc])
 have H := hd h
 have HL := hd hl
 have H0 := hd h0
 have HS := hd hS
 have hwr : ∀ o : Obj, Wr B b w (w.alloc o) := fun o => Wr.up ((Below.refl _ _).alloc (Nat.le_refl _) _) h.2
 have HW := hd hwr
 have hle : (cI.ls.enc p.code).length <= 1 + 11 * p.code.length := by
  have := xb0 (enc := cI.enc) (m := 11) (xs := p.code) (fun x _ => xy4 x)
  show (by8 _ :: p.code.flatMap cI.enc).length <= _
  rw [List.length_cons]
  omega
 have HLE : Hid ((l ++ cI.ls.enc p.code).length <= 700000) := hd (by rw [List.length_append]; omega)
 have HC := hd hc
 have HI := hd hi
 have HBE := hd hB
 clear h hl h0 hS hwr hle hc hi hB
 go_enter Tryz.func88, Tryz.ntmps88
 go_wp2_with fail
 refine (xv8 B b l p.code _ w0 _ HBE.out (H0.out.trans (HW.out _).b) HS.out.code (H.out.alloc _) (by have := HL.out; omega) HC.out so).mono ?_
 rintro e w1 ⟨rfl, p1, b1⟩
 have r1 : Rw w1 w.heap.size 43 #[.slice ca p.code.length cc, .slice ia p.inn.length ic] := b1.k _ _ _ om (by decide) (Rw.new _ _ _ rfl)
 have W1 := hd ((HW.out _).trans b1)
 have P1 := hd p1
 have k1 := r1.cell (j := 1) rfl
 clear p1 b1 r1 H HW
 go_wp2_with fail
 refine (xvt B b (l ++ cI.ls.enc p.code) p.inn _ w0 _ HBE.out (H0.out.trans W1.out.b) HS.out.inn P1.out HLE.out HI.out (by have := W1.out.size; omega)).mono ?_
 rintro e w4 ⟨rfl, p4, b4⟩
 go_wp2
 go_end0
 exact ⟨rfl, by rw [HE.out]; exact p4, W1.out.trans b4⟩
theorem x2d {p : Prt} (hc : p.code.length <= 20) (hi : p.inn.length <= 12) : (cP.enc p).length <= 400 := by
 have h1 := xb0 (enc := cI.enc) (m := 11) (xs := p.code) (fun x _ => xy4 x)
 have h2 := xb0 (enc := cN.enc) (m := 11) (xs := p.inn) (fun x _ => x2k x)
 show ((by8 _ :: p.code.flatMap cI.enc) ++ (by8 _ :: p.inn.flatMap cN.enc)).length <= _
 rw [List.length_append, List.length_cons, List.length_cons]
 omega
theorem xur (B b : Nat) (l : List UInt8) (xs : List Prt) (v : Value) (w0 w : World) (hB : B = w0.heap.size) (h0 : Below B w0 w) (hS : PartsR w0 v xs) (h : Pap B b l w) (hl : l.length <= 500000) (hx : xs.length <= 4) (hb : b < w.heap.size) (hxs : ∀ p ∈ xs, p.code.length <= 20 /\ p.inn.length <= 12) :
  Calls Tryz.prog 87 #[.pointer (some ⟨b, 0, none⟩), v, .func (.func 88) #[.pointer (some ⟨b, 0, none⟩)] #[]] w fun e w' => e = .returned (.tuple #[]) /\ Pap B b (l ++ cP.ls.enc xs) w' /\ Wr B b w w' := by
 have hen : xav 88 := xa8 Tryz.func88 kr kr
 unfold xav at hen
 obtain ⟨ao, cap, rfl⟩ := hS.form
 have H := hd h
 have HL := hd hl
 have H0 := hd h0
 have HS := hd hS
 have HB := hd hB
 have HXS := hd hxs
 clear h hl h0 hS hB hxs
 go_enter Tryz.func87, Tryz.ntmps87
 go_wp2_with fail
 refine (xb7 B b l _ _ H.out (by have := HL.out; omega)).mono ?_
 rintro e w1 ⟨rfl, p1, b1⟩
 have P1 := hd p1
 have W1 := hd b1
 clear p1 b1
 go_wp2
 go_loopw [14] (fun i wr => ∃ k : Nat, i = .int .i64 k /\ k <= xs.length /\ Hid (Pap B b ((l ++ [by8 xs.length]) ++ (xs.take k).flatMap cP.enc) wr) /\ Hid (Wr B b w wr)) (fun i _ => xs.length - (intOf i).toNat)
 case atStart => exact ⟨0, rfl, Nat.zero_le _, by rw [List.take_zero, List.flatMap_nil, List.append_nil]; exact P1, W1⟩
 case round =>
  obtain ⟨k, rfl, hk, HP, WD⟩ := hrel
  by_cases hlt : k < xs.length
  .have hli : (k : Int) < xs.length := by omega
   have hbz : b < wr.heap.size := Nat.lt_of_lt_of_le hb WD.out.size
   have B0 := hd (H0.out.trans WD.out.b)
   have B0' := B0
   rw [HB.out] at B0
   obtain ⟨sb, off, cap', e1, hcap, hbw, hcs⟩ := HS.out.open om
   cases e1
   obtain ⟨vc, vi, c0, c1, hp⟩ := hcs k hlt
   obtain ⟨ca, cc, rfl⟩ := hp.code.form
   obtain ⟨ia, ic, rfl⟩ := hp.inn.form
   have HPR := hd hp
   have c0 := bcl B0.out hbw c0
   have c1 := bcl B0.out hbw c1
   have HT := hd (xbo cP.enc xs k hlt)
   have hfl : ((xs.take k).flatMap cP.enc).length <= 400 * (xs.take k).length := xb0 (fun x hx => x2d (HXS.out x (List.mem_of_mem_take hx)).1 (HXS.out x (List.mem_of_mem_take hx)).2)
   have HFL : Hid (((l ++ [by8 xs.length]) ++ (xs.take k).flatMap cP.enc).length <= 600000) := hd (by have := HL.out; rw [List.length_take] at hfl; simp at hfl ⊢; omega)
   have HCL := hd (HXS.out xs[k] (List.getElem_mem _))
   clear hcs hfl hp
   generalize xs[k] = q at *
   go_wp2_with fail
   refine (xx3 B b ((l ++ [by8 xs.length]) ++ (xs.take k).flatMap cP.enc) q _ _ w0 _ HB.out (B0'.out.alloc (Nat.le_trans H.out.2 (by have := WD.out.size; omega)) _) HPR.out (HP.out.alloc _) HFL.out (by have := HCL.out.1; omega) (by have := HCL.out.2; omega) so).mono ?_
   rintro e w2 ⟨rfl, p1, b1⟩
   have P2 := hd p1
   have W2 := hd ((WD.out.trans (Wr.up ((Below.refl _ _).alloc (Nat.le_refl _) _) HP.out.2)).trans b1)
   clear p1 b1
   go_wp2
   go_roundw
   case rel => exact ⟨k + 1, by go_num, by omega, by rw [HT.out, <- List.append_assoc]; exact P2, W2⟩
   case measure => simp [intOf]; omega
  .obtain rfl : k = xs.length := by omega
   have hli : ¬ ((xs.length : Int) < xs.length) := by omega
   have P2 : Pap B b ((l ++ [by8 xs.length]) ++ (xs.take xs.length).flatMap cP.enc) wr := HP.out
   rw [List.take_length, List.append_assoc] at P2
   have HP2 := hd P2
   clear P2
   go_wp2
   go_end0
   exact ⟨rfl, HP2.out, WD.out⟩
structure SmallI (S : SysD) : Prop where
 p : S.parts.length <= 4
 c : S.chans.length <= 6
 s : S.slots.length <= 6
 x : ∀ p ∈ S.parts, p.code.length <= 20 /\ p.inn.length <= 12
theorem xze {xs : List Prt} (hx : xs.length <= 4) (hxs : ∀ p ∈ xs, p.code.length <= 20 /\ p.inn.length <= 12) : (cP.ls.enc xs).length <= 1601 := by
 have h1 := xb0 (enc := cP.enc) (m := 400) (xs := xs) (fun x hx => x2d (hxs x hx).1 (hxs x hx).2)
 show (by8 _ :: xs.flatMap cP.enc).length <= _
 rw [List.length_cons]
 omega
theorem xyf {xs : List Chn} (hx : xs.length <= 6) : (cC.ls.enc xs).length <= 67 := by
 have h1 := xb0 (enc := cC.enc) (m := 11) (xs := xs) (fun x hx => x2p x)
 show (by8 _ :: xs.flatMap cC.enc).length <= _
 rw [List.length_cons]
 omega
theorem x3v {xs : List Slt} (hx : xs.length <= 6) : (cT.ls.enc xs).length <= 67 := by
 have h1 := xb0 (enc := cT.enc) (m := 11) (xs := xs) (fun x hx => x2h x)
 show (by8 _ :: xs.flatMap cT.enc).length <= _
 rw [List.length_cons]
 omega
theorem xt5 (S : SysD) : cS.enc S = (cP.ls.enc S.parts ++ cC.ls.enc S.chans) ++ cT.ls.enc S.slots := by
 rw [show cS.enc S = cP.ls.enc S.parts ++ (cC.ls.enc S.chans ++ cT.ls.enc S.slots) from rfl, List.append_assoc]
theorem x4v (h : SmallI S) : (cS.enc S).length <= 2000 := by
 rw [xt5, List.length_append, List.length_append]
 have h1 := xze h.p h.x
 have h2 := xyf h.c
 have h3 := x3v h.s
 omega
theorem xte (h : xb3 S = 0) : SmallI S := by
 obtain ⟨h1, h2, _⟩ := xcu h
 unfold xbd at h1
 simp only [Bool.and_eq_true, decide_eq_true_eq, Bool.not_eq_true', List.any_eq_false] at h1
 obtain ⟨⟨a, b, c, d, e⟩, f⟩ := h1
 refine ⟨b, c, e, fun p hp => ?_⟩
 obtain ⟨j, hj, rfl⟩ := List.mem_iff_getElem.1 hp
 have := xem (h2 j hj)
 have g := f _ hp
 exact ⟨this.2.1, by omega⟩
theorem xr9 (B b : Nat) (S : SysD) (hsm : SmallI S) (vp vc vs : Value) (w0 w : World) (hB : B = w0.heap.size) (h0 : Below B w0 w) (hS : Sys w0 vp vc vs S) (h : Pap B b [] w) (hb : b < w.heap.size) :
  Calls Tryz.prog 47 #[.pointer (some ⟨b, 0, none⟩), .agg #[vp, vc, vs]] w fun e w' => e = .returned (.tuple #[]) /\ Pap B b (cS.enc S) w' /\ Wr B b w w' := by
 obtain ⟨pa, pc, rfl⟩ := hS.p.form
 obtain ⟨ka, kc, rfl⟩ := hS.c.form
 obtain ⟨sa, sc, rfl⟩ := hS.s.form
 have HE := hd (xt5 S)
 have H := hd h
 have H0 := hd h0
 have HS := hd hS
 have hwr : ∀ o : Obj, Wr B b w (w.alloc o) := fun o => Wr.up ((Below.refl _ _).alloc (Nat.le_refl _) _) h.2
 have HW := hd hwr
 have HSM := hd hsm
 have HBE := hd hB
 have HL1 := hd (xze hsm.p hsm.x)
 have HL2 := hd (xyf hsm.c)
 clear h h0 hS hwr hsm hB
 go_enter Tryz.func47, Tryz.ntmps47
 go_wp2_with fail
 refine (xur B b [] S.parts _ w0 _ HBE.out (H0.out.trans (HW.out _).b) HS.out.p (H.out.alloc _) (by simp) HSM.out.p so HSM.out.x).mono ?_
 rintro e w1 ⟨rfl, p1, b1⟩
 rw [List.nil_append] at p1
 have r1 : Rw w1 w.heap.size 39 #[.slice pa S.parts.length pc, .slice ka S.chans.length kc, .slice sa S.slots.length sc] := b1.k _ _ _ om (by decide) (Rw.new _ _ _ rfl)
 have W1 := hd ((HW.out _).trans b1)
 have P1 := hd p1
 have k1 := r1.cell (j := 1) rfl
 have R1 := hd r1
 clear p1 b1 r1 H HW
 go_wp2_with fail
 refine (xu1 B b (cP.ls.enc S.parts) S.chans _ w0 _ HBE.out (H0.out.trans W1.out.b) HS.out.c P1.out (by have := HL1.out; omega) (by have := HSM.out.c; omega) (by have := W1.out.size; omega)).mono ?_
 rintro e w2 ⟨rfl, p2, b2⟩
 have r2 := b2.k _ _ _ om (by decide) R1.out
 have W2 := hd (W1.out.trans b2)
 have P2 := hd p2
 have k2 := r2.cell (j := 2) rfl
 clear p2 b2 r2 W1 P1 k1 R1
 go_wp2_with fail
 refine (xu6 B b (cP.ls.enc S.parts ++ cC.ls.enc S.chans) S.slots _ w0 _ HBE.out (H0.out.trans W2.out.b) HS.out.s P2.out (by have := HL1.out; have := HL2.out; rw [List.length_append]; omega) (by have := HSM.out.s; omega) (by have := W2.out.size; omega)).mono ?_
 rintro e w4 ⟨rfl, p4, b4⟩
 go_wp2
 go_end0
 exact ⟨rfl, by rw [HE.out]; exact p4, W2.out.trans b4⟩
def x3p (S : SysD) : List UInt8 := if xb3 S = 0 then cS.enc S else []
theorem xma (S : SysD) (vp vc vs : Value) (w : World) (he : Env w) (hS : Sys w vp vc vs S) :
  Calls Tryz.prog 14 #[.agg #[vp, vc, vs]] w fun e w' => e = .returned (.tuple #[.string ⟨(x3p S).toArray⟩, .int .i64 (xb3 S)]) /\ Below w.heap.size w w' := by
 obtain ⟨pa, pc, rfl⟩ := hS.p.form
 obtain ⟨ka, kc, rfl⟩ := hS.c.form
 obtain ⟨sa, sc, rfl⟩ := hS.s.form
 have HE := hd he
 have HS := hd hS
 clear he hS
 go_enter Tryz.func14, Tryz.ntmps14
 go_wp2_with fail
 refine (xcc S _ _ _ _ (HE.out.up up0) (HS.out.up up0)).mono ?_
 rintro e w1 ⟨rfl, b1⟩
 have z1 := b1.size
 simp at z1
 have R0 : Hid (Rw w1 w.heap.size 39 #[.slice pa S.parts.length pc, .slice ka S.chans.length kc, .slice sa S.slots.length sc]) := Rw.up rn0 b1 o3
 have HB : Hid (Below w.heap.size w w1) := by
  refine Below.trans ?_ (b1.mono o3)
  exact up0
 clear b1
 by_cases hk : xb3 S = 0
 .have HI : Hid (x3p S = cS.enc S) := hd (by unfold x3p; rw [if_pos hk])
  have HSM := hd (xte hk)
  have s0 := R0.out.cell (j := 0) (v := .slice pa S.parts.length pc) rfl
  have s1 := R0.out.cell (j := 1) (v := .slice ka S.chans.length kc) rfl
  have s2 := R0.out.cell (j := 2) (v := .slice sa S.slots.length sc) rfl
  have HK := hd hk
  rw [hk]
  clear hk
  have R1 := hd (R0.out.alloc (.cells #[.pointer none, .slice none 0 0] 110))
  have s3 := R1.out.cell (j := 0) (v := .slice pa S.parts.length pc) rfl
  have s4 := R1.out.cell (j := 1) (v := .slice ka S.chans.length kc) rfl
  have s5 := R1.out.cell (j := 2) (v := .slice sa S.slots.length sc) rfl
  clear s0 s1 s2
  go_wp2_with fail
  refine (xr9 w.heap.size w1.heap.size S HSM.out _ _ _ w _ rfl (HB.out.alloc om _) HS.out ⟨Or.inl ⟨by omega, .slice none 0 0, _root_.Go.heap_alloc_new _ _, World.ownsRow_nil _ _ _ _, by simp [Value.ownBlock]⟩, by simp; omega⟩ (by simp)).mono ?_
  rintro e w2 ⟨rfl, p2, b2⟩
  have HB2 := hd ((HB.out.alloc om _).trans b2.b)
  have P2 := hd p2
  clear p2 b2 s3 s4 s5
  go_wp2_with fail
  refine (xfj _ w.heap.size w1.heap.size (cS.enc S) _ P2.out.1 (by rw [xt5]; simp [Cod.ls])).mono ?_
  rintro e w3 ⟨rfl, b3⟩
  have HB3 := hd (HB2.out.trans b3)
  clear b3
  go_wp2
  go_ret2
  exact ⟨by rw [HI.out, HK.out] <;> rfl, HB3.out⟩
 .have hkb : (xb3 S == 0) = false := by simpa using hk
  have HI : Hid (x3p S = []) := hd (by unfold x3p; rw [if_neg hk])
  go_wp2
  go_ret2
  exact ⟨by rw [HI.out] <;> rfl, HB.out⟩
structure Ib (w wr : World) (row : Array Value) (v : Value) (n : Nat) (l : List UInt8) : Prop where
 r : Rw wr w.heap.size 39 row
 o : wr.ownsRow (w.heap.size + 1) 5 1 v n (Lib.byteCells l)
 b : Below w.heap.size w wr
section
variable {w wr wr' : World} {row : Array Value} {v v' : Value} {n m : Nat} {l news : List UInt8}
theorem Ib.z (h : Ib w wr row v n l) : w.heap.size + 1 <= wr.heap.size := h.r.lt
theorem Ib.len (h : Ib w wr row v n l) : l.length = n := by have := h.o.1; rw [Lib.byteCells_length] at this; omega
theorem Ib.alloc (h : Ib w wr row v n l) (o : Obj) : Ib w (wr.alloc o) row v n l := ⟨h.r.alloc _, h.o.alloc _, h.b.alloc h.b.size _⟩
theorem Ib.drew (h : Ib w wr row v n l) : Ib w wr.drew row v n l := ⟨h.r, h.o, h.b.drew⟩
theorem xrp (hr : Rw wr c t cs) (ht : t ≠ 5) (h : Ib w wr row v n l) (hg : wr.grownBy wr' v.ownBlock) : Rw wr' c t cs := by
 refine (hg.block c hr.lt (fun e => ?_)).trans hr
 rcases h.o.2 with ⟨rfl, _⟩ | ⟨g', cap', cur', rfl, _, hh, _⟩
 .cases e
 .simp [Value.ownBlock] at e
  subst e
  have h5 := (show wr.heap[c]? = _ from hr).symm.trans hh
  injection h5 with h5
  injection h5 with _ h5
  exact ht h5
theorem Ib.grow (h : Ib w wr row v n l) (hg : wr.grownBy wr' v.ownBlock) (ho : wr'.ownsRow (w.heap.size + 1) 5 1 v' (n + m) (Lib.byteCells l ++ Lib.byteCells news)) : Ib w wr' row v' (n + m) (l ++ news) :=
 ⟨xrp h.r (by decide) h hg, by rw [xcr]; exact ho, h.b.grown hg h.b.size (fun k e => by have := xab h.o k e; omega)⟩
end
theorem xd8 (l : List UInt8) : ∀ u ∈ Lib.byteCells l, u.oneCell' = true := fun u hu => by
 simp [Lib.byteCells] at hu
 obtain ⟨b, _, rfl⟩ := hu
 rfl
theorem xzv (w : World) (row : Array Value) (x : UInt8) : Ib w ((w.alloc (.cells row 39)).alloc (.cells #[.int .u8 x.toNat] 5)) row (.slice (some ⟨w.heap.size + 1, 0, none⟩) 1 1) 1 [x] := by
 refine ⟨Rw.alloc (Rw.new _ _ _ rfl) _, ?_, ((Below.refl _ _).alloc (Nat.le_refl _) _).alloc (by simp) _⟩
 have := World.ownsRow_lit (base := w.heap.size + 1) (e := 5) (size := 1) (w.alloc (.cells row 39)) #[.int .u8 x.toNat] 1 (by simp) (by unfold maxLen; omega) rfl
 simpa [Lib.byteCells] using this
theorem xl8 (S : SysD) (hsm : SmallI S) (vp vc vs : Value) (w : World) (hS : Sys w vp vc vs S) :
  Calls Tryz.prog 58 #[.agg #[vp, vc, vs]] w fun e w' => e = .returned (.string ⟨(cS.enc S).toArray⟩) /\ Below w.heap.size w w' := by
 obtain ⟨i0, hi, hz0, hz1, hz2⟩ := xaj xnv
 obtain ⟨pa, pc, rfl⟩ := hS.p.form
 obtain ⟨ka, kc, rfl⟩ := hS.c.form
 obtain ⟨sa, sc, rfl⟩ := hS.s.form
 have hp4 := hsm.p
 have hc6 := hsm.c
 have hs6 := hsm.s
 have HSM := hd hsm
 have HS := hd hS
 have hw1 := xel S.parts.length
 obtain ⟨row, HROW⟩ : ∃ row : Array Value, Hid (row = #[.slice pa S.parts.length pc, .slice ka S.chans.length kc, .slice sa S.slots.length sc]) := ⟨_, hd rfl⟩
 have I0 : Hid (Ib w ((w.alloc (.cells #[.slice pa S.parts.length pc, .slice ka S.chans.length kc, .slice sa S.slots.length sc] 39)).alloc (.cells #[.int .u8 (by8 S.parts.length).toNat] 5)) row (.slice (some ⟨w.heap.size + 1, 0, none⟩) 1 1) 1 [by8 S.parts.length]) := hd (by rw [HROW.out]; exact xzv w _ _)
 clear hS hsm
 go_enter Tryz.func58, Tryz.ntmps58
 go_wp2
 go_loopw [3, 4] (fun bv i wr => ∃ (k : Nat) (ao : Option Addr) (n cap : Nat), i = .int .i64 k /\ bv = .slice ao n cap /\ k <= S.parts.length /\ n <= 1 + 400 * k /\ Hid (Ib w wr row (.slice ao n cap) n ([by8 S.parts.length] ++ (S.parts.take k).flatMap cP.enc))) (fun _ i _ => S.parts.length - (intOf i).toNat)
 case atStart => exact ⟨0, _, _, _, rfl, rfl, by omega, by omega, by rw [List.take_zero, List.flatMap_nil, List.append_nil]; exact I0⟩
 case round =>
  obtain ⟨k, ao, n, cap, rfl, rfl, hk, hn, HI⟩ := hrel
  have q0 := HI.out.r.cell (j := 0) (v := .slice pa S.parts.length pc) (by rw [HROW.out]; rfl)
  clear I0
  by_cases hlt : k < S.parts.length
  .have hli : (k : Int) < S.parts.length := by omega
   have hbw0 := HI.out.b
   obtain ⟨sb, off, cap', e1, hcap, hbw, hcs⟩ := HS.out.p.open om
   cases e1
   obtain ⟨c, i, c0, c1, hp⟩ := hcs k hlt
   obtain ⟨ca, cc, rfl⟩ := hp.code.form
   obtain ⟨ia, ic, rfl⟩ := hp.inn.form
   have c0 := bcl hbw0 hbw c0
   have c1 := bcl hbw0 hbw c1
   have hx := HSM.out.x _ (List.getElem_mem hlt)
   have HT := hd (xbo cP.enc S.parts k hlt)
   generalize S.parts[k] = p at *
   have hx1 := hx.1
   have hx2 := hx.2
   have HPR := hd hp
   have hw2 := xel p.code.length
   have hw3 := xel p.inn.length
   clear hcs hp hx hbw0
   have HA := hd ((HI.out.alloc (.cells #[.slice ca p.code.length cc, .slice ia p.inn.length ic] 43)).alloc (.cells #[.int .u8 (by8 p.code.length).toNat] 5))
   have HRX := hd ((Rw.new wr 43 #[.slice ca p.code.length cc, .slice ia p.inn.length ic] rfl).alloc (.cells #[.int .u8 (by8 p.code.length).toNat] 5))
   go_wp2_with (at_builtin; refine wpList_append_lies _ rfl (.tmp 28) (.tmp 33) 106 rfl (w.heap.size + 1) 5 i0 (.int .u8 0) 1 1 Tryz.underlying106 hi hz0 hz1 hz2 rfl (by decide) _ n (Lib.byteCells _) rfl HA.out.o ⟨wr.heap.size + 1, 0, none⟩ 1 1 (Lib.byteCells [by8 p.code.length]) rfl rfl (xa9 _ _ _ _ (by simp)) (xd8 _) (by decide) (by unfold maxLen; omega) om (by have := HA.out.z; omega) _ rfl ?_)
   intro g4 cap4 W4 hown hgrow hat hglt
   have I4 := hd (HA.out.grow hgrow hown)
   have R4 := hd (xrp HRX.out (by decide) HA.out hgrow)
   clear hown hgrow hat hglt
   clear q0 c0 c1 HA HRX
   have zp : w.heap.size + 1 <= wr.heap.size := HI.out.z
   have HL4 : Hid ([by8 S.parts.length] ++ (S.parts.take k).flatMap cP.enc ++ [by8 p.code.length] = [by8 S.parts.length] ++ (S.parts.take k).flatMap cP.enc ++ [by8 p.code.length]) := hd rfl
   obtain ⟨lA, HLA⟩ : ∃ lA, Hid ([by8 S.parts.length] ++ (S.parts.take k).flatMap cP.enc = lA) := ⟨_, hd rfl⟩
   rw [HLA.out] at I4
   clear HL4
   generalize hpx : wr.heap.size = px at *
   obtain ⟨rowp, HRWP⟩ : ∃ rowp : Array Value, Hid (rowp = #[.slice ca p.code.length cc, .slice ia p.inn.length ic]) := ⟨_, hd rfl⟩
   rw [<- HRWP.out] at R4
   clear hpx HI
   go_wp2
   go_loopw [3, 6] (fun bv i wr' => ∃ (j : Nat) (ao' : Option Addr) (n' cap' : Nat), i = .int .i64 j /\ bv = .slice ao' n' cap' /\ j <= p.code.length /\ n' <= n + 1 + 11 * j /\ Hid (Ib w wr' row (.slice ao' n' cap') n' (lA ++ [by8 p.code.length] ++ (p.code.take j).flatMap cI.enc)) /\ Hid (Rw wr' px 43 rowp)) (fun _ i _ => p.code.length - (intOf i).toNat)
   case atStart => exact ⟨0, _, _, _, rfl, rfl, by omega, by omega, by rw [List.take_zero, List.flatMap_nil, List.append_nil]; exact I4, R4⟩
   case round =>
    obtain ⟨j, ao', n', cap', rfl, rfl, hj, hn', HI', HX'⟩ := hrel
    obtain ⟨lB, HLB⟩ : ∃ lB, Hid (lA ++ [by8 p.code.length] ++ (p.code.take j).flatMap cI.enc = lB) := ⟨_, hd rfl⟩
    rw [HLB.out] at HI'
    have q0 := HX'.out.cell (j := 0) (v := .slice ca p.code.length cc) (by rw [HRWP.out]; rfl)
    clear I4 R4
    by_cases hjl : j < p.code.length
    .have hji : (j : Int) < p.code.length := by omega
     obtain ⟨sb, off, cap', e1, hcap, hbw, hc⟩ := HPR.out.code.open om
     cases e1
     obtain ⟨d0, d1, d2, d3⟩ := xdm hc j hjl
     have d0 := bcl HI'.out.b hbw d0
     have d1 := bcl HI'.out.b hbw d1
     have d2 := bcl HI'.out.b hbw d2
     have d3 := bcl HI'.out.b hbw d3
     have HT' := hd (xbo cI.enc p.code j hjl)
     generalize p.code[j] = y at *
     have hy1 := xel y.op
     have hy2 := xel y.a
     have hy3 := xel y.b
     clear hc
     have HA := hd ((HI'.out.alloc (.cells #[.int .i64 y.op, .int .i64 y.a, .int .i64 y.b, .int .i64 y.n] 124)).alloc (.cells #[.int .u8 (by8 y.op).toNat, .int .u8 (by8 y.a).toNat, .int .u8 (by8 y.b).toNat] 5))
     have HRX := hd ((HX'.out.alloc (.cells #[.int .i64 y.op, .int .i64 y.a, .int .i64 y.b, .int .i64 y.n] 124)).alloc (.cells #[.int .u8 (by8 y.op).toNat, .int .u8 (by8 y.a).toNat, .int .u8 (by8 y.b).toNat] 5))
     have HRY := hd ((Rw.new wr 124 #[.int .i64 y.op, .int .i64 y.a, .int .i64 y.b, .int .i64 y.n] rfl).alloc (.cells #[.int .u8 (by8 y.op).toNat, .int .u8 (by8 y.a).toNat, .int .u8 (by8 y.b).toNat] 5))
     go_wp2_with (at_builtin; refine wpList_append_lies _ rfl (.tmp 47) (.tmp 57) 106 rfl (w.heap.size + 1) 5 i0 (.int .u8 0) 1 1 Tryz.underlying106 hi hz0 hz1 hz2 rfl (by decide) _ n' (Lib.byteCells _) rfl HA.out.o ⟨wr.heap.size + 1, 0, none⟩ 3 3 (Lib.byteCells [by8 y.op, by8 y.a, by8 y.b]) rfl rfl (xa9 _ _ _ _ (by simp)) (xd8 _) (by decide) (by unfold maxLen; omega) om (by have := HA.out.z; omega) _ rfl ?_)
     intro g5 cap5 W5 hown hgrow hat hglt
     have I5 := hd (HA.out.grow hgrow hown)
     have R5 := hd (xrp HRX.out (by decide) HA.out hgrow)
     have Y5 := hd (xrp HRY.out (by decide) HA.out hgrow)
     clear hown hgrow hat hglt
     have y3 := Y5.out.cell (j := 3) (v := .int .i64 y.n) rfl
     clear q0 d0 d1 d2 d3 HA HRX HRY HI' HX'
     go_wp2_with fail
     refine (xjb y.n _).mono ?_
     rintro e w6 ⟨rfl, hw⟩
     have hw' := hw.symm
     clear hw
     have I6 := hd (I5.out.alloc (.cells (Lib.byteCells (eight y.n)).toArray 5))
     have R6 := hd (R5.out.alloc (.cells (Lib.byteCells (eight y.n)).toArray 5))
     clear I5 R5 Y5 y3
     subst hw'
     go_wp2_with (at_builtin; refine wpList_append_lies _ rfl (.tmp 59) (.tmp 62) 106 rfl (w.heap.size + 1) 5 i0 (.int .u8 0) 1 1 Tryz.underlying106 hi hz0 hz1 hz2 rfl (by decide) _ (n' + 3) (Lib.byteCells _) rfl I6.out.o ⟨W5.heap.size, 0, none⟩ 8 8 (Lib.byteCells (eight y.n)) rfl rfl (xa9 _ _ _ _ (by simp)) (xd8 _) (by decide) (by unfold maxLen; omega) om (by have := I6.out.z; omega) _ rfl ?_)
     intro g7 cap7 W7 hown hgrow hat hglt
     have I7 := hd (I6.out.grow hgrow hown)
     have R7 := hd (xrp R6.out (by decide) I6.out hgrow)
     clear hown hgrow hat hglt
     clear I6 R6
     go_wp2
     go_roundw
     case rel => exact ⟨j + 1, _, _, _, by go_num, rfl, by omega, by omega, by rw [HT'.out, <- List.append_assoc, HLB.out, show cI.enc y = [by8 y.op, by8 y.a, by8 y.b] ++ eight y.n from rfl, <- List.append_assoc]; exact I7, R7⟩
     case measure => simp [intOf]; omega
    .obtain rfl : j = p.code.length := by omega
     have hji : ¬ ((p.code.length : Int) < p.code.length) := by omega
     have q1 := HX'.out.cell (j := 1) (v := .slice ia p.inn.length ic) (by rw [HRWP.out]; rfl)
     have HA := hd (HI'.out.alloc (.cells #[.int .u8 (by8 p.inn.length).toNat] 5))
     have HRX := hd (HX'.out.alloc (.cells #[.int .u8 (by8 p.inn.length).toNat] 5))
     go_wp2_with (at_builtin; refine wpList_append_lies _ rfl (.tmp 64) (.tmp 69) 106 rfl (w.heap.size + 1) 5 i0 (.int .u8 0) 1 1 Tryz.underlying106 hi hz0 hz1 hz2 rfl (by decide) _ n' (Lib.byteCells _) rfl HA.out.o ⟨wr.heap.size, 0, none⟩ 1 1 (Lib.byteCells [by8 p.inn.length]) rfl rfl (xa9 _ _ _ _ (by simp)) (xd8 _) (by decide) (by unfold maxLen; omega) om (by have := HA.out.z; omega) _ rfl ?_)
     intro g5 cap5 W5 hown hgrow hat hglt
     have I5 := hd (HA.out.grow hgrow hown)
     have R5 := hd (xrp HRX.out (by decide) HA.out hgrow)
     clear hown hgrow hat hglt
     clear q0 q1 HA HRX HI' HX'
     have HL5 := I5.out
     rw [<- HLB.out, List.take_length] at HL5
     have I5 := hd HL5
     clear HL5
     go_wp2
     go_loopw [3, 8] (fun bv i wr' => ∃ (j : Nat) (ao' : Option Addr) (n'' cap' : Nat), i = .int .i64 j /\ bv = .slice ao' n'' cap' /\ j <= p.inn.length /\ n'' <= n' + 1 + 8 * j /\ Hid (Ib w wr' row (.slice ao' n'' cap') n'' (lA ++ [by8 p.code.length] ++ p.code.flatMap cI.enc ++ [by8 p.inn.length] ++ (p.inn.take j).flatMap cN.enc)) /\ Hid (Rw wr' px 43 rowp)) (fun _ i _ => p.inn.length - (intOf i).toNat)
     case atStart => exact ⟨0, _, _, _, rfl, rfl, by omega, by omega, by rw [List.take_zero, List.flatMap_nil, List.append_nil]; exact I5, R5⟩
     case round =>
      obtain ⟨j, ao', n'', cap', rfl, rfl, hj, hn'', HI', HX'⟩ := hrel
      obtain ⟨lC, HLC⟩ : ∃ lC, Hid (lA ++ [by8 p.code.length] ++ p.code.flatMap cI.enc ++ [by8 p.inn.length] ++ (p.inn.take j).flatMap cN.enc = lC) := ⟨_, hd rfl⟩
      rw [HLC.out] at HI'
      have q1 := HX'.out.cell (j := 1) (v := .slice ia p.inn.length ic) (by rw [HRWP.out]; rfl)
      clear I5 R5
      by_cases hjl : j < p.inn.length
      .have hji : (j : Int) < p.inn.length := by omega
       obtain ⟨sb, off, cap', e1, hcap, hbw, hc⟩ := HPR.out.inn.open om
       cases e1
       have d0 := bcl HI'.out.b hbw (hc j _ (xgg p.inn j hjl))
       have HT' := hd (xbo cN.enc p.inn j hjl)
       generalize p.inn[j] = y at *
       clear hc
       go_wp2_with fail
       refine (xjb y _).mono ?_
       rintro e w6 ⟨rfl, hw⟩
       have hw' := hw.symm
       clear hw
       have I6 := hd (HI'.out.alloc (.cells (Lib.byteCells (eight y)).toArray 5))
       have R6 := hd (HX'.out.alloc (.cells (Lib.byteCells (eight y)).toArray 5))
       clear d0 q1
       subst hw'
       go_wp2_with (at_builtin; refine wpList_append_lies _ rfl (.tmp 78) (.tmp 84) 106 rfl (w.heap.size + 1) 5 i0 (.int .u8 0) 1 1 Tryz.underlying106 hi hz0 hz1 hz2 rfl (by decide) _ n'' (Lib.byteCells _) rfl I6.out.o ⟨wr.heap.size, 0, none⟩ 8 8 (Lib.byteCells (eight y)) rfl rfl (xa9 _ _ _ _ (by simp)) (xd8 _) (by decide) (by unfold maxLen; omega) om (by have := I6.out.z; omega) _ rfl ?_)
       intro g7 cap7 W7 hown hgrow hat hglt
       have I7 := hd (I6.out.grow hgrow hown)
       have R7 := hd (xrp R6.out (by decide) I6.out hgrow)
       clear hown hgrow hat hglt
       clear I6 R6 HI' HX'
       go_wp2
       go_roundw
       case rel => exact ⟨j + 1, _, _, _, by go_num, rfl, by omega, by omega, by rw [HT'.out, <- List.append_assoc, HLC.out]; exact I7, R7⟩
       case measure => simp [intOf]; omega
      .obtain rfl : j = p.inn.length := by omega
       have hji : ¬ ((p.inn.length : Int) < p.inn.length) := by omega
       have HL5 := HI'.out
       rw [<- HLC.out, List.take_length] at HL5
       have I5 := hd HL5
       clear HL5 HI'
       go_wp2
       go_roundw
       case rel => exact ⟨k + 1, _, _, _, by go_num, rfl, by omega, by omega, by rw [HT.out, <- List.append_assoc, HLA.out, show cP.enc p = (by8 p.code.length :: p.code.flatMap cI.enc) ++ (by8 p.inn.length :: p.inn.flatMap cN.enc) from rfl]; simpa using I5⟩
       case measure => simp [intOf]; omega
  .obtain rfl : k = S.parts.length := by omega
   have hli : ¬ ((S.parts.length : Int) < S.parts.length) := by omega
   have q1 := HI.out.r.cell (j := 1) (v := .slice ka S.chans.length kc) (by rw [HROW.out]; rfl)
   have hw2 := xel S.chans.length
   obtain ⟨lA, HLA⟩ : ∃ lA, Hid ([by8 S.parts.length] ++ (S.parts.take S.parts.length).flatMap cP.enc = lA) := ⟨_, hd rfl⟩
   rw [HLA.out] at HI
   have HA := hd (HI.out.alloc (.cells #[.int .u8 (by8 S.chans.length).toNat] 5))
   go_wp2_with (at_builtin; refine wpList_append_lies _ rfl (.tmp 86) (.tmp 91) 106 rfl (w.heap.size + 1) 5 i0 (.int .u8 0) 1 1 Tryz.underlying106 hi hz0 hz1 hz2 rfl (by decide) _ n (Lib.byteCells _) rfl HA.out.o ⟨wr.heap.size, 0, none⟩ 1 1 (Lib.byteCells [by8 S.chans.length]) rfl rfl (xa9 _ _ _ _ (by simp)) (xd8 _) (by decide) (by unfold maxLen; omega) om (by have := HA.out.z; omega) _ rfl ?_)
   intro g5 cap5 W5 hown hgrow hat hglt
   have I5 := hd (HA.out.grow hgrow hown)
   clear hown hgrow hat hglt
   clear q0 q1 HA HI
   go_wp2
   go_loopw [3, 9] (fun bv i wr' => ∃ (j : Nat) (ao' : Option Addr) (n'' cap' : Nat), i = .int .i64 j /\ bv = .slice ao' n'' cap' /\ j <= S.chans.length /\ n'' <= n + 1 + 3 * j /\ Hid (Ib w wr' row (.slice ao' n'' cap') n'' (lA ++ [by8 S.chans.length] ++ (S.chans.take j).flatMap cC.enc))) (fun _ i _ => S.chans.length - (intOf i).toNat)
   case atStart => exact ⟨0, _, _, _, rfl, rfl, by omega, by omega, by rw [List.take_zero, List.flatMap_nil, List.append_nil]; exact I5⟩
   case round =>
    obtain ⟨j, ao', n'', cap', rfl, rfl, hj, hn'', HI'⟩ := hrel
    obtain ⟨lC, HLC⟩ : ∃ lC, Hid (lA ++ [by8 S.chans.length] ++ (S.chans.take j).flatMap cC.enc = lC) := ⟨_, hd rfl⟩
    rw [HLC.out] at HI'
    have q1 := HI'.out.r.cell (j := 1) (v := .slice ka S.chans.length kc) (by rw [HROW.out]; rfl)
    clear I5
    by_cases hjl : j < S.chans.length
    .have hji : (j : Int) < S.chans.length := by omega
     obtain ⟨sb, off, cap', e1, hcap, hbw, hc⟩ := HS.out.c.open om
     cases e1
     obtain ⟨d0, d1, d2⟩ := xbt hc j hjl
     have HT' := hd (xbo cC.enc S.chans j hjl)
     generalize S.chans[j] = y at *
     have hy1 := xel y.kd
     have hy2 := xel y.fr
     have hy3 := xel y.tt
     have HA := hd (HI'.out.alloc (.cells #[.int .u8 (by8 y.kd).toNat, .int .u8 (by8 y.fr).toNat, .int .u8 (by8 y.tt).toNat] 5))
     have HKEEP : Hid (∀ (W : World) (v : Value) (m : Nat) (l : List UInt8), Ib w W row v m l -> W.cell? ⟨w.heap.size, 1, none⟩ = some (.slice (some ⟨sb, off, none⟩) S.chans.length kc) /\ W.cell? ⟨sb, off + j * 3, none⟩ = some (.int .i64 y.kd) /\ W.cell? ⟨sb, off + j * 3 + 1, none⟩ = some (.int .i64 y.fr) /\ W.cell? ⟨sb, off + j * 3 + 2, none⟩ = some (.int .i64 y.tt)) := hd (fun W v m l h => ⟨h.r.cell (by rw [HROW.out]; rfl), bcl h.b hbw d0, bcl h.b hbw d1, bcl h.b hbw d2⟩)
     clear hc d0 d1 d2
     go_wp2
     refine xad (S := fun W => W.cell? ⟨w.heap.size, 1, none⟩ = some (.slice (some ⟨sb, off, none⟩) S.chans.length kc) /\ W.cell? ⟨sb, off + j * 3, none⟩ = some (.int .i64 y.kd) /\ W.cell? ⟨sb, off + j * 3 + 1, none⟩ = some (.int .i64 y.fr) /\ W.cell? ⟨sb, off + j * 3 + 2, none⟩ = some (.int .i64 y.tt)) 24 kr (HKEEP.out _ _ _ _ HI'.out.drew) (fun hHeld => ?_)
     refine Still.t 0 [] hHeld ?_
     refine Still.t 1 [] hHeld ?_
     refine Still.t 2 [] hHeld ?_
     refine Still.t 3 [] hHeld ?_
     refine Still.t 4 [] hHeld ?_
     refine Still.t 5 [] hHeld ?_
     refine Still.t 6 [] hHeld ?_
     refine Still.t 7 [] hHeld ?_
     refine Still.t 8 [] hHeld ?_
     refine Still.t 9 [] hHeld ?_
     refine Still.t 10 [] hHeld ?_
     refine Still.t 11 [] hHeld ?_
     refine Still.t 12 [] hHeld ?_
     refine Still.t 13 [] hHeld ?_
     refine Still.t 14 [] hHeld ?_
     refine Still.t 15 [] hHeld ?_
     refine Still.t 16 [] hHeld ?_
     refine Still.t 17 [] hHeld ?_
     refine Still.t 18 [] hHeld ?_
     refine Still.t 19 [] hHeld ?_
     refine Still.t 20 [] hHeld ?_
     refine Still.t 21 [] hHeld ?_
     refine Still.o 22 rfl rfl (fun K hK => ?_)
     go_simp
     refine hK _ _ (fun _ => HKEEP.out _ _ _ _ HA.out.drew) (fun hh => ?_)
     have hHeld := hh (by decide)
     clear hh hK K
     try simp only [Act.put, l1, l2, l3, l4, l5, l6]
     refine Still.o 23 rfl rfl (fun K hK => ?_)
     refine wp_append_lies _ (.tmp 100) (.tmp 122) 106 (by rfl) (w.heap.size + 1) 5 i0 (.int .u8 0) 1 1 Tryz.underlying106 hi hz0 hz1 hz2 rfl (by decide) _ n'' (Lib.byteCells lC) ev HA.out.drew.o ⟨wr.heap.size, 0, none⟩ 3 3 (Lib.byteCells [by8 y.kd, by8 y.fr, by8 y.tt]) ev rfl (xa9 _ _ _ _ rfl) (xd8 _) (by decide) (by unfold maxLen; omega) om (by have := HA.out.drew.z; omega) _ rfl ?_
     intro g7 cap7 W7 hown hgrow hat hglt
     have I7 := hd (HA.out.drew.grow hgrow hown)
     clear hown hgrow hat hglt
     refine hK _ _ (fun _ => HKEEP.out _ _ _ _ I7.out) (fun hh => ?_)
     have hHeld := hh (by decide)
     clear hh hK K
     try simp only [Act.put, l1, l2, l3, l4, l5, l6]
     refine Still.o 24 rfl rfl (fun K hK => ?_)
     clear hHeld
     go_simp
     refine hK _ _ ab (fun _ => Still.vv ?_)
     clear hK K
     go_wp2
     go_roundw
     case rel => exact ⟨j + 1, _, _, _, by go_num, rfl, by omega, by omega, by rw [HT'.out, <- List.append_assoc, HLC.out]; exact I7⟩
     case measure => simp [intOf]; omega
    .obtain rfl : j = S.chans.length := by omega
     have hji : ¬ ((S.chans.length : Int) < S.chans.length) := by omega
     have q2 := HI'.out.r.cell (j := 2) (v := .slice sa S.slots.length sc) (by rw [HROW.out]; rfl)
     have hw3 := xel S.slots.length
     have HA := hd (HI'.out.alloc (.cells #[.int .u8 (by8 S.slots.length).toNat] 5))
     go_wp2_with (at_builtin; refine wpList_append_lies _ rfl (.tmp 124) (.tmp 129) 106 rfl (w.heap.size + 1) 5 i0 (.int .u8 0) 1 1 Tryz.underlying106 hi hz0 hz1 hz2 rfl (by decide) _ n'' (Lib.byteCells _) rfl HA.out.o ⟨wr.heap.size, 0, none⟩ 1 1 (Lib.byteCells [by8 S.slots.length]) rfl rfl (xa9 _ _ _ _ (by simp)) (xd8 _) (by decide) (by unfold maxLen; omega) om (by have := HA.out.z; omega) _ rfl ?_)
     intro g5 cap5 W5 hown hgrow hat hglt
     have I5 := hd (HA.out.grow hgrow hown)
     clear hown hgrow hat hglt
     clear q1 q2 HA HI'
     go_wp2
     go_loopw [3, 10] (fun bv i wr' => ∃ (j : Nat) (ao' : Option Addr) (n3 cap' : Nat), i = .int .i64 j /\ bv = .slice ao' n3 cap' /\ j <= S.slots.length /\ n3 <= n'' + 1 + 2 * j /\ Hid (Ib w wr' row (.slice ao' n3 cap') n3 (lC ++ [by8 S.slots.length] ++ (S.slots.take j).flatMap cT.enc))) (fun _ i _ => S.slots.length - (intOf i).toNat)
     case atStart => exact ⟨0, _, _, _, rfl, rfl, by omega, by omega, by rw [List.take_zero, List.flatMap_nil, List.append_nil]; exact I5⟩
     case round =>
      obtain ⟨j, ao', n3, cap', rfl, rfl, hj, hn3, HI'⟩ := hrel
      obtain ⟨lD, HLD⟩ : ∃ lD, Hid (lC ++ [by8 S.slots.length] ++ (S.slots.take j).flatMap cT.enc = lD) := ⟨_, hd rfl⟩
      rw [HLD.out] at HI'
      have q1 := HI'.out.r.cell (j := 2) (v := .slice sa S.slots.length sc) (by rw [HROW.out]; rfl)
      clear I5
      by_cases hjl : j < S.slots.length
      .have hji : (j : Int) < S.slots.length := by omega
       obtain ⟨sb, off, cap', e1, hcap, hbw, hc⟩ := HS.out.s.open om
       cases e1
       obtain ⟨d0, d1⟩ := xd9 hc j hjl
       have HT' := hd (xbo cT.enc S.slots j hjl)
       generalize S.slots[j] = y at *
       have hy1 := xel y.pt
       have hy2 := xel y.tk
       have HA := hd (HI'.out.alloc (.cells #[.int .u8 (by8 y.pt).toNat, .int .u8 (by8 y.tk).toNat] 5))
       have HKEEP : Hid (∀ (W : World) (v : Value) (m : Nat) (l : List UInt8), Ib w W row v m l -> W.cell? ⟨w.heap.size, 2, none⟩ = some (.slice (some ⟨sb, off, none⟩) S.slots.length sc) /\ W.cell? ⟨sb, off + j * 2, none⟩ = some (.int .i64 y.pt) /\ W.cell? ⟨sb, off + j * 2 + 1, none⟩ = some (.int .i64 y.tk)) := hd (fun W v m l h => ⟨h.r.cell (by rw [HROW.out]; rfl), bcl h.b hbw d0, bcl h.b hbw d1⟩)
       clear hc d0 d1
       go_wp2
       refine xad (S := fun W => W.cell? ⟨w.heap.size, 2, none⟩ = some (.slice (some ⟨sb, off, none⟩) S.slots.length sc) /\ W.cell? ⟨sb, off + j * 2, none⟩ = some (.int .i64 y.pt) /\ W.cell? ⟨sb, off + j * 2 + 1, none⟩ = some (.int .i64 y.tk)) 17 kr (HKEEP.out _ _ _ _ HI'.out.drew) (fun hHeld => ?_)
       refine Still.t 0 [] hHeld ?_
       refine Still.t 1 [] hHeld ?_
       refine Still.t 2 [] hHeld ?_
       refine Still.t 3 [] hHeld ?_
       refine Still.t 4 [] hHeld ?_
       refine Still.t 5 [] hHeld ?_
       refine Still.t 6 [] hHeld ?_
       refine Still.t 7 [] hHeld ?_
       refine Still.t 8 [] hHeld ?_
       refine Still.t 9 [] hHeld ?_
       refine Still.t 10 [] hHeld ?_
       refine Still.t 11 [] hHeld ?_
       refine Still.t 12 [] hHeld ?_
       refine Still.t 13 [] hHeld ?_
       refine Still.t 14 [] hHeld ?_
       refine Still.o 15 rfl rfl (fun K hK => ?_)
       go_simp
       refine hK _ _ (fun _ => HKEEP.out _ _ _ _ HA.out.drew) (fun hh => ?_)
       have hHeld := hh (by decide)
       clear hh hK K
       try simp only [Act.put, l1, l2, l3, l4, l5, l6]
       refine Still.o 16 rfl rfl (fun K hK => ?_)
       refine wp_append_lies _ (.tmp 138) (.tmp 153) 106 (by rfl) (w.heap.size + 1) 5 i0 (.int .u8 0) 1 1 Tryz.underlying106 hi hz0 hz1 hz2 rfl (by decide) _ n3 (Lib.byteCells lD) ev HA.out.drew.o ⟨wr.heap.size, 0, none⟩ 2 2 (Lib.byteCells [by8 y.pt, by8 y.tk]) ev rfl (xa9 _ _ _ _ rfl) (xd8 _) (by decide) (by unfold maxLen; omega) om (by have := HA.out.drew.z; omega) _ rfl ?_
       intro g7 cap7 W7 hown hgrow hat hglt
       have I7 := hd (HA.out.drew.grow hgrow hown)
       clear hown hgrow hat hglt
       refine hK _ _ (fun _ => HKEEP.out _ _ _ _ I7.out) (fun hh => ?_)
       have hHeld := hh (by decide)
       clear hh hK K
       try simp only [Act.put, l1, l2, l3, l4, l5, l6]
       refine Still.o 17 rfl rfl (fun K hK => ?_)
       clear hHeld
       go_simp
       refine hK _ _ ab (fun _ => Still.vv ?_)
       clear hK K
       go_wp2
       go_roundw
       case rel => exact ⟨j + 1, _, _, _, by go_num, rfl, by omega, by omega, by rw [HT'.out, <- List.append_assoc, HLD.out]; exact I7⟩
       case measure => simp [intOf]; omega
      .obtain rfl : j = S.slots.length := by omega
       have hji : ¬ ((S.slots.length : Int) < S.slots.length) := by omega
       have HE : Hid (lD = cS.enc S) := hd (by
        rw [<- HLD.out, <- HLC.out, <- HLA.out, List.take_length, List.take_length, List.take_length, xt5]
        simp [Cod.ls])
       have HLN := hd HI'.out.len
       have hn0 : 0 < n3 := by
        rw [<- HLN.out, <- HLD.out]
        simp
        omega
       have HCB := hd (xa7 HI'.out.o)
       obtain ⟨gb, go_, gc, e1, _, hgb, hgc⟩ := HCB.out.open hn0
       cases e1
       have hcv : (convert 106 9 (.slice (some ⟨gb, go_, none⟩) n3 cap')).run Tryz.prog wr = .ok (.string ⟨lD.toArray⟩) wr := by
        rw [<- HLN.out]
        exact run_convert_bytes_back wr 106 9 5 ⟨gb, go_, none⟩ cap' lD Tryz.underlying106 Tryz.underlying5 Tryz.underlying9 (fun q hq => by
         have := xjj hgc q (.int .u8 lD[q].toNat) (by simp [Lib.byteCells, hq])
         exact this)
       have HB := hd HI'.out.b
       clear hgc HCB HI' hn0
       go_wp2
       go_ret
       exact ⟨by rw [<- HE.out] <;> rfl, HB.out⟩
theorem Eye.alloc (he : Eye W g q) (o : Obj) : Eye (W.alloc o) g q := Rw.alloc he o
theorem Eye.set {i : Nat} (he : Eye W g q) (v : Value) (hc : g ≠ c) : Eye (W.setCell ⟨c, i, none⟩ v) g q := Rw.set_other he v hc
theorem Rw.grownN (h : Rw w1 c t cs) {row : Option Nat} (hgr : w1.grownBy w2 row) (hrow : ∀ k, row = some k -> c < k) : Rw w2 c t cs := (hgr.block c h.lt (fun e => by have := hrow c e.symm; omega)).trans h
theorem Eye.grown (h : Eye w1 g q) {row : Option Nat} (hgr : w1.grownBy w2 row) (hrow : ∀ k, row = some k -> g < k) : Eye w2 g q := Rw.grownN h hgr hrow
theorem xsh (h : w.ownsRow B e size v n xs) {c : Nat} (hc : c < B) : v.ownBlock ≠ some c := fun e => by have := xab h c e; omega
structure Ic (ge px : Nat) (w0 wr : World) (v u : Value) (p : Prt) (q : List UInt8) : Prop where
 r : Rw wr px 43 #[v, u]
 o : PrtO (px + 1) wr v u p
 e : Eye wr ge q
 s : One ge w0 wr
section
variable {ge px : Nat} {w0 wr wr' : World} {v u v' : Value} {p p' : Prt} {q q' : List UInt8}
theorem Ic.call (h : Ic ge px w0 wr v u p q) (ho : One ge wr wr') (he : Eye wr' ge q') (hg : ge < px) : Ic ge px w0 wr' v u p q' := ⟨ho.rw h.r om, h.o.one ho om, he, h.s.trans ho⟩
theorem Ic.alloc (h : Ic ge px w0 wr v u p q) (hg : ge < px) (o : Obj) : Ic ge px w0 (wr.alloc o) v u p q := ⟨h.r.alloc _, h.o.alloc _, h.e.alloc _, h.s.alloc (by have := h.r.lt; omega) _⟩
theorem Ic.drew (h : Ic ge px w0 wr v u p q) : Ic ge px w0 wr.drew v u p q := ⟨h.r, ⟨h.o.code, h.o.inn⟩, h.e, ⟨h.s.b.drew, h.s.k⟩⟩
theorem Ic.code (h : Ic ge px w0 wr v u p q) (hg : ge < px) (hp : w0.heap.size <= px) (hw0 : ge < w0.heap.size) (hgr : wr.grownBy wr' v.ownBlock) {ds : List Ins} (ho : wr'.ownsRow (px + 1) 124 4 v' ds.length (xck ds)) :
  Ic ge px w0 (wr'.setCell ⟨px, 0, none⟩ v') v' u ⟨ds, p.inn⟩ q /\ Rw wr' px 43 #[v, u] := by
 have hb : ∀ k, v.ownBlock = some k -> px + 1 <= k := xab h.o.code
 have hr := h.r.grownN hgr (fun k e => by have := hb k e; omega)
 refine ⟨⟨hr.set 0 _, ⟨xa2 ho _ (xsh ho (show px < px + 1 by omega)), xa2 (xc8 h.o.inn hgr h.o.code rfl (by decide)) _ (xsh h.o.inn (show px < px + 1 by omega))⟩, (h.e.grown hgr (fun k e => by have := hb k e; omega)).set _ om, (h.s.grown hgr (fun k e => by have := hb k e; omega) hw0).put hp om _ _⟩, hr⟩
theorem Ic.inn (h : Ic ge px w0 wr v u p q) (hg : ge < px) (hp : w0.heap.size <= px) (hw0 : ge < w0.heap.size) (hgr : wr.grownBy wr' u.ownBlock) {es : List Int} (ho : wr'.ownsRow (px + 1) 3 1 v' es.length (xar es)) :
  Ic ge px w0 (wr'.setCell ⟨px, 1, none⟩ v') v v' ⟨p.code, es⟩ q /\ Rw wr' px 43 #[v, u] := by
 have hb : ∀ k, u.ownBlock = some k -> px + 1 <= k := xab h.o.inn
 have hr := h.r.grownN hgr (fun k e => by have := hb k e; omega)
 refine ⟨⟨hr.set 1 _, ⟨xa2 (xc8 h.o.code hgr h.o.inn rfl (by decide)) _ (xsh h.o.code (show px < px + 1 by omega)), xa2 ho _ (xsh ho (show px < px + 1 by omega))⟩, (h.e.grown hgr (fun k e => by have := hb k e; omega)).set _ om, (h.s.grown hgr (fun k e => by have := hb k e; omega) hw0).put hp om _ _⟩, hr⟩
end
structure Iy (ge iy : Nat) (t : TypeId) (w0 wr : World) (cs : Array Value) (q : List UInt8) : Prop where
 y : Rw wr iy t cs
 e : Eye wr ge q
 s : One ge w0 wr
section
variable {ge iy : Nat} {t : TypeId} {w0 wr wr' : World} {cs : Array Value} {q q' : List UInt8}
theorem Iy.call (h : Iy ge iy t w0 wr cs q) (ho : One ge wr wr') (he : Eye wr' ge q') (hg : ge < iy) : Iy ge iy t w0 wr' cs q' := ⟨ho.rw h.y om, he, h.s.trans ho⟩
theorem Iy.put (h : Iy ge iy t w0 wr cs q) (hg : ge < iy) (hi : w0.heap.size <= iy) (i : Nat) (v : Value) : Iy ge iy t w0 (wr.setCell ⟨iy, i, none⟩ v) (cs.setIfInBounds i v) q := ⟨h.y.set i v, h.e.set _ om, h.s.put hi om _ _⟩
theorem Iy.new (ho : One ge w0 w1) (he : Eye w1 ge q) (t : TypeId) (cs : Array Value) (hg : ge <= w1.heap.size) : Iy ge w1.heap.size t w0 (w1.alloc (.cells cs t)) cs q := ⟨Rw.new _ _ _ rfl, he.alloc _, ho.alloc hg _⟩
end
structure If (w wr : World) (vp vc vs : Value) (S : SysD) (q : List UInt8) : Prop where
 r2 : Rw wr w.heap.size 39 #[.slice none 0 0, .slice none 0 0, .slice none 0 0]
 e : Eye wr (w.heap.size + 1) q
 s : Rw wr (w.heap.size + 2) 39 #[vp, vc, vs]
 o : SysO (w.heap.size + 3) wr vp vc vs S
 b : Below w.heap.size w wr
section
variable {w wr wr' : World} {vp vc vs v' : Value} {S : SysD} {q q' : List UInt8}
theorem If.z (h : If w wr vp vc vs S q) : w.heap.size + 3 <= wr.heap.size := h.s.lt
theorem If.call (h : If w wr vp vc vs S q) (ho : One (w.heap.size + 1) wr wr') (he : Eye wr' (w.heap.size + 1) q') : If w wr' vp vc vs S q' :=
 ⟨ho.rw h.r2 om, he, ho.rw h.s om, h.o.one ho om, h.b.trans (ho.b.mono om)⟩
theorem If.alloc (h : If w wr vp vc vs S q) (o : Obj) : If w (wr.alloc o) vp vc vs S q := h.call (One.up ((Below.refl _ _).alloc (Nat.le_refl _) _) (by have := h.z; omega)) (h.e.alloc _)
theorem If.grow (h : If w wr vp vc vs S q) {row : Option Nat} (hgr : wr.grownBy wr' row) (hrow : ∀ k, row = some k -> w.heap.size + 3 <= k) :
  Rw wr' w.heap.size 39 #[.slice none 0 0, .slice none 0 0, .slice none 0 0] /\ Eye wr' (w.heap.size + 1) q /\ Rw wr' (w.heap.size + 2) 39 #[vp, vc, vs] /\ Below w.heap.size w wr' :=
 ⟨h.r2.grownN hgr (fun k e => by have := hrow k e; omega), h.e.grown hgr (fun k e => by have := hrow k e; omega), h.s.grownN hgr (fun k e => by have := hrow k e; omega), h.b.grown hgr h.b.size (fun k e => by have := hrow k e; omega)⟩
theorem If.putP (h : If w wr vp vc vs S q) (hgr : wr.grownBy wr' vp.ownBlock) (hrow : ∀ k, vp.ownBlock = some k -> w.heap.size + 3 <= k) {S' : SysD} (ho : SysO (w.heap.size + 3) wr' v' vc vs S') : If w (wr'.setCell ⟨w.heap.size + 2, 0, none⟩ v') v' vc vs S' q :=
 let ⟨a, b, c, d⟩ := h.grow hgr hrow
 ⟨a.set_other _ (by simp), b.set _ om, c.set 0 _, ho.setC (by simp) _, d.setCell (by simp) _⟩
theorem If.putC (h : If w wr vp vc vs S q) (hgr : wr.grownBy wr' vc.ownBlock) (hrow : ∀ k, vc.ownBlock = some k -> w.heap.size + 3 <= k) {S' : SysD} (ho : SysO (w.heap.size + 3) wr' vp v' vs S') : If w (wr'.setCell ⟨w.heap.size + 2, 1, none⟩ v') vp v' vs S' q :=
 let ⟨a, b, c, d⟩ := h.grow hgr hrow
 ⟨a.set_other _ (by simp), b.set _ om, c.set 1 _, ho.setC (by simp) _, d.setCell (by simp) _⟩
theorem If.putS (h : If w wr vp vc vs S q) (hgr : wr.grownBy wr' vs.ownBlock) (hrow : ∀ k, vs.ownBlock = some k -> w.heap.size + 3 <= k) {S' : SysD} (ho : SysO (w.heap.size + 3) wr' vp vc v' S') : If w (wr'.setCell ⟨w.heap.size + 2, 2, none⟩ v') vp vc v' S' q :=
 let ⟨a, b, c, d⟩ := h.grow hgr hrow
 ⟨a.set_other _ (by simp), b.set _ om, c.set 2 _, ho.setC (by simp) _, d.setCell (by simp) _⟩
theorem If.drew (h : If w wr vp vc vs S q) : If w wr.drew vp vc vs S q := ⟨h.r2, h.e, h.s, h.o.up (Below.refl _ _).drew, h.b.drew⟩
end
theorem PartsO.growT {base : Nat} {u : Value} {ps : List Prt} (h : PartsO B w v ps) (hgr : w.grownBy w' u.ownBlock) (hu : w.ownsRow base e size u n xs) (h1 : 43 ≠ e) (h2 : 124 ≠ e) (h3 : 3 ≠ e) : PartsO B w' v ps := by
 obtain ⟨vs, a, b, c⟩ := h
 exact ⟨vs, a, xc8 b hgr hu rfl h1, fun k hk hk' => ⟨xc8 (c k hk hk').code hgr hu rfl h2, xc8 (c k hk hk').inn hgr hu rfl h3⟩⟩
theorem PartsO.snoc {k cap : Nat} {ao : Option Addr} {cap' : Nat} {ds : List Prt} {d : Prt} {c i : Value} {us : List (Value × Value)} (hdl : ds.length = k) (hul : us.length = ds.length) (ho : w.ownsRow B 43 2 (.slice ao k cap) k (xbe prC us)) (hin : ∀ j (hj : j < ds.length) (hj' : j < us.length), PrtO B w us[j].1 us[j].2 ds[j]) (hd : PrtO B w c i d)
  (hgr : w.grownBy w' (Value.slice ao k cap).ownBlock) (hown : w'.ownsRow B 43 2 (.slice (some ⟨g, 0, none⟩) (k + 1) cap') (k + 1) (xbe prC us ++ [c, i])) : PartsO B w' (.slice (some ⟨g, 0, none⟩) (k + 1) cap') (ds ++ [d]) := by
 refine ⟨us ++ [(c, i)], by simp [hul], ?_, fun j hj hj' => ?_⟩
 .rw [show (ds ++ [d]).length = k + 1 by rw [List.length_append, hdl]; rfl, show xbe prC (us ++ [(c, i)]) = xbe prC us ++ [c, i] by simp [xbe, prC]]
  exact hown
 .by_cases hjl : j < ds.length
  .rw [List.getElem_append_left hjl]
   have := (hin j hjl om).grow hgr ho
   rw [List.getElem_append_left om]
   exact this
  .have ej : j = ds.length := by rw [List.length_append] at hj; simp at hj; omega
   subst ej
   rw [List.getElem_append_right (Nat.le_refl _), List.getElem_append_right om]
   simpa [hul] using hd.grow hgr ho
theorem xe5 (l : List UInt8) : (xer l).1 = ((xer l).1.toNat : Int) /\ (xer l).1.toNat < 256 := by
 have := xi2 l
 omega
theorem xch {α : Type} (A : Cod α) (k : Nat) (l : List UInt8) : (xbk A (k + 1) l).1 = (xbk A k l).1 ++ [(A.eye (xbk A k l).2).1] /\ (xbk A (k + 1) l).2 = (A.eye (xbk A k l).2).2 := ⟨rfl, rfl⟩
theorem x35 (h : cS.good S) : S.ok := by
 intro p hp j hj
 have h1 : cP.good p := h.1.2 p hp
 have h2 : cI.good p.code[j] := h1.1.2 _ (List.getElem_mem hj)
 obtain ⟨⟨a0, a1⟩, ⟨b0, b1⟩, ⟨c0, c1⟩, d⟩ := h2
 have f : ∀ {n : Int}, 0 <= n -> n < 256 -> xb6 n := fun h1 h2 => ⟨by omega, by omega⟩
 exact ⟨f a0 a1, f b0 b1, f c0 c1, d⟩
def xjp (b : List UInt8) : Option SysD := if xb3 (cS.eye b).1 = 0 /\ cS.enc (cS.eye b).1 = b then some (cS.eye b).1 else none
end Go.Proofs.YtbkdoohhdkahiaaGreatDoor
