/- deskBegun; the law DeskJudges, walked. -/
import Derived.Test.YtbkdoohhdkahiaaGreatDoorJ31
import Derived.Test.YtbkdoohhdkahiaaGreatDoorJ24
import Derived.WalkKit
import Derived.ProofKit
import Derived.OpenShut
import Derived.Carry
import Derived.Test.YtbkdoohhdkahiaaGreatDoorRows
import Derived.Test.YtbkdoohhdkahiaaGreatDoorJ2
import Derived.WideWitness
import Derived.LaidLaws
import Derived.Lib.SmallJoins
import Derived.Deep.DeepHandedRow
import Derived.Deep.Slices
import Derived.Deep.Strs
import Derived.Test.YtbkdoohhdkahiaaGreatDoorJ3
import Derived.SizedLaws
import Derived.Test.YtbkdoohhdkahiaaGreatDoorJ1
import Derived.Lib.LaidTab
import Derived.Stop.LaidErr
import Derived.Shelf.LaysM
import Derived.KernelRfl
namespace Go.Proofs.YtbkdoohhdkahiaaGreatDoor
set_option linter.unusedSimpArgs false
set_option linter.unusedVariables false
set_option maxRecDepth 100000
set_option maxHeartbeats 8000000
open Go.RowKit Go.Sort
variable {l : List UInt8} {L : List Edg} {P : Program} {W : World} {b0 base o : Nat} {held : Bool} {v : Value} {cs : List Value}
def rT1 : List UInt8 := [48, 62, 49, 32, 48, 62, 50, 32, 49, 62, 48, 32, 49, 62, 50]
def rT2 : List UInt8 := [48, 62, 49]
def rT3 : List UInt8 := [49, 62, 48, 32, 48, 62, 49]
def x5u : List Edg := [⟨0, 1⟩]
def jW1 : List UInt8 := [115, 111, 117, 110, 100, 10, 115, 116, 111, 112, 112, 101, 100, 10, 114, 117, 110, 115, 32, 54, 10, 115, 116, 111, 112, 112, 101, 100, 32, 54, 10, 114, 117, 110, 115, 32, 48, 10]
def jW2 : List UInt8 := [108, 101, 97, 107, 32, 48, 32, 49, 32, 50, 10, 114, 117, 110, 115, 10, 114, 117, 110, 115, 10, 114, 117, 110, 115, 10, 114, 117, 110, 115, 10]
theorem xk7 : xb8 rT1 = some xg2 := by kernel_rfl
theorem xqv : xb8 rT2 = some x5u := by kernel_rfl
theorem xxv : xb8 rT3 = none := by kernel_rfl
theorem xcl (h : xb8 l = some L) : xcv l = 0 /\ xco l = L := by unfold xcv xco; rw [h]; exact ⟨rfl, rfl⟩
theorem xkw (h : xb8 l = none) : xcv l = 1 /\ xco l = [] := by unfold xcv xco; rw [h]; exact ⟨rfl, rfl⟩
theorem x4x : xiq xbm x5u = 0 := xky xgh (xkl (xwz (by decide +kernel)))
theorem x5s : xh3 xbm x5u = [⟨0, 2⟩, ⟨1, 0⟩, ⟨1, 2⟩] := by decide +kernel
theorem x5c : xdk xbm x5u = ⟨[], [0, 1, 2], false⟩ := by
 unfold xdk xh5
 rw [if_pos x4x, x5s]
 have : xes xbm 0 2 = [0, 1, 2] := by decide +kernel
 show (⟨[], xes xbm 0 2, false⟩ : CertOut) = _
 rw [this]
theorem x44 : xlz xbm 0 = wB := by kernel_rfl
theorem x21 : xmx xbm 0 = 0 := by kernel_rfl
theorem xw6 : xbj (cS.enc xbm) rT1 12 = 0 /\ xcj (cS.enc xbm) rT1 12 = jW1 := by
 have h : xbj (cS.enc xbm) rT1 12 = 0 := by
  unfold xbj
  rw [xgq.2, (xcl xk7).1, xgq.1, (xcl xk7).2, x41, x0i]
  rfl
 refine ⟨h, ?_⟩
 unfold xcj
 rw [h, if_pos rfl, xgq.1, (xcl xk7).2, x4r, x2z]
 show xeu true [] w12.cells = jW1
 decide +kernel
theorem xyi : xbj (cS.enc xbm) rT2 0 = 0 /\ xcj (cS.enc xbm) rT2 0 = jW2 := by
 have h : xbj (cS.enc xbm) rT2 0 = 0 := by
  unfold xbj
  rw [xgq.2, (xcl xqv).1, xgq.1, (xcl xqv).2, x4x, x21]
  rfl
 refine ⟨h, ?_⟩
 unfold xcj
 rw [h, if_pos rfl, xgq.1, (xcl xqv).2, x5c, x44]
 show xeu false [0, 1, 2] wB.cells = jW2
 decide +kernel
theorem xqx : xav 10 := xa8 Tryz.func10 kr kr
theorem xno (w : World) (he : Env w) : Calls Tryz.prog 9 #[] w fun e w' => e = .returned (.bool true) /\ Below w.heap.size w w' := by
 have HE := hd he
 obtain ⟨bb, HBB⟩ : ∃ bb, Hid (cS.enc xbm = bb) := ⟨_, hd rfl⟩
 have HIM : Hid (x3p xbm = bb) := hd (by unfold x3p; rw [if_pos xgh]; exact HBB.out)
 have HJ1 := hd (fun w he => xli bb rT1 12 w he (by decide))
 have HJ2 := hd (fun w he => xli bb rT2 0 w he (by decide))
 rw [<- HBB.out, xw6.1, xw6.2] at HJ1
 rw [<- HBB.out, xyi.1, xyi.2] at HJ2
 rw [HBB.out] at HJ1 HJ2
 have HR1 := hd (fun w he => xik rT1 w he (by decide))
 have HR3 := hd (fun w he => xik rT3 w he (by decide))
 rw [(xcl xk7).1, (xcl xk7).2] at HR1
 rw [(xkw xxv).1, (xkw xxv).2] at HR3
 dsimp only [jW1, rT1] at HJ1
 dsimp only [jW2, rT2] at HJ2
 dsimp only [rT1] at HR1
 dsimp only [rT3] at HR3
 clear he HBB
 go_enter Tryz.func9, Tryz.ntmps9
 go_wp2_with fail
 refine (x2y _).mono ?_
 rintro e w1 ⟨vp, vc, vs, rfl, s1, b1⟩
 have S1 := hd s1
 have B1 := hd b1
 clear s1 b1
 go_wp2_with fail
 refine (xma xbm _ _ _ _ (HE.out.up B1.out) S1.out).mono ?_
 rw [HIM.out, xgh]
 rintro e w2 ⟨rfl, b2⟩
 have B2 := hd (B1.out.trans (b2.mono B1.out.size))
 clear b2 B1 S1
 go_wp2_with fail
 refine (HJ1.out _ (HE.out.up B2.out)).mono ?_
 rintro e w3 ⟨rfl, b3⟩
 have B3 := hd (B2.out.trans (b3.mono B2.out.size))
 clear b3 B2
 go_wp2_with fail
 refine (HJ2.out _ (HE.out.up B3.out)).mono ?_
 rintro e w4 ⟨rfl, b4⟩
 have B4 := hd (B3.out.trans (b4.mono B3.out.size))
 clear b4 B3
 go_wp2_with fail
 refine (HR1.out _ (HE.out.up B4.out)).mono ?_
 rintro e w5 ⟨v5, rfl, o5, b5⟩
 obtain ⟨la, lc, rfl⟩ := (xa7 o5).form
 have B5 := hd (B4.out.trans (b5.mono B4.out.size))
 have L5 := hd (xa7 o5)
 clear b5 B4 o5
 have X5 : Hid (Below w5.heap.size w5 (w5.alloc (.cells #[.slice la xg2.length lc] 27))) := hd ((Below.refl _ _).alloc (Nat.le_refl _) _)
 have R5 := hd (Rw.new w5 27 #[.slice la xg2.length lc] rfl)
 have B5 := hd (B5.out.trans (X5.out.mono B5.out.size))
 have L5 := hd (L5.out.up X5.out)
 go_wp2_with fail
 refine (HR3.out _ (HE.out.up B5.out)).mono ?_
 rintro e w6 ⟨v6, rfl, o6, b6⟩
 obtain ⟨ma, mc, rfl⟩ := (xa7 o6).form
 have B6 := hd (B5.out.trans (b6.mono B5.out.size))
 have L6 := hd (L5.out.up b6)
 have R6 := hd ((R5.out.up b6 R5.out.lt).alloc (.cells #[.slice ma 0 mc] 27))
 have X6 : Hid (Below w6.heap.size w6 (w6.alloc (.cells #[.slice ma 0 mc] 27))) := hd ((Below.refl _ _).alloc (Nat.le_refl _) _)
 clear b6 o6 B5 L5 R5 X5
 have p0 := R6.out.cell (j := 0) (v := .slice la xg2.length lc) rfl
 have BY : Hid (Below w.heap.size w (w6.alloc (.cells #[.slice ma 0 mc] 27)).drew) := hd ((B6.out.trans (X6.out.mono B6.out.size)).drew)
 have LY := hd ((L6.out.up X6.out).up (Below.refl _ _).drew)
 have hY : w5.heap.size < (w6.alloc (.cells #[.slice ma 0 mc] 27)).drew.heap.size := R6.out.lt
 clear B6 L6 R6 X6
 go_wp2_with fail
 refine xad (S := fun w' => w'.cell? ⟨w5.heap.size, 0, none⟩ = some (.slice la xg2.length lc)) 31 kr p0 (fun hHeld => ?_)
 have hq := fun (w' : World) (hSw : (fun w' => w'.cell? ⟨w5.heap.size, 0, none⟩ = some (.slice la xg2.length lc) : World -> Prop) w') => hSw
 refine Still.u 0 [] hHeld hq ?_
 refine Still.u 1 [] hHeld hq ?_
 refine Still.u 2 [] hHeld hq ?_
 refine Still.u 3 [] hHeld hq ?_
 refine Still.u 4 [] hHeld hq ?_
 refine Still.u 5 [] hHeld hq ?_
 refine Still.u 6 [] hHeld hq ?_
 refine Still.u 7 [] hHeld hq ?_
 refine Still.u 8 [] hHeld hq ?_
 refine Still.u 9 [] hHeld hq ?_
 refine Still.u 10 [] hHeld hq ?_
 refine Still.u 11 [] hHeld hq ?_
 refine Still.u 12 [] hHeld hq ?_
 refine Still.u 13 [] hHeld hq ?_
 refine Still.u 14 [] hHeld hq ?_
 refine Still.u 15 [] hHeld hq ?_
 refine Still.u 16 [] hHeld hq ?_
 refine Still.u 17 [] hHeld hq ?_
 refine Still.u 18 [] hHeld hq ?_
 refine Still.u 19 [] hHeld hq ?_
 refine Still.u 20 [] hHeld hq ?_
 refine Still.u 21 [] hHeld hq ?_
 refine Still.u 22 [] hHeld hq ?_
 refine Still.u 23 [] hHeld hq ?_
 refine Still.u 24 [] hHeld hq ?_
 refine Still.u 25 [] hHeld hq ?_
 refine Still.u 26 [] hHeld hq ?_
 refine Still.u 27 [] hHeld hq ?_
 generalize World.drew _ = Y at BY LY p0 hY hHeld ⊢
 refine Still.all (rs := [28]) kr (by simp) (Still.oneG (i := 28) rfl (by rfl) (fun K hK => ?_) (by simp))
 refine xap 33 _ _ rfl xz2 #[] ev ((xzs _).mono ?_)
 rintro e V1 ⟨vw, rfl, sw, bw⟩
 obtain ⟨wa, wq, rfl⟩ := sw.form
 have BV := hd (BY.out.trans (bw.mono BY.out.size))
 have LV := hd (LY.out.up bw)
 have WV := hd sw
 have HYV : w5.heap.size < V1.heap.size := Nat.lt_of_lt_of_le hY bw.size
 refine ⟨_, rfl, hK _ _ (fun _ => bcl bw hY hHeld) (fun hh => ?_)⟩
 have hHeld := hh (by decide)
 clear hK K hh sw bw
 try simp only [Act.put, l1, l2, l3, l4, l5, l6]
 refine Still.all (rs := [29]) kr (by simp) (Still.oneG (i := 29) rfl (by rfl) (fun K hK => ?_) (by simp))
 refine xap 10 _ _ rfl xqx #[.agg #[.slice la xg2.length lc], .agg #[.slice wa xg2.length wq]] ev ((xfw xg2 _ _ _ LV.out WV.out (by decide)).mono ?_)
 rintro e V2 ⟨rfl, bw⟩
 have BV2 := hd (BV.out.trans (bw.mono BV.out.size))
 refine ⟨_, rfl, hK _ _ (fun _ => bcl bw (by have := BV.out.size; have := LV.out; exact HYV) hHeld) (fun hh => ?_)⟩
 have hHeld := hh (by decide)
 clear hK K hh bw
 try simp only [Act.put, l1, l2, l3, l4, l5, l6]
 refine Still.t 30 [] hHeld ?_
 refine Still.o 31 rfl rfl (fun K hK => ?_)
 go_simp
 refine hK _ _ ab (fun _ => Still.vv ?_)
 clear hK K
 clear hHeld
 go_wp2
 go_ret
 exact ⟨rfl, BV2.out⟩
theorem xxy {s : List UInt8} (h : xb8 s = some L) : L.length <= 1000 := by
 by_cases he : s = []
 .subst he
  injection h with h
  subst h
  simp
 .unfold xb8 at h
  rw [if_neg he] at h
  obtain ⟨_, h2, _⟩ := xja _ _ _ _ h
  have := xru h2 (by decide) (by decide) (by decide)
  simp at this
  omega
theorem xuj (s : List UInt8) : (xco s).length <= 1000 := by
 unfold xco
 cases h : xb8 s with
 | none => simp
 | some L => exact xxy h
theorem xl2 (b rules : List UInt8) (n : Int) (w : World) (he : Env w) (hs : rules.length <= 281474976710656) :
  Calls Tryz.prog 3 #[.string ⟨b.toArray⟩, .string ⟨rules.toArray⟩, .int .i64 n] w fun e w' => e = .returned (.bool true) /\ Below w.heap.size w w' := by
 have HE := hd he
 have HJ := hd (fun w he => xli b rules n w he hs)
 have HJR := hd (fun w => xus b rules n w hs)
 have HR := hd (fun w he => xik rules w he hs)
 have HRR := hd (fun w => xk0 rules w hs)
 rw [xyt] at HRR
 have HLL := hd (xuj rules)
 have HIS : Hid ((xb8 rules).isSome = true /\ xcv rules = 0 \/ (xb8 rules).isSome = false /\ xcv rules = 1) := hd (by
  unfold xcv
  cases xb8 rules with
  | none => exact Or.inr ⟨rfl, rfl⟩
  | some L => exact Or.inl ⟨rfl, rfl⟩)
 have HGD : Hid ((xb8 rules).getD [] = xco rules) := hd rfl
 rw [HGD.out] at HRR
 generalize xco rules = L at HR HRR HLL
 generalize xcv rules = f at HR HIS
 generalize (xb8 rules).isSome = is at HRR HIS
 generalize xcj b rules n = jw at HJ HJR
 generalize xbj b rules n = je at HJ HJR
 clear he hs HGD
 go_enter Tryz.func3, Tryz.ntmps3
 go_wp2_with fail
 refine (HJ.out _ HE.out).mono ?_
 rintro e w1 ⟨rfl, b1⟩
 have B1 := hd b1
 clear b1
 go_wp2_with fail
 refine (HJR.out _).mono ?_
 rintro e w2 ⟨rfl, b2⟩
 have B2 := hd (B1.out.trans (b2.mono B1.out.size))
 clear b2 B1
 go_wp2_with fail
 refine (HR.out _ (HE.out.up B2.out)).mono ?_
 rintro e w5 ⟨v5, rfl, o5, b5⟩
 obtain ⟨la, lc, rfl⟩ := (xa7 o5).form
 have B5 := hd (B2.out.trans (b5.mono B2.out.size))
 have L5 := hd (xa7 o5)
 clear b5 B2 o5
 have X5 : Hid (Below w5.heap.size w5 (w5.alloc (.cells #[.slice la L.length lc] 27))) := hd ((Below.refl _ _).alloc (Nat.le_refl _) _)
 have R5 := hd (Rw.new w5 27 #[.slice la L.length lc] rfl)
 have B5 := hd (B5.out.trans (X5.out.mono B5.out.size))
 have L5 := hd (L5.out.up X5.out)
 go_wp2_with fail
 refine (HRR.out _).mono ?_
 rintro e w6 ⟨v6, rfl, o6, b6⟩
 obtain ⟨ma, mc, rfl⟩ := (xa7 o6).form
 have B6 := hd (B5.out.trans (b6.mono B5.out.size))
 have L6 := hd (L5.out.up b6)
 have M6 := hd (xa7 o6)
 have X6 : Hid (Below w6.heap.size w6 (w6.alloc (.cells #[.slice ma L.length mc] 27))) := hd ((Below.refl _ _).alloc (Nat.le_refl _) _)
 have R6 := hd ((R5.out.up b6 R5.out.lt).alloc (.cells #[.slice ma L.length mc] 27))
 have Q6 := hd (Rw.new w6 27 #[.slice ma L.length mc] rfl)
 clear b6 o6 B5 L5 R5 X5
 rcases HIS.out with ⟨rfl, rfl⟩ | ⟨rfl, rfl⟩
 all_goals
  go_wp2_with fail
  refine (xno _ (HE.out.up (B6.out.trans (X6.out.mono B6.out.size)))).mono ?_
  rintro e w7 ⟨rfl, b7⟩
  have R7 := hd (R6.out.up b7 R6.out.lt)
  have Q7 := hd (Q6.out.up b7 Q6.out.lt)
  have L7 := hd ((L6.out.up X6.out).up b7)
  have M7 := hd ((M6.out.up X6.out).up b7)
  have B7 := hd ((B6.out.trans (X6.out.mono B6.out.size)).trans (b7.mono (B6.out.trans (X6.out.mono B6.out.size)).size))
  clear b7
  have p0 := R7.out.cell (j := 0) (v := .slice la L.length lc) rfl
  have p1 := Q7.out.cell (j := 0) (v := .slice ma L.length mc) rfl
  go_wp2_with fail
  refine (xfw L _ _ _ L7.out M7.out HLL.out).mono ?_
  rintro e w8 ⟨rfl, b8⟩
  have B8 := hd (B7.out.trans (b8.mono B7.out.size))
  clear b8
  go_wp2
  go_ret
  exact ⟨rfl, B8.out⟩
open Go.ChangeShapes Go.WideShapes Go.ChangeAt Go.RowKit
theorem xhx {H : Type} {enc : TypeId × Value -> H} (hl : laidOutB P = true) {W W' : World} (hb : Below W.heap.size W W') :
  ∀ (ts : List TypeId) (vs : List Value) (ds : List (DataW H)) (ps : List MemPlace), (∀ t ∈ ts, P.readableRec t = true /\ t < P.types.size) -> DataW.TrodAll enc P W 0 (fun _ => true) true ts vs ds ps -> (∀ x ∈ ps, x.block < W.heap.size) ->
   DataW.TrodAll enc P W' 0 (fun b => decide (b < W.heap.size)) true ts vs ds ps
 | [], [], [], _, _, h, _ => h
 | t :: ts, v :: vs, d :: ds, ps, hr, h, hlt => by
  obtain ⟨p, q, h1, h2, rfl⟩ := h
  exact ⟨p, q, Below.trod hl (hr t (by simp)).1 (hr t (by simp)).2 h1 hb (fun x hx => hlt x (by simp [hx])), xhx hl hb ts vs ds q (fun t ht => hr t (by simp [ht])) h2 (fun x hx => hlt x (by simp [hx])), rfl⟩
 | [], _ :: _, _, _, _, h, _ => by cases h
 | [], [], _ :: _, _, _, h, _ => by cases h
 | _ :: _, [], _, _, _, h, _ => by cases h
 | _ :: _, _ :: _, [], _, _, h, _ => by cases h
theorem x10 {H : Type} {enc : TypeId × Value -> H} {fn : Func} {s : ChangeSpec} {W' : World} {args : Array Value} {ds gs : List (DataW H)} {before : List MemPlace} {tb : TypeId}
  (hl : laidOutB P = true) (hp : ∀ t ∈ fn.params.toList, P.readableRec t = true /\ t < P.types.size) (hvars : s.vars = []) (hres : fn.resultTypes = #[tb]) (hbool : P.underlying tb = some .bool)
  (hW : DataW.Whole enc P fn.params.toList s.vars false W args.toList ds gs before)
  (hfn : gs = [] -> (s.fn H (ds ++ gs)).results = [.lit (.bool true)] /\ (s.fn H (ds ++ gs)).args = ds /\ (s.fn H (ds ++ gs)).vars = [])
  (hb : Below W.heap.size W W') : s.post enc P fn false true false false W args (.bool true) W' := by
 have hW' := hW
 have hlt := hW.lt
 obtain ⟨p, q, hA, hV, rfl, hfz, hnd⟩ := hW
 rw [hvars] at hV
 obtain ⟨rfl, rfl⟩ := trodVars_none hV
 obtain ⟨e1, e2, e3⟩ := hfn rfl
 refine ⟨ds, [], p ++ [], [], p, [], hW', ?_, ?_, ?_, hb.frame _, fun h => by cases h⟩
 .rw [e1, hres]
  exact trodAll_cons_mk (shut_bool hbool _) trodAll_mk0
 .rw [e2]
  exact xhx hl hb _ _ _ _ hp hA (fun x hx => hlt x (by simp [hx]))
 .rw [e3, hvars]
  rfl
open Go.ChangeShapes Go.WideShapes Go.ChangeAt Go.RowKit Go.Joins Go.Deep
theorem own : ownKnob Tryz.prog.godebug = none := by kernel_rfl
theorem x29 : laidOutB Tryz.prog = true := by kernel_rfl
theorem x3q {n : Int} (h : (Lit.int .i64 n).wf = true) : xb6 n := by
 have := bounds_i64 h
 exact ⟨this.1, this.2⟩
instance : Inhabited Ins := ⟨⟨0, 0, 0, 0⟩⟩
theorem x0y {H : Type} {enc : TypeId × Value -> H} {r : Reach} {sp : Nat -> Bool} {d : DataW H} {p : List MemPlace} (hv : Value.okWide Tryz.prog W r b0 3 v) (h : DataW.Trod enc Tryz.prog W base sp held 3 v d p) :
  ∃ n : Int, v = .int .i64 n /\ xb6 n := by
 obtain ⟨fuel, hf⟩ := h
 obtain ⟨n, e, -, w0⟩ := DataW.trod_int Tryz.underlying3 hf
 obtain ⟨m, rfl⟩ := okWide_int Tryz.underlying3 hv
 obtain rfl : m = n := by simpa [Value.cells] using e
 exact ⟨m, rfl, x3q w0⟩
instance : Inhabited Chn := ⟨⟨0, 0, 0⟩⟩
instance : Inhabited Slt := ⟨⟨0, 0⟩⟩
instance : Inhabited Prt := ⟨⟨[], []⟩⟩
def Prt.ok (p : Prt) : Prop := (∀ j (hj : j < p.code.length), p.code[j].ok) /\ ∀ j (hj : j < p.inn.length), xb6 p.inn[j]
open Go.ChangeShapes Go.WideShapes Go.ChangeAt Go.RowKit Go.Joins
open Go.ChangeMaps (open_string)
theorem xoh {H : Type} {enc : TypeId × Value -> H} {r : Reach} {sp : Nat -> Bool} {d : DataW H} {p : List MemPlace} (hv : Value.okWide Tryz.prog W r b0 9 v) (h : DataW.Trod enc Tryz.prog W base sp held 9 v d p)
  (hw : ∀ n ∈ d.weights Tryz.prog 9, n <= reachBytes) : ∃ l : List UInt8, v = .string ⟨l.toArray⟩ /\ l.length <= 281474976710656 := by
 obtain ⟨s, rfl, rfl, -, -⟩ := open_string Tryz.underlying9 hv h
 have hr : reachBytes <= 140737488355328 := by decide
 have := hw s.data.toList.length (by simp [DataW.weights])
 exact ⟨s.data.toList, by simp, by omega⟩
theorem gER : Tryz.prog.globalNamed "strconv.ErrRange" = some 3 := by kernel_rfl
theorem x26 : (Tryz.prog.globals[3]?).map (·.type) = some 178 := by kernel_rfl
theorem gES : Tryz.prog.globalNamed "strconv.ErrSyntax" = some 2 := by kernel_rfl
theorem x38 : (Tryz.prog.globals[2]?).map (·.type) = some 178 := by kernel_rfl
theorem x0r : (Tryz.prog.globals[4]?).map (·.type) = some 295 := by kernel_rfl
theorem gDb : Tryz.prog.globalNamed "math/bits.deBruijn64tab" = some 6 := by kernel_rfl
theorem star : "*" ++ "errors.errorString" = "*errors.errorString" := by decide
theorem x2a (u : TypeId) (h : Tryz.prog.typeName? 3 u = some "*errors.errorString") : u = 299 :=
 typeName_ptr_named (nm := "errors.errorString") (by rw [star]; kernel_rfl) kr (by decide) u (by rw [star]; exact h)
theorem xs3 : Tryz.prog.cellsOf 301 = 1 := by kernel_rfl
theorem x0f : Tryz.prog.cellsOf 277 = 1 := by kernel_rfl
theorem x0g : Tryz.prog.cellsOf 295 = 20 := by kernel_rfl
theorem x50 : Tryz.prog.globalNamed "lychgate/isa.shapes" = some 1 := by kernel_rfl
theorem xzw : (Tryz.prog.globals[1]?).map (·.type) = some 241 := by kernel_rfl
theorem xw5 : Tryz.prog.cellsOf 9 = 1 := by kernel_rfl
theorem x20 : Tryz.prog.cellsOf 240 = 6 := by kernel_rfl
theorem x40 : Tryz.prog.cellsOf 4 = 1 := by kernel_rfl
theorem x5p : Tryz.prog.cellsOf 3 = 1 := by kernel_rfl
def x4k {H : Type} (k : Nat) : DataW H := .agg [.lit (.string (x5v k)), .lit (.bool (xqe k)), .lit (.bool (xqh k)), .lit (.bool (xoa k)), .lit (.int .i64 (xrz k)), .lit (.int .i64 (xql k))]
theorem xy0 {H : Type} : (Rows.laid_lychgate_isa_shapes : DataW H) = .agg ((List.range 16).map x4k) := rfl
theorem xud (h : (cs.drop o).take 1 = [v]) : cs[o]? = some v := by
 have := congrArg (·[0]?) h
 simpa [List.getElem?_take, List.getElem?_drop] using this
theorem x6e {a : Nat} (h : ((cs.drop a).take 6)[o]? = some v) (ho : o < 6) : cs[a + o]? = some v := by
 rw [List.getElem?_take, if_pos ho, List.getElem?_drop] at h; exact h
theorem xya {H : Type} {enc : TypeId × Value -> H} {sp : Nat -> Bool} {fuel : Nat} {k : Nat} {p : List MemPlace}
  (h : DataW.trod enc Tryz.prog W base sp held fuel 240 cs = some (x4k k, p)) :
  cs[0]? = some (.string ⟨(x5v k).toArray⟩) /\ cs[1]? = some (.bool (xqe k)) /\ cs[2]? = some (.bool (xqh k)) /\ cs[3]? = some (.bool (xoa k)) /\ cs[4]? = some (.int .i64 (xrz k)) /\ cs[5]? = some (.int .i64 (xql k)) := by
 obtain ⟨xs, n, _, hx, hl, hlen, hf⟩ := DataW.trod_struct Tryz.underlying240 h
 have f0 := hf 0 _ rfl
 have f1 := hf 1 _ rfl
 have f2 := hf 2 _ rfl
 have f3 := hf 3 _ rfl
 have f4 := hf 4 _ rfl
 have f5 := hf 5 _ rfl
 match xs, hlen with
 | [y0, y1, y2, y3, y4, y5], _ =>
  simp only [x4k, Prod.mk.injEq, DataW.agg.injEq, List.map_cons, List.map_nil, List.cons.injEq, and_true] at hx
  obtain ⟨⟨e0, e1, e2, e3, e4, e5⟩, _⟩ := hx
  obtain ⟨s, c0, d0, _⟩ := DataW.trod_string Tryz.underlying9 f0
  obtain ⟨b1, c1, d1⟩ := DataW.trod_bool Tryz.underlying4 f1
  obtain ⟨b2, c2, d2⟩ := DataW.trod_bool Tryz.underlying4 f2
  obtain ⟨b3, c3, d3⟩ := DataW.trod_bool Tryz.underlying4 f3
  obtain ⟨n4, c4, d4, _⟩ := DataW.trod_int Tryz.underlying3 f4
  obtain ⟨n5, c5, d5, _⟩ := DataW.trod_int Tryz.underlying3 f5
  subst d0 d1 d2 d3 d4 d5
  simp only [DataW.lit.injEq, Lit.string.injEq, Lit.bool.injEq, Lit.int.injEq, true_and] at e0 e1 e2 e3 e4 e5
  subst e1 e2 e3 e4 e5
  change (cs.drop 0).take (Tryz.prog.cellsOf 9) = _ at c0
  change (cs.drop 1).take (Tryz.prog.cellsOf 4) = _ at c1
  change (cs.drop 2).take (Tryz.prog.cellsOf 4) = _ at c2
  change (cs.drop 3).take (Tryz.prog.cellsOf 4) = _ at c3
  change (cs.drop 4).take (Tryz.prog.cellsOf 3) = _ at c4
  change (cs.drop 5).take (Tryz.prog.cellsOf 3) = _ at c5
  rw [xw5] at c0
  rw [x40] at c1 c2 c3
  rw [x5p] at c4 c5
  have es : s = ⟨(x5v k).toArray⟩ := by
   apply ByteArray.ext
   rw [e0]
  exact ⟨es ▸ xud c0, xud c1, xud c2, xud c3, xud c4, xud c5⟩
theorem x43 {r : List (String × DataW Unit)} (h : laidMet Tryz.prog (("lychgate/isa.shapes", Rows.laid_lychgate_isa_shapes) :: r) W) : Shp W := by
 obtain ⟨ps, ⟨g', t', cs, fuel, p, q, hg', ht', hvar, hd, _, _⟩, _⟩ := h
 obtain rfl := Option.some.inj (x50.symm.trans hg')
 obtain rfl := Option.some.inj (xzw.symm.trans ht')
 obtain ⟨xs, m, _, hx, hl, hlen, hf⟩ := DataW.trod_array Tryz.underlying241 hd
 have hrow : ∀ k, k < 16 -> ∃ p', DataW.trod (fun _ => ()) Tryz.prog W 0 (fun _ => true) false m 240 ((cs.toList.drop (k * 6)).take 6) = some (x4k k, p') := by
  intro k hk
  have h1 := hf k hk
  rw [x20] at h1
  have h2 : xs.map (·.1) = (List.range 16).map x4k := by
   have := congrArg Prod.fst hx
   simp only [xy0, DataW.agg.injEq] at this
   exact this.symm
  have h3 := congrArg (·[k]?) h2
  simp only [List.getElem?_map, List.getElem?_range hk, Option.map_some] at h3
  cases hy : xs[k]? with
  | none => rw [hy] at h3; cases h3
  | some y =>
   rw [hy] at h3
   simp only [Option.map_some, Option.some.injEq] at h3
   refine ⟨y.2, ?_⟩
   rw [h1, hy, <- h3]
 have cell : ∀ i, W.cell? ⟨1, i, none⟩ = cs[i]? := fun i => World.var?_cell x50 hvar i
 have key : ∀ k, k < 16 -> ∀ j v, j < 6 -> ((cs.toList.drop (k * 6)).take 6)[j]? = some v -> W.cell? ⟨1, k * 6 + j, none⟩ = some v := by
  intro k hk j v hj h
  have := x6e h hj
  rw [cell, <- Array.getElem?_toList]
  exact this
 refine ⟨?_, fun k hk => ?_, fun k hk => ?_, fun k hk => ?_, fun k hk => ?_, fun k hk => ?_, fun k hk => ?_⟩
 .have h0 : W.var? Tryz.prog "lychgate/isa.shapes" = some cs := hvar
  unfold World.var? at h0
  rw [x50] at h0
  simp only [Option.bind_some] at h0
  rcases Nat.lt_or_ge 1 W.heap.size with h' | h'
  .exact h'
  .simp [Array.getElem?_eq_none h'] at h0
 all_goals obtain ⟨p', hp⟩ := hrow k hk
 all_goals obtain ⟨r0, r1, r2, r3, r4, r5⟩ := xya hp
 .exact key k hk 0 _ (by decide) r0
 .exact key k hk 1 _ (by decide) r1
 .exact key k hk 2 _ (by decide) r2
 .exact key k hk 3 _ (by decide) r3
 .exact key k hk 4 _ (by decide) r4
 .exact key k hk 5 _ (by decide) r5
theorem x4m {n : String} {g : Nat} {cs : Array Value} (hg : Tryz.prog.globalNamed n = some g) (h : W.var? Tryz.prog n = some cs) : g < W.heap.size := by
 unfold World.var? at h
 rw [hg] at h
 simp only [Option.bind_some] at h
 rcases Nat.lt_or_ge g W.heap.size with h' | h'
 .exact h'
 .simp [Array.getElem?_eq_none h'] at h
theorem x4o (w : World) (h : w.ShapedOpen Tryz.prog) : ∃ m, w.cell? ⟨0, 0, none⟩ = some (.int .i64 m) :=
 Go.Proofs.cell_of_shapedOpen_int (zero := #[.int .i64 0]) (t := 3) h (of_decide_eq_true kr) kr rfl kr kr Tryz.underlying3
theorem x0d : Lib.pow10Tab = [1, 10, 100, 1000, 10000, 100000, 1000000, 10000000, 100000000, 1000000000, 10000000000, 100000000000, 1000000000000, 10000000000000, 100000000000000, 1000000000000000, 10000000000000000, 100000000000000000, 1000000000000000000, 10000000000000000000] := by decide +kernel
theorem x4p (h : laidMetH Tryz.prog Rows.deskJudgesRow.laid W) (hs : W.ShapedOpen Tryz.prog) : Env W := by
 have h0 : laidMet Tryz.prog Rows.deskJudgesRow.laid W := h
 have h2 : laidMet Tryz.prog _ W := h0.tail
 have h3 : laidMet Tryz.prog _ W := h2.tail
 have h4 : laidMet Tryz.prog _ W := h3.tail
 have h5 : laidMet Tryz.prog _ W := h4.tail
 have h6 : laidMet Tryz.prog _ W := h5.tail
 obtain ⟨a0, s0, hv0, -, -, -⟩ := laid_sentinel h4 gER x26 Tryz.underlying178 x2a Tryz.underlying299 Tryz.underlying301 rfl rfl Tryz.underlying9 xs3 xw5
 obtain ⟨a1, s1, hv1, -, -, -⟩ := laid_sentinel h5 gES x38 Tryz.underlying178 x2a Tryz.underlying299 Tryz.underlying301 rfl rfl Tryz.underlying9 xs3 xw5
 have ht := Lib.tabIs_of_head (zs := [1, 10, 100, 1000, 10000, 100000, 1000000, 10000000, 100000000, 1000000000, 10000000000, 100000000000, 1000000000000, 10000000000000, 100000000000000, 1000000000000000, 10000000000000000, 100000000000000000, 1000000000000000000, 10000000000000000000]) gPow x0r Tryz.underlying295 Tryz.underlying277 x0f x0g h3
 refine ⟨x43 h6, by rw [x0d]; exact ht, ⟨_, _, by have h0 := World.var?_cell gES hv1 0; simpa using h0⟩, ⟨_, _, by have h0 := World.var?_cell gER hv0 0; simpa using h0⟩, x4o W hs, ?_⟩
 obtain ⟨ps, ⟨g', t', cs, fuel, p, q, hg', ht', hvar, hd, _, _⟩, _⟩ := h2
 exact x4m gDb hvar
def x3g (P : Program) (os : Os) : World :=
 let low := (World.holding P default ⟨#[], #[], []⟩).heap.size
 let w0 := World.holding P os ⟨#[.cells #[.string ⟨#[105, 110, 118, 97, 108, 105, 100, 32, 115, 121, 110, 116, 97, 120]⟩] 301, .cells #[.string ⟨#[118, 97, 108, 117, 101, 32, 111, 117, 116, 32, 111, 102, 32, 114, 97, 110, 103, 101]⟩] 301], #[], []⟩
 let put := fun (h : Array Obj) (g : Nat) (cs : Array Value) => h.modify g fun
   | .cells _ t frozen => .cells cs t frozen
   | o => o
 { w0 with heap := put (put (put (put (put (put w0.heap 1 #[.string ⟨#[]⟩, .bool false, .bool false, .bool false, .int .i64 0, .int .i64 0, .string ⟨#[115, 101, 116]⟩, .bool true, .bool false, .bool true, .int .i64 (-9223372036854775808), .int .i64 9223372036854775807, .string ⟨#[99, 111, 112, 121]⟩, .bool true, .bool true, .bool false, .int .i64 0, .int .i64 0, .string ⟨#[97, 100, 100]⟩, .bool true, .bool true, .bool false, .int .i64 0, .int .i64 0, .string ⟨#[115, 117, 98]⟩, .bool true, .bool true, .bool false, .int .i64 0, .int .i64 0, .string ⟨#[108, 101, 115, 115]⟩, .bool true, .bool true, .bool false, .int .i64 0, .int .i64 0, .string ⟨#[108, 111, 97, 100]⟩, .bool true, .bool true, .bool false, .int .i64 0, .int .i64 0, .string ⟨#[115, 97, 118, 101]⟩, .bool true, .bool true, .bool false, .int .i64 0, .int .i64 0, .string ⟨#[106, 117, 109, 112]⟩, .bool false, .bool false, .bool true, .int .i64 0, .int .i64 19, .string ⟨#[122, 101, 114, 111]⟩, .bool true, .bool false, .bool true, .int .i64 0, .int .i64 19, .string ⟨#[105, 110]⟩, .bool true, .bool false, .bool false, .int .i64 0, .int .i64 0, .string ⟨#[111, 117, 116]⟩, .bool true, .bool false, .bool false, .int .i64 0, .int .i64 0, .string ⟨#[112, 117, 116]⟩, .bool true, .bool false, .bool true, .int .i64 0, .int .i64 5, .string ⟨#[103, 101, 116]⟩, .bool true, .bool true, .bool true, .int .i64 0, .int .i64 5, .string ⟨#[114, 101, 115, 116]⟩, .bool false, .bool false, .bool false, .int .i64 0, .int .i64 0, .string ⟨#[115, 116, 111, 112]⟩, .bool false, .bool false, .bool false, .int .i64 0, .int .i64 0]) 4 #[.int .u64 1, .int .u64 10, .int .u64 100, .int .u64 1000, .int .u64 10000, .int .u64 100000, .int .u64 1000000, .int .u64 10000000, .int .u64 100000000, .int .u64 1000000000, .int .u64 10000000000, .int .u64 100000000000, .int .u64 1000000000000, .int .u64 10000000000000, .int .u64 100000000000000, .int .u64 1000000000000000, .int .u64 10000000000000000, .int .u64 100000000000000000, .int .u64 1000000000000000000, .int .u64 10000000000000000000]) 2 #[.iface 299 (.pointer (some ⟨low, 0, none⟩))]) 3 #[.iface 299 (.pointer (some ⟨low + 1, 0, none⟩))]) 5 #[.int .u8 0, .int .u8 1, .int .u8 28, .int .u8 2, .int .u8 29, .int .u8 14, .int .u8 24, .int .u8 3, .int .u8 30, .int .u8 22, .int .u8 20, .int .u8 15, .int .u8 25, .int .u8 17, .int .u8 4, .int .u8 8, .int .u8 31, .int .u8 27, .int .u8 13, .int .u8 23, .int .u8 21, .int .u8 19, .int .u8 16, .int .u8 7, .int .u8 26, .int .u8 12, .int .u8 18, .int .u8 6, .int .u8 11, .int .u8 5, .int .u8 10, .int .u8 9]) 6 #[.int .u8 0, .int .u8 1, .int .u8 56, .int .u8 2, .int .u8 57, .int .u8 49, .int .u8 28, .int .u8 3, .int .u8 61, .int .u8 58, .int .u8 42, .int .u8 50, .int .u8 38, .int .u8 29, .int .u8 17, .int .u8 4, .int .u8 62, .int .u8 47, .int .u8 59, .int .u8 36, .int .u8 45, .int .u8 43, .int .u8 51, .int .u8 22, .int .u8 53, .int .u8 39, .int .u8 33, .int .u8 30, .int .u8 24, .int .u8 18, .int .u8 12, .int .u8 5, .int .u8 63, .int .u8 55, .int .u8 48, .int .u8 27, .int .u8 60, .int .u8 41, .int .u8 37, .int .u8 16, .int .u8 46, .int .u8 35, .int .u8 44, .int .u8 21, .int .u8 52, .int .u8 32, .int .u8 23, .int .u8 11, .int .u8 54, .int .u8 26, .int .u8 40, .int .u8 15, .int .u8 34, .int .u8 20, .int .u8 31, .int .u8 10, .int .u8 25, .int .u8 14, .int .u8 19, .int .u8 9, .int .u8 13, .int .u8 8, .int .u8 7, .int .u8 6] }
end Go.Proofs.YtbkdoohhdkahiaaGreatDoor
