/- A system, read; what panics is recovered; image.Read. -/
import Derived.Test.YtbkdoohhdkahiaaGreatDoorJ12
import Derived.Test.YtbkdoohhdkahiaaGreatDoorJ6
import Derived.Test.YtbkdoohhdkahiaaGreatDoorJ0
import Derived.Deep.CutRange
import Derived.Defers
import Derived.Recover
import Derived.Test.YtbkdoohhdkahiaaGreatDoorJ14
import Derived.Test.YtbkdoohhdkahiaaGreatDoorJ22
import Derived.Test.YtbkdoohhdkahiaaGreatDoorJ24
import Derived.Test.YtbkdoohhdkahiaaGreatDoorJ4
import Derived.Test.YtbkdoohhdkahiaaGreatDoorJ5
namespace Go.Proofs.YtbkdoohhdkahiaaGreatDoor
set_option linter.unusedSimpArgs false
set_option linter.unusedVariables false
set_option maxRecDepth 100000
set_option maxHeartbeats 8000000
open Go.RowKit Go.Sort
variable {W W' w w' : World} {B : Nat} {vc vp vs : Value} {S : SysD} {cs : Array Value} {q : List UInt8} {c : Cel}
structure SysO (B : Nat) (w : World) (vp vc vs : Value) (S : SysD) : Prop where
 p : PartsO B w vp S.parts
 c : w.ownsRow B 126 3 vc S.chans.length (xbe chC S.chans)
 s : w.ownsRow B 128 2 vs S.slots.length (xbe slC S.slots)
section
variable {B B' g : Nat} {w w' : World} {vp vc vs : Value} {S : SysD}
theorem SysO.r (h : SysO B w vp vc vs S) : Sys w vp vc vs S := ⟨h.p.r, xa7 h.c, xa7 h.s⟩
theorem SysO.low (h : SysO B w vp vc vs S) (hb : B' <= B) : SysO B' w vp vc vs S := ⟨h.p.low hb, xau h.c hb, xau h.s hb⟩
theorem SysO.row (h : SysO B w vp vc vs S) (hg : g < B) (cs : Array Value) : SysO B (w.setRow g cs) vp vc vs S :=
 ⟨h.p.row hg cs, xan h.c cs (fun e => by have := xab h.c g e; omega), xan h.s cs (fun e => by have := xab h.s g e; omega)⟩
theorem SysO.one (h : SysO B w vp vc vs S) (ho : One g w w') (hg : g < B) : SysO B w' vp vc vs S := ⟨h.p.one ho hg, xdc h.c ho hg, xdc h.s ho hg⟩
theorem SysO.nil (B : Nat) (w : World) : SysO B w (.slice none 0 0) (.slice none 0 0) (.slice none 0 0) ⟨[], [], []⟩ := ⟨PartsO.nil _ _, World.ownsRow_nil _ _ _ _, World.ownsRow_nil _ _ _ _⟩
end
theorem xlo {base : Nat} {e : TypeId} {size : Nat} {v : Value} {n : Nat} {xs : List Value} (h : w.ownsRow base e size v n xs) (hb : Below w.heap.size w w') : w'.ownsRow base e size v n xs := xde h hb (xbc h)
theorem SysO.up (h : SysO B w vp vc vs S) (hb : Below w.heap.size w w') : SysO B w' vp vc vs S := by
 obtain ⟨⟨us, h1, h2, h3⟩, hc, hs⟩ := h
 exact ⟨⟨us, h1, xlo h2 hb, fun k hk hk' => ⟨xlo (h3 k hk hk').code hb, xlo (h3 k hk hk').inn hb⟩⟩, xlo hc hb, xlo hs hb⟩
theorem SysO.setC (h : SysO B w vp vc vs S) {a : Addr} (ha : a.block < B) (u : Value) : SysO B (w.setCell a u) vp vc vs S := by
 obtain ⟨⟨us, h1, h2, h3⟩, hc, hs⟩ := h
 have ne : ∀ {e : TypeId} {size : Nat} {v : Value} {n : Nat} {xs : List Value}, w.ownsRow B e size v n xs -> v.ownBlock ≠ some a.block := fun h e => by have := xab h _ e; omega
 exact ⟨⟨us, h1, xa2 h2 u (ne h2), fun k hk hk' => ⟨xa2 (h3 k hk hk').code u (ne (h3 k hk hk').code), xa2 (h3 k hk hk').inn u (ne (h3 k hk hk').inn)⟩⟩, xa2 hc u (ne hc), xa2 hs u (ne hs)⟩
theorem xbp : (Tryz.prog.info? 39).map (·.size) = some 3 := by kernel_rfl
theorem xqn (W : World) (g : Nat) (xs : List UInt8) (h : Rdr W g xs) :
  Calls Tryz.prog 94 #[.pointer (some ⟨g, 0, none⟩)] W fun e w' => (cS.dec xs = none /\ e = .panicked xf4 /\ Below g W w') \/ (∃ S r vp vc vs, cS.dec xs = some (S, r) /\ e = .returned (.agg #[vp, vc, vs]) /\ SysO W.heap.size w' vp vc vs S /\ Rdr w' g r /\ One g W w') := by
 have hgl : g < W.heap.size := h.lt
 have H0 : Hid (Rdr (W.alloc (.cells #[.slice none 0 0, .slice none 0 0, .slice none 0 0] 39)) g xs) := hd (h.alloc _)
 clear h
 have O0 := hd (One.up (g := g) ((Below.refl W.heap.size W).alloc (Nat.le_refl _) (.cells #[.slice none 0 0, .slice none 0 0, .slice none 0 0] 39)) om)
 have R0 := hd (Rw.new W 39 #[.slice none 0 0, .slice none 0 0, .slice none 0 0] rfl)
 go_enter Tryz.func94, Tryz.ntmps94
 go_wp2_with fail
 refine (xt9 _ g xs H0.out).mono ?_
 rintro e w1 (⟨hn, rfl, b1⟩ | ⟨ds, q1, v1, hd1, rfl, hv1, h1, o1⟩)
 .exact xat rfl (.inl ⟨xc0 (xdq hn), rfl, O0.out.b.trans b1⟩)
 rw [World.size_alloc] at hv1
 have HD1 := hd hd1
 have HV1 := hd hv1
 have H1 := hd h1
 have O1 := hd (O0.out.trans o1)
 have R1 := hd (o1.rw R0.out om)
 have z1 : W.heap.size + 1 <= w1.heap.size := by have := o1.size; rw [World.size_alloc] at this; exact this
 clear hd1 hv1 h1 o1 H0 O0 R0
 obtain ⟨pa, pc, rfl⟩ := HV1.out.form
 go_wp2_with fail
 refine (xt6 _ g q1 H1.out).mono ?_
 rintro e w2 (⟨hn, rfl, b1⟩ | ⟨es, q2, v2, hd2, rfl, hv2, h2, o2⟩)
 .exact xat rfl (.inl ⟨xc0 (xcb HD1.out (xdq hn)), rfl, O1.out.b.trans b1⟩)
 have HD2 := hd hd2
 have HV1b := hd (HV1.out.one o2 om)
 have HV2 := hd (xau hv2 z1)
 have H2 := hd h2
 have O2 := hd (O1.out.trans o2)
 have R2 := hd (o2.rw R1.out om)
 have z2 : W.heap.size + 1 <= w2.heap.size := by have := o2.size; omega
 clear hd2 hv2 h2 o2 H1 O1 R1 HV1
 obtain ⟨ka, kc, rfl⟩ := xaq HV2.out
 go_wp2_with fail
 refine (xun _ g q2 H2.out).mono ?_
 rintro e w3 (⟨hn, rfl, b1⟩ | ⟨fs, q3, v3, hd3, rfl, hv3, h3, o3⟩)
 .exact xat rfl (.inl ⟨xc0 (xcb HD1.out (xcb HD2.out hn)), rfl, O2.out.b.trans b1⟩)
 have HD := hd (xhg (f := fun p => (⟨p.1, p.2.1, p.2.2⟩ : SysD)) (g := fun s => (s.parts, s.chans, s.slots)) (xeq HD1.out (xeq HD2.out hd3)))
 have HV3 := hd (show SysO (W.heap.size + 1) w3 (.slice pa ds.length pc) (.slice ka es.length kc) v3 ⟨ds, es, fs⟩ from ⟨HV1b.out.one o3 om, xdc HV2.out o3 om, xau hv3 z2⟩)
 obtain ⟨sa, sc, rfl⟩ := xaq hv3
 have H3 := hd h3
 have O3 := hd (O2.out.trans o3)
 have R3 := hd (o3.rw R2.out om)
 clear hd3 hv3 h3 o3 H2 O2 R2 HD1 HD2 HV1b HV2
 go_wp2_with (refine xae rfl 39 (.tmp 2) (.tmp 15) rfl W.heap.size #[.slice pa ds.length pc, .slice ka es.length kc, .slice sa fs.length sc] rfl rfl 39 _ R3.out xbp rfl (by simp [Value.oneCell']) ?_)
 intro W4 HW4
 have r5 : Rw W4 W.heap.size 39 #[.slice pa ds.length pc, .slice ka es.length kc, .slice sa fs.length sc] := by rw [HW4.out]; exact R3.out.row _
 have H5 := hd (show Rdr W4 g q3 by rw [HW4.out]; exact Rw.row_other H3.out _ om)
 have O5 := hd (show One g W W4 by rw [HW4.out]; exact O3.out.row (Nat.le_refl _) om _)
 have V5 := hd (show SysO W.heap.size W4 (.slice pa ds.length pc) (.slice ka es.length kc) (.slice sa fs.length sc) ⟨ds, es, fs⟩ by rw [HW4.out]; exact (HV3.out.row om _).low om)
 clear HW4 R3 H3 O3 HV3
 go_wp2
 refine bodyPost_ret (xds Tryz.results94 _ _ W.heap.size _ rfl (run_loadVar_row _ _ 39 _ _ (0, 0) _ r5 Tryz.underlying39 rfl xbp)) rfl (.inr ⟨_, _, _, _, _, HD.out, rfl, V5.out, H5.out, O5.out⟩)
def xe3 (b : List UInt8) : Option SysD :=
 match cS.dec b with
 | some (S, []) => if xb3 S = 0 then some S else none
 | _ => none
theorem xv5 (V : World) (g4 g5 : Nat) (hne : g4 ≠ g5) (cs : Array Value) (hcs : cs.size = 3) (b : Bool) (u : TypeId) (pv : Value) (older : List PanicEntry) (h4 : Rw V g4 39 cs) (h5 : Rw V g5 4 #[.bool b]) :
  CallsD Tryz.prog 93 #[.pointer (some ⟨g4, 0, none⟩), .pointer (some ⟨g5, 0, none⟩)] (.panicking ({ v := .iface u pv, recovered := false } :: older)) V fun e u' V' =>
   e = .returned (.tuple #[]) /\ u' = .panicking ({ v := .iface u pv, recovered := true } :: older) /\ V' = (V.setRow g4 #[.slice none 0 0, .slice none 0 0, .slice none 0 0]).setCell ⟨g5, 0, none⟩ (.bool false) := by
 have k5 : (V.setRow g4 #[.slice none 0 0, .slice none 0 0, .slice none 0 0]).cell? ⟨g5, 0, none⟩ = some (.bool b) := (h5.row_other _ (fun e => hne e.symm)).cell rfl
 have f5 : (V.setRow g4 #[.slice none 0 0, .slice none 0 0, .slice none 0 0]).frozen? ⟨g5, 0, none⟩ = false := (h5.row_other _ (fun e => hne e.symm)).fr 0
 refine callsD_of_wpS Tryz.func93 rfl fun c₀ fs hu => ?_
 apply wpS_seq
 apply wpS_region
 simp [wpOpsS, go_sem, recoverD, hu, Tryz.ntmps93, Exit.thenS]
 refine wpS_cond (t := true) (by simp [Act.eval, Array.replicate]) ?_
 simp only [if_true]
 refine wpS_of_wp ?_
 go_wp2_with (refine wpList_store_row rfl 39 (.tmp 0) (.tmp 4) rfl g4 #[.slice none 0 0, .slice none 0 0, .slice none 0 0] rfl rfl 39 _ h4 xbp hcs (by simp [Value.oneCell']) ?_)
 simp [bodyPostS, results, Tryz.results93]
theorem xwc (V : World) (g4 g5 : Nat) :
  CallsD Tryz.prog 93 #[.pointer (some ⟨g4, 0, none⟩), .pointer (some ⟨g5, 0, none⟩)] .returning V fun e u' V' => e = .returned (.tuple #[]) /\ u' = .returning /\ V' = V := by
 refine callsD_of_wpS Tryz.func93 rfl fun c₀ cs hu => ?_
 apply wpS_seq
 apply wpS_region
 simp [wpOpsS, go_sem, recoverD, hu, Tryz.ntmps93, Exit.thenS]
 refine wpS_cond (t := false) (by simp [Act.eval, Array.replicate]) ?_
 simp only [Bool.false_eq_true, if_false]
 refine wpS_of_wp (wp_skip ?_)
 cases c₀
 simp_all [bodyPostS, results, Tryz.results93]
structure Lf (w W : World) (cs : Array Value) (q : List UInt8) : Prop where
 r4 : Rw W w.heap.size 39 cs
 r5 : Rw W (w.heap.size + 1) 4 #[.bool false]
 rd : Rdr W (w.heap.size + 2) q
theorem Lf.z (h : Lf w W cs q) : w.heap.size + 2 < W.heap.size := h.rd.lt
theorem Lf.call {q' : List UInt8} (h : Lf w W cs q) (ho : One (w.heap.size + 2) W W') (hr : Rdr W' (w.heap.size + 2) q') : Lf w W' cs q' :=
 ⟨ho.rw h.r4 om, ho.rw h.r5 om, hr⟩
theorem Lf.up (h : Lf w W cs q) (hb : Below W.heap.size W W') : Lf w W' cs q :=
 ⟨h.r4.up hb h.r4.lt, h.r5.up hb h.r5.lt, Rw.up h.rd hb h.rd.lt⟩
theorem Lf.store (h : Lf w W cs q) (cs' : Array Value) : Lf w (W.setRow w.heap.size cs') cs' q :=
 ⟨h.r4.row _, h.r5.row_other _ om, Rw.row_other h.rd _ om⟩
theorem xpj {g : Nat} {b : Bool} (h : w.cell? ⟨g, 0, none⟩ = some (.bool b)) : (loadVar 4 ⟨g, 0, none⟩).run Tryz.prog w = .ok (.bool b) w := by
 simp [go_sem, h]
theorem xnq {R : Ending -> World -> Prop} {tmps : Array Value} {V : World} (hcs : cs.size = 3) (h4 : Rw V w.heap.size 39 cs) (h5 : Rw V (w.heap.size + 1) 4 #[.bool false]) (hb : Below w.heap.size w V)
  (t4 : tmps.getD 2 undef = .pointer (some ⟨w.heap.size, 0, none⟩)) (t5 : tmps.getD 3 undef = .pointer (some ⟨w.heap.size + 1, 0, none⟩))
  (hR : ∀ w', Below w.heap.size w w' -> R (.returned (.tuple #[.agg #[.slice none 0 0, .slice none 0 0, .slice none 0 0], .bool false])) w') :
  Leaves Tryz.prog Tryz.f49 tmps R [{ target := .fn (.func 93) #[.pointer (some ⟨w.heap.size, 0, none⟩), .pointer (some ⟨w.heap.size + 1, 0, none⟩)], args := #[] }] (.panicking xf4) V := by
 refine leaves_cons (f := 93) (args := #[.pointer (some ⟨w.heap.size, 0, none⟩), .pointer (some ⟨w.heap.size + 1, 0, none⟩)]) (by simp) (by simp [go_sem]) ?_
 refine (xv5 V _ _ om cs hcs false _ _ [] h4 h5).mono ?_
 rintro e u' V2 ⟨rfl, rfl, hV⟩
 subst hV
 have r4 := (h4.row #[.slice none 0 0, .slice none 0 0, .slice none 0 0]).set_other (a := ⟨w.heap.size + 1, 0, none⟩) (.bool false) (by simp)
 have r5 := (h5.row_other (g' := w.heap.size) #[.slice none 0 0, .slice none 0 0, .slice none 0 0] om).set 0 (.bool false)
 refine ⟨.tuple #[.agg #[.slice none 0 0, .slice none 0 0, .slice none 0 0], .bool false], xas Tryz.results49 _ _ w.heap.size (w.heap.size + 1) _ _ t4 t5 (run_loadVar_row _ _ 39 _ #[.slice none 0 0, .slice none 0 0, .slice none 0 0] (0, 0) _ r4 Tryz.underlying39 rfl xbp) (xpj (r5.cell (j := 0) rfl)), ?_⟩
 exact hR _ ((xaa hb om _).setCell (by simp) _)
theorem x00 (b : List UInt8) (w : World) (he : Env w) :
  Calls Tryz.prog 49 #[.string ⟨b.toArray⟩] w fun e w' => (xe3 b = none /\ e = .returned (.tuple #[.agg #[.slice none 0 0, .slice none 0 0, .slice none 0 0], .bool false]) /\ Below w.heap.size w w') \/
   (∃ S, xe3 b = some S /\ ∃ vp vc vs, e = .returned (.tuple #[.agg #[vp, vc, vs], .bool true]) /\ SysO w.heap.size w' vp vc vs S /\ Below w.heap.size w w') := by
 have hmf : ∀ (fn : Go.Fn) (first cap : Array Value) (w : World), (Instr.makeFunc fn first cap).run Tryz.prog w = .ok (.func fn first cap) w := fun _ _ _ _ => rfl
 have HE := hd he
 clear he
 go_enter_defers Tryz.func49, Tryz.ntmps49
 go_upto_region 3 with fail
 generalize hX : World.alloc _ _ = X
 have hXX : X = ((w.alloc (.cells #[.slice none 0 0, .slice none 0 0, .slice none 0 0] 39)).alloc (.cells #[.bool false] 4)).alloc (.cells #[.string ⟨b.toArray⟩] 161) := by rw [<- hX]
 have D0 : Below w.heap.size w X := by rw [hXX]; exact up0
 have HF : Hid (Lf w X #[.slice none 0 0, .slice none 0 0, .slice none 0 0] b) := hd ⟨by rw [hXX]; exact rn0, by rw [hXX]; exact rn0, by rw [hXX]; exact rn0⟩
 have HD := hd D0
 clear hX hXX D0
 go_wp2_with fail
 refine (xqn X (w.heap.size + 2) b HF.out.rd).mono ?_
 rintro e w1 (⟨hn, rfl, hb⟩ | ⟨S, r, vp, vc, vs, hn, rfl, hN, hr, ho⟩)
 .have HN : Hid (xe3 b = none) := hd (by unfold xe3; rw [hn])
  exact xnq rfl (HF.out.r4.up hb om) (HF.out.r5.up hb om) (HD.out.trans (hb.mono om)) rfl rfl fun w' h => .inl ⟨HN.out, rfl, h⟩
 have F1 := hd (HF.out.call ho hr)
 have D1 := hd (HD.out.trans (ho.b.mono om))
 have zX := HF.out.z
 have N1 := hd hN
 have HWD := hd hn
 obtain ⟨pa, pc, rfl⟩ := hN.p.form
 obtain ⟨ka, kc, rfl⟩ := xaq hN.c
 obtain ⟨sa, sc, rfl⟩ := xaq hN.s
 clear HF HD hr ho hN hn
 go_wp2_with (refine xae rfl 39 (.tmp 2) (.tmp 8) rfl w.heap.size #[.slice pa S.parts.length pc, .slice ka S.chans.length kc, .slice sa S.slots.length sc] rfl rfl 39 #[.slice none 0 0, .slice none 0 0, .slice none 0 0] F1.out.r4 xbp rfl (by simp [Value.oneCell']) ?_)
 intro W2 HW2
 have F2 : Hid (Lf w W2 #[.slice pa S.parts.length pc, .slice ka S.chans.length kc, .slice sa S.slots.length sc] r) := hd (by rw [HW2.out]; exact F1.out.store _)
 have N2 : Hid (SysO X.heap.size W2 (.slice pa S.parts.length pc) (.slice ka S.chans.length kc) (.slice sa S.slots.length sc) S) := hd (by rw [HW2.out]; exact N1.out.row om _)
 have D2 : Hid (Below w.heap.size w W2) := hd (by rw [HW2.out]; exact xaa D1.out om _)
 clear F1 N1 D1 HW2
 have q6 := F2.out.rd.cell (j := 0) (v := .string ⟨r.toArray⟩) rfl
 by_cases hr0 : r = []
 rotate_left
 .have HN : Hid (xe3 b = none) := hd (by unfold xe3; rw [HWD.out]; cases r with | nil => exact absurd rfl hr0 | cons x r => rfl)
  have hne : r.isEmpty = false := by cases r with | nil => exact absurd rfl hr0 | cons x r => rfl
  go_wp2_with fail
  refine (xr4 _).mono ?_
  rintro e w3 ⟨rfl, hw⟩
  subst hw
  exact xnq rfl F2.out.r4 F2.out.r5 D2.out rfl rfl fun w' h => .inl ⟨HN.out, rfl, h⟩
 .subst hr0
  go_wp2_with fail
  refine (xn0 _).mono ?_
  rintro e w3 ⟨rfl, hw⟩
  subst hw
  clear q6
  have s0 := F2.out.r4.cell (j := 0) (v := .slice pa S.parts.length pc) rfl
  have s1 := F2.out.r4.cell (j := 1) (v := .slice ka S.chans.length kc) rfl
  have s2 := F2.out.r4.cell (j := 2) (v := .slice sa S.slots.length sc) rfl
  go_wp2_with fail
  refine (xcc S _ _ _ _ (HE.out.up D2.out) N2.out.r).mono ?_
  rintro e w4 ⟨rfl, b4⟩
  have F4 := hd (F2.out.up b4)
  have N4 := hd (N2.out.up b4)
  have z3 := D2.out.size
  have D4 := hd (D2.out.trans (b4.mono z3))
  clear s0 s1 s2 b4 F2 N2 D2
  by_cases hk : xb3 S = 0
  .have hkb : (xb3 S == 0) = true := by simp [hk]
   have HY : Hid (xe3 b = some S) := hd (by unfold xe3; rw [HWD.out]; simp only [if_pos hk])
   clear hk
   go_wp2_with fail
   refine (xn0 _).mono ?_
   rintro e w5 ⟨rfl, hw⟩
   subst hw
   have q0 := F4.out.r4.cell (j := 0) (v := .slice pa S.parts.length pc) rfl
   have q1 := F4.out.r4.cell (j := 1) (v := .slice ka S.chans.length kc) rfl
   have q2 := F4.out.r4.cell (j := 2) (v := .slice sa S.slots.length sc) rfl
   have r5 := F4.out.r5.row_other (g' := w.heap.size) #[.slice pa S.parts.length pc, .slice ka S.chans.length kc, .slice sa S.slots.length sc] om
   have k5 := r5.cell (j := 0) (v := .bool false) rfl
   have f5 := r5.fr 0
   go_wp2_with (first | (refine wpList_store_row rfl 39 (.tmp 2) (.tmp 17) rfl w.heap.size #[.slice pa S.parts.length pc, .slice ka S.chans.length kc, .slice sa S.slots.length sc] rfl rfl 39 _ F4.out.r4 xbp rfl (by simp [Value.oneCell']) ?_))
   refine leaves_cons (f := 93) (args := #[.pointer (some ⟨w.heap.size, 0, none⟩), .pointer (some ⟨w.heap.size + 1, 0, none⟩)]) (by simp) (by simp [go_sem]) ?_
   refine (xwc _ _ _).mono ?_
   rintro e u' V2 ⟨rfl, rfl, hV⟩
   subst hV
   have R4 := (F4.out.r4.row #[.slice pa S.parts.length pc, .slice ka S.chans.length kc, .slice sa S.slots.length sc]).set_other (a := ⟨w.heap.size + 1, 0, none⟩) (.bool true) (by simp)
   have R5 := r5.set 0 (.bool true)
   refine ⟨.tuple #[.agg #[.slice pa S.parts.length pc, .slice ka S.chans.length kc, .slice sa S.slots.length sc], .bool true], xas Tryz.results49 _ _ w.heap.size (w.heap.size + 1) _ _ rfl rfl (run_loadVar_row _ _ 39 _ _ (0, 0) _ R4 Tryz.underlying39 rfl xbp) (xpj (R5.cell (j := 0) rfl)), ?_⟩
   exact .inr ⟨S, HY.out, _, _, _, rfl, ((N4.out.row om _).setC (by show w.heap.size + 1 < X.heap.size; omega) _).low om, (xaa D4.out om _).setCell (by simp) _⟩
  .have hkb : (xb3 S == 0) = false := by simpa using hk
   have HN : Hid (xe3 b = none) := hd (by unfold xe3; rw [HWD.out]; simp only [if_neg hk])
   clear hk
   go_wp2_with fail
   refine (xr4 _).mono ?_
   rintro e w5 ⟨rfl, hw⟩
   subst hw
   exact xnq rfl F4.out.r4 F4.out.r5 D4.out rfl rfl fun w' h => .inl ⟨HN.out, rfl, h⟩
def x3b : SysD := ⟨[], [], []⟩
def rdS (b : List UInt8) : SysD := if 8192 < b.length then x3b else (xe3 b).getD x3b
def rdE (b : List UInt8) : Int := if 8192 < b.length then 2 else if (xe3 b).isNone then 1 else 0
theorem xnc (b : List UInt8) (w : World) (he : Env w) (v0 : Int) (hv : rdE b = v0) (S : SysD) (hS : rdS b = S) :
  Calls Tryz.prog 16 #[.string ⟨b.toArray⟩] w fun e w' => ∃ vp vc vs, e = .returned (.tuple #[.agg #[vp, vc, vs], .int .i64 v0]) /\ SysO w.heap.size w' vp vc vs S /\ Below w.heap.size w w' := by
 have HE := hd he
 have HB0 := hd ((Below.refl w.heap.size w).alloc (Nat.le_refl _) (.cells #[.slice none 0 0, .slice none 0 0, .slice none 0 0] 39))
 have R0 := hd (Rw.new w 39 #[.slice none 0 0, .slice none 0 0, .slice none 0 0] rfl)
 clear he
 by_cases hl : 8192 < b.length
 .have e1 : v0 = 2 := by rw [<- hv]; unfold rdE; rw [if_pos hl]
  have e2 : S = x3b := by rw [<- hS]; unfold rdS; rw [if_pos hl]
  subst e1
  subst e2
  have hli : (8192 : Int) < b.length := by omega
  clear hv hS hl
  go_enter Tryz.func16, Tryz.ntmps16
  go_upto_region 2 with fail
  generalize hX : World.alloc _ _ = X
  rw [hX] at HB0 R0
  clear hX
  go_wp2_with (refine xae rfl 39 (.tmp 2) (.tmp 9) rfl w.heap.size #[.slice none 0 0, .slice none 0 0, .slice none 0 0] rfl rfl 39 _ R0.out xbp rfl (by simp [Value.oneCell']) ?_)
  intro W4 HW4
  have r5 : Rw W4 w.heap.size 39 #[.slice none 0 0, .slice none 0 0, .slice none 0 0] := by rw [HW4.out]; exact R0.out.row _
  have HB4 := hd (show Below w.heap.size w W4 by rw [HW4.out]; exact xaa HB0.out (Nat.le_refl _) _)
  clear HW4
  go_wp2
  refine bodyPost_ret (xam Tryz.results16 _ _ w.heap.size _ _ rfl rfl (run_loadVar_row _ _ 39 _ _ (0, 0) _ r5 Tryz.underlying39 rfl xbp)) rfl ⟨_, _, _, rfl, SysO.nil _ _, HB4.out⟩
 .have hli : ¬ (8192 : Int) < b.length := by omega
  have HV : Hid (v0 = if (xe3 b).isNone then 1 else 0) := hd (by rw [<- hv]; unfold rdE; rw [if_neg hl])
  have HS : Hid (S = (xe3 b).getD x3b) := hd (by rw [<- hS]; unfold rdS; rw [if_neg hl])
  clear hv hS hl
  go_enter Tryz.func16, Tryz.ntmps16
  go_wp2_with fail
  refine (x00 b _ (HE.out.up HB0.out)).mono ?_
  rintro e w2 (⟨hn, rfl, b2⟩ | ⟨D, hn, vp, vc, vs, rfl, hN, b2⟩)
  .have e1 : v0 = 1 := by rw [HV.out, hn]; rfl
   have e2 : S = x3b := by rw [HS.out, hn]; rfl
   subst e1
   subst e2
   have r4 := hd (R0.out.up b2 (by simp))
   have z2 := b2.size
   simp at z2
   have HB2 := hd (HB0.out.trans (b2.mono (by simp)))
   clear b2 HV HS hn R0 HB0
   go_upto_region 5 with fail
   generalize hW3 : World.alloc _ _ = W3
   have b3 : Below w2.heap.size w2 W3 := by rw [<- hW3]; exact (Below.refl _ _).alloc (Nat.le_refl _) _
   have r4b := hd (r4.out.up b3 r4.out.lt)
   have HB3 := hd (HB2.out.trans (b3.mono om))
   clear hW3 b3 r4 HB2
   go_wp2_with (refine xae rfl 39 (.tmp 2) (.tmp 17) rfl w.heap.size #[.slice none 0 0, .slice none 0 0, .slice none 0 0] rfl rfl 39 _ r4b.out xbp rfl (by simp [Value.oneCell']) ?_)
   intro W4 HW4
   have r5 : Rw W4 w.heap.size 39 #[.slice none 0 0, .slice none 0 0, .slice none 0 0] := by rw [HW4.out]; exact r4b.out.row _
   have HB4 := hd (show Below w.heap.size w W4 by rw [HW4.out]; exact xaa HB3.out (Nat.le_refl _) _)
   clear HW4
   go_wp2
   refine bodyPost_ret (xam Tryz.results16 _ _ w.heap.size _ _ rfl rfl (run_loadVar_row _ _ 39 _ _ (0, 0) _ r5 Tryz.underlying39 rfl xbp)) rfl ⟨_, _, _, rfl, SysO.nil _ _, HB4.out⟩
  .have e1 : v0 = 0 := by rw [HV.out, hn]; rfl
   have e2 : S = D := by rw [HS.out, hn]; rfl
   subst e1
   subst e2
   obtain ⟨pa, pc, rfl⟩ := hN.p.form
   obtain ⟨ka, kc, rfl⟩ := xaq hN.c
   obtain ⟨sa, sc, rfl⟩ := xaq hN.s
   rw [World.size_alloc] at hN
   have r4 := hd (R0.out.up b2 (by simp))
   have z2 := b2.size
   simp at z2
   have HB2 := hd (HB0.out.trans (b2.mono (by simp)))
   have N2 := hd hN
   clear b2 HV HS hn R0 HB0 hN
   go_upto_region 4 with fail
   generalize hW3 : World.alloc _ _ = W3
   have b3 : Below w2.heap.size w2 W3 := by rw [<- hW3]; exact (Below.refl _ _).alloc (Nat.le_refl _) _
   have r5 : Hid (Rw W3 w2.heap.size 39 #[.slice pa S.parts.length pc, .slice ka S.chans.length kc, .slice sa S.slots.length sc]) := hd (by rw [<- hW3]; exact Rw.new _ _ _ rfl)
   have r4b := hd (r4.out.up b3 r4.out.lt)
   have HB3 := hd (HB2.out.trans (b3.mono om))
   have N3 := hd (N2.out.up b3)
   clear hW3 b3 r4 HB2 N2
   have q0 := r5.out.cell (j := 0) (v := .slice pa S.parts.length pc) rfl
   have q1 := r5.out.cell (j := 1) (v := .slice ka S.chans.length kc) rfl
   have q2 := r5.out.cell (j := 2) (v := .slice sa S.slots.length sc) rfl
   go_wp2_with (refine xae rfl 39 (.tmp 2) (.tmp 18) rfl w.heap.size #[.slice pa S.parts.length pc, .slice ka S.chans.length kc, .slice sa S.slots.length sc] rfl rfl 39 _ r4b.out xbp rfl (by simp [Value.oneCell']) ?_)
   intro W4 HW4
   have r6 : Rw W4 w.heap.size 39 #[.slice pa S.parts.length pc, .slice ka S.chans.length kc, .slice sa S.slots.length sc] := by rw [HW4.out]; exact r4b.out.row _
   have HB4 := hd (show Below w.heap.size w W4 by rw [HW4.out]; exact xaa HB3.out (Nat.le_refl _) _)
   have N4 := hd (show SysO (w.heap.size + 1) W4 (.slice pa S.parts.length pc) (.slice ka S.chans.length kc) (.slice sa S.slots.length sc) S by rw [HW4.out]; exact N3.out.row om _)
   clear HW4
   go_wp2
   refine bodyPost_ret (xam Tryz.results16 _ _ w.heap.size _ _ rfl rfl (run_loadVar_row _ _ 39 _ _ (0, 0) _ r6 Tryz.underlying39 rfl xbp)) rfl ⟨_, _, _, rfl, N4.out.low om, HB4.out⟩
theorem xp9 (n : Int) : xb6 (wrap64 n) := by unfold wrap64 xb6; omega
theorem xhy (b : Bool) : xb6 (xbl b) := by cases b <;> exact ⟨by decide, by decide⟩
theorem xbz : xb6 0 := ⟨by decide, by decide⟩
structure C64 (c : Cel) : Prop where
 r0 : xb6 c.r0
 r1 : xb6 c.r1
 r2 : xb6 c.r2
 r3 : xb6 c.r3
 m0 : xb6 c.m0
 m1 : xb6 c.m1
 m2 : xb6 c.m2
 m3 : xb6 c.m3
 m4 : xb6 c.m4
 m5 : xb6 c.m5
 m6 : xb6 c.m6
 m7 : xb6 c.m7
theorem C64.reg (h : C64 c) (k : Int) : xb6 (c.reg k) := by
 unfold Cel.reg
 split
 .exact h.r0
 split
 .exact h.r1
 split
 .exact h.r2
 exact h.r3
theorem C64.memo (h : C64 c) (k : Int) : xb6 (c.memo k) := by
 unfold Cel.memo
 split
 .exact h.m0
 split
 .exact h.m1
 split
 .exact h.m2
 split
 .exact h.m3
 split
 .exact h.m4
 split
 .exact h.m5
 split
 .exact h.m6
 exact h.m7
theorem C64.setReg (h : C64 c) (k : Int) {v : Int} (hv : xb6 v) : C64 (c.setReg k v) := by
 obtain ⟨a0, a1, a2, a3, a4, a5, a6, a7, a8, a9, a10, a11⟩ := h
 unfold Cel.setReg
 repeat' split
 all_goals constructor <;> assumption
theorem C64.setMem (h : C64 c) (k : Int) {v : Int} (hv : xb6 v) : C64 (c.setMem k v) := by
 obtain ⟨a0, a1, a2, a3, a4, a5, a6, a7, a8, a9, a10, a11⟩ := h
 unfold Cel.setMem
 repeat' split
 all_goals constructor <;> assumption
theorem C64.with {c' : Cel} (h : C64 c) (e : c'.r0 = c.r0 /\ c'.r1 = c.r1 /\ c'.r2 = c.r2 /\ c'.r3 = c.r3 /\ c'.m0 = c.m0 /\ c'.m1 = c.m1 /\ c'.m2 = c.m2 /\ c'.m3 = c.m3 /\ c'.m4 = c.m4 /\ c'.m5 = c.m5 /\ c'.m6 = c.m6 /\ c'.m7 = c.m7) : C64 c' := by
 obtain ⟨e0, e1, e2, e3, e4, e5, e6, e7, e8, e9, e10, e11⟩ := e
 exact ⟨e0 ▸ h.r0, e1 ▸ h.r1, e2 ▸ h.r2, e3 ▸ h.r3, e4 ▸ h.m0, e5 ▸ h.m1, e6 ▸ h.m2, e7 ▸ h.m3, e8 ▸ h.m4, e9 ▸ h.m5, e10 ▸ h.m6, e11 ▸ h.m7⟩
theorem C64.at (h : C64 c) (a : Int) : C64 { c with at_ := a } := h.with ⟨rfl, rfl, rfl, rfl, rfl, rfl, rfl, rfl, rfl, rfl, rfl, rfl⟩
theorem C64.en (h : C64 c) (e : Int) : C64 { c with en := e } := h.with ⟨rfl, rfl, rfl, rfl, rfl, rfl, rfl, rfl, rfl, rfl, rfl, rfl⟩
theorem C64.take (h : C64 c) (n : Nat) : C64 (xe1 c n) := by
 unfold xe1
 split
 .exact h.with ⟨rfl, rfl, rfl, rfl, rfl, rfl, rfl, rfl, rfl, rfl, rfl, rfl⟩
 .exact h
theorem x0c {inn : List Int} (h : ∀ n ∈ inn, xb6 n) (r : Int) : xb6 (xig inn r) := by
 unfold xig
 split
 .by_cases hr : r.toNat < inn.length
  .rw [List.getD_eq_getElem?_getD, List.getElem?_eq_getElem hr]
   exact h _ (List.getElem_mem hr)
  .rw [List.getD_eq_getElem?_getD, List.getElem?_eq_none om]
   exact xbz
 .exact xbz
theorem x0t {xs : List Int} (h : ∀ n ∈ xs, xb6 n) {v : Int} (hv : xb6 v) : ∀ n ∈ xhn xs v, xb6 n := by
 unfold xhn
 split
 .intro n hn
  rcases List.mem_append.1 hn with hn | hn
  .exact h n hn
  .rw [List.mem_singleton.1 hn]
   exact hv
 .exact h
structure T64 (t : Cel × List Int × Wnt) : Prop where
 c : C64 t.1
 o : ∀ n ∈ t.2.1, xb6 n
 v : xb6 t.2.2.val
theorem x5m {i : Ins} (hi : xb6 i.n) {inn xs : List Int} (hin : ∀ n ∈ inn, xb6 n) {c : Cel} {x : Wnt} (h : T64 (c, xs, x)) {t : Cel × List Int × Wnt} (e : doC i inn xs c x = some t) : T64 t := by
 obtain ⟨hc, ho, hv⟩ := h
 dsimp only at hc ho hv
 unfold doC at e
 by_cases h1 : i.op = 1
 .rw [if_pos h1] at e
  injection e with e; subst e; exact ⟨(hc.setReg _ hi).at _, ho, hv⟩
 rw [if_neg h1] at e
 by_cases h2 : i.op = 2
 .rw [if_pos h2] at e
  injection e with e; subst e; exact ⟨(hc.setReg _ (hc.reg _)).at _, ho, hv⟩
 rw [if_neg h2] at e
 by_cases h3 : i.op = 3
 .rw [if_pos h3] at e
  injection e with e; subst e; exact ⟨(hc.setReg _ (xp9 _)).at _, ho, hv⟩
 rw [if_neg h3] at e
 by_cases h4 : i.op = 4
 .rw [if_pos h4] at e
  injection e with e; subst e; exact ⟨(hc.setReg _ (xp9 _)).at _, ho, hv⟩
 rw [if_neg h4] at e
 by_cases h5 : i.op = 5
 .rw [if_pos h5] at e
  injection e with e; subst e; exact ⟨(hc.setReg _ (xhy _)).at _, ho, hv⟩
 rw [if_neg h5] at e
 by_cases h6 : i.op = 6
 .rw [if_pos h6] at e
  by_cases hb : c.reg i.b < 0 \/ 8 <= c.reg i.b
  .rw [if_pos hb] at e
   cases e
  .rw [if_neg hb] at e
   injection e with e; subst e; exact ⟨(hc.setReg _ (hc.memo _)).at _, ho, hv⟩
 rw [if_neg h6] at e
 by_cases h7 : i.op = 7
 .rw [if_pos h7] at e
  by_cases hb : c.reg i.b < 0 \/ 8 <= c.reg i.b
  .rw [if_pos hb] at e
   cases e
  .rw [if_neg hb] at e
   injection e with e; subst e; exact ⟨(hc.setMem _ (hc.reg _)).at _, ho, hv⟩
 rw [if_neg h7] at e
 by_cases h8 : i.op = 8
 .rw [if_pos h8] at e
  injection e with e; subst e; exact ⟨hc.at _, ho, hv⟩
 rw [if_neg h8] at e
 by_cases h9 : i.op = 9
 .rw [if_pos h9] at e
  injection e with e; subst e; exact ⟨hc.at _, ho, hv⟩
 rw [if_neg h9] at e
 by_cases h10 : i.op = 10
 .rw [if_pos h10] at e
  injection e with e; subst e; exact ⟨((hc.take _).setReg _ (x0c hin _)).at _, ho, hv⟩
 rw [if_neg h10] at e
 by_cases h11 : i.op = 11
 .rw [if_pos h11] at e
  injection e with e; subst e; exact ⟨hc.at _, x0t ho (hc.reg _), hv⟩
 rw [if_neg h11] at e
 by_cases h12 : i.op = 12
 .rw [if_pos h12] at e
  injection e with e; subst e; exact ⟨hc.at _, ho, hc.reg _⟩
 rw [if_neg h12] at e
 by_cases h13 : i.op = 13
 .rw [if_pos h13] at e
  injection e with e; subst e; exact ⟨hc.at _, ho, xbz⟩
 rw [if_neg h13] at e
 by_cases h14 : i.op = 14
 .rw [if_pos h14] at e
  injection e with e; subst e; exact ⟨hc.at _, ho, hv⟩
 rw [if_neg h14] at e
 injection e with e; subst e; exact ⟨hc.with ⟨rfl, rfl, rfl, rfl, rfl, rfl, rfl, rfl, rfl, rfl, rfl, rfl⟩, ho, hv⟩
theorem x1g {l : List Ins} (hl : ∀ i ∈ l, xb6 i.n) {inn xs : List Int} (hin : ∀ n ∈ inn, xb6 n) {c : Cel} (hc : C64 c) (ho : ∀ n ∈ xs, xb6 n) : T64 (xbh l inn xs c) := by
 unfold xbh
 split
 .unfold xmq
  split
  .exact ⟨hc.en _, ho, xbz⟩
  .rename_i i hi
   cases he : doC i inn xs c xa0 with
   | none => exact ⟨hc.en _, ho, xbz⟩
   | some t => exact x5m (hl i (List.mem_of_getElem? hi)) hin ⟨hc, ho, xbz⟩ he
 .exact ⟨hc, ho, xbz⟩
theorem x1h {kd : Int} {l : List Int} (hl : ∀ n ∈ l, xb6 n) {x : Wnt} (hx : xb6 x.val) : (∀ n ∈ (xej kd l x).1, xb6 n) /\ xb6 (xej kd l x).2.1 := by
 unfold xej
 split
 .refine ⟨?_, xbz⟩
  show ∀ n ∈ (xxa kd l x.val).1, xb6 n
  unfold xxa
  split
  .unfold putS
   split
   .intro n hn
    rw [List.mem_singleton.1 hn]
    exact hx
   split
   .exact hl
   .intro n hn
    rcases List.mem_append.1 hn with hn | hn
    .exact hl n hn
    .rw [List.mem_singleton.1 hn]
     exact hx
  .intro n hn
   cases hn
 .unfold x1y
  split
  .cases l with
   | nil => exact ⟨(fun n hn => nomatch hn), xbz⟩
   | cons y r =>
    refine ⟨?_, hl y (by simp)⟩
    show ∀ n ∈ (if kd = 1 then y :: r else r), xb6 n
    split
    .exact hl
    .exact fun n hn => hl n (by simp [hn])
  .exact ⟨(fun n hn => nomatch hn), xbz⟩
theorem xv0 (h : C64 c) (k reg flag kd : Int) {val : Int} (hv : xb6 val) (is : Bool) : C64 (c.replied k reg flag kd val is) := by
 unfold Cel.replied
 split
 .exact h.setReg _ (xhy _)
 split
 .cases is
  .exact h.setReg _ (xhy _)
  .exact (h.setReg _ hv).setReg _ (xhy _)
 .exact h
structure S64 (S : SysD) : Prop where
 c : ∀ p ∈ S.parts, ∀ i ∈ p.code, xb6 i.n
 i : ∀ p ∈ S.parts, ∀ n ∈ p.inn, xb6 n
structure D64 (D : WldD) : Prop where
 c : ∀ d ∈ D.cells, C64 d.c /\ ∀ n ∈ d.out, xb6 n
 l : ∀ l ∈ D.lines, ∀ n ∈ l, xb6 n
theorem xrv {α : Type} {P : α -> Prop} {l : List α} {k : Nat} {x : α} (h : ∀ y ∈ l, P y) (hx : P x) : ∀ y ∈ l.set k x, P y := by
 intro y hy
 rcases List.mem_or_eq_of_mem_set hy with hy | rfl
 .exact h y hy
 .exact hx
theorem x0e {D : WldD} (hS : S64 S) (hD : D64 D) : D64 (xcp S D) := by
 unfold xcp
 split
 .rename_i P d hP hd
  have hPm := List.mem_of_getElem? hP
  have hdm := hD.c d (List.mem_of_getElem? hd)
  have hT := x1g (hS.c P hPm) (hS.i P hPm) hdm.1 hdm.2
  generalize xbh P.code P.inn d.out d.c = t at hT
  obtain ⟨c', xs', x'⟩ := t
  obtain ⟨t1, t2, t3⟩ := hT
  dsimp only at t1 t2 t3 ⊢
  split
  .exact ⟨xrv hD.c ⟨t1, t2⟩, hD.l⟩
  .split
   .rename_i ch ln hch hln
    obtain ⟨s1, s2⟩ := x1h (kd := ch.kd) (hD.l ln (List.mem_of_getElem? hln)) t3
    exact ⟨xrv hD.c ⟨xv0 t1 _ _ _ _ s2 _, t2⟩, xrv hD.l s1⟩
   .exact hD
 .exact hD
theorem xxt (hS : S64 S) : ∀ (n : Nat) {D : WldD}, D64 D -> D64 (xly S n D)
 | 0, _, h => h
 | n + 1, _, h => xxt hS n (x0e hS h)
theorem xzm (S : SysD) : D64 (xbg S) := by
 refine ⟨fun d hd => ?_, fun l hl => ?_⟩
 .rw [(List.mem_replicate.1 hd).2]
  exact ⟨⟨xbz, xbz, xbz, xbz, xbz, xbz, xbz, xbz, xbz, xbz, xbz, xbz⟩, fun n hn => nomatch hn⟩
 .rw [(List.mem_replicate.1 hl).2]
  exact fun n hn => nomatch hn
theorem x3w (hS : S64 S) (n : Int) : D64 (xlz S n) := by
 unfold xlz
 split
 .exact xxt hS _ (xzm S)
 .exact ⟨(fun d hd => nomatch hd), (fun l hl => nomatch hl)⟩
theorem x5x (h : cS.good S) : S64 S := ⟨fun p hp i hi => (((h.1.2 p hp).1.2 i hi).2.2.2), fun p hp n hn => (h.1.2 p hp).2.2 n hn⟩
theorem x19 (b : List UInt8) : S64 (rdS b) := by
 have hz : S64 x3b := ⟨(fun p hp => nomatch hp), (fun p hp => nomatch hp)⟩
 unfold rdS
 split
 .exact hz
 .unfold xe3
  split
  .rename_i S h
   split
   .exact x5x (xoe.eg _ _ _ h)
   .exact hz
  .exact hz
theorem x2i (h4 : S.parts.length <= 4) (b : Int) : ∀ (n : Nat) (x : Int), xb6 x -> ∀ y ∈ fwd S b n x, xb6 y
 | 0, x, hx, y, hy => by
  rw [List.mem_singleton.1 hy]
  exact hx
 | n + 1, x, hx, y, hy => by
  rw [fwd] at hy
  cases hc : xhi S n x b with
  | none =>
   rw [hc] at hy
   rw [List.mem_singleton.1 hy]
   exact hx
  | some c =>
   rw [hc] at hy
   have hcl : c < S.parts.length := by
    unfold xhi at hc
    exact List.mem_range.1 (List.mem_of_find?_eq_some hc)
   rcases List.mem_cons.1 hy with rfl | hy
   .exact hx
   .exact x2i h4 b n c ⟨by omega, by omega⟩ y hy
theorem x3e (h4 : S.parts.length <= 4) {a : Int} (ha : xb6 a) (b : Int) : ∀ y ∈ xes S a b, xb6 y := by
 unfold xes
 split
 .exact x2i h4 b _ a ha
 .intro y hy
  cases hy
theorem xxz (hS : S64 S) {L : List Edg} {n : Int} (hp : xiq S L = 0) (hr : xmx S n = 0) : TellOK (xdk S L).path (xlz S n).cells := by
 obtain ⟨h4, _, _⟩ := xx2 hp
 obtain ⟨hk, h0, h3⟩ := xho hr
 have hR : Right S (xlz S n) := by
  unfold xlz
  rw [if_pos hr]
  exact (xeb hk n.toNat (xfi hk) (by show (0 : Int) + _ <= 300; omega)).1
 have hD := x3w hS n
 have hpl : (xdk S L).path.length <= 16 /\ ∀ y ∈ (xdk S L).path, xb6 y := by
  unfold xdk
  rw [if_pos hp]
  unfold xh5
  cases hl : xh3 S L with
  | nil => exact ⟨by simp, fun y hy => nomatch hy⟩
  | cons e r =>
   obtain ⟨a, b, ha, hb, rfl, _⟩ := xwe (show e ∈ xh3 S L by rw [hl]; simp)
   have := xwh (S := S) (a := (a : Int)) (b := (b : Int))
   exact ⟨by show (xes S a b).length <= 16; omega, x3e h4 (a := (a : Int)) ⟨by omega, by omega⟩ b⟩
 have hlen := xdi hR.c
 refine ⟨hpl.1, hpl.2, by omega, fun d hd => ?_, fun d hd => (hD.c d hd).2⟩
 obtain ⟨k, hk, rfl⟩ := List.getElem_of_mem hd
 have hb := xef hR.c k om hk
 unfold xqg at hb
 rw [Bool.and_eq_true] at hb
 exact ((xbv _ _).1 hb.1).2.2.2.2.2.2
noncomputable def xbj (b rules : List UInt8) (n : Int) : Int := if rdE b ≠ 0 then rdE b else if xcv rules ≠ 0 then xcv rules else if xiq (rdS b) (xco rules) ≠ 0 then xiq (rdS b) (xco rules) else xmx (rdS b) n
noncomputable def xcj (b rules : List UInt8) (n : Int) : List UInt8 := if xbj b rules n = 0 then xeu (xdk (rdS b) (xco rules)).is (xdk (rdS b) (xco rules)).path (xlz (rdS b) n).cells else []
theorem xli (b rules : List UInt8) (n : Int) (w : World) (he : Env w) (hs : rules.length <= 281474976710656) :
  Calls Tryz.prog 5 #[.string ⟨b.toArray⟩, .string ⟨rules.toArray⟩, .int .i64 n] w fun e w' => e = .returned (.tuple #[.string ⟨(xcj b rules n).toArray⟩, .int .i64 (xbj b rules n)]) /\ Below w.heap.size w w' := by
 have HE := hd he
 have HSL := hd hs
 clear he hs
 obtain ⟨e1, he1⟩ : ∃ e1, rdE b = e1 := ⟨_, rfl⟩
 obtain ⟨S, hS⟩ : ∃ S, rdS b = S := ⟨_, rfl⟩
 obtain ⟨e2, he2⟩ : ∃ e2, xcv rules = e2 := ⟨_, rfl⟩
 obtain ⟨L, hL⟩ : ∃ L, xco rules = L := ⟨_, rfl⟩
 obtain ⟨e3, he3⟩ : ∃ e3, xiq S L = e3 := ⟨_, rfl⟩
 obtain ⟨e4, he4⟩ : ∃ e4, xmx S n = e4 := ⟨_, rfl⟩
 obtain ⟨D, hD⟩ : ∃ D, xlz S n = D := ⟨_, rfl⟩
 obtain ⟨⟨ss, pp, is⟩, hC⟩ : ∃ C, xdk S L = C := ⟨_, rfl⟩
 have HR := hd (fun w he => xnc b w he e1 he1 S hS)
 have HRu := hd (fun w he => xik rules w he HSL.out)
 rw [he2, hL] at HRu
 have HCe := hd (xrm S L)
 rw [hC, he3] at HCe
 dsimp only at HCe
 have HRn := hd (fun vp vc vs w he h => xrt S n vp vc vs w he h e4 he4 D hD)
 have HTO : Hid (e3 = 0 -> e4 = 0 -> TellOK pp D.cells) := hd (fun h h' => by
  have := xxz (S := S) (hS ▸ x19 b) (he3.trans h) (he4.trans h')
  rw [hC, hD] at this
  exact this)
 have HJ : Hid (xbj b rules n = (if e1 ≠ 0 then e1 else if e2 ≠ 0 then e2 else if e3 ≠ 0 then e3 else e4) /\ xcj b rules n = if xbj b rules n = 0 then xeu is pp D.cells else []) := hd (by
  refine ⟨?_, ?_⟩
  .unfold xbj
   rw [he1, he2, hS, hL, he3, he4]
  .unfold xcj
   rw [hS, hL, hC, hD])
 clear he1 hS he2 hL he3 he4 hD hC
 go_enter Tryz.func5, Tryz.ntmps5
 go_wp2_with fail
 refine (HR.out _ (HE.out.up up0)).mono ?_
 rintro e w1 ⟨vp, vc, vs, rfl, s1, b1⟩
 obtain ⟨pa, pc, rfl⟩ := s1.r.p.form
 obtain ⟨ka, kc, rfl⟩ := s1.r.c.form
 obtain ⟨sa, sc, rfl⟩ := s1.r.s.form
 have S1 := hd s1.r
 have E1 := hd (HE.out.up b1)
 have B1 := hd b1
 clear s1 b1
 by_cases h1 : e1 = 0
 .subst h1
  have X1 : Hid (Below w1.heap.size w1 (w1.alloc (.cells #[.slice pa S.parts.length pc, .slice ka S.chans.length kc, .slice sa S.slots.length sc] 39))) := hd ((Below.refl _ _).alloc (Nat.le_refl _) _)
  have R1 := hd (Rw.new w1 39 #[.slice pa S.parts.length pc, .slice ka S.chans.length kc, .slice sa S.slots.length sc] rfl)
  go_wp2_with fail
  refine (HRu.out _ (E1.out.up X1.out)).mono ?_
  rintro e w2 ⟨vL, rfl, o2, b2⟩
  obtain ⟨la, lc, rfl⟩ := (xa7 o2).form
  have B12 : Below w1.heap.size w1 w2 := X1.out.trans (b2.mono (by simp))
  have S2 := hd (S1.out.up B12)
  have E2 := hd (E1.out.up B12)
  have R2 := hd (R1.out.up b2 R1.out.lt)
  have B2 := hd (B1.out.trans (B12.mono B1.out.size))
  have L2 := hd (xa7 o2)
  have hz2 : w1.heap.size < w2.heap.size := R2.out.lt
  clear o2 b2 B12 S1 E1 R1 X1 B1
  by_cases h2 : e2 = 0
  .subst h2
   have X2 : Hid (Below w2.heap.size w2 (w2.alloc (.cells #[.slice la L.length lc] 27))) := hd ((Below.refl _ _).alloc (Nat.le_refl _) _)
   have R2' := hd (R2.out.alloc (.cells #[.slice la L.length lc] 27))
   have s0 := R2'.out.cell (j := 0) (v := .slice pa S.parts.length pc) rfl
   have s1 := R2'.out.cell (j := 1) (v := .slice ka S.chans.length kc) rfl
   have s2 := R2'.out.cell (j := 2) (v := .slice sa S.slots.length sc) rfl
   go_wp2_with fail
   refine (HCe.out _ _ _ _ _ (E2.out.up X2.out) (S2.out.up X2.out) (L2.out.up X2.out)).mono ?_
   rintro e w3 ⟨vS, vP, rfl, o3, p3, b3, _⟩
   obtain ⟨ta, tc, rfl⟩ := o3.form
   obtain ⟨qa, qc, rfl⟩ := p3.form
   have B23 : Below w2.heap.size w2 w3 := X2.out.trans (b3.mono (by simp))
   have S3 := hd (S2.out.up B23)
   have E3 := hd (E2.out.up B23)
   have R3 := hd (R2'.out.up b3 R2'.out.lt)
   have B3 := hd (B2.out.trans (B23.mono B2.out.size))
   have P3 := hd p3
   have hz3 : w1.heap.size < w3.heap.size := R3.out.lt
   clear o3 p3 b3 B23 S2 E2 R2 R2' X2 B2 L2 s0 s1 s2
   by_cases h3 : e3 = 0
   .subst h3
    have X3 : Hid (Below w3.heap.size w3 (w3.alloc (.cells #[.slice ta ss.length tc] 46))) := hd ((Below.refl _ _).alloc (Nat.le_refl _) _)
    have R3' := hd (R3.out.alloc (.cells #[.slice ta ss.length tc] 46))
    have s0 := R3'.out.cell (j := 0) (v := .slice pa S.parts.length pc) rfl
    have s1 := R3'.out.cell (j := 1) (v := .slice ka S.chans.length kc) rfl
    have s2 := R3'.out.cell (j := 2) (v := .slice sa S.slots.length sc) rfl
    go_wp2_with fail
    refine (HRn.out _ _ _ _ (E3.out.up X3.out) (S3.out.up X3.out)).mono ?_
    rintro e w4 ⟨xc, xl, rfl, o4, b4⟩
    obtain ⟨ya, yc, rfl⟩ := o4.wld.c.form
    obtain ⟨za, zc, rfl⟩ := o4.wld.l.form
    have B34 : Below w3.heap.size w3 w4 := X3.out.trans (b4.mono (by simp))
    have E4 := hd (E3.out.up B34)
    have B4 := hd (B3.out.trans (B34.mono B3.out.size))
    have P4 := hd (P3.out.up B34)
    have C4 := hd o4.wld.c
    have hz4 : w1.heap.size < w4.heap.size := Nat.lt_of_lt_of_le hz3 B34.size
    clear o4 b4 B34 S3 E3 R3 R3' X3 B3 P3 s0 s1 s2
    by_cases h4 : e4 = 0
    .subst h4
     have X4 : Hid (Below w4.heap.size w4 (w4.alloc (.cells #[.int .i64 D.tick, .slice ya D.cells.length yc, .slice za D.lines.length zc] 61))) := hd ((Below.refl _ _).alloc (Nat.le_refl _) _)
     have HT := hd (HTO.out (by first | rfl | trivial) (by first | rfl | trivial))
     have HEQ : Hid (xbj b rules n = 0 /\ xcj b rules n = xeu is pp D.cells) := hd (by
      obtain ⟨j1, j2⟩ := HJ.out
      simp at j1
      rw [if_pos j1] at j2
      exact ⟨j1, j2⟩)
     go_wp2_with fail
     refine (xqp is pp D.cells _ _ _ _ _ (E4.out.up X4.out) HT.out (P4.out.up X4.out) (C4.out.up X4.out)).mono ?_
     rintro e w5 ⟨rfl, b5⟩
     have B5 := hd (B4.out.trans ((X4.out.trans (b5.mono (by simp))).mono B4.out.size))
     go_wp2
     go_ret2
     exact ⟨by rw [HEQ.out.1, HEQ.out.2] <;> rfl, B5.out⟩
    .have h4' : (e4 != 0) = true := by simpa using h4
     have HEQ : Hid (xbj b rules n = e4 /\ xcj b rules n = []) := hd (by
      obtain ⟨j1, j2⟩ := HJ.out
      simp at j1
      rw [j1, if_neg h4] at j2
      exact ⟨j1, j2⟩)
     clear h4
     go_wp2
     go_ret2
     exact ⟨by rw [HEQ.out.1, HEQ.out.2] <;> rfl, B4.out.alloc (by have := B4.out.size; omega) _⟩
   .have h3' : (e3 != 0) = true := by simpa using h3
    have HEQ : Hid (xbj b rules n = e3 /\ xcj b rules n = []) := hd (by
     obtain ⟨j1, j2⟩ := HJ.out
     simp [h3] at j1
     rw [j1, if_neg h3] at j2
     exact ⟨j1, j2⟩)
    clear h3
    go_wp2
    go_ret2
    exact ⟨by rw [HEQ.out.1, HEQ.out.2] <;> rfl, B3.out.alloc (by have := B3.out.size; omega) _⟩
  .have h2' : (e2 != 0) = true := by simpa using h2
   have HEQ : Hid (xbj b rules n = e2 /\ xcj b rules n = []) := hd (by
    obtain ⟨j1, j2⟩ := HJ.out
    simp [h2] at j1
    rw [j1, if_neg h2] at j2
    exact ⟨j1, j2⟩)
   clear h2
   go_wp2
   go_ret2
   exact ⟨by rw [HEQ.out.1, HEQ.out.2] <;> rfl, B2.out.alloc (by have := B2.out.size; omega) _⟩
 .have h1' : (e1 != 0) = true := by simpa using h1
  have HEQ : Hid (xbj b rules n = e1 /\ xcj b rules n = []) := hd (by
   obtain ⟨j1, j2⟩ := HJ.out
   simp [h1] at j1
   rw [j1, if_neg h1] at j2
   exact ⟨j1, j2⟩)
  clear h1
  go_wp2
  go_ret2
  exact ⟨by rw [HEQ.out.1, HEQ.out.2] <;> rfl, B1.out.alloc (by have := B1.out.size; omega) _⟩
def Eye (W : World) (g : Nat) (xs : List UInt8) : Prop := Rw W g 121 #[.string ⟨xs.toArray⟩]
theorem xbi (W : World) (g : Nat) (xs : List UInt8) (h : Eye W g xs) :
  Calls Tryz.prog 55 #[.pointer (some ⟨g, 0, none⟩)] W fun e w' => e = .returned (.int .i64 (xer xs).1) /\ Eye w' g (xer xs).2 /\ One g W w' := by
 match xs, h with
 | [], h =>
  have k0 : W.cell? ⟨g, 0, none⟩ = some (.string ⟨#[]⟩) := h.cell (j := 0) rfl
  have HR := hd h
  clear h
  go_enter Tryz.func55, Tryz.ntmps55
  go_wp2
  go_ret
  exact ⟨rfl, HR.out, One.refl _ _⟩
 | x :: q, h =>
  have k0 : W.cell? ⟨g, 0, none⟩ = some (.string ⟨(x :: q).toArray⟩) := h.cell (j := 0) rfl
  have f0 := h.fr 0
  have HR := hd h
  clear h
  have hx : x.toNat < 256 := x.toNat_lt
  have e2 : (⟨(x :: q).toArray⟩ : ByteArray).extract 1 (q.length + 1) = ⟨q.toArray⟩ := by rw [xj8]; simp
  have hsz : (⟨(x :: q).toArray⟩ : ByteArray).size = q.length + 1 := by rw [xqq]; rfl
  have hw : wrap64 (x.toNat : Int) = (x.toNat : Int) := by unfold wrap64; omega
  go_enter Tryz.func55, Tryz.ntmps55
  go_wp2
  go_ret
  refine ⟨?_, HR.out.set 0 _, One.set _ _ _ _⟩
  show Ending.returned (.int .i64 (wrap64 (x.toNat : Int))) = _
  rw [hw]
  rfl
theorem x0a (n b : Int) (h0 : 0 <= b) (h1 : b < 256) : bits .or .i64 (wrap64 (n * 256)) b = IntKind.i64.wrap (n * 256 + b) := by
 have hb : ((UInt8.ofNat b.toNat).toNat : Int) = b := by rw [UInt8.toNat_ofNat']; omega
 have := xwn n (UInt8.ofNat b.toNat)
 rw [hb] at this
 rw [xol, this]
 unfold xjg
 rw [hb]
theorem xmk (W : World) (g : Nat) (xs : List UInt8) (h : Eye W g xs) :
  Calls Tryz.prog 56 #[.pointer (some ⟨g, 0, none⟩)] W fun e w' => e = .returned (.int .i64 (xna 8 xs).1) /\ Eye w' g (xna 8 xs).2 /\ One g W w' := by
 have HR := hd h
 clear h
 go_enter Tryz.func56, Tryz.ntmps56
 go_wp2
 go_loopw [3, 4] (fun n i wr => ∃ k : Nat, i = .int .i64 k /\ k <= 8 /\ n = .int .i64 (xna k xs).1 /\ Hid (Eye wr g (xna k xs).2) /\ Hid (One g W wr)) (fun _ i _ => 8 - (intOf i).toNat)
 case atStart => exact ⟨0, rfl, by omega, rfl, HR, hd (One.refl _ _)⟩
 case round =>
  obtain ⟨k, rfl, hk, rfl, HE, HO⟩ := hrel
  by_cases hlt : k < 8
  .have hli : (k : Int) < 8 := by omega
   have HS : Hid ((xna (k + 1) xs).1 = IntKind.i64.wrap ((xna k xs).1 * 256 + (xer (xna k xs).2).1)) := hd rfl
   have HS2 : Hid ((xna (k + 1) xs).2 = (xer (xna k xs).2).2) := hd rfl
   have hr := xi2 (xna k xs).2
   generalize (xna k xs).1 = n at *
   generalize (xna k xs).2 = q at *
   have HOP := hd (x0a n (xer q).1 hr.1 hr.2)
   go_wp2_with fail
   refine (xbi _ g q HE.out).mono ?_
   rintro e w2 ⟨rfl, h2, o2⟩
   have H2 := hd h2
   have O2 := hd (HO.out.trans o2)
   clear h2 o2 HE HO
   go_wp2
   refine ⟨⟨k + 1, by simp, by omega, ?_, by rw [HS2.out]; exact H2, O2⟩, by simp [intOf]; omega⟩
   rw [HS.out, <- HOP.out]
  .obtain rfl : k = 8 := by omega
   go_wp2
   go_ret
   exact ⟨rfl, HE.out, HO.out⟩
theorem xjb (n : Int) (w : World) : Calls Tryz.prog 106 #[.int .i64 n] w fun e w' => e = .returned (.slice (some ⟨w.heap.size, 0, none⟩) 8 8) /\ w' = w.alloc (.cells (Lib.byteCells (eight n)).toArray 5) := by
 have h0 := xel n
 have h1 := xel (n / 256)
 have h2 := xel (n / 65536)
 have h3 := xel (n / 16777216)
 have h4 := xel (n / 4294967296)
 have h5 := xel (n / 1099511627776)
 have h6 := xel (n / 281474976710656)
 have h7 := xel (n / 72057594037927936)
 go_enter Tryz.func106, Tryz.ntmps106
 go_wp2
 go_ret
 exact ⟨rfl, rfl⟩
end Go.Proofs.YtbkdoohhdkahiaaGreatDoor
