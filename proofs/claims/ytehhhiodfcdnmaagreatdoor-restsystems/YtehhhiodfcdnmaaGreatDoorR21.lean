/- view.turned, of whatever turns. -/
import Derived.Test.YtehhhiodfcdnmaaGreatDoorR4
import Derived.Test.YtehhhiodfcdnmaaGreatDoorR18
import Derived.Test.YtehhhiodfcdnmaaGreatDoorR15
import Derived.Test.YtehhhiodfcdnmaaGreatDoorR16
namespace Go.Proofs.YtehhhiodfcdnmaaGreatDoor
set_option linter.unusedSimpArgs false
set_option linter.unusedVariables false
set_option maxRecDepth 100000
set_option maxHeartbeats 8000000
open Go.RowKit Go.Sort
theorem wp_callV {o : Oper} {a : Act} {w : World} {K : Act → World → Prop} {Q : Exit → Act → World → Prop} (x : Operand) (f : Nat) (cap : Array Value) (args : Array Operand) (tys : Array TypeId)
  (ho : o.op = .call { callee := .value x, args := args, argTypes := tys }) (hx : a.eval x = .func (.func f) #[] cap) (hen : Enters f) (vs : Array Value) (hvs : args.map a.eval = vs) (h : Calls Tryz.prog f (vs ++ cap) w fun e w' => ∃ v, e = .returned v ∧ K (a.put o.dst v) w') : Oper.wp Tryz.prog o a w K Q := by
 unfold Oper.wp
 subst hvs
 unfold Enters at hen
 simp only [execOp, ho, resolve, hx, Deferred.ofValue]
 simp [invoke, hen, Result.andThen, go_sem]
 refine h.mono ?_
 rintro e w' ⟨v, rfl, hk⟩
 exact hk
theorem zeroPart : ((Tryz.prog.info? 49).bind (·.zero)).isSome = true := by kernel_rfl
theorem sizePart : (Tryz.prog.info? 49).map (·.size) = some 2 := by kernel_rfl
theorem sizeSys : (Tryz.prog.info? 26).map (·.size) = some 3 := by kernel_rfl
theorem sl_growP {w w' : World} {row : Option Nat} {size : Nat} {v : Value} {n : Nat} {xs : List Value} (h : Sl w size v n xs) (hg : w.grownBy w' row) (hne : 0 < n → ∀ k, v.ownBlock = some k → row ≠ some k) : Sl w' size v n xs := by
 obtain ⟨h1, ao, cap, rfl, h3, h4⟩ := h
 refine ⟨h1, ao, cap, rfl, h3, fun hn => ?_⟩
 obtain ⟨b, off, rfl, hlt, hc, hz⟩ := h4 hn
 exact ⟨b, off, rfl, Nat.lt_of_lt_of_le hlt hg.size, fun j u hj => (hg.cell_far ⟨b, off + j, none⟩ hlt (fun e => hne hn b rfl e.symm)).trans (hc j u hj), hz.of (hg.block b hlt (fun e => hne hn b rfl e.symm))⟩
theorem sl_setP {w : World} {size : Nat} {v : Value} {n : Nat} {xs : List Value} (h : Sl w size v n xs) {c j : Nat} (u : Value) (hne : 0 < n → v.ownBlock ≠ some c) : Sl (w.setCell ⟨c, j, none⟩ u) size v n xs := by
 obtain ⟨h1, ao, cap, rfl, h3, h4⟩ := h
 refine ⟨h1, ao, cap, rfl, h3, fun hn => ?_⟩
 obtain ⟨b, off, rfl, hlt, hc, hz⟩ := h4 hn
 exact ⟨b, off, rfl, by rw [size_set]; exact hlt, fun k u' hk => cl_set (Or.inl (by simpa [Value.ownBlock] using hne hn)) (hc k u' hk), hz.set _ _⟩
def Of (lo : Nat) (wr : World) (vp : Value) (n : Nat) (v : Value) : Prop := 0 < n → ∀ b, v.ownBlock = some b → b < wr.heap.size ∧ (b < lo ∨ lo + 3 ≤ b) ∧ vp.ownBlock ≠ some b
def RowT (n0 lo : Nat) (wr : World) (vp : Value) (ps : List Prt) (l : List (Value × Value)) : Prop :=
 l.length = ps.length ∧ wr.ownsRow (lo + 3) 49 2 vp ps.length (rowC prC l) ∧ ∀ k (hk : k < ps.length) (hk' : k < l.length), PrtR wr l[k].1 l[k].2 ps[k] ∧ (NewB n0 l[k].1 ∧ NewB n0 l[k].2) ∧ Of lo wr vp ps[k].code.length l[k].1 ∧ Of lo wr vp ps[k].inn.length l[k].2
structure Tu (n0 : Nat) (w wr : World) (sr : Array Value) (vp vc vs : Value) (ps : List Prt) : Prop where
 d : Below w.heap.size w wr
 r0 : Rw wr w.heap.size 26 sr
 r4 : Rw wr (w.heap.size + 1) 26 #[.slice none 0 0, .slice none 0 0, .slice none 0 0]
 r5 : Rw wr (w.heap.size + 2) 26 #[vp, vc, vs]
 row : ∃ l, RowT n0 w.heap.size wr vp ps l
theorem Of.up {lo : Nat} {wr wr' : World} {vp : Value} {n : Nat} {v : Value} (h : Of lo wr vp n v) (hs : wr.heap.size ≤ wr'.heap.size) : Of lo wr' vp n v := fun hn b e => ⟨Nat.lt_of_lt_of_le (h hn b e).1 hs, (h hn b e).2⟩
theorem Tu.z {n0 : Nat} {w wr : World} {sr : Array Value} {vp vc vs : Value} {ps : List Prt} (h : Tu n0 w wr sr vp vc vs ps) : w.heap.size + 3 ≤ wr.heap.size := h.r5.lt
theorem RowT.up {n0 lo : Nat} {wr wr' : World} {vp : Value} {ps : List Prt} {l : List (Value × Value)} (h : RowT n0 lo wr vp ps l) (hb : Below wr.heap.size wr wr') : RowT n0 lo wr' vp ps l :=
 ⟨h.1, own_upC h.2.1 hb, fun k hk hk' => ⟨(h.2.2 k hk hk').1.up hb, (h.2.2 k hk hk').2.1, (h.2.2 k hk hk').2.2.1.up hb.size, (h.2.2 k hk hk').2.2.2.up hb.size⟩⟩
theorem Tu.up {n0 : Nat} {w wr wr' : World} {sr : Array Value} {vp vc vs : Value} {ps : List Prt} (h : Tu n0 w wr sr vp vc vs ps) (hb : Below wr.heap.size wr wr') : Tu n0 w wr' sr vp vc vs ps := by
 obtain ⟨l, hl⟩ := h.row
 exact ⟨h.d.trans (hb.mono h.d.size), h.r0.up hb h.r0.lt, h.r4.up hb h.r4.lt, h.r5.up hb h.r5.lt, l, hl.up hb⟩
theorem Tu.form {n0 : Nat} {w wr : World} {sr : Array Value} {vp vc vs : Value} {ps : List Prt} (h : Tu n0 w wr sr vp vc vs ps) : ∃ a c, vp = .slice a ps.length c := by
 obtain ⟨l, hl⟩ := h.row
 exact own_form hl.2.1
theorem Tu.lt {n0 : Nat} {w wr : World} {sr : Array Value} {vp vc vs : Value} {ps : List Prt} (h : Tu n0 w wr sr vp vc vs ps) : ∀ b, vp.ownBlock = some b → w.heap.size + 3 ≤ b ∧ b < wr.heap.size := by
 obtain ⟨l, hl⟩ := h.row
 exact fun b e => ⟨own_block hl.2.1 b e, own_lt hl.2.1 b e⟩
theorem Tu.add {n0 : Nat} {w W : World} {sr : Array Value} {vp vc vs : Value} {ps : List Prt} (h : Tu n0 w W sr vp vc vs ps) (p : Prt) (c i : Value) (hp : PrtR W c i p) (h1 : NewB n0 c) (h2 : NewB n0 i) (o1 : Of w.heap.size W vp p.code.length c) (o2 : Of w.heap.size W vp p.inn.length i) :
  ∃ l, W.ownsRow (w.heap.size + 3) 49 2 vp ps.length (rowC prC l) ∧ ∀ vp' W', W'.ownsRow (w.heap.size + 3) 49 2 vp' (ps.length + 1) (rowC prC l ++ [c, i]) → W.grownBy W' vp.ownBlock → (vp.ownBlock = vp'.ownBlock ∨ ∃ g, vp'.ownBlock = some g ∧ W.heap.size ≤ g) →
   Tu n0 w (W'.setCell ⟨w.heap.size + 2, 0, none⟩ vp') sr vp' vc vs (ps ++ [p]) ∧ Rw W' (w.heap.size + 2) 26 #[vp, vc, vs] := by
 have hlt := h.lt
 have hz := h.z
 obtain ⟨l, hl, hown, hr⟩ := h.row
 refine ⟨l, hown, fun vp' W' hown' hgr hat => ?_⟩
 have hb : Below (w.heap.size + 3) W W' := (Below.refl _ _).grown hgr hz (fun k e => (hlt k e).1)
 have b2 : Below w.heap.size W (W'.setCell ⟨w.heap.size + 2, 0, none⟩ vp') := (hb.mono om).setCell (by simp) _
 have r5 := h.r5.up hb om
 have hs : (W'.setCell ⟨w.heap.size + 2, 0, none⟩ vp').heap.size = W'.heap.size := size_set ..
 have keep : ∀ (n : Nat) (v : Value), Of w.heap.size W vp n v → Of w.heap.size (W'.setCell ⟨w.heap.size + 2, 0, none⟩ vp') vp' n v := fun n v ho hn b e => by
  obtain ⟨q1, q2, q3⟩ := ho hn b e
  refine ⟨by rw [hs]; exact Nat.lt_of_lt_of_le q1 hgr.size, q2, fun e' => ?_⟩
  rcases hat with e1 | ⟨g, e1, hg⟩
  ·exact q3 (e1.trans e')
  ·rw [e1] at e'
   injection e' with e'
   omega
 have keepS : ∀ {size n : Nat} {v : Value} {xs : List Value}, Of w.heap.size W vp n v → Sl W size v n xs → Sl (W'.setCell ⟨w.heap.size + 2, 0, none⟩ vp') size v n xs := fun ho hS =>
  sl_setP (sl_growP hS hgr (fun hn k e => (ho hn k e).2.2)) _ (fun hn e => by have := (ho hn _ e).2.1; omega)
 refine ⟨⟨h.d.trans b2, (h.r0.up hb om).set_other _ (by simp), (h.r4.up hb om).set_other _ (by simp), r5.set 0 _, l ++ [(c, i)], by simp [hl], ?_, fun k hk hk' => ?_⟩, r5⟩
 ·have e1 : rowC prC (l ++ [(c, i)]) = rowC prC l ++ [c, i] := by rw [rowC_snoc]; rfl
  rw [e1, List.length_append]
  exact own_set (a := ⟨w.heap.size + 2, 0, none⟩) hown' _ (fun e => by have := own_block hown' _ e; simp at this)
 ·by_cases hkl : k < ps.length
  ·have hkl' : k < l.length := by omega
   obtain ⟨⟨q1, q2⟩, q3, q4, q5⟩ := hr k hkl hkl'
   simp only [List.getElem_append_left hkl, List.getElem_append_left hkl']
   exact ⟨⟨keepS q4 q1, keepS q5 q2⟩, q3, keep _ _ q4, keep _ _ q5⟩
  ·have hk1 : k = ps.length := by simp at hk; omega
   subst hk1
   have e1 : (ps ++ [p])[ps.length] = p := by simp
   have e2 : (l ++ [(c, i)])[ps.length]'hk' = (c, i) := by simp [← hl]
   rw [e1, e2]
   exact ⟨⟨keepS o1 hp.code, keepS o2 hp.inn⟩, ⟨h1, h2⟩, keep _ _ o1, keep _ _ o2⟩
def PartsF (n0 : Nat) (w : World) (v : Value) (ps : List Prt) : Prop :=
 ∃ l : List (Value × Value), l.length = ps.length ∧ Sl w 2 v ps.length (rowC prC l) ∧ ∀ k (hk : k < ps.length) (hk' : k < l.length), PrtR w l[k].1 l[k].2 ps[k] ∧ (NewB n0 l[k].1 ∧ NewB n0 l[k].2) ∧ (0 < ps[k].code.length → Apart l[k].1 v) ∧ (0 < ps[k].inn.length → Apart l[k].2 v)
theorem PartsF.r {n0 : Nat} {w : World} {v : Value} {ps : List Prt} (h : PartsF n0 w v ps) : PartsR w v ps := by
 obtain ⟨l, h1, h2, h3⟩ := h
 exact ⟨l, h1, h2, fun k hk hk' => (h3 k hk hk').1⟩
theorem sl_rowP {w : World} {size : Nat} {v : Value} {n : Nat} {xs : List Value} (h : Sl w size v n xs) {c : Nat} (cs : Array Value) (hne : 0 < n → v.ownBlock ≠ some c) : Sl (w.setRow c cs) size v n xs := sl_row0K h hne
theorem turned_any (S : SysD) (P' : List Prt) (hP : P'.length = S.parts.length) (hn4 : S.parts.length ≤ 4) (n0 : Nat) (f : Nat) (hen : Enters f) (cap : Array Value) (vp vc vs : Value) (w : World) (hS : Sys w vp vc vs S)
  (hf : ∀ (k : Nat) (hk : k < S.parts.length) (hk' : k < P'.length) (c i : Value) (W : World), Below w.heap.size w W → w.heap.size + 3 ≤ W.heap.size → PrtR w c i S.parts[k] →
   Calls Tryz.prog f (#[.int .i64 (k : Int), .agg #[c, i]] ++ cap) W fun e W' => ∃ c' i', e = .returned (.agg #[c', i']) ∧ PrtR W' c' i' P'[k] ∧ (NewB n0 c' ∧ NewB n0 i') ∧ (0 < P'[k].code.length → ∀ b, c'.ownBlock = some b → b < w.heap.size ∨ W.heap.size ≤ b) ∧ (0 < P'[k].inn.length → ∀ b, i'.ownBlock = some b → b < w.heap.size ∨ W.heap.size ≤ b) ∧ Below W.heap.size W W') :
  Calls Tryz.prog 45 #[.agg #[vp, vc, vs], .func (.func f) #[] cap] w fun e w' => ∃ vp', e = .returned (.agg #[vp', vc, vs]) ∧ PartsF n0 w' vp' P' ∧ NewB w.heap.size vp' ∧ Below w.heap.size w w' := by
 obtain ⟨i1, hi1, hy0, hy1, hy2⟩ := info_parts infoPart
 obtain ⟨pa, pc, rfl⟩ := hS.p.form
 obtain ⟨ka, kc, rfl⟩ := hS.c.form
 obtain ⟨sa, sc, rfl⟩ := hS.s.form
 have HS := hd hS
 have HF := hd hf
 have HP := hd hP
 clear hS hf hP
 go_enter Tryz.func45, Tryz.ntmps45
 go_upto_region 2 with fail
 generalize hX : World.alloc _ _ = X
 have HC : Hid (Tu n0 w X #[.slice pa S.parts.length pc, .slice ka S.chans.length kc, .slice sa S.slots.length sc] (.slice none 0 0) (.slice ka S.chans.length kc) (.slice sa S.slots.length sc) []) := by
  have hXX : X = ((w.alloc (.cells #[.slice pa S.parts.length pc, .slice ka S.chans.length kc, .slice sa S.slots.length sc] 26)).alloc (.cells #[.slice none 0 0, .slice none 0 0, .slice none 0 0] 26)).alloc (.cells #[.slice none 0 0, .slice ka S.chans.length kc, .slice sa S.slots.length sc] 26) := by rw [← hX]
  exact hd ⟨by rw [hXX]; exact up0, by rw [hXX]; exact rn0, by rw [hXX]; exact rn0, by rw [hXX]; exact rn0, [], rfl, World.ownsRow_nil _ _ _ _, fun k hk => by simp at hk⟩
 clear hX
 have q0 := HC.out.r0.cell (j := 0) (v := .slice pa S.parts.length pc) rfl
 go_wp2
 clear q0
 go_loopw [16] (fun i wr => ∃ k : Nat, i = .int .i64 k ∧ k ≤ S.parts.length ∧ Hid (∃ vp, Tu n0 w wr #[.slice pa S.parts.length pc, .slice ka S.chans.length kc, .slice sa S.slots.length sc] vp (.slice ka S.chans.length kc) (.slice sa S.slots.length sc) (P'.take k))) (fun i _ => S.parts.length - (intOf i).toNat)
 case atStart => exact ⟨0, rfl, Nat.zero_le _, hd ⟨_, HC.out⟩⟩
 case round =>
  clear HC
  obtain ⟨k, rfl, hk, HC⟩ := hrel
  obtain ⟨vp, hC⟩ := HC.out
  clear HC
  generalize hlk : P'.take k = ps at hC
  have HLK := hd hlk
  have HLL : Hid (ps.length = k) := hd (by rw [← hlk]; simp; have := HP.out; omega)
  obtain ⟨a3, c3, rfl⟩ := hC.form
  have CP := hd hC
  clear hlk hC
  by_cases hlt : k < S.parts.length
  ·have hli : (k : Int) < S.parts.length := by omega
   have hltP : k < P'.length := by have := HP.out; omega
   obtain ⟨b, off, cap1, e1, hcap, hbw, hpp⟩ := HS.out.p.open om
   cases e1
   obtain ⟨c, i, hc0, hc1, hpr⟩ := hpp k hlt
   obtain ⟨ca, cc, rfl⟩ := hpr.code.form
   obtain ⟨ia, ic, rfl⟩ := hpr.inn.form
   have HCALL := hd fun W h1 h2 => HF.out k hlt hltP _ _ W h1 h2 hpr
   have HPK : Hid (P'.take (k + 1) = ps ++ [P'[k]]) := hd (by rw [List.take_succ_eq_append_getElem hltP, HLK.out])
   have k0 := bcl CP.out.d hbw hc0
   have k1 := bcl CP.out.d hbw hc1
   have zz := CP.out.z
   clear hpp hc0 hc1 hpr
   generalize P'[k] = q at HCALL HPK
   generalize S.parts[k] = p0 at k0 k1 HCALL
   go_wp2
   clear k0 k1
   generalize hX2 : World.alloc _ _ = X2
   have hXX2 : X2 = wr.alloc (.cells #[.slice ca p0.code.length cc, .slice ia p0.inn.length ic] 49) := by rw [← hX2]
   have b2 : Below wr.heap.size wr X2 := by rw [hXX2]; exact (Below.refl _ _).alloc (Nat.le_refl _) _
   have R7 : Hid (Rw X2 wr.heap.size 49 #[.slice ca p0.code.length cc, .slice ia p0.inn.length ic]) := hd (by rw [hXX2]; exact Rw.new _ _ _ rfl)
   have hz2 : X2.heap.size = wr.heap.size + 1 := by rw [hXX2]; simp
   have CP2 := hd (CP.out.up b2)
   have HZ2 := hd hz2
   have HLT := hd CP.out.lt
   clear hX2 hXX2 b2 CP hz2
   refine region_still (S := fun w' => Rw w' (w.heap.size + 2) 26 #[.slice a3 ps.length c3, .slice ka S.chans.length kc, .slice sa S.slots.length sc] ∧ Rw w' wr.heap.size 49 #[.slice ca p0.code.length cc, .slice ia p0.inn.length ic]) 9 kr ⟨CP2.out.r5.drew, R7.out.drew⟩ (fun hHeld => ?_)
   refine Still.t 0 [] hHeld ?_ (hy := by (intro w' hSw; (try dsimp only at hSw); obtain ⟨u1, u2⟩ := hSw; have q1 := u1.cell (j := 0) (v := .slice a3 ps.length c3) rfl; have q2 := u2.cell (j := 0) (v := .slice ca p0.code.length cc) rfl; have q3 := u2.cell (j := 1) (v := .slice ia p0.inn.length ic) rfl; clear u1 u2; go_simp; try with_reducible rfl))
   refine Still.t 1 [] hHeld ?_ (hy := by (intro w' hSw; (try dsimp only at hSw); obtain ⟨u1, u2⟩ := hSw; have q1 := u1.cell (j := 0) (v := .slice a3 ps.length c3) rfl; have q2 := u2.cell (j := 0) (v := .slice ca p0.code.length cc) rfl; have q3 := u2.cell (j := 1) (v := .slice ia p0.inn.length ic) rfl; clear u1 u2; go_simp; try with_reducible rfl))
   refine Still.t 2 [] hHeld ?_ (hy := by (intro w' hSw; (try dsimp only at hSw); obtain ⟨u1, u2⟩ := hSw; have q1 := u1.cell (j := 0) (v := .slice a3 ps.length c3) rfl; have q2 := u2.cell (j := 0) (v := .slice ca p0.code.length cc) rfl; have q3 := u2.cell (j := 1) (v := .slice ia p0.inn.length ic) rfl; clear u1 u2; go_simp; try with_reducible rfl))
   refine Still.t 3 [] hHeld ?_ (hy := by (intro w' hSw; (try dsimp only at hSw); obtain ⟨u1, u2⟩ := hSw; have q1 := u1.cell (j := 0) (v := .slice a3 ps.length c3) rfl; have q2 := u2.cell (j := 0) (v := .slice ca p0.code.length cc) rfl; have q3 := u2.cell (j := 1) (v := .slice ia p0.inn.length ic) rfl; clear u1 u2; go_simp; try with_reducible rfl))
   refine Still.t 4 [] hHeld ?_ (hy := by (intro w' hSw; (try dsimp only at hSw); obtain ⟨u1, u2⟩ := hSw; have q1 := u1.cell (j := 0) (v := .slice a3 ps.length c3) rfl; have q2 := u2.cell (j := 0) (v := .slice ca p0.code.length cc) rfl; have q3 := u2.cell (j := 1) (v := .slice ia p0.inn.length ic) rfl; clear u1 u2; go_simp; try with_reducible rfl))
   refine Still.o 5 rfl rfl (fun K hK => ?_)
   refine wp_callV (.tmp 23) f cap _ _ rfl ev hen #[.int .i64 (k : Int), .agg #[.slice ca p0.code.length cc, .slice ia p0.inn.length ic]] ev ((HCALL.out _ (CP2.out.d.trans (Below.refl _ _).drew) (by have := HZ2.out; show w.heap.size + 3 ≤ X2.heap.size; omega)).mono ?_)
   rintro e W2 ⟨c', i', rfl, hq, ⟨hq1, hq2⟩, o1, o2, bb⟩
   obtain ⟨da, dc, rfl⟩ := hq.code.form
   obtain ⟨ja, jc, rfl⟩ := hq.inn.form
   have bW : Below X2.heap.size X2 W2 := (Below.refl _ _).drew.trans bb
   have z2 := bW.size
   have CP3 := hd (CP2.out.up bW)
   have R73 := hd (R7.out.up bW R7.out.lt)
   have HQ := hd hq
   have hof : ∀ (n : Nat) (v : Value), Sl W2 1 v n (List.replicate n (.int .i64 0)) ∨ True → (0 < n → ∀ b, v.ownBlock = some b → b < w.heap.size ∨ X2.heap.size ≤ b) → (0 < n → ∀ b, v.ownBlock = some b → b < W2.heap.size) → Of w.heap.size (W2.alloc (.cells #[.slice da q.code.length dc, .slice ja q.inn.length jc] 49)) (.slice a3 ps.length c3) n v := fun n v _ h1 h2 hn b e => by
    have y1 := h1 hn b e
    have y2 := h2 hn b e
    have y3 := HZ2.out
    refine ⟨by simp; omega, by omega, fun e' => ?_⟩
    have := HLT.out b e'
    omega
   have ltc : 0 < q.code.length → ∀ b, (Value.slice da q.code.length dc).ownBlock = some b → b < W2.heap.size := fun hn b e => by
    obtain ⟨b', off', cap', e1, _, hb', _⟩ := HQ.out.code.open hn
    rw [e1] at e
    simp [Value.ownBlock] at e
    omega
   have lti : 0 < q.inn.length → ∀ b, (Value.slice ja q.inn.length jc).ownBlock = some b → b < W2.heap.size := fun hn b e => by
    obtain ⟨b', off', cap', e1, _, hb', _⟩ := HQ.out.inn.open hn
    rw [e1] at e
    simp [Value.ownBlock] at e
    omega
   obtain ⟨l, hps, hadd⟩ := (CP3.out.up ((Below.refl _ _).alloc (Nat.le_refl _) (.cells #[.slice da q.code.length dc, .slice ja q.inn.length jc] 49))).add q _ _ (HQ.out.up ((Below.refl _ _).alloc (Nat.le_refl _) _)) hq1 hq2 (hof _ _ (.inr trivial) o1 ltc) (hof _ _ (.inr trivial) o2 lti)
   have HPS := hd hps
   have HADD := hd hadd
   refine ⟨_, rfl, hK _ _ (fun _ => ⟨CP3.out.r5, R73.out⟩) (fun hh => ?_)⟩
   have hHeld := hh (by decide)
   clear hK K hh
   try simp only [Act.put, l1, l2, l3, l4, l5, l6]
   clear hq bb hof ltc lti hps hadd o1 o2 hq1 hq2
   refine Still.o 6 rfl rfl (fun K hK => ?_)
   refine wp_buildOne 22 49 (.tmp 26) rfl #[.slice da q.code.length dc, .slice ja q.inn.length jc] ev Tryz.underlying22 sizePart zeroPart (by show 0 < 2; decide) (by show 2 ≤ 2 ^ 24; decide) ?_
   refine hK _ _ (fun _ => ⟨CP3.out.r5.alloc _, R73.out.alloc _⟩) (fun hh => ?_)
   have hHeld := hh (by decide)
   clear hK K hh
   try simp only [Act.put, l1, l2, l3, l4, l5, l6]
   refine Still.o 7 rfl rfl (fun K hK => ?_)
   refine wp_append_lies _ (.tmp 22) (.tmp 27) 22 rfl (w.heap.size + 3) 49 i1 _ 2 48 Tryz.underlying22 hi1 hy0 hy1 hy2 rfl (by decide) (.slice a3 ps.length c3) ps.length (rowC prC l) ev HPS.out ⟨W2.heap.size, 0, none⟩ 1 1 [.slice da q.code.length dc, .slice ja q.inn.length jc] ev rfl (new_range _ _ #[.slice da q.code.length dc, .slice ja q.inn.length jc] _ rfl) (two_cell _ _ _ _ _ _) (by decide) (by have := HLL.out; unfold maxLen; omega) (by have := HLL.out; omega) (by have := HZ2.out; simp; omega) _ rfl ?_
   intro g4 cap4 W4 hown hgrow hat hg4
   obtain ⟨hC5, hr5⟩ := HADD.out _ W4 hown hgrow (hat.imp (fun e => e) (fun e => ⟨g4, rfl, by rw [e]; simp⟩))
   have R74 : Rw W4 wr.heap.size 49 #[.slice ca p0.code.length cc, .slice ia p0.inn.length ic] := (hgrow.block _ (R73.out.alloc _).lt (fun e => by have := HLT.out _ e.symm; omega)).trans (R73.out.alloc _)
   have C5 := hd hC5
   have q5 := hr5.cell (j := 0) (v := .slice a3 ps.length c3) rfl
   have f5 := hr5.fr 0
   refine hK _ _ (fun _ => ⟨hr5, R74⟩) (fun hh => ?_)
   have hHeld := hh (by decide)
   clear hK K hh
   try simp only [Act.put, l1, l2, l3, l4, l5, l6]
   clear hown hgrow hat hC5 HPS HADD hr5 R74
   refine Still.t 8 [] hHeld ?_
   refine Still.o 9 rfl rfl (fun K hK => ?_)
   clear hHeld
   go_simp
   refine hK _ _ ab (fun _ => Still.vv ?_)
   clear hK K
   clear q5 f5
   go_wp2
   go_roundw
   case rel => exact ⟨k + 1, by go_num, by omega, hd ⟨_, by rw [HPK.out]; exact C5.out⟩⟩
   case measure => simp [intOf]; omega
  ·have hli : ¬ (k : Int) < S.parts.length := by omega
   have hle : P' = ps := by rw [← HLK.out, List.take_of_length_le (by have := HP.out; omega)]
   subst hle
   have hlt := hd CP.out.lt
   have zz := CP.out.z
   have q5 := CP.out.r5.cell (j := 0) (v := .slice a3 P'.length c3) rfl
   have q6 := CP.out.r5.cell (j := 1) (v := .slice ka S.chans.length kc) rfl
   have q7 := CP.out.r5.cell (j := 2) (v := .slice sa S.slots.length sc) rfl
   go_wp2_with (refine wpList_store_row rfl 26 (.tmp 4) (.tmp 31) rfl (w.heap.size + 1) #[.slice a3 P'.length c3, .slice ka S.chans.length kc, .slice sa S.slots.length sc] rfl rfl 26 _ CP.out.r4 sizeSys rfl (by simp [Value.oneCell']) ?_)
   refine bodyPost_ret (results_cell_row Tryz.results45 _ _ (w.heap.size + 1) 26 #[.slice a3 P'.length c3, .slice ka S.chans.length kc, .slice sa S.slots.length sc] (0, 0) _ rfl (CP.out.r4.row _) Tryz.underlying26 rfl sizeSys) rfl ⟨_, rfl, ?_, fun b e => by have := hlt.out b e; omega, below_row CP.out.d om _⟩
   obtain ⟨l, h1, h2, h3⟩ := CP.out.row
   refine ⟨l, h1, (own_sl h2).row _ (fun e => by have := hlt.out _ e; omega), fun k hk hk' => ⟨⟨sl_rowP (h3 k hk hk').1.code _ (fun hn e => by have := ((h3 k hk hk').2.2.1 hn _ e).2.1; omega), sl_rowP (h3 k hk hk').1.inn _ (fun hn e => by have := ((h3 k hk hk').2.2.2 hn _ e).2.1; omega)⟩, (h3 k hk hk').2.1, fun hn b e => ((h3 k hk hk').2.2.1 hn b e).2.2, fun hn b e => ((h3 k hk hk').2.2.2 hn b e).2.2⟩⟩
structure SysF (n : Nat) (w : World) (vp vc vs : Value) (S : SysD) : Prop where
 p : PartsF n w vp S.parts
 np : NewB n vp
 c : Sl w 3 vc S.chans.length (rowC chC S.chans)
 s : Sl w 2 vs S.slots.length (rowC slC S.slots)
 nc : NewB n vc
 ns : NewB n vs
theorem SysF.sys {n : Nat} {w : World} {vp vc vs : Value} {S : SysD} (h : SysF n w vp vc vs S) : Sys w vp vc vs S := ⟨h.p.r, h.c, h.s⟩
theorem PartsF.up {n : Nat} {w w' : World} {v : Value} {ps : List Prt} (h : PartsF n w v ps) (hb : Below w.heap.size w w') : PartsF n w' v ps := by
 obtain ⟨l, h1, h2, h3⟩ := h
 exact ⟨l, h1, h2.up hb, fun k hk hk' => ⟨(h3 k hk hk').1.up hb, (h3 k hk hk').2⟩⟩
theorem SysF.up {n : Nat} {w w' : World} {vp vc vs : Value} {S : SysD} (h : SysF n w vp vc vs S) (hb : Below w.heap.size w w') : SysF n w' vp vc vs S := ⟨h.p.up hb, h.np, h.c.up hb, h.s.up hb, h.nc, h.ns⟩
theorem PartsF.row {n : Nat} {w : World} {v : Value} {ps : List Prt} (h : PartsF n w v ps) (hv : NewB n v) {x : Nat} (hx : x < n) (cs : Array Value) : PartsF n (w.setRow x cs) v ps := by
 obtain ⟨l, h1, h2, h3⟩ := h
 exact ⟨l, h1, h2.row cs (fun e => by have := hv _ e; omega), fun k hk hk' => ⟨⟨(h3 k hk hk').1.code.row cs (fun e => by have := (h3 k hk hk').2.1.1 _ e; omega), (h3 k hk hk').1.inn.row cs (fun e => by have := (h3 k hk hk').2.1.2 _ e; omega)⟩, (h3 k hk hk').2⟩⟩
theorem SysF.row {n : Nat} {w : World} {vp vc vs : Value} {S : SysD} (h : SysF n w vp vc vs S) {x : Nat} (hx : x < n) (cs : Array Value) : SysF n (w.setRow x cs) vp vc vs S :=
 ⟨h.p.row h.np hx cs, h.np, h.c.row cs (fun e => by have := h.nc _ e; omega), h.s.row cs (fun e => by have := h.ns _ e; omega), h.nc, h.ns⟩
theorem PartsF.set {n : Nat} {w : World} {v : Value} {ps : List Prt} (h : PartsF n w v ps) (hv : NewB n v) {x : Nat} (hx : x < n) (j : Nat) (u : Value) : PartsF n (w.setCell ⟨x, j, none⟩ u) v ps := by
 obtain ⟨l, h1, h2, h3⟩ := h
 exact ⟨l, h1, h2.set u (fun e => by have := hv _ e; omega), fun k hk hk' => ⟨⟨(h3 k hk hk').1.code.set u (fun e => by have := (h3 k hk hk').2.1.1 _ e; omega), (h3 k hk hk').1.inn.set u (fun e => by have := (h3 k hk hk').2.1.2 _ e; omega)⟩, (h3 k hk hk').2⟩⟩
theorem PartsF.low {n m : Nat} {w : World} {v : Value} {ps : List Prt} (h : PartsF n w v ps) (hm : m ≤ n) : PartsF m w v ps := by
 obtain ⟨l, h1, h2, h3⟩ := h
 exact ⟨l, h1, h2, fun k hk hk' => ⟨(h3 k hk hk').1, ⟨(h3 k hk hk').2.1.1.mono hm, (h3 k hk hk').2.1.2.mono hm⟩, (h3 k hk hk').2.2⟩⟩
theorem SysF.low {n m : Nat} {w : World} {vp vc vs : Value} {S : SysD} (h : SysF n w vp vc vs S) (hm : m ≤ n) : SysF m w vp vc vs S := ⟨h.p.low hm, h.np.mono hm, h.c, h.s, h.nc.mono hm, h.ns.mono hm⟩
theorem PartsF.fresh {n : Nat} {w : World} {v : Value} {ps : List Prt} (h : PartsF n w v ps) (o : Obj) (u : Array Value) : PartsF n ((w.alloc o).setRow w.heap.size u) v ps := by
 obtain ⟨l, h1, h2, h3⟩ := h
 exact ⟨l, h1, sl_fresh h2 o u, fun k hk hk' => ⟨⟨sl_fresh (h3 k hk hk').1.code o u, sl_fresh (h3 k hk hk').1.inn o u⟩, (h3 k hk hk').2⟩⟩
theorem SysF.fresh {n : Nat} {w : World} {vp vc vs : Value} {S : SysD} (h : SysF n w vp vc vs S) (o : Obj) (u : Array Value) : SysF n ((w.alloc o).setRow w.heap.size u) vp vc vs S := ⟨h.p.fresh o u, h.np, sl_fresh h.c o u, sl_fresh h.s o u, h.nc, h.ns⟩
theorem entWhole1 : Enters 84 := enters Tryz.func84 kr kr
theorem whole1_any (k : Int) (p : Prt) (h1 : p.code.length ≤ 1000) (h2 : p.inn.length ≤ 1000) (c i : Value) (W : World) (hp : PrtR W c i p) :
  Calls Tryz.prog 84 #[.int .i64 k, .agg #[c, i]] W fun e W' => ∃ c' i', e = .returned (.agg #[c', i']) ∧ PrtR W' c' i' p ∧ (NewB W.heap.size c' ∧ NewB W.heap.size i') ∧ Below W.heap.size W W' := by
 obtain ⟨ca, cc, rfl⟩ := hp.code.form
 obtain ⟨ia, ic, rfl⟩ := hp.inn.form
 have HP := hd hp
 clear hp
 go_enter Tryz.func84, Tryz.ntmps84
 go_upto_region 1 with fail
 generalize hX : World.alloc _ _ = X
 have hXX : X = (W.alloc (.cells #[.slice ca p.code.length cc, .slice ia p.inn.length ic] 49)).alloc (.cells #[.slice none 0 0, .slice none 0 0] 49) := by rw [← hX]
 have hzX : X.heap.size = W.heap.size + 2 := by rw [hXX]; simp
 have D0 : Hid (Below W.heap.size W X) := hd (by rw [hXX]; exact up0)
 have R0 : Hid (Rw X W.heap.size 49 #[.slice ca p.code.length cc, .slice ia p.inn.length ic]) := hd (by rw [hXX]; exact rn0)
 have R1 : Hid (Rw X (W.heap.size + 1) 49 #[.slice none 0 0, .slice none 0 0]) := hd (by rw [hXX]; exact rn0)
 clear hX hXX
 go_wp2
 refine region_still (S := fun w' => Below X.heap.size X w') 7 kr (Below.refl _ _).drew (fun hHeld => ?_)
 have hq := fun w' (hSw : (fun w' => Below X.heap.size X w') w') => And.intro ((R0.out.up hSw om).cell (j := 0) (v := .slice ca p.code.length cc) rfl) ((R0.out.up hSw om).cell (j := 1) (v := .slice ia p.inn.length ic) rfl)
 refine Still.u 0 [] hHeld hq ?_
 refine Still.u 1 [] hHeld hq ?_
 refine Still.u 3 [] hHeld hq ?_
 refine Still.u 4 [] hHeld hq ?_
 refine Still.o 2 rfl rfl (fun K hK => ?_)
 refine wp_call 85 _ _ rfl enVcopIns #[.slice ca p.code.length cc] ev ((vcopIns_any p.code h1 _ _ (HP.out.code.up (D0.out.trans (Below.refl _ _).drew))).mono ?_)
 rintro e W2 ⟨v2, rfl, ho2, bb⟩
 obtain ⟨a2, c2, rfl⟩ := own_form ho2
 have B2 : Hid (Below X.heap.size X W2) := hd ((Below.refl _ _).drew.trans bb)
 have hob := own_block ho2
 have S2 := hd (own_sl ho2)
 have z2 := B2.out.size
 refine ⟨_, rfl, hK _ _ (fun _ => B2.out) (fun hh => ?_)⟩
 have hHeld := hh (by decide)
 clear hK K hh
 try simp only [Act.put, l1, l2, l3, l4, l5, l6]
 clear bb ho2
 refine Still.o 5 rfl rfl (fun K hK => ?_)
 refine wp_call 32 _ _ rfl enVcopInt #[.slice ia p.inn.length ic] ev ((vcopInt_any p.inn h2 _ _ (HP.out.inn.up (D0.out.trans (B2.out.mono om)))).mono ?_)
 rintro e W3 ⟨v3, rfl, ho3, bb⟩
 obtain ⟨a3, c3, rfl⟩ := own_form ho3
 have B3 : Hid (Below X.heap.size X W3) := hd (B2.out.trans (bb.mono om))
 have hob3 := own_block ho3
 have S3 := hd (own_sl ho3)
 have S23 := hd (S2.out.up bb)
 have z3 := B3.out.size
 refine ⟨_, rfl, hK _ _ (fun _ => B3.out) (fun hh => ?_)⟩
 have hHeld := hh (by decide)
 clear hK K hh
 try simp only [Act.put, l1, l2, l3, l4, l5, l6]
 clear bb ho3 S2
 refine Still.t 6 [] hHeld ?_
 refine Still.o 7 rfl rfl (fun K hK => ?_)
 refine wp_store_row 49 _ _ rfl (W.heap.size + 1) #[.slice a2 p.code.length c2, .slice a3 p.inn.length c3] ev ev 49 #[.slice none 0 0, .slice none 0 0] (R1.out.up B3.out om) sizePart rfl (by simp [Value.oneCell']) ?_
 refine hK _ _ ab (fun _ => Still.vv ?_)
 clear hK K
 have RR := hd ((R1.out.up B3.out om).row #[.slice a2 p.code.length c2, .slice a3 p.inn.length c3])
 go_wp2
 refine bodyPost_ret (results_cell_row Tryz.results84 _ _ (W.heap.size + 1) 49 _ (0, 0) _ rfl RR.out Tryz.underlying49 rfl sizePart) rfl ⟨_, _, rfl, ⟨S23.out.row _ (fun e => ?_), S3.out.row _ (fun e => ?_)⟩, ⟨fun b e => ?_, fun b e => ?_⟩, below_row (D0.out.trans (B3.out.mono om)) om _⟩
 ·have h := hob _ e
  have h' : X.heap.size ≤ W.heap.size + 1 := h
  omega
 ·have h := hob3 _ e
  omega
 ·have h : X.heap.size ≤ b := hob _ e
  omega
 ·have h := hob3 _ e
  omega
structure SmallS (S : SysD) : Prop where
 p : S.parts.length ≤ 4
 c : S.chans.length ≤ 1000
 s : S.slots.length ≤ 1000
 q : ∀ k (h : k < S.parts.length), S.parts[k].code.length ≤ 1000 ∧ S.parts[k].inn.length ≤ 1000
theorem whole_any (S : SysD) (hm : SmallS S) (vp vc vs : Value) (w : World) (hS : Sys w vp vc vs S) :
  Calls Tryz.prog 48 #[.agg #[vp, vc, vs]] w fun e w' => ∃ xp xc xs, e = .returned (.agg #[xp, xc, xs]) ∧ SysF w.heap.size w' xp xc xs S ∧ Below w.heap.size w w' := by
 obtain ⟨pa, pc, rfl⟩ := hS.p.form
 obtain ⟨ka, kc, rfl⟩ := hS.c.form
 obtain ⟨sa, sc, rfl⟩ := hS.s.form
 have HS := hd hS
 have HM := hd hm
 clear hS hm
 go_enter Tryz.func48, Tryz.ntmps48
 go_upto_region 1 with fail
 generalize hX : World.alloc _ _ = X
 have hXX : X = (w.alloc (.cells #[.slice pa S.parts.length pc, .slice ka S.chans.length kc, .slice sa S.slots.length sc] 26)).alloc (.cells #[.slice none 0 0, .slice none 0 0, .slice none 0 0] 26) := by rw [← hX]
 have hzX : X.heap.size = w.heap.size + 2 := by rw [hXX]; simp
 have D0 : Hid (Below w.heap.size w X) := hd (by rw [hXX]; exact up0)
 have R0 : Hid (Rw X w.heap.size 26 #[.slice pa S.parts.length pc, .slice ka S.chans.length kc, .slice sa S.slots.length sc]) := hd (by rw [hXX]; exact rn0)
 have R1 : Hid (Rw X (w.heap.size + 1) 26 #[.slice none 0 0, .slice none 0 0, .slice none 0 0]) := hd (by rw [hXX]; exact rn0)
 clear hX hXX
 have s0 := R0.out.cell (j := 0) (v := .slice pa S.parts.length pc) rfl
 have s1 := R0.out.cell (j := 1) (v := .slice ka S.chans.length kc) rfl
 have s2 := R0.out.cell (j := 2) (v := .slice sa S.slots.length sc) rfl
 go_wp2_with fail
 refine (turned_any S S.parts rfl HM.out.p X.heap.size 84 entWhole1 #[] _ _ _ X (HS.out.up D0.out) (fun k hk hk' c i W h1 h2 h3 => by
  refine (whole1_any k S.parts[k] (HM.out.q k hk).1 (HM.out.q k hk).2 c i W (h3.up h1)).mono ?_
  rintro e W' ⟨c', i', rfl, hq, ⟨n1, n2⟩, hb⟩
  exact ⟨c', i', rfl, hq, ⟨n1.mono om, n2.mono om⟩, fun _ b e => .inr (n1 b e), fun _ b e => .inr (n2 b e), hb⟩)).mono ?_
 rintro e w1 ⟨xp, rfl, hPF, hNP, b1⟩
 obtain ⟨xa, xb, rfl⟩ := hPF.r.form
 have z1 := b1.size
 have R01 := hd (R0.out.up b1 om)
 have R11 := hd (R1.out.up b1 om)
 have D1 := hd (D0.out.trans (b1.mono om))
 have HPF := hd hPF
 have HNP := hd hNP
 clear b1 hPF hNP s0 s1 s2 R0 R1 D0
 go_wp2_with (refine wpList_store_rowW rfl 26 (.tmp 3) (.tmp 5) rfl w1.heap.size #[.slice xa S.parts.length xb, .slice ka S.chans.length kc, .slice sa S.slots.length sc] rfl rfl 26 #[.slice none 0 0, .slice none 0 0, .slice none 0 0] rn0 sizeSys rfl (by simp [Value.oneCell']) ?_)
 intro W2 HW2
 have b2 : Below w1.heap.size w1 W2 := by rw [HW2.out]; exact below_row ((Below.refl _ _).alloc (Nat.le_refl _) _) (Nat.le_refl _) _
 have R3 : Hid (Rw W2 w1.heap.size 26 #[.slice xa S.parts.length xb, .slice ka S.chans.length kc, .slice sa S.slots.length sc]) := by
  show Rw _ _ _ _
  rw [HW2.out]
  exact Rw.row (cs := #[.slice none 0 0, .slice none 0 0, .slice none 0 0]) rn0 _
 have B2 := hd b2
 have R02 := hd (R01.out.up b2 om)
 have R12 := hd (R11.out.up b2 om)
 have D2 := hd (D1.out.trans (b2.mono om))
 have z2 := R3.out.lt
 clear HW2 b2 R01 R11 D1
 go_wp2
 refine region_still (S := fun w' => Rw w' w.heap.size 26 #[.slice pa S.parts.length pc, .slice ka S.chans.length kc, .slice sa S.slots.length sc]) 9 kr R02.out.drew (fun hHeld => ?_)
 have hq := fun w' (hSw : (fun w' => Rw w' w.heap.size 26 #[.slice pa S.parts.length pc, .slice ka S.chans.length kc, .slice sa S.slots.length sc]) w') => And.intro (hSw.cell (j := 1) (v := .slice ka S.chans.length kc) rfl) (hSw.cell (j := 2) (v := .slice sa S.slots.length sc) rfl)
 refine Still.u 0 [] hHeld hq ?_
 refine Still.u 1 [] hHeld hq ?_
 refine Still.u 3 [] hHeld hq ?_
 refine Still.u 4 [] hHeld hq ?_
 refine Still.o 2 rfl rfl (fun K hK => ?_)
 refine wp_call 86 _ _ rfl enVcopChan #[.slice ka S.chans.length kc] ev ((vcopChan_any S.chans HM.out.c _ _ (HS.out.c.up (D2.out.trans (Below.refl _ _).drew))).mono ?_)
 rintro e W3 ⟨v3, rfl, ho3, bb⟩
 obtain ⟨a3, c3, rfl⟩ := own_form ho3
 have B3 : Hid (Below W2.heap.size W2 W3) := hd ((Below.refl _ _).drew.trans bb)
 have hob3 : ∀ k, (Value.slice a3 S.chans.length c3).ownBlock = some k → W2.heap.size ≤ k := own_block ho3
 have S3 := hd (own_sl ho3)
 have z3 := B3.out.size
 refine ⟨_, rfl, hK _ _ (fun _ => R02.out.up B3.out om) (fun hh => ?_)⟩
 have hHeld := hh (by decide)
 clear hK K hh
 try simp only [Act.put, l1, l2, l3, l4, l5, l6]
 clear bb ho3
 refine Still.t 6 [] hHeld ?_
 refine Still.o 5 rfl rfl (fun K hK => ?_)
 refine wp_call 87 _ _ rfl enVcopSlot #[.slice sa S.slots.length sc] ev ((vcopSlot_any S.slots HM.out.s _ _ (HS.out.s.up (D2.out.trans (B3.out.mono (by have := D2.out.size; omega))))).mono ?_)
 rintro e W4 ⟨v4, rfl, ho4, bb⟩
 obtain ⟨a4, c4, rfl⟩ := own_form ho4
 have B4 : Hid (Below W2.heap.size W2 W4) := hd (B3.out.trans (bb.mono om))
 have hob4 := own_block ho4
 have S4 := hd (own_sl ho4)
 have S34 := hd (S3.out.up bb)
 have z4 := B4.out.size
 have R34 := hd (R3.out.up B4.out om)
 have k1 := R34.out.cell (j := 1) (v := .slice ka S.chans.length kc) rfl
 have f1 := R34.out.fr 1
 have R35 := hd (R34.out.set 1 (.slice a3 S.chans.length c3))
 have k2 := R35.out.cell (j := 2) (v := .slice sa S.slots.length sc) rfl
 have f2 := R35.out.fr 2
 have K2 := hd k2
 have F2 := hd f2
 refine ⟨_, rfl, hK _ _ (fun _ => R02.out.up B4.out om) (fun hh => ?_)⟩
 have hHeld := hh (by decide)
 clear hK K hh
 try simp only [Act.put, l1, l2, l3, l4, l5, l6]
 clear bb ho4 S3 k2 f2
 refine Still.o 7 rfl rfl (fun K hK => ?_)
 clear hHeld
 go_simp
 refine hK _ _ (fun _ => (R02.out.up B4.out om).set_other _ so) (fun hh => ?_)
 have hHeld := hh (by decide)
 clear hK K hh
 try simp only [Act.put, l1, l2, l3, l4, l5, l6]
 clear k1 f1
 have k2 := K2.out
 have f2 := F2.out
 refine Still.t 8 [] hHeld ?_
 refine Still.o 9 rfl rfl (fun K hK => ?_)
 clear hHeld
 go_simp
 refine hK _ _ ab (fun _ => Still.vv ?_)
 clear hK K
 have R36 := hd (R35.out.set 2 (.slice a4 S.slots.length c4))
 have R16 := hd (((R12.out.up B4.out om).set_other (a := ⟨w1.heap.size, 1, none⟩) (.slice a3 S.chans.length c3) so).set_other (a := ⟨w1.heap.size, 2, none⟩) (.slice a4 S.slots.length c4) so)
 have D6 := hd (((D2.out.trans (B4.out.mono (by have := D2.out.size; omega))).setCell (p := ⟨w1.heap.size, 1, none⟩) so (.slice a3 S.chans.length c3)).setCell (p := ⟨w1.heap.size, 2, none⟩) so (.slice a4 S.slots.length c4))
 have SF : Hid (SysF (w.heap.size + 2) ((W4.setCell ⟨w1.heap.size, 1, none⟩ (.slice a3 S.chans.length c3)).setCell ⟨w1.heap.size, 2, none⟩ (.slice a4 S.slots.length c4)) (.slice xa S.parts.length xb) (.slice a3 S.chans.length c3) (.slice a4 S.slots.length c4) S) := hd (by
  have hnp : NewB (w.heap.size + 2) (.slice xa S.parts.length xb) := HNP.out.mono om
  refine ⟨?_, hnp, (S34.out.set _ (fun e => by have := hob3 _ e; omega)).set _ (fun e => by have := hob3 _ e; omega), (S4.out.set _ (fun e => by have := hob4 _ e; omega)).set _ (fun e => by have := hob4 _ e; omega), fun b e => by have := hob3 b e; omega, fun b e => by have := hob4 b e; omega⟩
  exact (HPF.out.low om).up (((B2.out.trans (B4.out.mono om)).setCell (p := ⟨w1.heap.size, 1, none⟩) (Nat.le_refl _) _).setCell (p := ⟨w1.heap.size, 2, none⟩) (Nat.le_refl _) _))
 generalize (W4.setCell ⟨w1.heap.size, 1, none⟩ (.slice a3 S.chans.length c3)).setCell ⟨w1.heap.size, 2, none⟩ (.slice a4 S.slots.length c4) = W6 at R36 R16 D6 SF ⊢
 have q0 := R36.out.cell (j := 0) (v := .slice xa S.parts.length xb) rfl
 have q1 := R36.out.cell (j := 1) (v := .slice a3 S.chans.length c3) rfl
 have q2 := R36.out.cell (j := 2) (v := .slice a4 S.slots.length c4) rfl
 clear R34 R35 K2 F2 k2 f2 B2 B3 B4 HPF R3 R02 R12 D2 S34 S4
 go_wp2_with (refine wpList_store_row rfl 26 (.tmp 2) (.tmp 14) rfl (w.heap.size + 1) #[.slice xa S.parts.length xb, .slice a3 S.chans.length c3, .slice a4 S.slots.length c4] rfl rfl 26 _ R16.out sizeSys rfl (by simp [Value.oneCell']) ?_)
 exact bodyPost_ret (results_cell_row Tryz.results48 _ _ (w.heap.size + 1) 26 _ (0, 0) _ rfl (R16.out.row _) Tryz.underlying26 rfl sizeSys) rfl ⟨_, _, _, rfl, (SF.out.row om _).low om, below_row D6.out om _⟩
end Go.Proofs.YtehhhiodfcdnmaaGreatDoor
