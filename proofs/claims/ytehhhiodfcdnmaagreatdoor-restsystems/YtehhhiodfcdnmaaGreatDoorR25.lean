/- view.turned, of whatever turns. -/
import Derived.Test.YtehhhiodfcdnmaaGreatDoorR5
import Derived.Test.YtehhhiodfcdnmaaGreatDoorR21
import Derived.Test.YtehhhiodfcdnmaaGreatDoorR18
namespace Go.Proofs.YtehhhiodfcdnmaaGreatDoor
set_option linter.unusedSimpArgs false
set_option linter.unusedVariables false
set_option maxRecDepth 100000
set_option maxHeartbeats 8000000
open Go.RowKit Go.Sort
theorem wp_callV {o : Oper} {a : Act} {w : World} {K : Act → World → Prop} {Q : Exit → Act → World → Prop} (x : Operand) (f : Nat) (cap : Array Value) (args : Array Operand) (tys : Array TypeId)
  (ho : o.op = .call { callee := .value x, args := args, argTypes := tys }) (hx : a.eval x = .func (.func f) #[] cap) (hen : Enters f) (vs : Array Value) (hvs : args.map a.eval = vs) (h : Calls Tryz.prog f (vs ++ cap) w fun e w' => ∃ v, e = .returned v ∧ K (a.put o.dst v) w') : Oper.wp Tryz.prog o a w K Q := by
 unfold Oper.wp
 subst hvs
 unfold Enters at hen
 simp only [execOp, ho, resolve, hx, Deferred.ofValue]
 simp [invoke, hen, Result.andThen, go_sem]
 refine h.mono ?_
 rintro e w' ⟨v, rfl, hk⟩
 exact hk
theorem zeroPart : ((Tryz.prog.info? 49).bind (·.zero)).isSome = true := by kernel_rfl
theorem sizePart : (Tryz.prog.info? 49).map (·.size) = some 2 := by kernel_rfl
theorem sizeSys : (Tryz.prog.info? 26).map (·.size) = some 3 := by kernel_rfl
theorem sl_growP {w w' : World} {row : Option Nat} {size : Nat} {v : Value} {n : Nat} {xs : List Value} (h : Sl w size v n xs) (hg : w.grownBy w' row) (hne : 0 < n → ∀ k, v.ownBlock = some k → row ≠ some k) : Sl w' size v n xs := by
 obtain ⟨h1, ao, cap, rfl, h3, h4⟩ := h
 refine ⟨h1, ao, cap, rfl, h3, fun hn => ?_⟩
 obtain ⟨b, off, rfl, hlt, hc, hz⟩ := h4 hn
 exact ⟨b, off, rfl, Nat.lt_of_lt_of_le hlt hg.size, fun j u hj => (hg.cell_far ⟨b, off + j, none⟩ hlt (fun e => hne hn b rfl e.symm)).trans (hc j u hj), hz.of (hg.block b hlt (fun e => hne hn b rfl e.symm))⟩
theorem sl_setP {w : World} {size : Nat} {v : Value} {n : Nat} {xs : List Value} (h : Sl w size v n xs) {c j : Nat} (u : Value) (hne : 0 < n → v.ownBlock ≠ some c) : Sl (w.setCell ⟨c, j, none⟩ u) size v n xs := by
 obtain ⟨h1, ao, cap, rfl, h3, h4⟩ := h
 refine ⟨h1, ao, cap, rfl, h3, fun hn => ?_⟩
 obtain ⟨b, off, rfl, hlt, hc, hz⟩ := h4 hn
 exact ⟨b, off, rfl, by rw [size_set]; exact hlt, fun k u' hk => cl_set (Or.inl (by simpa [Value.ownBlock] using hne hn)) (hc k u' hk), hz.set _ _⟩
def Of (lo : Nat) (wr : World) (vp : Value) (n : Nat) (v : Value) : Prop := 0 < n → ∀ b, v.ownBlock = some b → b < wr.heap.size ∧ (b < lo ∨ lo + 3 ≤ b) ∧ vp.ownBlock ≠ some b
def RowT (n0 lo : Nat) (wr : World) (vp : Value) (ps : List Prt) (l : List (Value × Value)) : Prop :=
 l.length = ps.length ∧ wr.ownsRow (lo + 3) 49 2 vp ps.length (rowC prC l) ∧ ∀ k (hk : k < ps.length) (hk' : k < l.length), PrtR wr l[k].1 l[k].2 ps[k] ∧ (NewB n0 l[k].1 ∧ NewB n0 l[k].2) ∧ Of lo wr vp ps[k].code.length l[k].1 ∧ Of lo wr vp ps[k].inn.length l[k].2
structure Tu (n0 : Nat) (w wr : World) (sr : Array Value) (vp vc vs : Value) (ps : List Prt) : Prop where
 d : Below w.heap.size w wr
 r0 : Rw wr w.heap.size 26 sr
 r4 : Rw wr (w.heap.size + 1) 26 #[.slice none 0 0, .slice none 0 0, .slice none 0 0]
 r5 : Rw wr (w.heap.size + 2) 26 #[vp, vc, vs]
 row : ∃ l, RowT n0 w.heap.size wr vp ps l
theorem Of.up {lo : Nat} {wr wr' : World} {vp : Value} {n : Nat} {v : Value} (h : Of lo wr vp n v) (hs : wr.heap.size ≤ wr'.heap.size) : Of lo wr' vp n v := fun hn b e => ⟨Nat.lt_of_lt_of_le (h hn b e).1 hs, (h hn b e).2⟩
theorem Tu.z {n0 : Nat} {w wr : World} {sr : Array Value} {vp vc vs : Value} {ps : List Prt} (h : Tu n0 w wr sr vp vc vs ps) : w.heap.size + 3 ≤ wr.heap.size := h.r5.lt
theorem RowT.up {n0 lo : Nat} {wr wr' : World} {vp : Value} {ps : List Prt} {l : List (Value × Value)} (h : RowT n0 lo wr vp ps l) (hb : Below wr.heap.size wr wr') : RowT n0 lo wr' vp ps l :=
 ⟨h.1, own_upC h.2.1 hb, fun k hk hk' => ⟨(h.2.2 k hk hk').1.up hb, (h.2.2 k hk hk').2.1, (h.2.2 k hk hk').2.2.1.up hb.size, (h.2.2 k hk hk').2.2.2.up hb.size⟩⟩
theorem Tu.up {n0 : Nat} {w wr wr' : World} {sr : Array Value} {vp vc vs : Value} {ps : List Prt} (h : Tu n0 w wr sr vp vc vs ps) (hb : Below wr.heap.size wr wr') : Tu n0 w wr' sr vp vc vs ps := by
 obtain ⟨l, hl⟩ := h.row
 exact ⟨h.d.trans (hb.mono h.d.size), h.r0.up hb h.r0.lt, h.r4.up hb h.r4.lt, h.r5.up hb h.r5.lt, l, hl.up hb⟩
theorem Tu.form {n0 : Nat} {w wr : World} {sr : Array Value} {vp vc vs : Value} {ps : List Prt} (h : Tu n0 w wr sr vp vc vs ps) : ∃ a c, vp = .slice a ps.length c := by
 obtain ⟨l, hl⟩ := h.row
 exact own_form hl.2.1
theorem Tu.lt {n0 : Nat} {w wr : World} {sr : Array Value} {vp vc vs : Value} {ps : List Prt} (h : Tu n0 w wr sr vp vc vs ps) : ∀ b, vp.ownBlock = some b → w.heap.size + 3 ≤ b ∧ b < wr.heap.size := by
 obtain ⟨l, hl⟩ := h.row
 exact fun b e => ⟨own_block hl.2.1 b e, own_lt hl.2.1 b e⟩
theorem Tu.add {n0 : Nat} {w W : World} {sr : Array Value} {vp vc vs : Value} {ps : List Prt} (h : Tu n0 w W sr vp vc vs ps) (p : Prt) (c i : Value) (hp : PrtR W c i p) (h1 : NewB n0 c) (h2 : NewB n0 i) (o1 : Of w.heap.size W vp p.code.length c) (o2 : Of w.heap.size W vp p.inn.length i) :
  ∃ l, W.ownsRow (w.heap.size + 3) 49 2 vp ps.length (rowC prC l) ∧ ∀ vp' W', W'.ownsRow (w.heap.size + 3) 49 2 vp' (ps.length + 1) (rowC prC l ++ [c, i]) → W.grownBy W' vp.ownBlock → (vp.ownBlock = vp'.ownBlock ∨ ∃ g, vp'.ownBlock = some g ∧ W.heap.size ≤ g) →
   Tu n0 w (W'.setCell ⟨w.heap.size + 2, 0, none⟩ vp') sr vp' vc vs (ps ++ [p]) ∧ Rw W' (w.heap.size + 2) 26 #[vp, vc, vs] := by
 have hlt := h.lt
 have hz := h.z
 obtain ⟨l, hl, hown, hr⟩ := h.row
 refine ⟨l, hown, fun vp' W' hown' hgr hat => ?_⟩
 have hb : Below (w.heap.size + 3) W W' := (Below.refl _ _).grown hgr hz (fun k e => (hlt k e).1)
 have b2 : Below w.heap.size W (W'.setCell ⟨w.heap.size + 2, 0, none⟩ vp') := (hb.mono om).setCell (by simp) _
 have r5 := h.r5.up hb om
 have hs : (W'.setCell ⟨w.heap.size + 2, 0, none⟩ vp').heap.size = W'.heap.size := size_set ..
 have keep : ∀ (n : Nat) (v : Value), Of w.heap.size W vp n v → Of w.heap.size (W'.setCell ⟨w.heap.size + 2, 0, none⟩ vp') vp' n v := fun n v ho hn b e => by
  obtain ⟨q1, q2, q3⟩ := ho hn b e
  refine ⟨by rw [hs]; exact Nat.lt_of_lt_of_le q1 hgr.size, q2, fun e' => ?_⟩
  rcases hat with e1 | ⟨g, e1, hg⟩
  ·exact q3 (e1.trans e')
  ·rw [e1] at e'
   injection e' with e'
   omega
 have keepS : ∀ {size n : Nat} {v : Value} {xs : List Value}, Of w.heap.size W vp n v → Sl W size v n xs → Sl (W'.setCell ⟨w.heap.size + 2, 0, none⟩ vp') size v n xs := fun ho hS =>
  sl_setP (sl_growP hS hgr (fun hn k e => (ho hn k e).2.2)) _ (fun hn e => by have := (ho hn _ e).2.1; omega)
 refine ⟨⟨h.d.trans b2, (h.r0.up hb om).set_other _ (by simp), (h.r4.up hb om).set_other _ (by simp), r5.set 0 _, l ++ [(c, i)], by simp [hl], ?_, fun k hk hk' => ?_⟩, r5⟩
 ·have e1 : rowC prC (l ++ [(c, i)]) = rowC prC l ++ [c, i] := by rw [rowC_snoc]; rfl
  rw [e1, List.length_append]
  exact own_set (a := ⟨w.heap.size + 2, 0, none⟩) hown' _ (fun e => by have := own_block hown' _ e; simp at this)
 ·by_cases hkl : k < ps.length
  ·have hkl' : k < l.length := by omega
   obtain ⟨⟨q1, q2⟩, q3, q4, q5⟩ := hr k hkl hkl'
   simp only [List.getElem_append_left hkl, List.getElem_append_left hkl']
   exact ⟨⟨keepS q4 q1, keepS q5 q2⟩, q3, keep _ _ q4, keep _ _ q5⟩
  ·have hk1 : k = ps.length := by simp at hk; omega
   subst hk1
   have e1 : (ps ++ [p])[ps.length] = p := by simp
   have e2 : (l ++ [(c, i)])[ps.length]'hk' = (c, i) := by simp [← hl]
   rw [e1, e2]
   exact ⟨⟨keepS o1 hp.code, keepS o2 hp.inn⟩, ⟨h1, h2⟩, keep _ _ o1, keep _ _ o2⟩
def PartsF (n0 : Nat) (w : World) (v : Value) (ps : List Prt) : Prop :=
 ∃ l : List (Value × Value), l.length = ps.length ∧ Sl w 2 v ps.length (rowC prC l) ∧ ∀ k (hk : k < ps.length) (hk' : k < l.length), PrtR w l[k].1 l[k].2 ps[k] ∧ (NewB n0 l[k].1 ∧ NewB n0 l[k].2) ∧ (0 < ps[k].code.length → Apart l[k].1 v) ∧ (0 < ps[k].inn.length → Apart l[k].2 v)
theorem PartsF.r {n0 : Nat} {w : World} {v : Value} {ps : List Prt} (h : PartsF n0 w v ps) : PartsR w v ps := by
 obtain ⟨l, h1, h2, h3⟩ := h
 exact ⟨l, h1, h2, fun k hk hk' => (h3 k hk hk').1⟩
theorem sl_rowP {w : World} {size : Nat} {v : Value} {n : Nat} {xs : List Value} (h : Sl w size v n xs) {c : Nat} (cs : Array Value) (hne : 0 < n → v.ownBlock ≠ some c) : Sl (w.setRow c cs) size v n xs := sl_row0K h hne
theorem turned_any (S : SysD) (P' : List Prt) (hP : P'.length = S.parts.length) (hn4 : S.parts.length ≤ 4) (n0 : Nat) (f : Nat) (hen : Enters f) (cap : Array Value) (vp vc vs : Value) (w : World) (hS : Sys w vp vc vs S)
  (hf : ∀ (k : Nat) (hk : k < S.parts.length) (hk' : k < P'.length) (c i : Value) (W : World), Below w.heap.size w W → w.heap.size + 3 ≤ W.heap.size → PrtR w c i S.parts[k] →
   Calls Tryz.prog f (#[.int .i64 (k : Int), .agg #[c, i]] ++ cap) W fun e W' => ∃ c' i', e = .returned (.agg #[c', i']) ∧ PrtR W' c' i' P'[k] ∧ (NewB n0 c' ∧ NewB n0 i') ∧ (0 < P'[k].code.length → ∀ b, c'.ownBlock = some b → b < w.heap.size ∨ W.heap.size ≤ b) ∧ (0 < P'[k].inn.length → ∀ b, i'.ownBlock = some b → b < w.heap.size ∨ W.heap.size ≤ b) ∧ Below W.heap.size W W') :
  Calls Tryz.prog 45 #[.agg #[vp, vc, vs], .func (.func f) #[] cap] w fun e w' => ∃ vp', e = .returned (.agg #[vp', vc, vs]) ∧ PartsF n0 w' vp' P' ∧ NewB w.heap.size vp' ∧ Below w.heap.size w w' := by
 obtain ⟨i1, hi1, hy0, hy1, hy2⟩ := info_parts infoPart
 obtain ⟨pa, pc, rfl⟩ := hS.p.form
 obtain ⟨ka, kc, rfl⟩ := hS.c.form
 obtain ⟨sa, sc, rfl⟩ := hS.s.form
 have HS := hd hS
 have HF := hd hf
 have HP := hd hP
 clear hS hf hP
 go_enter Tryz.func45, Tryz.ntmps45
 go_upto_region 2 with fail
 generalize hX : World.alloc _ _ = X
 have HC : Hid (Tu n0 w X #[.slice pa S.parts.length pc, .slice ka S.chans.length kc, .slice sa S.slots.length sc] (.slice none 0 0) (.slice ka S.chans.length kc) (.slice sa S.slots.length sc) []) := by
  have hXX : X = ((w.alloc (.cells #[.slice pa S.parts.length pc, .slice ka S.chans.length kc, .slice sa S.slots.length sc] 26)).alloc (.cells #[.slice none 0 0, .slice none 0 0, .slice none 0 0] 26)).alloc (.cells #[.slice none 0 0, .slice ka S.chans.length kc, .slice sa S.slots.length sc] 26) := by rw [← hX]
  exact hd ⟨by rw [hXX]; exact up0, by rw [hXX]; exact rn0, by rw [hXX]; exact rn0, by rw [hXX]; exact rn0, [], rfl, World.ownsRow_nil _ _ _ _, fun k hk => by simp at hk⟩
 clear hX
 have q0 := HC.out.r0.cell (j := 0) (v := .slice pa S.parts.length pc) rfl
 go_wp2
 clear q0
 go_loopw [16] (fun i wr => ∃ k : Nat, i = .int .i64 k ∧ k ≤ S.parts.length ∧ Hid (∃ vp, Tu n0 w wr #[.slice pa S.parts.length pc, .slice ka S.chans.length kc, .slice sa S.slots.length sc] vp (.slice ka S.chans.length kc) (.slice sa S.slots.length sc) (P'.take k))) (fun i _ => S.parts.length - (intOf i).toNat)
 case atStart => exact ⟨0, rfl, Nat.zero_le _, hd ⟨_, HC.out⟩⟩
 case round =>
  clear HC
  obtain ⟨k, rfl, hk, HC⟩ := hrel
  obtain ⟨vp, hC⟩ := HC.out
  clear HC
  generalize hlk : P'.take k = ps at hC
  have HLK := hd hlk
  have HLL : Hid (ps.length = k) := hd (by rw [← hlk]; simp; have := HP.out; omega)
  obtain ⟨a3, c3, rfl⟩ := hC.form
  have CP := hd hC
  clear hlk hC
  by_cases hlt : k < S.parts.length
  ·have hli : (k : Int) < S.parts.length := by omega
   have hltP : k < P'.length := by have := HP.out; omega
   obtain ⟨b, off, cap1, e1, hcap, hbw, hpp⟩ := HS.out.p.open om
   cases e1
   obtain ⟨c, i, hc0, hc1, hpr⟩ := hpp k hlt
   obtain ⟨ca, cc, rfl⟩ := hpr.code.form
   obtain ⟨ia, ic, rfl⟩ := hpr.inn.form
   have HCALL := hd fun W h1 h2 => HF.out k hlt hltP _ _ W h1 h2 hpr
   have HPK : Hid (P'.take (k + 1) = ps ++ [P'[k]]) := hd (by rw [List.take_succ_eq_append_getElem hltP, HLK.out])
   have k0 := bcl CP.out.d hbw hc0
   have k1 := bcl CP.out.d hbw hc1
   have zz := CP.out.z
   clear hpp hc0 hc1 hpr
   generalize P'[k] = q at HCALL HPK
   generalize S.parts[k] = p0 at k0 k1 HCALL
   go_wp2
   clear k0 k1
   generalize hX2 : World.alloc _ _ = X2
   have hXX2 : X2 = wr.alloc (.cells #[.slice ca p0.code.length cc, .slice ia p0.inn.length ic] 49) := by rw [← hX2]
   have b2 : Below wr.heap.size wr X2 := by rw [hXX2]; exact (Below.refl _ _).alloc (Nat.le_refl _) _
   have R7 : Hid (Rw X2 wr.heap.size 49 #[.slice ca p0.code.length cc, .slice ia p0.inn.length ic]) := hd (by rw [hXX2]; exact Rw.new _ _ _ rfl)
   have hz2 : X2.heap.size = wr.heap.size + 1 := by rw [hXX2]; simp
   have CP2 := hd (CP.out.up b2)
   have HZ2 := hd hz2
   have HLT := hd CP.out.lt
   clear hX2 hXX2 b2 CP hz2
   refine region_still (S := fun w' => Rw w' (w.heap.size + 2) 26 #[.slice a3 ps.length c3, .slice ka S.chans.length kc, .slice sa S.slots.length sc] ∧ Rw w' wr.heap.size 49 #[.slice ca p0.code.length cc, .slice ia p0.inn.length ic]) 9 kr ⟨CP2.out.r5.drew, R7.out.drew⟩ (fun hHeld => ?_)
   refine Still.t 0 [] hHeld ?_ (hy := by (intro w' hSw; (try dsimp only at hSw); obtain ⟨u1, u2⟩ := hSw; have q1 := u1.cell (j := 0) (v := .slice a3 ps.length c3) rfl; have q2 := u2.cell (j := 0) (v := .slice ca p0.code.length cc) rfl; have q3 := u2.cell (j := 1) (v := .slice ia p0.inn.length ic) rfl; clear u1 u2; go_simp; try with_reducible rfl))
   refine Still.t 1 [] hHeld ?_ (hy := by (intro w' hSw; (try dsimp only at hSw); obtain ⟨u1, u2⟩ := hSw; have q1 := u1.cell (j := 0) (v := .slice a3 ps.length c3) rfl; have q2 := u2.cell (j := 0) (v := .slice ca p0.code.length cc) rfl; have q3 := u2.cell (j := 1) (v := .slice ia p0.inn.length ic) rfl; clear u1 u2; go_simp; try with_reducible rfl))
   refine Still.t 2 [] hHeld ?_ (hy := by (intro w' hSw; (try dsimp only at hSw); obtain ⟨u1, u2⟩ := hSw; have q1 := u1.cell (j := 0) (v := .slice a3 ps.length c3) rfl; have q2 := u2.cell (j := 0) (v := .slice ca p0.code.length cc) rfl; have q3 := u2.cell (j := 1) (v := .slice ia p0.inn.length ic) rfl; clear u1 u2; go_simp; try with_reducible rfl))
   refine Still.t 3 [] hHeld ?_ (hy := by (intro w' hSw; (try dsimp only at hSw); obtain ⟨u1, u2⟩ := hSw; have q1 := u1.cell (j := 0) (v := .slice a3 ps.length c3) rfl; have q2 := u2.cell (j := 0) (v := .slice ca p0.code.length cc) rfl; have q3 := u2.cell (j := 1) (v := .slice ia p0.inn.length ic) rfl; clear u1 u2; go_simp; try with_reducible rfl))
   refine Still.t 4 [] hHeld ?_ (hy := by (intro w' hSw; (try dsimp only at hSw); obtain ⟨u1, u2⟩ := hSw; have q1 := u1.cell (j := 0) (v := .slice a3 ps.length c3) rfl; have q2 := u2.cell (j := 0) (v := .slice ca p0.code.length cc) rfl; have q3 := u2.cell (j := 1) (v := .slice ia p0.inn.length ic) rfl; clear u1 u2; go_simp; try with_reducible rfl))
   refine Still.o 5 rfl rfl (fun K hK => ?_)
   refine wp_callV (.tmp 23) f cap _ _ rfl ev hen #[.int .i64 (k : Int), .agg #[.slice ca p0.code.length cc, .slice ia p0.inn.length ic]] ev ((HCALL.out _ (CP2.out.d.trans (Below.refl _ _).drew) (by have := HZ2.out; show w.heap.size + 3 ≤ X2.heap.size; omega)).mono ?_)
   rintro e W2 ⟨c', i', rfl, hq, ⟨hq1, hq2⟩, o1, o2, bb⟩
   obtain ⟨da, dc, rfl⟩ := hq.code.form
   obtain ⟨ja, jc, rfl⟩ := hq.inn.form
   have bW : Below X2.heap.size X2 W2 := (Below.refl _ _).drew.trans bb
   have z2 := bW.size
   have CP3 := hd (CP2.out.up bW)
   have R73 := hd (R7.out.up bW R7.out.lt)
   have HQ := hd hq
   have hof : ∀ (n : Nat) (v : Value), Sl W2 1 v n (List.replicate n (.int .i64 0)) ∨ True → (0 < n → ∀ b, v.ownBlock = some b → b < w.heap.size ∨ X2.heap.size ≤ b) → (0 < n → ∀ b, v.ownBlock = some b → b < W2.heap.size) → Of w.heap.size (W2.alloc (.cells #[.slice da q.code.length dc, .slice ja q.inn.length jc] 49)) (.slice a3 ps.length c3) n v := fun n v _ h1 h2 hn b e => by
    have y1 := h1 hn b e
    have y2 := h2 hn b e
    have y3 := HZ2.out
    refine ⟨by simp; omega, by omega, fun e' => ?_⟩
    have := HLT.out b e'
    omega
   have ltc : 0 < q.code.length → ∀ b, (Value.slice da q.code.length dc).ownBlock = some b → b < W2.heap.size := fun hn b e => by
    obtain ⟨b', off', cap', e1, _, hb', _⟩ := HQ.out.code.open hn
    rw [e1] at e
    simp [Value.ownBlock] at e
    omega
   have lti : 0 < q.inn.length → ∀ b, (Value.slice ja q.inn.length jc).ownBlock = some b → b < W2.heap.size := fun hn b e => by
    obtain ⟨b', off', cap', e1, _, hb', _⟩ := HQ.out.inn.open hn
    rw [e1] at e
    simp [Value.ownBlock] at e
    omega
   obtain ⟨l, hps, hadd⟩ := (CP3.out.up ((Below.refl _ _).alloc (Nat.le_refl _) (.cells #[.slice da q.code.length dc, .slice ja q.inn.length jc] 49))).add q _ _ (HQ.out.up ((Below.refl _ _).alloc (Nat.le_refl _) _)) hq1 hq2 (hof _ _ (.inr trivial) o1 ltc) (hof _ _ (.inr trivial) o2 lti)
   have HPS := hd hps
   have HADD := hd hadd
   refine ⟨_, rfl, hK _ _ (fun _ => ⟨CP3.out.r5, R73.out⟩) (fun hh => ?_)⟩
   have hHeld := hh (by decide)
   clear hK K hh
   try simp only [Act.put, l1, l2, l3, l4, l5, l6]
   clear hq bb hof ltc lti hps hadd o1 o2 hq1 hq2
   refine Still.o 6 rfl rfl (fun K hK => ?_)
   refine wp_buildOne 22 49 (.tmp 26) rfl #[.slice da q.code.length dc, .slice ja q.inn.length jc] ev Tryz.underlying22 sizePart zeroPart (by show 0 < 2; decide) (by show 2 ≤ 2 ^ 24; decide) ?_
   refine hK _ _ (fun _ => ⟨CP3.out.r5.alloc _, R73.out.alloc _⟩) (fun hh => ?_)
   have hHeld := hh (by decide)
   clear hK K hh
   try simp only [Act.put, l1, l2, l3, l4, l5, l6]
   refine Still.o 7 rfl rfl (fun K hK => ?_)
   refine wp_append_lies _ (.tmp 22) (.tmp 27) 22 rfl (w.heap.size + 3) 49 i1 _ 2 48 Tryz.underlying22 hi1 hy0 hy1 hy2 rfl (by decide) (.slice a3 ps.length c3) ps.length (rowC prC l) ev HPS.out ⟨W2.heap.size, 0, none⟩ 1 1 [.slice da q.code.length dc, .slice ja q.inn.length jc] ev rfl (new_range _ _ #[.slice da q.code.length dc, .slice ja q.inn.length jc] _ rfl) (two_cell _ _ _ _ _ _) (by decide) (by have := HLL.out; unfold maxLen; omega) (by have := HLL.out; omega) (by have := HZ2.out; simp; omega) _ rfl ?_
   intro g4 cap4 W4 hown hgrow hat hg4
   obtain ⟨hC5, hr5⟩ := HADD.out _ W4 hown hgrow (hat.imp (fun e => e) (fun e => ⟨g4, rfl, by rw [e]; simp⟩))
   have R74 : Rw W4 wr.heap.size 49 #[.slice ca p0.code.length cc, .slice ia p0.inn.length ic] := (hgrow.block _ (R73.out.alloc _).lt (fun e => by have := HLT.out _ e.symm; omega)).trans (R73.out.alloc _)
   have C5 := hd hC5
   have q5 := hr5.cell (j := 0) (v := .slice a3 ps.length c3) rfl
   have f5 := hr5.fr 0
   refine hK _ _ (fun _ => ⟨hr5, R74⟩) (fun hh => ?_)
   have hHeld := hh (by decide)
   clear hK K hh
   try simp only [Act.put, l1, l2, l3, l4, l5, l6]
   clear hown hgrow hat hC5 HPS HADD hr5 R74
   refine Still.t 8 [] hHeld ?_
   refine Still.o 9 rfl rfl (fun K hK => ?_)
   clear hHeld
   go_simp
   refine hK _ _ ab (fun _ => Still.vv ?_)
   clear hK K
   clear q5 f5
   go_wp2
   go_roundw
   case rel => exact ⟨k + 1, by go_num, by omega, hd ⟨_, by rw [HPK.out]; exact C5.out⟩⟩
   case measure => simp [intOf]; omega
  ·have hli : ¬ (k : Int) < S.parts.length := by omega
   have hle : P' = ps := by rw [← HLK.out, List.take_of_length_le (by have := HP.out; omega)]
   subst hle
   have hlt := hd CP.out.lt
   have zz := CP.out.z
   have q5 := CP.out.r5.cell (j := 0) (v := .slice a3 P'.length c3) rfl
   have q6 := CP.out.r5.cell (j := 1) (v := .slice ka S.chans.length kc) rfl
   have q7 := CP.out.r5.cell (j := 2) (v := .slice sa S.slots.length sc) rfl
   go_wp2_with (refine wpList_store_row rfl 26 (.tmp 4) (.tmp 31) rfl (w.heap.size + 1) #[.slice a3 P'.length c3, .slice ka S.chans.length kc, .slice sa S.slots.length sc] rfl rfl 26 _ CP.out.r4 sizeSys rfl (by simp [Value.oneCell']) ?_)
   refine bodyPost_ret (results_cell_row Tryz.results45 _ _ (w.heap.size + 1) 26 #[.slice a3 P'.length c3, .slice ka S.chans.length kc, .slice sa S.slots.length sc] (0, 0) _ rfl (CP.out.r4.row _) Tryz.underlying26 rfl sizeSys) rfl ⟨_, rfl, ?_, fun b e => by have := hlt.out b e; omega, below_row CP.out.d om _⟩
   obtain ⟨l, h1, h2, h3⟩ := CP.out.row
   refine ⟨l, h1, (own_sl h2).row _ (fun e => by have := hlt.out _ e; omega), fun k hk hk' => ⟨⟨sl_rowP (h3 k hk hk').1.code _ (fun hn e => by have := ((h3 k hk hk').2.2.1 hn _ e).2.1; omega), sl_rowP (h3 k hk hk').1.inn _ (fun hn e => by have := ((h3 k hk hk').2.2.2 hn _ e).2.1; omega)⟩, (h3 k hk hk').2.1, fun hn b e => ((h3 k hk hk').2.2.1 hn b e).2.2, fun hn b e => ((h3 k hk hk').2.2.2 hn b e).2.2⟩⟩
end Go.Proofs.YtehhhiodfcdnmaaGreatDoor
