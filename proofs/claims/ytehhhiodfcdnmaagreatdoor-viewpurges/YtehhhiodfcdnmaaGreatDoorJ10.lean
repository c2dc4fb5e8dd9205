/- ref.OwnWorld. -/
import Derived.Test.YtehhhiodfcdnmaaGreatDoorKn8
import Derived.Test.YtehhhiodfcdnmaaGreatDoorJ3
import Derived.Test.YtehhhiodfcdnmaaGreatDoorJ4
import Derived.Test.YtehhhiodfcdnmaaGreatDoorJ2
namespace Go.Proofs.YtehhhiodfcdnmaaGreatDoor
set_option linter.unusedSimpArgs false
set_option linter.unusedVariables false
open Go.RowKit Go.Sort
theorem wp_buildOne {P : Program} {o : Oper} {a : Act} {w : World} {K : Act → World → Prop} {Q : Exit → Act → World → Prop} (t e : TypeId) (x : Operand) (ho : o.op = .buildSlice t 1 #[(0, x)])
    (cs : Array Value) (hx : a.eval x = .agg cs) (hu : P.underlying t = some (.slice e)) (hsz : (P.info? e).map (·.size) = some cs.size) (hz : ((P.info? e).bind (·.zero)).isSome = true) (hpos : 0 < cs.size) (hsmall : cs.size ≤ 2 ^ 24)
    (h : K (a.put o.dst (.slice (some ⟨w.heap.size, 0, none⟩) 1 1)) (w.alloc (.cells cs e))) : o.wp P a w K Q := by
  cases hie : P.info? e with
  | none => simp [hie] at hsz
  | some ie =>
    simp only [hie, Option.map_some, Option.some.injEq, Option.bind_some] at hsz hz
    obtain ⟨z, hzz⟩ := Option.isSome_iff_exists.1 hz
    refine wp_buildSlice t e 1 _ ho cs ie z hu hie hzz (by omega) (by omega) ?_ h
    have hf := Great.fill_whole (s := ie.size) (by omega) [.agg cs] ((Array.range (1 * ie.size)).map (z.cells[· % z.cells.size]!)) (fun v hv => by simp at hv; subst hv; simpa [Value.cells] using hsz.symm) (by simp)
    simpa [hx, Value.cells] using hf
end Go.Proofs.YtehhhiodfcdnmaaGreatDoor

namespace Go.Proofs.YtehhhiodfcdnmaaGreatDoor
set_option linter.unusedSimpArgs false
set_option linter.unusedVariables false
open Go.RowKit Go.Sort
theorem wp_callV {o : Oper} {a : Act} {w : World} {K : Act → World → Prop} {Q : Exit → Act → World → Prop} (x : Operand) (f : Nat) (cap : Array Value) (args : Array Operand) (tys : Array TypeId)
    (ho : o.op = .call { callee := .value x, args := args, argTypes := tys }) (hx : a.eval x = .func (.func f) #[] cap) (hen : Enters f) (vs : Array Value) (hvs : args.map a.eval = vs) (h : Calls Tryz.prog f (vs ++ cap) w fun e w' => ∃ v, e = .returned v ∧ K (a.put o.dst v) w') : Oper.wp Tryz.prog o a w K Q := by
  unfold Oper.wp
  subst hvs
  unfold Enters at hen
  simp only [execOp, ho, resolve, hx, Deferred.ofValue]
  simp [invoke, hen, Result.andThen, go_sem]
  refine h.mono ?_
  rintro e w' ⟨v, rfl, hk⟩
  exact hk
theorem zeroPart : ((Tryz.prog.info? 49).bind (·.zero)).isSome = true := by kernel_rfl
theorem sizePart : (Tryz.prog.info? 49).map (·.size) = some 2 := by kernel_rfl
theorem sizeSys : (Tryz.prog.info? 26).map (·.size) = some 3 := by kernel_rfl
theorem sl_growP {w w' : World} {row : Option Nat} {size : Nat} {v : Value} {n : Nat} {xs : List Value} (h : Sl w size v n xs) (hg : w.grownBy w' row) (hne : 0 < n → ∀ k, v.ownBlock = some k → row ≠ some k) : Sl w' size v n xs := by
  obtain ⟨h1, ao, cap, rfl, h3, h4⟩ := h
  refine ⟨h1, ao, cap, rfl, h3, fun hn => ?_⟩
  obtain ⟨b, off, rfl, hlt, hc⟩ := h4 hn
  exact ⟨b, off, rfl, Nat.lt_of_lt_of_le hlt hg.size, fun j u hj => (hg.cell_far ⟨b, off + j, none⟩ hlt (fun e => hne hn b rfl e.symm)).trans (hc j u hj)⟩
theorem sl_setP {w : World} {size : Nat} {v : Value} {n : Nat} {xs : List Value} (h : Sl w size v n xs) {c j : Nat} (u : Value) (hne : 0 < n → v.ownBlock ≠ some c) : Sl (w.setCell ⟨c, j, none⟩ u) size v n xs := by
  obtain ⟨h1, ao, cap, rfl, h3, h4⟩ := h
  refine ⟨h1, ao, cap, rfl, h3, fun hn => ?_⟩
  obtain ⟨b, off, rfl, hlt, hc⟩ := h4 hn
  exact ⟨b, off, rfl, by rw [size_set]; exact hlt, fun k u' hk => cl_set (Or.inl (by simpa [Value.ownBlock] using hne hn)) (hc k u' hk)⟩
def Of (lo : Nat) (wr : World) (vp : Value) (n : Nat) (v : Value) : Prop := 0 < n → ∀ b, v.ownBlock = some b → b < wr.heap.size ∧ (b < lo ∨ lo + 3 ≤ b) ∧ vp.ownBlock ≠ some b
def RowT (n0 lo : Nat) (wr : World) (vp : Value) (ps : List Prt) (l : List (Value × Value)) : Prop :=
  l.length = ps.length ∧ wr.ownsRow (lo + 3) 49 2 vp ps.length (rowC prC l) ∧ ∀ k (hk : k < ps.length) (hk' : k < l.length), PrtR wr l[k].1 l[k].2 ps[k] ∧ (NewB n0 l[k].1 ∧ NewB n0 l[k].2) ∧ Of lo wr vp ps[k].code.length l[k].1 ∧ Of lo wr vp ps[k].inn.length l[k].2
structure Tu (n0 : Nat) (w wr : World) (sr : Array Value) (vp vc vs : Value) (ps : List Prt) : Prop where
  d : Below w.heap.size w wr
  r0 : Rw wr w.heap.size 26 sr
  r4 : Rw wr (w.heap.size + 1) 26 #[.slice none 0 0, .slice none 0 0, .slice none 0 0]
  r5 : Rw wr (w.heap.size + 2) 26 #[vp, vc, vs]
  row : ∃ l, RowT n0 w.heap.size wr vp ps l
theorem Of.up {lo : Nat} {wr wr' : World} {vp : Value} {n : Nat} {v : Value} (h : Of lo wr vp n v) (hs : wr.heap.size ≤ wr'.heap.size) : Of lo wr' vp n v := fun hn b e => ⟨Nat.lt_of_lt_of_le (h hn b e).1 hs, (h hn b e).2⟩
theorem Tu.z {n0 : Nat} {w wr : World} {sr : Array Value} {vp vc vs : Value} {ps : List Prt} (h : Tu n0 w wr sr vp vc vs ps) : w.heap.size + 3 ≤ wr.heap.size := h.r5.lt
theorem RowT.up {n0 lo : Nat} {wr wr' : World} {vp : Value} {ps : List Prt} {l : List (Value × Value)} (h : RowT n0 lo wr vp ps l) (hb : Below wr.heap.size wr wr') : RowT n0 lo wr' vp ps l :=
  ⟨h.1, own_upC h.2.1 hb, fun k hk hk' => ⟨(h.2.2 k hk hk').1.up hb, (h.2.2 k hk hk').2.1, (h.2.2 k hk hk').2.2.1.up hb.size, (h.2.2 k hk hk').2.2.2.up hb.size⟩⟩
theorem Tu.up {n0 : Nat} {w wr wr' : World} {sr : Array Value} {vp vc vs : Value} {ps : List Prt} (h : Tu n0 w wr sr vp vc vs ps) (hb : Below wr.heap.size wr wr') : Tu n0 w wr' sr vp vc vs ps := by
  obtain ⟨l, hl⟩ := h.row
  exact ⟨h.d.trans (hb.mono h.d.size), h.r0.up hb h.r0.lt, h.r4.up hb h.r4.lt, h.r5.up hb h.r5.lt, l, hl.up hb⟩
theorem Tu.form {n0 : Nat} {w wr : World} {sr : Array Value} {vp vc vs : Value} {ps : List Prt} (h : Tu n0 w wr sr vp vc vs ps) : ∃ a c, vp = .slice a ps.length c := by
  obtain ⟨l, hl⟩ := h.row
  exact own_form hl.2.1
theorem Tu.lt {n0 : Nat} {w wr : World} {sr : Array Value} {vp vc vs : Value} {ps : List Prt} (h : Tu n0 w wr sr vp vc vs ps) : ∀ b, vp.ownBlock = some b → w.heap.size + 3 ≤ b ∧ b < wr.heap.size := by
  obtain ⟨l, hl⟩ := h.row
  exact fun b e => ⟨own_block hl.2.1 b e, own_lt hl.2.1 b e⟩
theorem Tu.add {n0 : Nat} {w W : World} {sr : Array Value} {vp vc vs : Value} {ps : List Prt} (h : Tu n0 w W sr vp vc vs ps) (p : Prt) (c i : Value) (hp : PrtR W c i p) (h1 : NewB n0 c) (h2 : NewB n0 i) (o1 : Of w.heap.size W vp p.code.length c) (o2 : Of w.heap.size W vp p.inn.length i) :
    ∃ l, W.ownsRow (w.heap.size + 3) 49 2 vp ps.length (rowC prC l) ∧ ∀ vp' W', W'.ownsRow (w.heap.size + 3) 49 2 vp' (ps.length + 1) (rowC prC l ++ [c, i]) → W.grownBy W' vp.ownBlock → (vp.ownBlock = vp'.ownBlock ∨ ∃ g, vp'.ownBlock = some g ∧ W.heap.size ≤ g) →
      Tu n0 w (W'.setCell ⟨w.heap.size + 2, 0, none⟩ vp') sr vp' vc vs (ps ++ [p]) ∧ Rw W' (w.heap.size + 2) 26 #[vp, vc, vs] := by
  have hlt := h.lt
  have hz := h.z
  obtain ⟨l, hl, hown, hr⟩ := h.row
  refine ⟨l, hown, fun vp' W' hown' hgr hat => ?_⟩
  have hb : Below (w.heap.size + 3) W W' := (Below.refl _ _).grown hgr hz (fun k e => (hlt k e).1)
  have b2 : Below w.heap.size W (W'.setCell ⟨w.heap.size + 2, 0, none⟩ vp') := (hb.mono (by omega)).setCell (by simp) _
  have r5 := h.r5.up hb (by omega)
  have hs : (W'.setCell ⟨w.heap.size + 2, 0, none⟩ vp').heap.size = W'.heap.size := size_set ..
  have keep : ∀ (n : Nat) (v : Value), Of w.heap.size W vp n v → Of w.heap.size (W'.setCell ⟨w.heap.size + 2, 0, none⟩ vp') vp' n v := fun n v ho hn b e => by
    obtain ⟨q1, q2, q3⟩ := ho hn b e
    refine ⟨by rw [hs]; exact Nat.lt_of_lt_of_le q1 hgr.size, q2, fun e' => ?_⟩
    rcases hat with e1 | ⟨g, e1, hg⟩
    · exact q3 (e1.trans e')
    · rw [e1] at e'
      injection e' with e'
      omega
  have keepS : ∀ {size n : Nat} {v : Value} {xs : List Value}, Of w.heap.size W vp n v → Sl W size v n xs → Sl (W'.setCell ⟨w.heap.size + 2, 0, none⟩ vp') size v n xs := fun ho hS =>
    sl_setP (sl_growP hS hgr (fun hn k e => (ho hn k e).2.2)) _ (fun hn e => by have := (ho hn _ e).2.1; omega)
  refine ⟨⟨h.d.trans b2, (h.r0.up hb (by omega)).set_other _ (by simp), (h.r4.up hb (by omega)).set_other _ (by simp), r5.set 0 _, l ++ [(c, i)], by simp [hl], ?_, fun k hk hk' => ?_⟩, r5⟩
  · have e1 : rowC prC (l ++ [(c, i)]) = rowC prC l ++ [c, i] := by rw [rowC_snoc]; rfl
    rw [e1, List.length_append]
    exact own_set (a := ⟨w.heap.size + 2, 0, none⟩) hown' _ (fun e => by have := own_block hown' _ e; simp at this)
  · by_cases hkl : k < ps.length
    · have hkl' : k < l.length := by omega
      obtain ⟨⟨q1, q2⟩, q3, q4, q5⟩ := hr k hkl hkl'
      simp only [List.getElem_append_left hkl, List.getElem_append_left hkl']
      exact ⟨⟨keepS q4 q1, keepS q5 q2⟩, q3, keep _ _ q4, keep _ _ q5⟩
    · have hk1 : k = ps.length := by simp at hk; omega
      subst hk1
      have e1 : (ps ++ [p])[ps.length] = p := by simp
      have e2 : (l ++ [(c, i)])[ps.length]'hk' = (c, i) := by simp [← hl]
      rw [e1, e2]
      exact ⟨⟨keepS o1 hp.code, keepS o2 hp.inn⟩, ⟨h1, h2⟩, keep _ _ o1, keep _ _ o2⟩
def PartsF (n0 : Nat) (w : World) (v : Value) (ps : List Prt) : Prop :=
  ∃ l : List (Value × Value), l.length = ps.length ∧ Sl w 2 v ps.length (rowC prC l) ∧ ∀ k (hk : k < ps.length) (hk' : k < l.length), PrtR w l[k].1 l[k].2 ps[k] ∧ (NewB n0 l[k].1 ∧ NewB n0 l[k].2) ∧ (0 < ps[k].code.length → Apart l[k].1 v) ∧ (0 < ps[k].inn.length → Apart l[k].2 v)
theorem PartsF.r {n0 : Nat} {w : World} {v : Value} {ps : List Prt} (h : PartsF n0 w v ps) : PartsR w v ps := by
  obtain ⟨l, h1, h2, h3⟩ := h
  exact ⟨l, h1, h2, fun k hk hk' => (h3 k hk hk').1⟩
theorem sl_rowP {w : World} {size : Nat} {v : Value} {n : Nat} {xs : List Value} (h : Sl w size v n xs) {c : Nat} (cs : Array Value) (hne : 0 < n → v.ownBlock ≠ some c) : Sl (w.setRow c cs) size v n xs := sl_row0K h hne
set_option maxRecDepth 100000 in
set_option maxHeartbeats 8000000 in
theorem turned_any (S : SysD) (P' : List Prt) (hP : P'.length = S.parts.length) (hn4 : S.parts.length ≤ 4) (n0 : Nat) (f : Nat) (hen : Enters f) (cap : Array Value) (vp vc vs : Value) (w : World) (hS : Sys w vp vc vs S)
    (hf : ∀ (k : Nat) (hk : k < S.parts.length) (hk' : k < P'.length) (c i : Value) (W : World), Below w.heap.size w W → w.heap.size + 3 ≤ W.heap.size → PrtR w c i S.parts[k] →
      Calls Tryz.prog f (#[.int .i64 (k : Int), .agg #[c, i]] ++ cap) W fun e W' => ∃ c' i', e = .returned (.agg #[c', i']) ∧ PrtR W' c' i' P'[k] ∧ (NewB n0 c' ∧ NewB n0 i') ∧ (0 < P'[k].code.length → ∀ b, c'.ownBlock = some b → b < w.heap.size ∨ W.heap.size ≤ b) ∧ (0 < P'[k].inn.length → ∀ b, i'.ownBlock = some b → b < w.heap.size ∨ W.heap.size ≤ b) ∧ Below W.heap.size W W') :
    Calls Tryz.prog 45 #[.agg #[vp, vc, vs], .func (.func f) #[] cap] w fun e w' => ∃ vp', e = .returned (.agg #[vp', vc, vs]) ∧ PartsF n0 w' vp' P' ∧ NewB w.heap.size vp' ∧ Below w.heap.size w w' := by
  obtain ⟨i1, hi1, hy0, hy1, hy2⟩ := info_parts infoPart
  obtain ⟨pa, pc, rfl⟩ := hS.p.form
  obtain ⟨ka, kc, rfl⟩ := hS.c.form
  obtain ⟨sa, sc, rfl⟩ := hS.s.form
  have HS := Lib.hid hS
  have HF := Lib.hid hf
  have HP := Lib.hid hP
  clear hS hf hP
  go_enter Tryz.func45, Tryz.ntmps45
  go_upto_region 2 with fail
  generalize hX : World.alloc _ _ = X
  have HC : Hid (Tu n0 w X #[.slice pa S.parts.length pc, .slice ka S.chans.length kc, .slice sa S.slots.length sc] (.slice none 0 0) (.slice ka S.chans.length kc) (.slice sa S.slots.length sc) []) := by
    have hXX : X = ((w.alloc (.cells #[.slice pa S.parts.length pc, .slice ka S.chans.length kc, .slice sa S.slots.length sc] 26)).alloc (.cells #[.slice none 0 0, .slice none 0 0, .slice none 0 0] 26)).alloc (.cells #[.slice none 0 0, .slice ka S.chans.length kc, .slice sa S.slots.length sc] 26) := by rw [← hX]
    exact Lib.hid ⟨by rw [hXX]; exact (by repeat (first | exact Below.refl _ _ | assumption | refine Below.drew ?_ | refine Below.alloc ?_ (by first | (simp; done) | (simp; omega)) _ | refine Below.setCell ?_ (by first | (simp; done) | (simp; omega)) _)), by rw [hXX]; exact (by repeat (first | exact Rw.new _ _ _ (by first | rfl | (simp; done) | omega | (simp; omega)) | refine Rw.alloc ?_ _)), by rw [hXX]; exact (by repeat (first | exact Rw.new _ _ _ (by first | rfl | (simp; done) | omega | (simp; omega)) | refine Rw.alloc ?_ _)), by rw [hXX]; exact (by repeat (first | exact Rw.new _ _ _ (by first | rfl | (simp; done) | omega | (simp; omega)) | refine Rw.alloc ?_ _)), [], rfl, World.ownsRow_nil _ _ _ _, fun k hk => by simp at hk⟩
  clear hX
  have q0 := HC.out.r0.cell (j := 0) (v := .slice pa S.parts.length pc) rfl
  go_wp2
  clear q0
  go_loopw [16] (fun i wr => ∃ k : Nat, i = .int .i64 k ∧ k ≤ S.parts.length ∧ Hid (∃ vp, Tu n0 w wr #[.slice pa S.parts.length pc, .slice ka S.chans.length kc, .slice sa S.slots.length sc] vp (.slice ka S.chans.length kc) (.slice sa S.slots.length sc) (P'.take k))) (fun i _ => S.parts.length - (intOf i).toNat)
  case atStart => exact ⟨0, rfl, Nat.zero_le _, Lib.hid ⟨_, HC.out⟩⟩
  case round =>
    clear HC
    obtain ⟨k, rfl, hk, HC⟩ := hrel
    obtain ⟨vp, hC⟩ := HC.out
    clear HC
    generalize hlk : P'.take k = ps at hC
    have HLK := Lib.hid hlk
    have HLL : Hid (ps.length = k) := Lib.hid (by rw [← hlk]; simp; have := HP.out; omega)
    obtain ⟨a3, c3, rfl⟩ := hC.form
    have CP := Lib.hid hC
    clear hlk hC
    by_cases hlt : k < S.parts.length
    · have hli : (k : Int) < S.parts.length := by omega
      have hltP : k < P'.length := by have := HP.out; omega
      obtain ⟨b, off, cap1, e1, hcap, hbw, hpp⟩ := HS.out.p.open (by omega)
      cases e1
      obtain ⟨c, i, hc0, hc1, hpr⟩ := hpp k hlt
      obtain ⟨ca, cc, rfl⟩ := hpr.code.form
      obtain ⟨ia, ic, rfl⟩ := hpr.inn.form
      have HCALL := Lib.hid fun W h1 h2 => HF.out k hlt hltP _ _ W h1 h2 hpr
      have HPK : Hid (P'.take (k + 1) = ps ++ [P'[k]]) := Lib.hid (by rw [List.take_succ_eq_append_getElem hltP, HLK.out])
      have k0 := bcl CP.out.d hbw hc0
      have k1 := bcl CP.out.d hbw hc1
      have zz := CP.out.z
      clear hpp hc0 hc1 hpr
      generalize P'[k] = q at HCALL HPK
      generalize S.parts[k] = p0 at k0 k1 HCALL
      go_wp2
      clear k0 k1
      generalize hX2 : World.alloc _ _ = X2
      have hXX2 : X2 = wr.alloc (.cells #[.slice ca p0.code.length cc, .slice ia p0.inn.length ic] 49) := by rw [← hX2]
      have b2 : Below wr.heap.size wr X2 := by rw [hXX2]; exact (Below.refl _ _).alloc (Nat.le_refl _) _
      have R7 : Hid (Rw X2 wr.heap.size 49 #[.slice ca p0.code.length cc, .slice ia p0.inn.length ic]) := Lib.hid (by rw [hXX2]; exact Rw.new _ _ _ rfl)
      have hz2 : X2.heap.size = wr.heap.size + 1 := by rw [hXX2]; simp
      have CP2 := Lib.hid (CP.out.up b2)
      have HZ2 := Lib.hid hz2
      have HLT := Lib.hid CP.out.lt
      clear hX2 hXX2 b2 CP hz2
      refine region_still (S := fun w' => Rw w' (w.heap.size + 2) 26 #[.slice a3 ps.length c3, .slice ka S.chans.length kc, .slice sa S.slots.length sc] ∧ Rw w' wr.heap.size 49 #[.slice ca p0.code.length cc, .slice ia p0.inn.length ic]) 9 (by kernel_rfl) ⟨CP2.out.r5.drew, R7.out.drew⟩ (fun hHeld => ?_)
      refine Still.takeBy (i := 0) [] (v := ?v11) (by kernel_rfl) (by kernel_rfl) rfl (by kernel_rfl) (by kernel_rfl) (by kernel_rfl) (fun _ _ _ h => h) (Or.inl ⟨by rfl, ?y11⟩) hHeld ?r11
      case y11 => (intro w' hSw; (try dsimp only at hSw); obtain ⟨u1, u2⟩ := hSw; have q1 := u1.cell (j := 0) (v := .slice a3 ps.length c3) rfl; have q2 := u2.cell (j := 0) (v := .slice ca p0.code.length cc) rfl; have q3 := u2.cell (j := 1) (v := .slice ia p0.inn.length ic) rfl; clear u1 u2; go_simp; try with_reducible rfl)
      simp only [Act.put, List.getElem_toArray, List.getElem_cons_zero, List.getElem_cons_succ, List.setIfInBounds_toArray, List.set_cons_zero, List.set_cons_succ]
      refine Still.takeBy (i := 1) [] (v := ?v12) (by kernel_rfl) (by kernel_rfl) rfl (by kernel_rfl) (by kernel_rfl) (by kernel_rfl) (fun _ _ _ h => h) (Or.inl ⟨by rfl, ?y12⟩) hHeld ?r12
      case y12 => (intro w' hSw; (try dsimp only at hSw); obtain ⟨u1, u2⟩ := hSw; have q1 := u1.cell (j := 0) (v := .slice a3 ps.length c3) rfl; have q2 := u2.cell (j := 0) (v := .slice ca p0.code.length cc) rfl; have q3 := u2.cell (j := 1) (v := .slice ia p0.inn.length ic) rfl; clear u1 u2; go_simp; try with_reducible rfl)
      simp only [Act.put, List.getElem_toArray, List.getElem_cons_zero, List.getElem_cons_succ, List.setIfInBounds_toArray, List.set_cons_zero, List.set_cons_succ]
      refine Still.takeBy (i := 2) [] (v := ?v13) (by kernel_rfl) (by kernel_rfl) rfl (by kernel_rfl) (by kernel_rfl) (by kernel_rfl) (fun _ _ _ h => h) (Or.inl ⟨by rfl, ?y13⟩) hHeld ?r13
      case y13 => (intro w' hSw; (try dsimp only at hSw); obtain ⟨u1, u2⟩ := hSw; have q1 := u1.cell (j := 0) (v := .slice a3 ps.length c3) rfl; have q2 := u2.cell (j := 0) (v := .slice ca p0.code.length cc) rfl; have q3 := u2.cell (j := 1) (v := .slice ia p0.inn.length ic) rfl; clear u1 u2; go_simp; try with_reducible rfl)
      simp only [Act.put, List.getElem_toArray, List.getElem_cons_zero, List.getElem_cons_succ, List.setIfInBounds_toArray, List.set_cons_zero, List.set_cons_succ]
      refine Still.takeBy (i := 3) [] (v := ?v14) (by kernel_rfl) (by kernel_rfl) rfl (by kernel_rfl) (by kernel_rfl) (by kernel_rfl) (fun _ _ _ h => h) (Or.inl ⟨by rfl, ?y14⟩) hHeld ?r14
      case y14 => (intro w' hSw; (try dsimp only at hSw); obtain ⟨u1, u2⟩ := hSw; have q1 := u1.cell (j := 0) (v := .slice a3 ps.length c3) rfl; have q2 := u2.cell (j := 0) (v := .slice ca p0.code.length cc) rfl; have q3 := u2.cell (j := 1) (v := .slice ia p0.inn.length ic) rfl; clear u1 u2; go_simp; try with_reducible rfl)
      simp only [Act.put, List.getElem_toArray, List.getElem_cons_zero, List.getElem_cons_succ, List.setIfInBounds_toArray, List.set_cons_zero, List.set_cons_succ]
      refine Still.takeBy (i := 4) [] (v := ?v15) (by kernel_rfl) (by kernel_rfl) rfl (by kernel_rfl) (by kernel_rfl) (by kernel_rfl) (fun _ _ _ h => h) (Or.inl ⟨by rfl, ?y15⟩) hHeld ?r15
      case y15 => (intro w' hSw; (try dsimp only at hSw); obtain ⟨u1, u2⟩ := hSw; have q1 := u1.cell (j := 0) (v := .slice a3 ps.length c3) rfl; have q2 := u2.cell (j := 0) (v := .slice ca p0.code.length cc) rfl; have q3 := u2.cell (j := 1) (v := .slice ia p0.inn.length ic) rfl; clear u1 u2; go_simp; try with_reducible rfl)
      simp only [Act.put, List.getElem_toArray, List.getElem_cons_zero, List.getElem_cons_succ, List.setIfInBounds_toArray, List.set_cons_zero, List.set_cons_succ]
      refine Still.all (rs := [5]) (by kernel_rfl) (by simp) (Still.one (i := 5) rfl rfl (fun K hK => ?_) (by simp))
      refine wp_callV (.tmp 23) f cap _ _ rfl (by first | rfl | simp [Act.eval, Act.put]) hen #[.int .i64 (k : Int), .agg #[.slice ca p0.code.length cc, .slice ia p0.inn.length ic]] (by first | rfl | simp [Act.eval, Act.put]) ((HCALL.out _ (CP2.out.d.trans (Below.refl _ _).drew) (by have := HZ2.out; show w.heap.size + 3 ≤ X2.heap.size; omega)).mono ?_)
      rintro e W2 ⟨c', i', rfl, hq, ⟨hq1, hq2⟩, o1, o2, bb⟩
      obtain ⟨da, dc, rfl⟩ := hq.code.form
      obtain ⟨ja, jc, rfl⟩ := hq.inn.form
      have bW : Below X2.heap.size X2 W2 := (Below.refl _ _).drew.trans bb
      have z2 := bW.size
      have CP3 := Lib.hid (CP2.out.up bW)
      have R73 := Lib.hid (R7.out.up bW R7.out.lt)
      have HQ := Lib.hid hq
      have hof : ∀ (n : Nat) (v : Value), Sl W2 1 v n (List.replicate n (.int .i64 0)) ∨ True → (0 < n → ∀ b, v.ownBlock = some b → b < w.heap.size ∨ X2.heap.size ≤ b) → (0 < n → ∀ b, v.ownBlock = some b → b < W2.heap.size) → Of w.heap.size (W2.alloc (.cells #[.slice da q.code.length dc, .slice ja q.inn.length jc] 49)) (.slice a3 ps.length c3) n v := fun n v _ h1 h2 hn b e => by
        have y1 := h1 hn b e
        have y2 := h2 hn b e
        have y3 := HZ2.out
        refine ⟨by simp; omega, by omega, fun e' => ?_⟩
        have := HLT.out b e'
        omega
      have ltc : 0 < q.code.length → ∀ b, (Value.slice da q.code.length dc).ownBlock = some b → b < W2.heap.size := fun hn b e => by
        obtain ⟨b', off', cap', e1, _, hb', _⟩ := HQ.out.code.open hn
        rw [e1] at e
        simp [Value.ownBlock] at e
        omega
      have lti : 0 < q.inn.length → ∀ b, (Value.slice ja q.inn.length jc).ownBlock = some b → b < W2.heap.size := fun hn b e => by
        obtain ⟨b', off', cap', e1, _, hb', _⟩ := HQ.out.inn.open hn
        rw [e1] at e
        simp [Value.ownBlock] at e
        omega
      obtain ⟨l, hps, hadd⟩ := (CP3.out.up ((Below.refl _ _).alloc (Nat.le_refl _) (.cells #[.slice da q.code.length dc, .slice ja q.inn.length jc] 49))).add q _ _ (HQ.out.up ((Below.refl _ _).alloc (Nat.le_refl _) _)) hq1 hq2 (hof _ _ (.inr trivial) o1 ltc) (hof _ _ (.inr trivial) o2 lti)
      have HPS := Lib.hid hps
      have HADD := Lib.hid hadd
      refine ⟨_, rfl, hK _ _ (fun _ => ⟨CP3.out.r5, R73.out⟩) (fun hh => ?_)⟩
      have hHeld := hh (by decide)
      clear hK K hh
      try simp only [Act.put, List.getElem_toArray, List.getElem_cons_zero, List.getElem_cons_succ, List.setIfInBounds_toArray, List.set_cons_zero, List.set_cons_succ]
      clear hq bb hof ltc lti hps hadd o1 o2 hq1 hq2
      refine Still.all (rs := [6]) (by kernel_rfl) (by simp) (Still.one (i := 6) rfl rfl (fun K hK => ?_) (by simp))
      refine wp_buildOne 22 49 (.tmp 26) rfl #[.slice da q.code.length dc, .slice ja q.inn.length jc] (by first | rfl | simp [Act.eval, Act.put]) Tryz.underlying22 sizePart zeroPart (by show 0 < 2; decide) (by show 2 ≤ 2 ^ 24; decide) ?_
      refine hK _ _ (fun _ => ⟨CP3.out.r5.alloc _, R73.out.alloc _⟩) (fun hh => ?_)
      have hHeld := hh (by decide)
      clear hK K hh
      try simp only [Act.put, List.getElem_toArray, List.getElem_cons_zero, List.getElem_cons_succ, List.setIfInBounds_toArray, List.set_cons_zero, List.set_cons_succ]
      refine Still.all (rs := [7]) (by kernel_rfl) (by simp) (Still.one (i := 7) rfl rfl (fun K hK => ?_) (by simp))
      refine wp_append_lies _ (.tmp 22) (.tmp 27) 22 rfl (w.heap.size + 3) 49 i1 _ 2 48 Tryz.underlying22 hi1 hy0 hy1 hy2 rfl (by decide) (.slice a3 ps.length c3) ps.length (rowC prC l) (by first | rfl | simp [Act.eval, Act.put]) HPS.out ⟨W2.heap.size, 0, none⟩ 1 1 [.slice da q.code.length dc, .slice ja q.inn.length jc] (by first | rfl | simp [Act.eval, Act.put]) rfl (new_range _ _ #[.slice da q.code.length dc, .slice ja q.inn.length jc] _ rfl) (two_cell _ _ _ _ _ _) (by decide) (by have := HLL.out; unfold maxLen; omega) (by have := HLL.out; omega) (by have := HZ2.out; simp; omega) _ rfl ?_
      intro g4 cap4 W4 hown hgrow hat hg4
      obtain ⟨hC5, hr5⟩ := HADD.out _ W4 hown hgrow (hat.imp (fun e => e) (fun e => ⟨g4, rfl, by rw [e]; simp⟩))
      have R74 : Rw W4 wr.heap.size 49 #[.slice ca p0.code.length cc, .slice ia p0.inn.length ic] := (hgrow.block _ (R73.out.alloc _).lt (fun e => by have := HLT.out _ e.symm; omega)).trans (R73.out.alloc _)
      have C5 := Lib.hid hC5
      have q5 := hr5.cell (j := 0) (v := .slice a3 ps.length c3) rfl
      have f5 := hr5.fr 0
      refine hK _ _ (fun _ => ⟨hr5, R74⟩) (fun hh => ?_)
      have hHeld := hh (by decide)
      clear hK K hh
      try simp only [Act.put, List.getElem_toArray, List.getElem_cons_zero, List.getElem_cons_succ, List.setIfInBounds_toArray, List.set_cons_zero, List.set_cons_succ]
      clear hown hgrow hat hC5 HPS HADD hr5 R74
      refine Still.takeBy (i := 8) [] (v := ?v16) (by kernel_rfl) (by kernel_rfl) rfl (by kernel_rfl) (by kernel_rfl) (by kernel_rfl) (fun _ _ _ h => h) (Or.inl ⟨by rfl, ?y16⟩) hHeld ?r16
      case y16 => (intro w' hSw; (try dsimp only at hSw); clear hSw; go_simp; try with_reducible rfl)
      simp only [Act.put, List.getElem_toArray, List.getElem_cons_zero, List.getElem_cons_succ, List.setIfInBounds_toArray, List.set_cons_zero, List.set_cons_succ]
      refine Still.all (rs := [9]) (by kernel_rfl) (by simp) (Still.one (i := 9) rfl rfl (fun K hK => ?_) (by simp))
      clear hHeld
      go_simp
      refine hK _ _ (fun h => absurd rfl h) (fun _ => ?_)
      clear hK K
      refine Still.over (by kernel_rfl) ?_ _
      clear q5 f5
      go_wp2
      go_roundw
      case rel => exact ⟨k + 1, by go_num, by omega, Lib.hid ⟨_, by rw [HPK.out]; exact C5.out⟩⟩
      case measure => simp [intOf]; omega
    · have hli : ¬ (k : Int) < S.parts.length := by omega
      have hle : P' = ps := by rw [← HLK.out, List.take_of_length_le (by have := HP.out; omega)]
      subst hle
      have hlt := Lib.hid CP.out.lt
      have zz := CP.out.z
      have q5 := CP.out.r5.cell (j := 0) (v := .slice a3 P'.length c3) rfl
      have q6 := CP.out.r5.cell (j := 1) (v := .slice ka S.chans.length kc) rfl
      have q7 := CP.out.r5.cell (j := 2) (v := .slice sa S.slots.length sc) rfl
      go_wp2_with (refine wpList_store_row rfl 26 (.tmp 4) (.tmp 31) rfl (w.heap.size + 1) #[.slice a3 P'.length c3, .slice ka S.chans.length kc, .slice sa S.slots.length sc] rfl rfl 26 _ CP.out.r4 sizeSys rfl (by simp [Value.oneCell']) ?_)
      refine bodyPost_ret (results_cell_row Tryz.results45 _ _ (w.heap.size + 1) 26 #[.slice a3 P'.length c3, .slice ka S.chans.length kc, .slice sa S.slots.length sc] (0, 0) _ rfl (CP.out.r4.row _) Tryz.underlying26 rfl sizeSys) rfl ⟨_, rfl, ?_, fun b e => by have := hlt.out b e; omega, below_row CP.out.d (by omega) _⟩
      obtain ⟨l, h1, h2, h3⟩ := CP.out.row
      refine ⟨l, h1, (own_sl h2).row _ (fun e => by have := hlt.out _ e; omega), fun k hk hk' => ⟨⟨sl_rowP (h3 k hk hk').1.code _ (fun hn e => by have := ((h3 k hk hk').2.2.1 hn _ e).2.1; omega), sl_rowP (h3 k hk hk').1.inn _ (fun hn e => by have := ((h3 k hk hk').2.2.2 hn _ e).2.1; omega)⟩, (h3 k hk hk').2.1, fun hn b e => ((h3 k hk hk').2.2.1 hn b e).2.2, fun hn b e => ((h3 k hk hk').2.2.2 hn b e).2.2⟩⟩
end Go.Proofs.YtehhhiodfcdnmaaGreatDoor

namespace Go.Proofs.YtehhhiodfcdnmaaGreatDoor
set_option linter.unusedSimpArgs false
set_option linter.unusedVariables false
open Go.RowKit Go.Sort
structure Right (S : SysD) (D : WldD) : Prop where
  t0 : 0 ≤ D.tick
  t1 : D.tick ≤ 300
  c : cellsB S.parts D.cells = true
  l : linesB S.chans D.lines = true
theorem chkW_zero {S : SysD} {D : WldD} (h : chkW S D = 0) : chkS S = 0 ∧ Right S D := by
  unfold chkW at h
  split at h
  · exact absurd h (by assumption)
  · rename_i h1
    split at h
    · rename_i h2
      rw [Bool.and_eq_true, Bool.and_eq_true] at h2
      obtain ⟨⟨h2, h3⟩, h4⟩ := h2
      unfold withinB at h2
      rw [Bool.and_eq_true, decide_eq_true_eq, decide_eq_true_eq] at h2
      exact ⟨by simpa using h1, h2.1, h2.2, h3, h4⟩
    · omega
theorem replied_at (c : Cel) (k reg flag kind val : Int) (is : Bool) : (c.replied k reg flag kind val is).at_ = c.at_ ∧ (c.replied k reg flag kind val is).read = c.read ∧ (c.replied k reg flag kind val is).en = c.en := by
  unfold Cel.replied
  split
  · exact ⟨setReg_at .., setReg_read .., setReg_en ..⟩
  · split
    · cases is
      · exact ⟨setReg_at .., setReg_read .., setReg_en ..⟩
      · exact ⟨(setReg_at ..).trans (setReg_at ..), (setReg_read ..).trans (setReg_read ..), (setReg_en ..).trans (setReg_en ..)⟩
    · exact ⟨rfl, rfl, rfl⟩
theorem servR_len {kind : Int} {l : List Int} (h : chkL kind l.length = 0) (x : Wnt) : chkL kind (servR kind l x).1.length = 0 := by
  unfold servR
  split
  · unfold putR
    rw [if_pos h]
    unfold putS
    rcases chkL_zero h with ⟨rfl, _⟩ | ⟨rfl, _⟩
    · rfl
    · simp only [show ¬((2 : Int) = 1) by decide, if_false]
      split
      · exact h
      · simp [chkL]
        omega
  · unfold getR
    rw [if_pos h]
    cases l with
    | nil => exact h
    | cons a r =>
      simp only []
      split
      · exact h
      · rcases chkL_zero h with ⟨rfl, _⟩ | ⟨rfl, h2⟩
        · contradiction
        · simp at h2
          simp [chkL]
          omega
theorem cellsB_set {ps : List Prt} {ds : List CelD} (h : cellsB ps ds = true) {k : Nat} {d : CelD} (hd : ∀ h : k < ps.length, celB ps[k] d = true) : cellsB ps (ds.set k d) = true := by
  have hl := cellsB_len h
  refine cellsB_yes (by simpa using hl) fun j h1 h2 => ?_
  by_cases e : k = j
  · subst e
    simpa using hd h1
  · rw [List.getElem_set_ne e]
    exact cellsB_at h j h1 (by omega)
theorem linesB_set {cs : List Chn} {ls : List (List Int)} (h : linesB cs ls = true) {k : Nat} {l : List Int} (hd : ∀ h : k < cs.length, chkL cs[k].kd l.length = 0) : linesB cs (ls.set k l) = true := by
  have hl := linesB_len h
  refine linesB_yes (by simpa using hl) fun j h1 h2 => ?_
  by_cases e : k = j
  · subst e
    simpa using hd h1
  · rw [List.getElem_set_ne e]
    exact linesB_at h j h1 (by omega)
theorem celB_is {p : Prt} {d : CelD} (h : celB p d = true) : d.c.fine d.out.length = true ∧ d.c.read ≤ p.inn.length := by
  unfold celB at h
  rw [Bool.and_eq_true] at h
  exact ⟨h.1, by simpa using h.2⟩
theorem celB_of {p : Prt} {d : CelD} (h : d.c.fine d.out.length = true) (h2 : d.c.read ≤ p.inn.length) : celB p d = true := by
  unfold celB
  rw [Bool.and_eq_true]
  exact ⟨h, by simpa using h2⟩
theorem step_home {S : SysD} (h : chkS S = 0) {p : Nat} (hp : p < S.parts.length) {inn xs : List Int} {c : Cel} : (stepC S.parts[p].code inn xs c).2.2 = wntZ ∨ ∃ ch, S.chans[(stepC S.parts[p].code inn xs c).2.2.ch.toNat]? = some ch ∧ (ch.fr = p ∨ ch.tt = p) := by
  obtain ⟨-, hc, -, -, hn⟩ := chkS_zero h
  have hcode := hc p hp
  have hnb := names_at (l := S.chans) (k := 0) hn p hp
  unfold nameBad at hnb
  rw [Bool.or_eq_false_iff, List.any_eq_false, List.any_eq_false] at hnb
  have hfe : firstE S.parts[p].code = 0 := by
    unfold chkC at hcode
    split at hcode
    · omega
    · exact hcode
  unfold stepC
  split
  · unfold runC
    split
    · exact .inl rfl
    · rename_i i hi
      have hlt : c.at_.toNat < S.parts[p].code.length := (List.getElem?_eq_some_iff.1 hi).1
      have hmem : i ∈ S.parts[p].code := List.mem_of_getElem? hi
      have hck : i.chk = 0 := by
        have := firstE_zero hfe _ hlt
        rw [(List.getElem?_eq_some_iff.1 hi).2] at this
        exact this
      obtain ⟨hop, ⟨ha0, ha1⟩, ⟨hb0, hb1⟩, hj, hch⟩ := chk0 (op := i.op) (a := i.a) (b := i.b) (n := i.n) hck
      cases hd : doC i inn xs c wntZ with
      | none => exact .inl rfl
      | some r =>
        obtain ⟨c', ys, x'⟩ := r
        rcases doC_want hd with e | ⟨ho, e⟩ | ⟨ho, e⟩
        · exact .inl e
        · right
          have hn5 := hch (.inl ho)
          have hb := hnb.1 _ (chan_named hmem ho hn5.1 hn5.2)
          subst e
          simp only [Option.getD_some]
          unfold putBad at hb
          split at hb
          · simp at hb
          · rename_i y hy
            exact ⟨y, hy, .inl (by simpa using hb)⟩
        · right
          have hn5 := hch (.inr ho)
          have hb := hnb.2 _ (chan_named hmem ho hn5.1 hn5.2)
          subst e
          simp only [Option.getD_some]
          unfold getBad at hb
          split at hb
          · simp at hb
          · rename_i y hy
            exact ⟨y, hy, .inr (by simpa using hb)⟩
  · exact .inl rfl
structure Tick (S : SysD) (D : WldD) (pn : Nat) (d : CelD) (D' : WldD) : Prop where
  p : pn < S.parts.length
  w : whoS S D.tick = pn
  e : nextC S D = D'
  t : D'.tick = D.tick + 1
  c : D'.cells = D.cells.set pn d
  f : celB (S.parts[pn]'p) d = true
  o : ∀ h : pn < D.cells.length, Goes (S.parts[pn]'p).inn D.cells[pn].out D.cells[pn].c d.c d.out
  s : ∀ h : pn < D.cells.length, D.cells[pn].c.en ≠ 0 → d = D.cells[pn]
  l : D'.lines = D.lines ∨ ∃ kn, ∃ h : kn < S.chans.length, ∃ l, D'.lines = D.lines.set kn l ∧ chkL (S.chans[kn]'h).kd l.length = 0 ∧ ((S.chans[kn]'h).fr = pn ∨ (S.chans[kn]'h).tt = pn)
theorem goes_replied {inn xs : List Int} {c c' : Cel} {ys : List Int} (h : Goes inn xs c c' ys) (k reg flag kind val : Int) (is : Bool) : Goes inn xs c (c'.replied k reg flag kind val is) ys := by
  obtain ⟨h1, h2, h3⟩ := replied_at c' k reg flag kind val is
  exact ⟨h1 ▸ h.at0, h1 ▸ h.at1, h3 ▸ h.en0, h3 ▸ h.en1, h2 ▸ h.rd0, h2 ▸ h.rd1, h2 ▸ h.rd2, h.out, h.len, h.len2⟩
theorem stepC_ended (l : List Ins) (inn xs : List Int) (c : Cel) (h : c.en ≠ 0) : stepC l inn xs c = (c, xs, wntZ) := by
  unfold stepC
  rw [if_neg h]
theorem tick_any {S : SysD} {D : WldD} (hk : chkS S = 0) (hR : Right S D) (ht : D.tick < 300) : ∃ pn d, Tick S D pn d (nextC S D) := by
  obtain ⟨hct, hco, -, -, -⟩ := chkS_zero hk
  obtain ⟨hcs, hin⟩ := countsB_is hct
  obtain ⟨hw0, hw1⟩ := who_range hk hR.t0
  obtain ⟨pn, hpn⟩ := Int.eq_ofNat_of_zero_le hw0
  have hlc := cellsB_len hR.c
  have hll := linesB_len hR.l
  have hp : pn < S.parts.length := by omega
  have hpd : pn < D.cells.length := by omega
  have hcel := celB_is (cellsB_at hR.c pn hp hpd)
  have hg := stepC_goes (hco pn hp) hcel.1 hcel.2
  have hw := step_want hk hp (inn := S.parts[pn].inn) (xs := D.cells[pn].out) (c := D.cells[pn].c) ((fine_iff _ _).1 hcel.1).1
  have hh := step_home hk hp (inn := S.parts[pn].inn) (xs := D.cells[pn].out) (c := D.cells[pn].c)
  have hen := stepC_ended S.parts[pn].code S.parts[pn].inn D.cells[pn].out D.cells[pn].c
  have hr0 := ((fine_iff _ _).1 hcel.1).2.2.1
  have hi := hin pn hp
  have e1 : S.parts[(whoS S D.tick).toNat]? = some S.parts[pn] := by rw [hpn]; simp [hp]
  have e2 : D.cells[(whoS S D.tick).toNat]? = some D.cells[pn] := by rw [hpn]; simp [hpd]
  have hz : wntZ.k = 0 := rfl
  cases hst : stepC S.parts[pn].code S.parts[pn].inn D.cells[pn].out D.cells[pn].c with
  | mk c' r =>
    obtain ⟨ys, x⟩ := r
    rw [hst] at hg hw hh hen
    simp only at hg hw hh
    by_cases hx : x.k = 0
    · refine ⟨pn, ⟨c', ys⟩, hp, hpn, rfl, ?_, ?_, celB_of (hg.fine hr0 hi) hg.rd2, fun _ => hg, fun _ h => ?_, .inl ?_⟩
      · unfold nextC; rw [e1, e2]; simp only [hst, hx, if_true]
      · unfold nextC; rw [e1, e2]; simp only [hst, hx, if_true]; rw [hpn]; rfl
      · have := hen h
        injection this with h1 h2
        injection h2 with h2 h3
        rw [h1, h2]
      · unfold nextC; rw [e1, e2]; simp only [hst, hx, if_true]
    · have hwo : WantOk S x := by
        rcases hw with e | h
        · rw [e] at hx; exact absurd hz hx
        · exact h
      obtain ⟨hkn, hft⟩ : ∃ hk : x.ch.toNat < S.chans.length, S.chans[x.ch.toNat].fr = pn ∨ S.chans[x.ch.toNat].tt = pn := by
        rcases hh with e | ⟨ch, h, h'⟩
        · rw [e] at hx; exact absurd hz hx
        · obtain ⟨h1, h2⟩ := List.getElem?_eq_some_iff.1 h
          exact ⟨h1, by rw [h2]; exact h'⟩
      have hln : x.ch.toNat < D.lines.length := by omega
      have e3 : S.chans[x.ch.toNat]? = some S.chans[x.ch.toNat] := by simp [hkn]
      have e4 : D.lines[x.ch.toNat]? = some D.lines[x.ch.toNat] := by simp [hln]
      have hlk := linesB_at hR.l _ hkn hln
      have E : nextC S D = ⟨D.tick + 1, D.cells.set pn ⟨c'.replied x.k x.reg x.flag S.chans[x.ch.toNat].kd (servR S.chans[x.ch.toNat].kd D.lines[x.ch.toNat] x).2.1 (servR S.chans[x.ch.toNat].kd D.lines[x.ch.toNat] x).2.2, ys⟩, D.lines.set x.ch.toNat (servR S.chans[x.ch.toNat].kd D.lines[x.ch.toNat] x).1⟩ := by
        unfold nextC
        rw [e1, e2]
        simp only [hst]
        rw [if_neg hx, e3, e4]
        simp only []
        rw [hpn]
        rfl
      have hg' := goes_replied hg x.k x.reg x.flag S.chans[x.ch.toNat].kd (servR S.chans[x.ch.toNat].kd D.lines[x.ch.toNat] x).2.1 (servR S.chans[x.ch.toNat].kd D.lines[x.ch.toNat] x).2.2
      refine ⟨pn, ⟨c'.replied x.k x.reg x.flag S.chans[x.ch.toNat].kd (servR S.chans[x.ch.toNat].kd D.lines[x.ch.toNat] x).2.1 (servR S.chans[x.ch.toNat].kd D.lines[x.ch.toNat] x).2.2, ys⟩, hp, hpn, rfl, by rw [E], by rw [E], celB_of (hg'.fine hr0 hi) hg'.rd2, fun _ => hg', fun _ h => ?_, .inr ⟨x.ch.toNat, hkn, (servR S.chans[x.ch.toNat].kd D.lines[x.ch.toNat] x).1, by rw [E], servR_len hlk x, hft⟩⟩
      have := hen h
      injection this with h1 h2
      injection h2 with h2 h3
      rw [h3] at hx
      exact absurd hz hx
theorem next_right {S : SysD} {D : WldD} (hk : chkS S = 0) (hR : Right S D) (ht : D.tick < 300) : Right S (nextC S D) ∧ (nextC S D).tick = D.tick + 1 := by
  obtain ⟨pn, d, T⟩ := tick_any hk hR ht
  refine ⟨⟨by rw [T.t]; have := hR.t0; omega, by rw [T.t]; omega, by rw [T.c]; exact cellsB_set hR.c (fun _ => T.f), ?_⟩, T.t⟩
  rcases T.l with e | ⟨kn, h, l, e, h2, -⟩
  · rw [e]; exact hR.l
  · rw [e]; exact linesB_set hR.l (fun _ => h2)
def runN (S : SysD) : Nat → WldD → WldD
  | 0, D => D
  | n + 1, D => runN S n (nextC S D)
theorem runN_right {S : SysD} (hk : chkS S = 0) : ∀ (n : Nat) {D : WldD}, Right S D → D.tick + n ≤ 300 → Right S (runN S n D) ∧ (runN S n D).tick = D.tick + n
  | 0, D, h, _ => ⟨h, by simp [runN]⟩
  | n + 1, D, h, ht => by
    obtain ⟨h1, h2⟩ := next_right hk h (by omega)
    obtain ⟨h3, h4⟩ := runN_right hk n h1 (by omega)
    exact ⟨h3, by rw [runN, h4, h2]; omega⟩
theorem runN_add (S : SysD) : ∀ (n m : Nat) (D : WldD), runN S (n + m) D = runN S m (runN S n D)
  | 0, m, D => by rw [Nat.zero_add]; rfl
  | n + 1, m, D => by rw [show n + 1 + m = (n + m) + 1 by omega]; exact runN_add S n m _
theorem runN_last (S : SysD) (n : Nat) (D : WldD) : runN S (n + 1) D = nextC S (runN S n D) := runN_add S n 1 D
def celD0 : CelD := ⟨celZ, []⟩
def beginC (S : SysD) : WldD := ⟨0, List.replicate S.parts.length celD0, List.replicate S.chans.length []⟩
theorem begin_right {S : SysD} (hk : chkS S = 0) : Right S (beginC S) := by
  obtain ⟨-, -, hch, -, -⟩ := chkS_zero hk
  refine ⟨Int.le_refl _, by show (0 : Int) ≤ 300; omega, cellsB_yes (by simp [beginC]) fun k h h' => ?_, linesB_yes (by simp [beginC]) fun k h h' => ?_⟩
  · simp only [beginC, List.getElem_replicate]
    exact celB_of (by decide) (by show (0 : Int) ≤ _; omega)
  · simp only [beginC, List.getElem_replicate]
    rw [List.any_eq_false] at hch
    have := hch _ (List.getElem_mem h)
    unfold kindBad at this
    unfold chkL
    simp at this
    by_cases h1 : S.chans[k].kd = 1
    · simp [h1]
    · simp [h1, this h1]
end Go.Proofs.YtehhhiodfcdnmaaGreatDoor

namespace Go.Proofs.YtehhhiodfcdnmaaGreatDoor
set_option linter.unusedSimpArgs false
set_option linter.unusedVariables false
open Go.RowKit Go.Sort
theorem wp_make {P : Program} {o : Oper} {a : Act} {w : World} {K : Act → World → Prop} {Q : Exit → Act → World → Prop} (l c : Operand) (t : TypeId) (ho : o.op = .makeSlice t l c)
    (e : TypeId) (i : TypeInfo) (z : Value) (size bytes : Nat) (h1 : P.underlying t = some (.slice e)) (h2 : P.info? e = some i) (h3 : i.zero = some z) (h4 : i.size = size) (h5 : i.bytes = bytes)
    (n : Nat) (hl : a.eval l = .int .i64 n) (hc : a.eval c = .int .i64 n) (b2 : bytes * n ≤ 281474976710656) (b3 : n ≤ 9223372036854775807)
    (h : K (a.put o.dst (.slice (some ⟨w.heap.size, 0, none⟩) n n)) (w.alloc (.cells (madeCells z.cells (n * size)) e))) : o.wp P a w K Q := by
  subst h4 h5
  have hb' : (i.bytes : Int) * (n : Int) ≤ 281474976710656 := by
    have h : ((i.bytes * n : Nat) : Int) ≤ 281474976710656 := by omega
    rwa [Int.natCast_mul] at h
  have hrun := run_make (P := P) w t e i z h1 h2 h3 .i64 .i64 n n (by omega) (Int.le_refl _) hb' (by omega)
  simp only [Int.toNat_natCast] at hrun
  unfold Oper.wp
  simp [execOp, ho, hl, hc, hrun, Result.andThen]
  exact h
theorem made_at (z : Array Value) (hz : 0 < z.size) (n k j : Nat) (hk : k < n) (hj : j < z.size) : (madeCells z (n * z.size)).toList[k * z.size + j]? = z[j]? := by
  have h1 : k * z.size + j < n * z.size := by
    have : (k + 1) * z.size ≤ n * z.size := Nat.mul_le_mul_right _ hk
    rw [Nat.add_mul] at this
    omega
  rw [Array.getElem?_toList]
  unfold madeCells
  rw [Array.getElem?_map, Array.getElem?_range, if_pos h1]
  simp [Nat.mod_eq_of_lt hj, hj]
theorem made_cells (n : Nat) : (madeCells (celZ.cs (.slice none 0 0)) (n * 16)).toList = rowC celC (List.replicate n (celZ, .slice none 0 0)) := by
  apply List.ext_getElem?
  intro j
  by_cases hj : j < n * 16
  · have hk : j / 16 < n := by omega
    have hr : j % 16 < 16 := by omega
    have hjk : j = j / 16 * 16 + j % 16 := by omega
    rw [hjk, rowC_at celC_len _ (j / 16) (j % 16) (by simpa using hk) hr]
    refine (made_at (celZ.cs (.slice none 0 0)) (by decide) n (j / 16) (j % 16) hk hr).trans ?_
    rw [List.getElem_replicate, celC, Array.getElem?_toList]
  · rw [List.getElem?_eq_none (by simp [size_madeCells]; omega), List.getElem?_eq_none (by rw [rowC_len celC_len]; simp; omega)]
structure Bg (X W : World) (oc ol : Option Value) (n m : Nat) : Prop where
  d : Below X.heap.size X W
  c : ∀ v, oc = some v → ∃ ps : List (Cel × Value), ps = List.replicate n (celZ, .slice none 0 0) ∧ Sl W 16 v n (rowC celC ps) ∧ ∀ b, v.ownBlock = some b → X.heap.size ≤ b ∧ b < W.heap.size ∧ ∃ cur, Rw W b 35 cur
  l : ∀ v, ol = some v → Sl W 1 v m (List.replicate m (.slice none 0 0)) ∧ ∀ b, v.ownBlock = some b → X.heap.size ≤ b ∧ b < W.heap.size
  ne : ∀ v u, oc = some v → ol = some u → ∀ b, u.ownBlock = some b → v.ownBlock ≠ some b
theorem Bg.begin (X : World) (n m : Nat) : Bg X X.drew none none n m := ⟨(Below.refl _ _).drew, by simp, by simp, by simp⟩
theorem Bg.cells {X W : World} {ol : Option Value} {n m : Nat} (h : Bg X W none ol n m) : Bg X (W.alloc (.cells (madeCells (celZ.cs (.slice none 0 0)) (n * 16)) 35)) (some (.slice (some ⟨W.heap.size, 0, none⟩) n n)) ol n m :=
  ⟨h.d.alloc h.d.size _, fun v q => by
    injection q with q
    subst q
    refine ⟨_, rfl, ?_, fun b e => by simp [Value.ownBlock] at e; have := h.d.size; exact ⟨by omega, by simp; omega, _, Rw.new _ _ _ e.symm⟩⟩
    rw [← made_cells]
    exact lit_sl W (madeCells (celZ.cs (.slice none 0 0)) (n * 16)).toList _ _ n 16 rfl (by simp [size_madeCells]), fun v q => ⟨(h.l v q).1.up1 _, fun b e => ⟨((h.l v q).2 b e).1, by have := ((h.l v q).2 b e).2; simp; omega⟩⟩, fun v u q q' b e => by
    injection q with q
    subst q
    have := ((h.l u q').2 b e).2
    simp [Value.ownBlock]
    omega⟩
theorem Bg.lines {X W : World} {oc : Option Value} {n m : Nat} (h : Bg X W oc none n m) : Bg X (W.alloc (.cells (madeCells #[.slice none 0 0] (m * 1)) 81)) oc (some (.slice (some ⟨W.heap.size, 0, none⟩) m m)) n m :=
  ⟨h.d.alloc h.d.size _, fun v q => by
    obtain ⟨ps, e, h2, h3⟩ := h.c v q
    exact ⟨ps, e, h2.up1 _, fun b e => ⟨(h3 b e).1, by have := (h3 b e).2.1; simp; omega, let ⟨c, hc⟩ := (h3 b e).2.2; ⟨c, hc.alloc _⟩⟩⟩, fun v q => by
    injection q with q
    subst q
    refine ⟨?_, fun b e => by simp [Value.ownBlock] at e; have := h.d.size; simp; omega⟩
    rw [Nat.mul_one, ← toList_madeCells_one]
    exact lit_sl W (madeCells #[.slice none 0 0] m).toList _ _ m 1 rfl (by simp [size_madeCells]), fun v u q q' b e e' => by
    injection q' with q'
    subst q'
    obtain ⟨ps, _, _, h3⟩ := h.c v q
    have := (h3 b e').2.1
    simp [Value.ownBlock] at e
    omega⟩
theorem Bg.done {X W : World} {vc vl : Value} {S : SysD} (h : Bg X W (some vc) (some vl) S.parts.length S.chans.length) {g B : Nat} (hg : g < X.heap.size) (hB : B ≤ X.heap.size) (cs : Array Value) : WldF B (W.setRow g cs) vc vl (beginC S) := by
  obtain ⟨ps, e, h2, h3⟩ := h.c vc rfl
  obtain ⟨h4, h5⟩ := h.l vl rfl
  subst e
  refine ⟨⟨List.replicate S.parts.length (celZ, .slice none 0 0), by simp [beginC], ?_, fun k hk hk' => ?_⟩, ⟨List.replicate S.chans.length (.slice none 0 0), by simp [beginC], ?_, fun k hk hk' => ?_⟩, fun b e => Nat.le_trans hB (h3 b e).1, fun b e => ⟨Nat.le_trans hB (h5 b e).1, h.ne vc vl rfl rfl b e⟩, fun b e => let ⟨c, hc⟩ := (h3 b e).2.2; ⟨c, hc.row_other _ (by have := (h3 b e).1; omega)⟩⟩
  · simp only [beginC, List.length_replicate]
    exact h2.row cs (fun e => by have := (h3 g e).1; omega)
  · simp only [beginC, List.getElem_replicate]
    exact ⟨rfl, Sl.nil _ _, fun b e => by cases e⟩
  · simp only [beginC, List.length_replicate]
    exact h4.row cs (fun e => by have := (h5 g e).1; omega)
  · simp only [beginC, List.getElem_replicate]
    exact ⟨Sl.nil _ _, fun b e => by cases e⟩
theorem sl_fresh {w : World} {size : Nat} {v : Value} {n : Nat} {xs : List Value} (h : Sl w size v n xs) (o : Obj) (u : Array Value) : Sl ((w.alloc o).setRow w.heap.size u) size v n xs :=
  sl_row0K (h.up1 o) fun hn e => by
    obtain ⟨b, off, cap, rfl, _, hb, _⟩ := h.open hn
    simp [Value.ownBlock] at e
    omega
theorem WldF.fresh {B : Nat} {w : World} {vc vl : Value} {D : WldD} (h : WldF B w vc vl D) (o : Obj) (u : Array Value) : WldF B ((w.alloc o).setRow w.heap.size u) vc vl D := by
  obtain ⟨⟨ps, p1, p2, p3⟩, ⟨vs, q1, q2, q3⟩, bc, bl, fz⟩ := h
  exact ⟨⟨ps, p1, sl_fresh p2 o u, fun k hk hk' => ⟨(p3 k hk hk').1, sl_fresh (p3 k hk hk').2.1 o u, (p3 k hk hk').2.2⟩⟩, ⟨vs, q1, sl_fresh q2 o u, fun k hk hk' => ⟨sl_fresh (q3 k hk hk').1 o u, (q3 k hk hk').2⟩⟩, bc, bl, fun g e => let ⟨c, hc⟩ := fz g e; ⟨c, (hc.alloc o).row_other _ (by have := hc.lt; omega)⟩⟩
def wldZ : WldD := ⟨0, [], []⟩
theorem WldF.nil (B : Nat) (w : World) : WldF B w (.slice none 0 0) (.slice none 0 0) wldZ := ⟨⟨[], rfl, Sl.nil _ _, fun k hk => by simp [wldZ] at hk⟩, ⟨[], rfl, Sl.nil _ _, fun k hk => by simp [wldZ] at hk⟩, fun b e => (by cases e), fun b e => (by cases e), fun b e => (by cases e)⟩
theorem world_one (t : Int) (a : Option Addr) (n c : Nat) (a' : Option Addr) (n' c' : Nat) : (#[.int .i64 t, .slice a n c, .slice a' n' c'] : Array Value).all (·.oneCell') = true := by simp [Value.oneCell']
theorem countsS {S : SysD} (h : chkS S = 0) : S.parts.length ≤ 4 ∧ S.chans.length ≤ 6 := by
  unfold chkS at h
  cases hb : countsB S with
  | false => rw [hb] at h; simp at h
  | true => simp [countsB] at hb; omega
def beginR (S : SysD) : WldD := if chkS S = 0 then beginC S else wldZ
set_option maxRecDepth 100000 in
set_option maxHeartbeats 8000000 in
theorem kernBegin_any (S : SysD) (vp vc vs : Value) (w : World) (he : Env w) (hS : Sys w vp vc vs S) (e0 : Int) (hk : chkS S = e0) (D : WldD) (hD : beginR S = D) :
    Calls Tryz.prog 66 #[.agg #[vp, vc, vs]] w fun e w' => ∃ uc ul, e = .returned (.tuple #[.agg #[.int .i64 D.tick, uc, ul], .int .i64 e0]) ∧ WldF w.heap.size w' uc ul D ∧ Below w.heap.size w w' := by
  obtain ⟨i1, hi1, hy0, hy1, hy2⟩ := info_parts infoCell
  obtain ⟨i2, hi2, hx0, hx1, hx2⟩ := info_parts infoLine
  obtain ⟨pa, pc, rfl⟩ := hS.p.form
  obtain ⟨ka, kc, rfl⟩ := hS.c.form
  obtain ⟨sa, sc, rfl⟩ := hS.s.form
  have HC := Lib.hid fun w he hS => confCheck_any S (.slice pa S.parts.length pc) (.slice ka S.chans.length kc) (.slice sa S.slots.length sc) w he hS
  rw [hk] at HC
  have HE := Lib.hid he
  have HS := Lib.hid hS
  clear he hS
  by_cases h0 : e0 = 0
  · subst h0
    obtain ⟨hcl1, hcl2⟩ := countsS hk
    have HD : Hid (beginC S = D) := by
      show _ = _
      rw [← hD, beginR, if_pos hk]
    clear hk hD
    go_enter Tryz.func66, Tryz.ntmps66
    go_wp2_with fail
    refine (HC.out _ (HE.out.up (by repeat (first | exact Below.refl _ _ | assumption | refine Below.drew ?_ | refine Below.alloc ?_ (by first | (simp; done) | (simp; omega)) _ | refine Below.setCell ?_ (by first | (simp; done) | (simp; omega)) _))) (HS.out.up (by repeat (first | exact Below.refl _ _ | assumption | refine Below.drew ?_ | refine Below.alloc ?_ (by first | (simp; done) | (simp; omega)) _ | refine Below.setCell ?_ (by first | (simp; done) | (simp; omega)) _)))).mono ?_
    rintro e w1 ⟨rfl, b1⟩
    have z1 := b1.size
    simp at z1
    have RA : Hid (Rw w1 w.heap.size 26 #[.slice pa S.parts.length pc, .slice ka S.chans.length kc, .slice sa S.slots.length sc]) := Rw.up (by repeat (first | exact Rw.new _ _ _ (by first | rfl | (simp; done) | omega | (simp; omega)) | refine Rw.alloc ?_ _)) b1 (by first | omega | (simp; done) | (simp; omega))
    have RB : Hid (Rw w1 (w.heap.size + 1) 30 #[.int .i64 0, .slice none 0 0, .slice none 0 0]) := Rw.up (by repeat (first | exact Rw.new _ _ _ (by first | rfl | (simp; done) | omega | (simp; omega)) | refine Rw.alloc ?_ _)) b1 (by first | omega | (simp; done) | (simp; omega))
    have HB : Hid (Below w.heap.size w w1) := by
      refine Below.trans ?_ (b1.mono (by first | omega | (simp; done) | (simp; omega)))
      exact (by repeat (first | exact Below.refl _ _ | assumption | refine Below.drew ?_ | refine Below.alloc ?_ (by first | (simp; done) | (simp; omega)) _ | refine Below.setCell ?_ (by first | (simp; done) | (simp; omega)) _))
    clear b1 HC
    go_wp2
    refine region_still (S := fun w' => Rw w' w.heap.size 26 #[.slice pa S.parts.length pc, .slice ka S.chans.length kc, .slice sa S.slots.length sc]) 10 (by kernel_rfl) RA.out.drew (fun hHeld => ?_)
    refine Still.takeBy (i := 0) [] (v := ?v1) (by kernel_rfl) (by kernel_rfl) rfl (by kernel_rfl) (by kernel_rfl) (by kernel_rfl) (fun _ _ _ h => h) (Or.inl ⟨by rfl, ?y1⟩) hHeld ?r1
    case y1 => (intro w' hSw; (try dsimp only at hSw); have q0 := hSw.cell (j := 0) (v := .slice pa S.parts.length pc) rfl; have q1 := hSw.cell (j := 1) (v := .slice ka S.chans.length kc) rfl; clear hSw; go_simp; try with_reducible rfl)
    simp only [Act.put, List.getElem_toArray, List.getElem_cons_zero, List.getElem_cons_succ, List.setIfInBounds_toArray, List.set_cons_zero, List.set_cons_succ]
    refine Still.takeBy (i := 1) [] (v := ?v2) (by kernel_rfl) (by kernel_rfl) rfl (by kernel_rfl) (by kernel_rfl) (by kernel_rfl) (fun _ _ _ h => h) (Or.inl ⟨by rfl, ?y2⟩) hHeld ?r2
    case y2 => (intro w' hSw; (try dsimp only at hSw); have q0 := hSw.cell (j := 0) (v := .slice pa S.parts.length pc) rfl; have q1 := hSw.cell (j := 1) (v := .slice ka S.chans.length kc) rfl; clear hSw; go_simp; try with_reducible rfl)
    simp only [Act.put, List.getElem_toArray, List.getElem_cons_zero, List.getElem_cons_succ, List.setIfInBounds_toArray, List.set_cons_zero, List.set_cons_succ]
    refine Still.takeBy (i := 2) [] (v := ?v3) (by kernel_rfl) (by kernel_rfl) rfl (by kernel_rfl) (by kernel_rfl) (by kernel_rfl) (fun _ _ _ h => h) (Or.inl ⟨by rfl, ?y3⟩) hHeld ?r3
    case y3 => (intro w' hSw; (try dsimp only at hSw); have q0 := hSw.cell (j := 0) (v := .slice pa S.parts.length pc) rfl; have q1 := hSw.cell (j := 1) (v := .slice ka S.chans.length kc) rfl; clear hSw; go_simp; try with_reducible rfl)
    simp only [Act.put, List.getElem_toArray, List.getElem_cons_zero, List.getElem_cons_succ, List.setIfInBounds_toArray, List.set_cons_zero, List.set_cons_succ]
    refine Still.takeBy (i := 4) [] (v := ?v4) (by kernel_rfl) (by kernel_rfl) rfl (by kernel_rfl) (by kernel_rfl) (by kernel_rfl) (fun _ _ _ h => h) (Or.inl ⟨by rfl, ?y4⟩) hHeld ?r4
    case y4 => (intro w' hSw; (try dsimp only at hSw); have q0 := hSw.cell (j := 0) (v := .slice pa S.parts.length pc) rfl; have q1 := hSw.cell (j := 1) (v := .slice ka S.chans.length kc) rfl; clear hSw; go_simp; try with_reducible rfl)
    simp only [Act.put, List.getElem_toArray, List.getElem_cons_zero, List.getElem_cons_succ, List.setIfInBounds_toArray, List.set_cons_zero, List.set_cons_succ]
    refine Still.takeBy (i := 5) [] (v := ?v5) (by kernel_rfl) (by kernel_rfl) rfl (by kernel_rfl) (by kernel_rfl) (by kernel_rfl) (fun _ _ _ h => h) (Or.inl ⟨by rfl, ?y5⟩) hHeld ?r5
    case y5 => (intro w' hSw; (try dsimp only at hSw); have q0 := hSw.cell (j := 0) (v := .slice pa S.parts.length pc) rfl; have q1 := hSw.cell (j := 1) (v := .slice ka S.chans.length kc) rfl; clear hSw; go_simp; try with_reducible rfl)
    simp only [Act.put, List.getElem_toArray, List.getElem_cons_zero, List.getElem_cons_succ, List.setIfInBounds_toArray, List.set_cons_zero, List.set_cons_succ]
    refine Still.takeBy (i := 6) [] (v := ?v6) (by kernel_rfl) (by kernel_rfl) rfl (by kernel_rfl) (by kernel_rfl) (by kernel_rfl) (fun _ _ _ h => h) (Or.inl ⟨by rfl, ?y6⟩) hHeld ?r6
    case y6 => (intro w' hSw; (try dsimp only at hSw); have q0 := hSw.cell (j := 0) (v := .slice pa S.parts.length pc) rfl; have q1 := hSw.cell (j := 1) (v := .slice ka S.chans.length kc) rfl; clear hSw; go_simp; try with_reducible rfl)
    simp only [Act.put, List.getElem_toArray, List.getElem_cons_zero, List.getElem_cons_succ, List.setIfInBounds_toArray, List.set_cons_zero, List.set_cons_succ]
    have M0 := Lib.hid (Bg.begin w1 S.parts.length S.chans.length)
    generalize World.drew _ = Y0 at M0 hHeld ⊢
    refine Still.all (rs := [3, 7]) (by kernel_rfl) (by simp) (Still.one (i := 3) rfl rfl (fun K hK => ?_) (Still.one (i := 7) rfl rfl (fun K hK => ?_) (by simp)))
    · refine wp_make _ _ 27 rfl 35 i1 _ 16 144 Tryz.underlying27 hi1 hy0 hy1 hy2 S.parts.length (by first | rfl | simp [Act.eval, Act.put]) (by first | rfl | simp [Act.eval, Act.put]) (by omega) (by omega) ?_
      have m := M0.out.cells
      rw [show Value.cells (.agg (celZ.cs (.slice none 0 0))) = celZ.cs (.slice none 0 0) from rfl]
      refine hK _ _ (fun _ => Rw.up (B := Y0.heap.size) hHeld ((Below.refl _ _).alloc (Nat.le_refl _) _) (Rw.lt hHeld)) (fun hh => ?_)
      have hHeld := hh (by decide)
      clear hK K hh
      try simp only [Act.put, List.getElem_toArray, List.getElem_cons_zero, List.getElem_cons_succ, List.setIfInBounds_toArray, List.set_cons_zero, List.set_cons_succ]
      generalize World.alloc _ _ = Y1 at m hHeld ⊢
      have M1 := Lib.hid m
      clear m M0
      refine Still.all (rs := [7]) (by kernel_rfl) (by simp) (Still.one (i := 7) rfl rfl (fun K hK => ?_) (by simp))
      refine wp_make _ _ 28 rfl 81 i2 _ 1 24 Tryz.underlying28 hi2 hx0 hx1 hx2 S.chans.length (by first | rfl | simp [Act.eval, Act.put]) (by first | rfl | simp [Act.eval, Act.put]) (by omega) (by omega) ?_
      have m := M1.out.lines
      rw [show Value.cells (.agg #[.slice none 0 0]) = #[.slice none 0 0] from rfl]
      refine hK _ _ (fun _ => Rw.up (B := Y1.heap.size) hHeld ((Below.refl _ _).alloc (Nat.le_refl _) _) (Rw.lt hHeld)) (fun hh => ?_)
      have hHeld := hh (by decide)
      clear hK K hh
      try simp only [Act.put, List.getElem_toArray, List.getElem_cons_zero, List.getElem_cons_succ, List.setIfInBounds_toArray, List.set_cons_zero, List.set_cons_succ]
      generalize World.alloc _ _ = Y2 at m hHeld ⊢
      have M2 := Lib.hid m
      clear m M1
      refine Still.takeBy (i := 8) [] (v := ?v221) (by kernel_rfl) (by kernel_rfl) rfl (by kernel_rfl) (by kernel_rfl) (by kernel_rfl) (fun _ _ _ h => h) (Or.inl ⟨by rfl, ?y221⟩) hHeld ?r221
      case y221 => (intro w' hSw; (try dsimp only at hSw); go_simp; try with_reducible rfl)
      simp only [Act.put, List.getElem_toArray, List.getElem_cons_zero, List.getElem_cons_succ, List.setIfInBounds_toArray, List.set_cons_zero, List.set_cons_succ]
      refine Still.all (rs := [9]) (by kernel_rfl) (by simp) (Still.one (i := 9) rfl rfl (fun K hK => ?_) (by simp))
      refine wp_store_row 30 _ _ rfl (w.heap.size + 1) #[.int .i64 0, (.slice (some ⟨Y0.heap.size, 0, none⟩) S.parts.length S.parts.length), (.slice (some ⟨Y1.heap.size, 0, none⟩) S.chans.length S.chans.length)] (by first | rfl | simp [Act.eval, Act.put]) (by first | rfl | simp [Act.eval, Act.put]) 30 #[.int .i64 0, .slice none 0 0, .slice none 0 0] (RB.out.up M2.out.d RB.out.lt) sizeWld rfl (world_one _ _ _ _ _ _ _) ?_
      refine hK _ _ (fun _ => Rw.row_other hHeld _ (by omega)) (fun hh => ?_)
      have hHeld := hh (by decide)
      clear hK K hh
      try simp only [Act.put, List.getElem_toArray, List.getElem_cons_zero, List.getElem_cons_succ, List.setIfInBounds_toArray, List.set_cons_zero, List.set_cons_succ]
      refine Still.all (rs := [10]) (by kernel_rfl) (by simp) (Still.one (i := 10) rfl rfl (fun K hK => ?_) (by simp))
      go_simp
      refine hK _ _ (fun h => absurd rfl h) (fun _ => ?_)
      clear hK K
      refine Still.over (by kernel_rfl) ?_ _
      clear hHeld
      go_wp2
      refine bodyPost_ret (results_row_tmp Tryz.results66 _ _ (w.heap.size + 1) _ _ rfl rfl (run_loadVar_row _ _ 30 _ #[.int .i64 0, (.slice (some ⟨Y0.heap.size, 0, none⟩) S.parts.length S.parts.length), (.slice (some ⟨Y1.heap.size, 0, none⟩) S.chans.length S.chans.length)] (0, 0) _ (Rw.row (RB.out.up M2.out.d RB.out.lt) _) Tryz.underlying30 rfl sizeWld)) rfl ⟨(.slice (some ⟨Y0.heap.size, 0, none⟩) S.parts.length S.parts.length), (.slice (some ⟨Y1.heap.size, 0, none⟩) S.chans.length S.chans.length), by rw [← HD.out]; rfl, by rw [← HD.out]; exact M2.out.done RB.out.lt (by omega) _, below_row (HB.out.trans (M2.out.d.mono (by omega))) (by omega) _⟩
    · refine wp_make _ _ 28 rfl 81 i2 _ 1 24 Tryz.underlying28 hi2 hx0 hx1 hx2 S.chans.length (by first | rfl | simp [Act.eval, Act.put]) (by first | rfl | simp [Act.eval, Act.put]) (by omega) (by omega) ?_
      have m := M0.out.lines
      rw [show Value.cells (.agg #[.slice none 0 0]) = #[.slice none 0 0] from rfl]
      refine hK _ _ (fun _ => Rw.up (B := Y0.heap.size) hHeld ((Below.refl _ _).alloc (Nat.le_refl _) _) (Rw.lt hHeld)) (fun hh => ?_)
      have hHeld := hh (by decide)
      clear hK K hh
      try simp only [Act.put, List.getElem_toArray, List.getElem_cons_zero, List.getElem_cons_succ, List.setIfInBounds_toArray, List.set_cons_zero, List.set_cons_succ]
      generalize World.alloc _ _ = Y1 at m hHeld ⊢
      have M1 := Lib.hid m
      clear m M0
      refine Still.all (rs := [3]) (by kernel_rfl) (by simp) (Still.one (i := 3) rfl rfl (fun K hK => ?_) (by simp))
      refine wp_make _ _ 27 rfl 35 i1 _ 16 144 Tryz.underlying27 hi1 hy0 hy1 hy2 S.parts.length (by first | rfl | simp [Act.eval, Act.put]) (by first | rfl | simp [Act.eval, Act.put]) (by omega) (by omega) ?_
      have m := M1.out.cells
      rw [show Value.cells (.agg (celZ.cs (.slice none 0 0))) = celZ.cs (.slice none 0 0) from rfl]
      refine hK _ _ (fun _ => Rw.up (B := Y1.heap.size) hHeld ((Below.refl _ _).alloc (Nat.le_refl _) _) (Rw.lt hHeld)) (fun hh => ?_)
      have hHeld := hh (by decide)
      clear hK K hh
      try simp only [Act.put, List.getElem_toArray, List.getElem_cons_zero, List.getElem_cons_succ, List.setIfInBounds_toArray, List.set_cons_zero, List.set_cons_succ]
      generalize World.alloc _ _ = Y2 at m hHeld ⊢
      have M2 := Lib.hid m
      clear m M1
      refine Still.takeBy (i := 8) [] (v := ?v231) (by kernel_rfl) (by kernel_rfl) rfl (by kernel_rfl) (by kernel_rfl) (by kernel_rfl) (fun _ _ _ h => h) (Or.inl ⟨by rfl, ?y231⟩) hHeld ?r231
      case y231 => (intro w' hSw; (try dsimp only at hSw); go_simp; try with_reducible rfl)
      simp only [Act.put, List.getElem_toArray, List.getElem_cons_zero, List.getElem_cons_succ, List.setIfInBounds_toArray, List.set_cons_zero, List.set_cons_succ]
      refine Still.all (rs := [9]) (by kernel_rfl) (by simp) (Still.one (i := 9) rfl rfl (fun K hK => ?_) (by simp))
      refine wp_store_row 30 _ _ rfl (w.heap.size + 1) #[.int .i64 0, (.slice (some ⟨Y1.heap.size, 0, none⟩) S.parts.length S.parts.length), (.slice (some ⟨Y0.heap.size, 0, none⟩) S.chans.length S.chans.length)] (by first | rfl | simp [Act.eval, Act.put]) (by first | rfl | simp [Act.eval, Act.put]) 30 #[.int .i64 0, .slice none 0 0, .slice none 0 0] (RB.out.up M2.out.d RB.out.lt) sizeWld rfl (world_one _ _ _ _ _ _ _) ?_
      refine hK _ _ (fun _ => Rw.row_other hHeld _ (by omega)) (fun hh => ?_)
      have hHeld := hh (by decide)
      clear hK K hh
      try simp only [Act.put, List.getElem_toArray, List.getElem_cons_zero, List.getElem_cons_succ, List.setIfInBounds_toArray, List.set_cons_zero, List.set_cons_succ]
      refine Still.all (rs := [10]) (by kernel_rfl) (by simp) (Still.one (i := 10) rfl rfl (fun K hK => ?_) (by simp))
      go_simp
      refine hK _ _ (fun h => absurd rfl h) (fun _ => ?_)
      clear hK K
      refine Still.over (by kernel_rfl) ?_ _
      clear hHeld
      go_wp2
      refine bodyPost_ret (results_row_tmp Tryz.results66 _ _ (w.heap.size + 1) _ _ rfl rfl (run_loadVar_row _ _ 30 _ #[.int .i64 0, (.slice (some ⟨Y1.heap.size, 0, none⟩) S.parts.length S.parts.length), (.slice (some ⟨Y0.heap.size, 0, none⟩) S.chans.length S.chans.length)] (0, 0) _ (Rw.row (RB.out.up M2.out.d RB.out.lt) _) Tryz.underlying30 rfl sizeWld)) rfl ⟨(.slice (some ⟨Y1.heap.size, 0, none⟩) S.parts.length S.parts.length), (.slice (some ⟨Y0.heap.size, 0, none⟩) S.chans.length S.chans.length), by rw [← HD.out]; rfl, by rw [← HD.out]; exact M2.out.done RB.out.lt (by omega) _, below_row (HB.out.trans (M2.out.d.mono (by omega))) (by omega) _⟩
  · have h0' : (e0 != 0) = true := by simpa using h0
    have HD : Hid (wldZ = D) := by
      show _ = _
      rw [← hD, beginR, if_neg (by rw [hk]; exact h0)]
    clear hk hD h0
    go_enter Tryz.func66, Tryz.ntmps66
    go_wp2_with fail
    refine (HC.out _ (HE.out.up (by repeat (first | exact Below.refl _ _ | assumption | refine Below.drew ?_ | refine Below.alloc ?_ (by first | (simp; done) | (simp; omega)) _ | refine Below.setCell ?_ (by first | (simp; done) | (simp; omega)) _))) (HS.out.up (by repeat (first | exact Below.refl _ _ | assumption | refine Below.drew ?_ | refine Below.alloc ?_ (by first | (simp; done) | (simp; omega)) _ | refine Below.setCell ?_ (by first | (simp; done) | (simp; omega)) _)))).mono ?_
    rintro e w1 ⟨rfl, b1⟩
    have z1 := b1.size
    simp at z1
    have RB : Hid (Rw w1 (w.heap.size + 1) 30 #[.int .i64 0, .slice none 0 0, .slice none 0 0]) := Rw.up (by repeat (first | exact Rw.new _ _ _ (by first | rfl | (simp; done) | omega | (simp; omega)) | refine Rw.alloc ?_ _)) b1 (by first | omega | (simp; done) | (simp; omega))
    have HB : Hid (Below w.heap.size w w1) := by
      refine Below.trans ?_ (b1.mono (by first | omega | (simp; done) | (simp; omega)))
      exact (by repeat (first | exact Below.refl _ _ | assumption | refine Below.drew ?_ | refine Below.alloc ?_ (by first | (simp; done) | (simp; omega)) _ | refine Below.setCell ?_ (by first | (simp; done) | (simp; omega)) _))
    clear b1 HC
    go_wp2_with (refine wpList_store_row rfl 30 (.tmp 2) (.tmp 9) rfl (w.heap.size + 1) #[.int .i64 0, .slice none 0 0, .slice none 0 0] rfl rfl 30 #[.int .i64 0, .slice none 0 0, .slice none 0 0] RB.out sizeWld rfl (world_one _ _ _ _ _ _ _) ?_)
    refine bodyPost_ret (results_row_tmp Tryz.results66 _ _ (w.heap.size + 1) _ _ rfl rfl (run_loadVar_row _ _ 30 _ #[.int .i64 0, .slice none 0 0, .slice none 0 0] (0, 0) _ (RB.out.row _) Tryz.underlying30 rfl sizeWld)) rfl ⟨.slice none 0 0, .slice none 0 0, by rw [← HD.out]; rfl, by rw [← HD.out]; exact WldF.nil _ _, below_row HB.out (by omega) _⟩
end Go.Proofs.YtehhhiodfcdnmaaGreatDoor
