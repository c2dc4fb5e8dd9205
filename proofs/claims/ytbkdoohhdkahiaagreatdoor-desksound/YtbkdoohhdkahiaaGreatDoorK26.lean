/- Partitions and systems, read. -/
import Derived.Test.YtbkdoohhdkahiaaGreatDoorK25
import Derived.Test.YtbkdoohhdkahiaaGreatDoorK5
import Derived.Test.YtbkdoohhdkahiaaGreatDoorK0
import Derived.Deep.CutRange
import Derived.Defers
import Derived.Recover
namespace Go.Proofs.YtbkdoohhdkahiaaGreatDoor
set_option linter.unusedSimpArgs false
set_option linter.unusedVariables false
open Go.RowKit Go.Sort
theorem own_growT {w w' : World} {base base' : Nat} {e e' : TypeId} {size size' : Nat} {v u : Value} {n n' : Nat} {xs xs' : List Value} {row : Option Nat} (h : w.ownsRow base e size v n xs) (hgr : w.grownBy w' row) (hu : w.ownsRow base' e' size' u n' xs') (hrow : row = u.ownBlock) (hne : e ≠ e') : w'.ownsRow base e size v n xs := by
  refine ⟨h.1, h.2.imp id ?_⟩
  rintro ⟨k, cap, cur, rfl, h2, h3, h4⟩
  refine ⟨k, cap, cur, rfl, h2, (hgr.block k (Array.getElem?_eq_some_iff.1 h3).1 (fun ek => ?_)).trans h3, h4⟩
  rw [hrow] at ek
  rcases hu.2 with ⟨rfl, _⟩ | ⟨k', cap', cur', rfl, _, h3', _⟩
  · cases ek
  · simp [Value.ownBlock] at ek
    subst ek
    rw [h3] at h3'
    injection h3' with h3'
    injection h3' with _ h5
    exact hne h5
structure PrtO (B : Nat) (w : World) (c i : Value) (p : Prt) : Prop where
  code : w.ownsRow B 124 4 c p.code.length (codeC p.code)
  inn : w.ownsRow B 3 1 i p.inn.length (ints p.inn)
theorem PrtO.r {B : Nat} {w : World} {c i : Value} {p : Prt} (h : PrtO B w c i p) : PrtR w c i p := ⟨own_sl h.code, own_sl h.inn⟩
theorem PrtO.one {B g : Nat} {w w' : World} {c i : Value} {p : Prt} (h : PrtO B w c i p) (ho : One g w w') (hg : g < B) : PrtO B w' c i p := ⟨own_oneR h.code ho hg, own_oneR h.inn ho hg⟩
theorem PrtO.alloc {B : Nat} {w : World} {c i : Value} {p : Prt} (h : PrtO B w c i p) (o : Obj) : PrtO B (w.alloc o) c i p := ⟨h.code.alloc _, h.inn.alloc _⟩
theorem PrtO.low {B B' : Nat} {w : World} {c i : Value} {p : Prt} (h : PrtO B w c i p) (hb : B' ≤ B) : PrtO B' w c i p := ⟨own_low h.code hb, own_low h.inn hb⟩
theorem PrtO.grow {B base : Nat} {w w' : World} {c i u : Value} {p : Prt} {n size : Nat} {xs : List Value} (h : PrtO B w c i p) (hgr : w.grownBy w' u.ownBlock) (hu : w.ownsRow base 43 size u n xs) : PrtO B w' c i p :=
  ⟨own_growT h.code hgr hu rfl (by decide), own_growT h.inn hgr hu rfl (by decide)⟩
theorem PrtO.row {B g : Nat} {w : World} {c i : Value} {p : Prt} (h : PrtO B w c i p) (hg : g < B) (cs : Array Value) : PrtO B (w.setRow g cs) c i p :=
  ⟨own_row h.code cs (fun e => by have := own_block h.code g e; omega), own_row h.inn cs (fun e => by have := own_block h.inn g e; omega)⟩
theorem sizePrtR : (Tryz.prog.info? 43).map (·.size) = some 2 := by kernel_rfl
set_option maxRecDepth 100000 in
set_option maxHeartbeats 4000000 in
theorem rpart_any (W : World) (g : Nat) (xs : List UInt8) (h : Rdr W g xs) :
    Calls Tryz.prog 144 #[.pointer (some ⟨g, 0, none⟩)] W fun e w' => (cP.dec xs = none ∧ e = .panicked wrongE ∧ Below g W w') ∨ (∃ p r c i, cP.dec xs = some (p, r) ∧ e = .returned (.agg #[c, i]) ∧ PrtO W.heap.size w' c i p ∧ Rdr w' g r ∧ One g W w') := by
  have hgl : g < W.heap.size := h.lt
  have H0 : Hid (Rdr (W.alloc (.cells #[.slice none 0 0, .slice none 0 0] 43)) g xs) := Lib.hid (h.alloc _)
  clear h
  have O0 := Lib.hid (One.up (g := g) ((Below.refl W.heap.size W).alloc (Nat.le_refl _) (.cells #[.slice none 0 0, .slice none 0 0] 43)) (by omega))
  have R0 := Lib.hid (Rw.new W 43 #[.slice none 0 0, .slice none 0 0] rfl)
  go_enter Tryz.func144, Tryz.ntmps144
  go_wp2_with fail
  refine (rlistI_any _ g xs H0.out).mono ?_
  rintro e w1 (⟨hn, rfl, b1⟩ | ⟨ds, q1, v1, hd1, rfl, hv1, h1, o1⟩)
  · exact post_panicI rfl (.inl ⟨im_none (pr_none1 hn), rfl, O0.out.b.trans b1⟩)
  · rw [World.size_alloc] at hv1
    have HD1 := Lib.hid hd1
    have HV1 := Lib.hid hv1
    have H1 := Lib.hid h1
    have O1 := Lib.hid (O0.out.trans o1)
    have R1 := Lib.hid (o1.rw R0.out (by omega))
    have z1 := O1.out.size
    have z1' : W.heap.size + 1 ≤ w1.heap.size := by have := o1.size; rw [World.size_alloc] at this; exact this
    clear hd1 hv1 h1 o1 H0 O0 R0
    obtain ⟨va, vc, rfl⟩ := own_form HV1.out
    go_wp2_with fail
    refine (rlistN_any _ g q1 H1.out).mono ?_
    rintro e w2 (⟨hn, rfl, b1⟩ | ⟨es, q2, v2, hd2, rfl, hv2, h2, o2⟩)
    · exact post_panicI rfl (.inl ⟨im_none (pr_none2 HD1.out hn), rfl, O1.out.b.trans b1⟩)
    · have HD := Lib.hid (im_some (f := fun p => (⟨p.1, p.2⟩ : Prt)) (g := fun p => (p.code, p.inn)) (pr_some HD1.out hd2))
      have HV2 := Lib.hid (show PrtO (W.heap.size + 1) w2 (.slice va ds.length vc) v2 ⟨ds, es⟩ from ⟨own_oneR HV1.out o2 (by omega), own_low hv2 z1'⟩)
      obtain ⟨ia, ic, rfl⟩ := own_form hv2
      have H2 := Lib.hid h2
      have O2 := Lib.hid (O1.out.trans o2)
      have R2 := Lib.hid (o2.rw R1.out (by omega))
      clear hd2 hv2 h2 o2 H1 O1 R1 HD1 HV1
      go_wp2_with (refine wpList_store_rowW rfl 43 (.tmp 2) (.tmp 11) rfl W.heap.size #[.slice va ds.length vc, .slice ia es.length ic] rfl rfl 43 _ R2.out sizePrtR rfl (by simp [Value.oneCell']) ?_)
      intro W4 HW4
      have r5 : Rw W4 W.heap.size 43 #[.slice va ds.length vc, .slice ia es.length ic] := by rw [HW4.out]; exact R2.out.row _
      have H5 := Lib.hid (show Rdr W4 g q2 by rw [HW4.out]; exact Rw.row_other H2.out _ (by omega))
      have O5 := Lib.hid (show One g W W4 by rw [HW4.out]; exact O2.out.row (Nat.le_refl _) (by omega) _)
      have V5 := Lib.hid (show PrtO W.heap.size W4 (.slice va ds.length vc) (.slice ia es.length ic) ⟨ds, es⟩ by rw [HW4.out]; exact (HV2.out.row (by omega) _).low (by omega))
      clear HW4 R2 H2 O2 HV2
      go_wp2
      refine bodyPost_ret (results_row1 Tryz.results144 _ _ W.heap.size _ rfl (run_loadVar_row _ _ 43 _ _ (0, 0) _ r5 Tryz.underlying43 rfl sizePrtR)) rfl (.inr ⟨_, _, _, _, HD.out, rfl, V5.out, H5.out, O5.out⟩)
def PartsO (B : Nat) (w : World) (v : Value) (ps : List Prt) : Prop :=
  ∃ vs : List (Value × Value), vs.length = ps.length ∧ w.ownsRow B 43 2 v ps.length (rowC prC vs) ∧ ∀ k (hk : k < ps.length) (hk' : k < vs.length), PrtO B w vs[k].1 vs[k].2 ps[k]
theorem PartsO.r {B : Nat} {w : World} {v : Value} {ps : List Prt} (h : PartsO B w v ps) : PartsR w v ps := by
  obtain ⟨vs, h1, h2, h3⟩ := h
  exact ⟨vs, h1, own_sl h2, fun k hk hk' => (h3 k hk hk').r⟩
theorem PartsO.form {B : Nat} {w : World} {v : Value} {ps : List Prt} (h : PartsO B w v ps) : ∃ ao cap, v = .slice ao ps.length cap := h.r.form
theorem PartsO.one {B g : Nat} {w w' : World} {v : Value} {ps : List Prt} (h : PartsO B w v ps) (ho : One g w w') (hg : g < B) : PartsO B w' v ps := by
  obtain ⟨vs, h1, h2, h3⟩ := h
  exact ⟨vs, h1, own_oneR h2 ho hg, fun k hk hk' => (h3 k hk hk').one ho hg⟩
theorem PartsO.alloc {B : Nat} {w : World} {v : Value} {ps : List Prt} (h : PartsO B w v ps) (o : Obj) : PartsO B (w.alloc o) v ps := by
  obtain ⟨vs, h1, h2, h3⟩ := h
  exact ⟨vs, h1, h2.alloc _, fun k hk hk' => (h3 k hk hk').alloc _⟩
theorem PartsO.low {B B' : Nat} {w : World} {v : Value} {ps : List Prt} (h : PartsO B w v ps) (hb : B' ≤ B) : PartsO B' w v ps := by
  obtain ⟨vs, h1, h2, h3⟩ := h
  exact ⟨vs, h1, own_low h2 hb, fun k hk hk' => (h3 k hk hk').low hb⟩
theorem PartsO.row {B g : Nat} {w : World} {v : Value} {ps : List Prt} (h : PartsO B w v ps) (hg : g < B) (cs : Array Value) : PartsO B (w.setRow g cs) v ps := by
  obtain ⟨vs, h1, h2, h3⟩ := h
  exact ⟨vs, h1, own_row h2 cs (fun e => by have := own_block h2 g e; omega), fun k hk hk' => (h3 k hk hk').row hg cs⟩
theorem PartsO.nil (B : Nat) (w : World) : PartsO B w (.slice none 0 0) [] := ⟨[], rfl, World.ownsRow_nil _ _ _ _, fun k hk => by cases hk⟩
theorem infoPrtR : (Tryz.prog.info? 43).map (fun i => (i.zero, i.size, i.bytes)) = some (some (.agg #[.slice none 0 0, .slice none 0 0]), 2, 48) := by kernel_rfl
set_option maxRecDepth 100000 in
set_option maxHeartbeats 4000000 in
theorem rlistP_any (W : World) (g : Nat) (xs : List UInt8) (h : Rdr W g xs) :
    Calls Tryz.prog 143 #[.pointer (some ⟨g, 0, none⟩), .func (.func 144) #[.pointer (some ⟨g, 0, none⟩)] #[]] W fun e w' =>
      (cP.ls.dec xs = none ∧ e = .panicked wrongE ∧ Below g W w') ∨ (∃ ds r v, cP.ls.dec xs = some (ds, r) ∧ e = .returned v ∧ PartsO W.heap.size w' v ds ∧ Rdr w' g r ∧ One g W w') := by
  have hen : Enters 144 := enters Tryz.func144 (by kernel_rfl) (by kernel_rfl)
  unfold Enters at hen
  obtain ⟨i1, hi1, hy0, hy1, hy2⟩ := info_parts infoPrtR
  have hgl : g < W.heap.size := h.lt
  have H0 := Lib.hid h
  clear h
  match xs, H0 with
  | [], H0 =>
    go_enter Tryz.func143, Tryz.ntmps143
    go_wp2_with fail
    refine (rsmall_any _ g [] H0.out).mono ?_
    rintro e w1 (⟨hn, rfl, b1⟩ | ⟨n1, q1, v1, hd1, rfl, rfl, h1, o1⟩)
    · exact post_panicI rfl (.inl ⟨rfl, rfl, b1⟩)
    · cases hd1
  | x :: q0, H0 =>
    go_enter Tryz.func143, Tryz.ntmps143
    go_wp2_with fail
    refine (rsmall_any _ g (x :: q0) H0.out).mono ?_
    rintro e w1 (⟨hn, rfl, b1⟩ | ⟨n1, q1, v1, hd1, rfl, rfl, h1, o1⟩)
    · cases hn
    injection hd1 with hd1
    injection hd1 with e1 e2
    subst e1
    subst e2
    have hx : x.toNat < 256 := x.toNat_lt
    have H1 := Lib.hid h1
    have O1 := Lib.hid o1
    clear h1 o1 H0
    go_wp2
    go_loopw [5, 8] (fun lv i wr => ∃ (k : Nat) (ds : List Prt) (q : List UInt8) (ao : Option Addr) (cap : Nat), i = .int .i64 k ∧ lv = .slice ao k cap ∧ k ≤ x.toNat ∧ Hid (manyD cP k q0 = some (ds, q)) ∧ Hid (PartsO W.heap.size wr (.slice ao k cap) ds) ∧ Hid (Rdr wr g q) ∧ Hid (One g W wr)) (fun _ i _ => x.toNat - (intOf i).toNat)
    case atStart => exact ⟨0, [], q0, none, 0, rfl, rfl, by omega, Lib.hid rfl, Lib.hid (PartsO.nil _ _), H1, O1⟩
    case round =>
      obtain ⟨k, ds, q, ao, cap, rfl, rfl, hk, HM, HO, HR, H1'⟩ := hrel
      clear H1 O1
      by_cases hlt : k < x.toNat
      · have hli : (k : Int) < x.toNat := by omega
        go_wp2_with fail
        refine (rpart_any _ g q HR.out).mono ?_
        rintro e w2 (⟨hn, rfl, b2⟩ | ⟨d, r, vc, vi, hd, rfl, hv2, h2, o2⟩)
        · dsimp +zetaDelta only [Exit.inBlock, Exit.then]
          exact post_panicI rfl (.inl ⟨ls_none (many_no HM.out hn) (by omega), rfl, H1'.out.b.trans b2⟩)
        · obtain ⟨ca, cc, rfl⟩ := hv2.r.code.form
          obtain ⟨ia, ic, rfl⟩ := hv2.r.inn.form
          have hdl : ds.length = k := many_len HM.out
          have HM2 := Lib.hid (many_yes HM.out hd)
          have hz2 : W.heap.size ≤ w2.heap.size := (H1'.out.trans o2).size
          have HV2 := Lib.hid ((hv2.low H1'.out.size).alloc (.cells #[.slice ca d.code.length cc, .slice ia d.inn.length ic] 43))
          obtain ⟨vs, hvl, how, hin⟩ := (HO.out.one o2 hgl).alloc (.cells #[.slice ca d.code.length cc, .slice ia d.inn.length ic] 43)
          rw [hdl] at how
          have HOa := Lib.hid how
          have HIN := Lib.hid hin
          have HVL := Lib.hid hvl
          have HR2 := Lib.hid (Rw.alloc h2 (.cells #[.slice ca d.code.length cc, .slice ia d.inn.length ic] 43))
          have H2 := Lib.hid ((H1'.out.trans o2).alloc (by omega) (.cells #[.slice ca d.code.length cc, .slice ia d.inn.length ic] 43))
          have HDL := Lib.hid hdl
          clear hd h2 o2 HO HR H1' HM hv2 how hin hvl hdl
          go_wp2_with (at_builtin; refine wpList_append_lies _ rfl (.tmp 10) (.tmp 13) 35 rfl W.heap.size 43 i1 _ 2 48 Tryz.underlying35 hi1 hy0 hy1 hy2 rfl (by decide) _ k (rowC prC vs) rfl HOa.out ⟨w2.heap.size, 0, none⟩ 1 1 [.slice ca d.code.length cc, .slice ia d.inn.length ic] rfl rfl (new_rangeI _ _ _ _ rfl) (by simp [Value.oneCell']) (by decide) (by unfold maxLen; omega) (by omega) (by simp; omega) _ rfl ?_)
          intro g4 cap4 W4 hown hgrow hat hg4
          have HO4 : Hid (PartsO W.heap.size W4 (.slice (some ⟨g4, 0, none⟩) (k + 1) cap4) (ds ++ [d])) := Lib.hid (by
            refine ⟨vs ++ [(.slice ca d.code.length cc, .slice ia d.inn.length ic)], by simp [HVL.out], ?_, fun j hj hj' => ?_⟩
            · rw [show (ds ++ [d]).length = k + 1 by rw [List.length_append, HDL.out]; rfl, show rowC prC (vs ++ [(.slice ca d.code.length cc, .slice ia d.inn.length ic)]) = rowC prC vs ++ [.slice ca d.code.length cc, .slice ia d.inn.length ic] by simp [rowC, prC]]
              exact hown
            · by_cases hjl : j < ds.length
              · rw [List.getElem_append_left hjl]
                have := (HIN.out j hjl (by rw [HVL.out]; exact hjl)).grow hgrow HOa.out
                rw [List.getElem_append_left (by rw [HVL.out]; exact hjl)]
                exact this
              · have ej : j = ds.length := by rw [List.length_append] at hj; simp at hj; omega
                subst ej
                rw [List.getElem_append_right (Nat.le_refl _), List.getElem_append_right (by rw [HVL.out]; exact Nat.le_refl _)]
                simpa [HVL.out] using HV2.out.grow hgrow HOa.out)
          have HR4 := Lib.hid (Rdr.grown HR2.out hgrow (fun c e => by have := own_block HOa.out c e; omega))
          have H4 := Lib.hid (H2.out.grown hgrow (fun c e => own_block HOa.out c e) hgl)
          clear hown hgrow hat HOa HR2 H2 HIN HV2 HVL HDL
          go_wp2
          go_roundw
          case rel => exact ⟨k + 1, ds ++ [d], r, some ⟨g4, 0, none⟩, cap4, by go_num, rfl, by omega, HM2, HO4, HR4, H4⟩
          case measure => simp [intOf]; omega
      · obtain rfl : k = x.toNat := by omega
        have hli : ¬ ((x.toNat : Int) < x.toNat) := by omega
        go_wp2
        go_ret
        exact .inr ⟨ds, q, HM.out, _, rfl, HO.out, HR.out, H1'.out⟩
end Go.Proofs.YtbkdoohhdkahiaaGreatDoor
namespace Go.Proofs.YtbkdoohhdkahiaaGreatDoor
set_option linter.unusedSimpArgs false
set_option linter.unusedVariables false
open Go.RowKit Go.Sort
structure SysO (B : Nat) (w : World) (vp vc vs : Value) (S : SysD) : Prop where
  p : PartsO B w vp S.parts
  c : w.ownsRow B 126 3 vc S.chans.length (rowC chC S.chans)
  s : w.ownsRow B 128 2 vs S.slots.length (rowC slC S.slots)
section
variable {B B' g : Nat} {w w' : World} {vp vc vs : Value} {S : SysD}
theorem SysO.r (h : SysO B w vp vc vs S) : Sys w vp vc vs S := ⟨h.p.r, own_sl h.c, own_sl h.s⟩
theorem SysO.low (h : SysO B w vp vc vs S) (hb : B' ≤ B) : SysO B' w vp vc vs S := ⟨h.p.low hb, own_low h.c hb, own_low h.s hb⟩
theorem SysO.row (h : SysO B w vp vc vs S) (hg : g < B) (cs : Array Value) : SysO B (w.setRow g cs) vp vc vs S :=
  ⟨h.p.row hg cs, own_row h.c cs (fun e => by have := own_block h.c g e; omega), own_row h.s cs (fun e => by have := own_block h.s g e; omega)⟩
theorem SysO.one (h : SysO B w vp vc vs S) (ho : One g w w') (hg : g < B) : SysO B w' vp vc vs S := ⟨h.p.one ho hg, own_oneR h.c ho hg, own_oneR h.s ho hg⟩
theorem SysO.nil (B : Nat) (w : World) : SysO B w (.slice none 0 0) (.slice none 0 0) (.slice none 0 0) ⟨[], [], []⟩ := ⟨PartsO.nil _ _, World.ownsRow_nil _ _ _ _, World.ownsRow_nil _ _ _ _⟩
end
theorem own_grK {w w' : World} {base : Nat} {e : TypeId} {size : Nat} {v : Value} {n : Nat} {xs : List Value} (h : w.ownsRow base e size v n xs) (hb : Below w.heap.size w w') : w'.ownsRow base e size v n xs := own_up h hb (own_lt h)
theorem SysO.up {B : Nat} {w w' : World} {vp vc vs : Value} {S : SysD} (h : SysO B w vp vc vs S) (hb : Below w.heap.size w w') : SysO B w' vp vc vs S := by
  obtain ⟨⟨us, h1, h2, h3⟩, hc, hs⟩ := h
  exact ⟨⟨us, h1, own_grK h2 hb, fun k hk hk' => ⟨own_grK (h3 k hk hk').code hb, own_grK (h3 k hk hk').inn hb⟩⟩, own_grK hc hb, own_grK hs hb⟩
theorem SysO.setC {B : Nat} {w : World} {vp vc vs : Value} {S : SysD} (h : SysO B w vp vc vs S) {a : Addr} (ha : a.block < B) (u : Value) : SysO B (w.setCell a u) vp vc vs S := by
  obtain ⟨⟨us, h1, h2, h3⟩, hc, hs⟩ := h
  have ne : ∀ {e : TypeId} {size : Nat} {v : Value} {n : Nat} {xs : List Value}, w.ownsRow B e size v n xs → v.ownBlock ≠ some a.block := fun h e => by have := own_block h _ e; omega
  exact ⟨⟨us, h1, own_set h2 u (ne h2), fun k hk hk' => ⟨own_set (h3 k hk hk').code u (ne (h3 k hk hk').code), own_set (h3 k hk hk').inn u (ne (h3 k hk hk').inn)⟩⟩, own_set hc u (ne hc), own_set hs u (ne hs)⟩
theorem sizeSysR : (Tryz.prog.info? 39).map (·.size) = some 3 := by kernel_rfl
set_option maxRecDepth 100000 in
set_option maxHeartbeats 4000000 in
theorem rsystem_any (W : World) (g : Nat) (xs : List UInt8) (h : Rdr W g xs) :
    Calls Tryz.prog 94 #[.pointer (some ⟨g, 0, none⟩)] W fun e w' => (cS.dec xs = none ∧ e = .panicked wrongE ∧ Below g W w') ∨ (∃ S r vp vc vs, cS.dec xs = some (S, r) ∧ e = .returned (.agg #[vp, vc, vs]) ∧ SysO W.heap.size w' vp vc vs S ∧ Rdr w' g r ∧ One g W w') := by
  have hgl : g < W.heap.size := h.lt
  have H0 : Hid (Rdr (W.alloc (.cells #[.slice none 0 0, .slice none 0 0, .slice none 0 0] 39)) g xs) := Lib.hid (h.alloc _)
  clear h
  have O0 := Lib.hid (One.up (g := g) ((Below.refl W.heap.size W).alloc (Nat.le_refl _) (.cells #[.slice none 0 0, .slice none 0 0, .slice none 0 0] 39)) (by omega))
  have R0 := Lib.hid (Rw.new W 39 #[.slice none 0 0, .slice none 0 0, .slice none 0 0] rfl)
  go_enter Tryz.func94, Tryz.ntmps94
  go_wp2_with fail
  refine (rlistP_any _ g xs H0.out).mono ?_
  rintro e w1 (⟨hn, rfl, b1⟩ | ⟨ds, q1, v1, hd1, rfl, hv1, h1, o1⟩)
  · exact post_panicI rfl (.inl ⟨im_none (pr_none1 hn), rfl, O0.out.b.trans b1⟩)
  rw [World.size_alloc] at hv1
  have HD1 := Lib.hid hd1
  have HV1 := Lib.hid hv1
  have H1 := Lib.hid h1
  have O1 := Lib.hid (O0.out.trans o1)
  have R1 := Lib.hid (o1.rw R0.out (by omega))
  have z1 : W.heap.size + 1 ≤ w1.heap.size := by have := o1.size; rw [World.size_alloc] at this; exact this
  clear hd1 hv1 h1 o1 H0 O0 R0
  obtain ⟨pa, pc, rfl⟩ := HV1.out.form
  go_wp2_with fail
  refine (rlistC_any _ g q1 H1.out).mono ?_
  rintro e w2 (⟨hn, rfl, b1⟩ | ⟨es, q2, v2, hd2, rfl, hv2, h2, o2⟩)
  · exact post_panicI rfl (.inl ⟨im_none (pr_none2 HD1.out (pr_none1 hn)), rfl, O1.out.b.trans b1⟩)
  have HD2 := Lib.hid hd2
  have HV1b := Lib.hid (HV1.out.one o2 (by omega))
  have HV2 := Lib.hid (own_low hv2 z1)
  have H2 := Lib.hid h2
  have O2 := Lib.hid (O1.out.trans o2)
  have R2 := Lib.hid (o2.rw R1.out (by omega))
  have z2 : W.heap.size + 1 ≤ w2.heap.size := by have := o2.size; omega
  clear hd2 hv2 h2 o2 H1 O1 R1 HV1
  obtain ⟨ka, kc, rfl⟩ := own_form HV2.out
  go_wp2_with fail
  refine (rlistT_any _ g q2 H2.out).mono ?_
  rintro e w3 (⟨hn, rfl, b1⟩ | ⟨fs, q3, v3, hd3, rfl, hv3, h3, o3⟩)
  · exact post_panicI rfl (.inl ⟨im_none (pr_none2 HD1.out (pr_none2 HD2.out hn)), rfl, O2.out.b.trans b1⟩)
  have HD := Lib.hid (im_some (f := fun p => (⟨p.1, p.2.1, p.2.2⟩ : SysD)) (g := fun s => (s.parts, s.chans, s.slots)) (pr_some HD1.out (pr_some HD2.out hd3)))
  have HV3 := Lib.hid (show SysO (W.heap.size + 1) w3 (.slice pa ds.length pc) (.slice ka es.length kc) v3 ⟨ds, es, fs⟩ from ⟨HV1b.out.one o3 (by omega), own_oneR HV2.out o3 (by omega), own_low hv3 z2⟩)
  obtain ⟨sa, sc, rfl⟩ := own_form hv3
  have H3 := Lib.hid h3
  have O3 := Lib.hid (O2.out.trans o3)
  have R3 := Lib.hid (o3.rw R2.out (by omega))
  clear hd3 hv3 h3 o3 H2 O2 R2 HD1 HD2 HV1b HV2
  go_wp2_with (refine wpList_store_rowW rfl 39 (.tmp 2) (.tmp 15) rfl W.heap.size #[.slice pa ds.length pc, .slice ka es.length kc, .slice sa fs.length sc] rfl rfl 39 _ R3.out sizeSysR rfl (by simp [Value.oneCell']) ?_)
  intro W4 HW4
  have r5 : Rw W4 W.heap.size 39 #[.slice pa ds.length pc, .slice ka es.length kc, .slice sa fs.length sc] := by rw [HW4.out]; exact R3.out.row _
  have H5 := Lib.hid (show Rdr W4 g q3 by rw [HW4.out]; exact Rw.row_other H3.out _ (by omega))
  have O5 := Lib.hid (show One g W W4 by rw [HW4.out]; exact O3.out.row (Nat.le_refl _) (by omega) _)
  have V5 := Lib.hid (show SysO W.heap.size W4 (.slice pa ds.length pc) (.slice ka es.length kc) (.slice sa fs.length sc) ⟨ds, es, fs⟩ by rw [HW4.out]; exact (HV3.out.row (by omega) _).low (by omega))
  clear HW4 R3 H3 O3 HV3
  go_wp2
  refine bodyPost_ret (results_row1 Tryz.results94 _ _ W.heap.size _ rfl (run_loadVar_row _ _ 39 _ _ (0, 0) _ r5 Tryz.underlying39 rfl sizeSysR)) rfl (.inr ⟨_, _, _, _, _, HD.out, rfl, V5.out, H5.out, O5.out⟩)
def readD (b : List UInt8) : Option SysD :=
  match cS.dec b with
  | some (S, []) => if chkS S = 0 then some S else none
  | _ => none
theorem read_catch (V : World) (g4 g5 : Nat) (hne : g4 ≠ g5) (cs : Array Value) (hcs : cs.size = 3) (b : Bool) (u : TypeId) (pv : Value) (older : List PanicEntry) (h4 : Rw V g4 39 cs) (h5 : Rw V g5 4 #[.bool b]) :
    CallsD Tryz.prog 93 #[.pointer (some ⟨g4, 0, none⟩), .pointer (some ⟨g5, 0, none⟩)] (.panicking ({ v := .iface u pv, recovered := false } :: older)) V fun e u' V' =>
      e = .returned (.tuple #[]) ∧ u' = .panicking ({ v := .iface u pv, recovered := true } :: older) ∧ V' = (V.setRow g4 #[.slice none 0 0, .slice none 0 0, .slice none 0 0]).setCell ⟨g5, 0, none⟩ (.bool false) := by
  have k5 : (V.setRow g4 #[.slice none 0 0, .slice none 0 0, .slice none 0 0]).cell? ⟨g5, 0, none⟩ = some (.bool b) := (h5.row_other _ (fun e => hne e.symm)).cell rfl
  have f5 : (V.setRow g4 #[.slice none 0 0, .slice none 0 0, .slice none 0 0]).frozen? ⟨g5, 0, none⟩ = false := (h5.row_other _ (fun e => hne e.symm)).fr 0
  refine callsD_of_wpS Tryz.func93 rfl fun c₀ fs hu => ?_
  apply wpS_seq
  apply wpS_region
  simp [wpOpsS, go_sem, recoverD, hu, Tryz.ntmps93, Exit.thenS]
  refine wpS_cond (t := true) (by simp [Act.eval, Array.replicate]) ?_
  simp only [if_true]
  refine wpS_of_wp ?_
  go_wp2_with (refine wpList_store_row rfl 39 (.tmp 0) (.tmp 4) rfl g4 #[.slice none 0 0, .slice none 0 0, .slice none 0 0] rfl rfl 39 _ h4 sizeSysR hcs (by simp [Value.oneCell']) ?_)
  simp [bodyPostS, results, Tryz.results93]
theorem read_idle (V : World) (g4 g5 : Nat) :
    CallsD Tryz.prog 93 #[.pointer (some ⟨g4, 0, none⟩), .pointer (some ⟨g5, 0, none⟩)] .returning V fun e u' V' => e = .returned (.tuple #[]) ∧ u' = .returning ∧ V' = V := by
  refine callsD_of_wpS Tryz.func93 rfl fun c₀ cs hu => ?_
  apply wpS_seq
  apply wpS_region
  simp [wpOpsS, go_sem, recoverD, hu, Tryz.ntmps93, Exit.thenS]
  refine wpS_cond (t := false) (by simp [Act.eval, Array.replicate]) ?_
  simp only [Bool.false_eq_true, if_false]
  refine wpS_of_wp (wp_skip ?_)
  cases c₀
  simp_all [bodyPostS, results, Tryz.results93]
structure Lf (w W : World) (cs : Array Value) (q : List UInt8) : Prop where
  r4 : Rw W w.heap.size 39 cs
  r5 : Rw W (w.heap.size + 1) 4 #[.bool false]
  rd : Rdr W (w.heap.size + 2) q
theorem Lf.z {w W : World} {cs : Array Value} {q : List UInt8} (h : Lf w W cs q) : w.heap.size + 2 < W.heap.size := h.rd.lt
theorem Lf.call {w W W' : World} {cs : Array Value} {q q' : List UInt8} (h : Lf w W cs q) (ho : One (w.heap.size + 2) W W') (hr : Rdr W' (w.heap.size + 2) q') : Lf w W' cs q' :=
  ⟨ho.rw h.r4 (by omega), ho.rw h.r5 (by omega), hr⟩
theorem Lf.up {w W W' : World} {cs : Array Value} {q : List UInt8} (h : Lf w W cs q) (hb : Below W.heap.size W W') : Lf w W' cs q :=
  ⟨h.r4.up hb h.r4.lt, h.r5.up hb h.r5.lt, Rw.up h.rd hb h.rd.lt⟩
theorem Lf.store {w W : World} {cs : Array Value} {q : List UInt8} (h : Lf w W cs q) (cs' : Array Value) : Lf w (W.setRow w.heap.size cs') cs' q :=
  ⟨h.r4.row _, h.r5.row_other _ (by omega), Rw.row_other h.rd _ (by omega)⟩
theorem loadBoolI {w : World} {g : Nat} {b : Bool} (h : w.cell? ⟨g, 0, none⟩ = some (.bool b)) : (loadVar 4 ⟨g, 0, none⟩).run Tryz.prog w = .ok (.bool b) w := by
  simp [go_sem, h]
theorem read_out {R : Ending → World → Prop} {tmps : Array Value} {w V : World} {cs : Array Value} (hcs : cs.size = 3) (h4 : Rw V w.heap.size 39 cs) (h5 : Rw V (w.heap.size + 1) 4 #[.bool false]) (hb : Below w.heap.size w V)
    (t4 : tmps.getD 2 undef = .pointer (some ⟨w.heap.size, 0, none⟩)) (t5 : tmps.getD 3 undef = .pointer (some ⟨w.heap.size + 1, 0, none⟩))
    (hR : ∀ w', Below w.heap.size w w' → R (.returned (.tuple #[.agg #[.slice none 0 0, .slice none 0 0, .slice none 0 0], .bool false])) w') :
    Leaves Tryz.prog Tryz.f49 tmps R [{ target := .fn (.func 93) #[.pointer (some ⟨w.heap.size, 0, none⟩), .pointer (some ⟨w.heap.size + 1, 0, none⟩)], args := #[] }] (.panicking wrongE) V := by
  refine leaves_cons (f := 93) (args := #[.pointer (some ⟨w.heap.size, 0, none⟩), .pointer (some ⟨w.heap.size + 1, 0, none⟩)]) (by simp) (by simp [go_sem]) ?_
  refine (read_catch V _ _ (by omega) cs hcs false _ _ [] h4 h5).mono ?_
  rintro e u' V2 ⟨rfl, rfl, hV⟩
  subst hV
  have r4 := (h4.row #[.slice none 0 0, .slice none 0 0, .slice none 0 0]).set_other (a := ⟨w.heap.size + 1, 0, none⟩) (.bool false) (by simp)
  have r5 := (h5.row_other (g' := w.heap.size) #[.slice none 0 0, .slice none 0 0, .slice none 0 0] (by omega)).set 0 (.bool false)
  refine ⟨.tuple #[.agg #[.slice none 0 0, .slice none 0 0, .slice none 0 0], .bool false], results_row2 Tryz.results49 _ _ w.heap.size (w.heap.size + 1) _ _ t4 t5 (run_loadVar_row _ _ 39 _ #[.slice none 0 0, .slice none 0 0, .slice none 0 0] (0, 0) _ r4 Tryz.underlying39 rfl sizeSysR) (loadBoolI (r5.cell (j := 0) rfl)), ?_⟩
  exact hR _ ((below_row hb (by omega) _).setCell (by simp) _)
set_option maxRecDepth 100000 in
set_option maxHeartbeats 8000000 in
theorem read_any (b : List UInt8) (w : World) (he : Env w) :
    Calls Tryz.prog 49 #[.string ⟨b.toArray⟩] w fun e w' => (readD b = none ∧ e = .returned (.tuple #[.agg #[.slice none 0 0, .slice none 0 0, .slice none 0 0], .bool false]) ∧ Below w.heap.size w w') ∨
      (∃ S, readD b = some S ∧ ∃ vp vc vs, e = .returned (.tuple #[.agg #[vp, vc, vs], .bool true]) ∧ SysO w.heap.size w' vp vc vs S ∧ Below w.heap.size w w') := by
  have hmf : ∀ (fn : Go.Fn) (first cap : Array Value) (w : World), (Instr.makeFunc fn first cap).run Tryz.prog w = .ok (.func fn first cap) w := fun _ _ _ _ => rfl
  have HE := Lib.hid he
  clear he
  go_enter_defers Tryz.func49, Tryz.ntmps49
  go_upto_region 3 with fail
  generalize hX : World.alloc _ _ = X
  have hXX : X = ((w.alloc (.cells #[.slice none 0 0, .slice none 0 0, .slice none 0 0] 39)).alloc (.cells #[.bool false] 4)).alloc (.cells #[.string ⟨b.toArray⟩] 161) := by rw [← hX]
  have D0 : Below w.heap.size w X := by rw [hXX]; exact up0
  have HF : Hid (Lf w X #[.slice none 0 0, .slice none 0 0, .slice none 0 0] b) := Lib.hid ⟨by rw [hXX]; exact (by repeat (first | exact Rw.new _ _ _ (by first | rfl | (simp; done) | omega | (simp; omega)) | refine Rw.alloc ?_ _)), by rw [hXX]; exact (by repeat (first | exact Rw.new _ _ _ (by first | rfl | (simp; done) | omega | (simp; omega)) | refine Rw.alloc ?_ _)), by rw [hXX]; exact (by repeat (first | exact Rw.new _ _ _ (by first | rfl | (simp; done) | omega | (simp; omega)) | refine Rw.alloc ?_ _))⟩
  have HD := Lib.hid D0
  clear hX hXX D0
  go_wp2_with fail
  refine (rsystem_any X (w.heap.size + 2) b HF.out.rd).mono ?_
  rintro e w1 (⟨hn, rfl, hb⟩ | ⟨S, r, vp, vc, vs, hn, rfl, hN, hr, ho⟩)
  · have HN : Hid (readD b = none) := Lib.hid (by unfold readD; rw [hn])
    exact read_out rfl (HF.out.r4.up hb (by omega)) (HF.out.r5.up hb (by omega)) (HD.out.trans (hb.mono (by omega))) rfl rfl fun w' h => .inl ⟨HN.out, rfl, h⟩
  have F1 := Lib.hid (HF.out.call ho hr)
  have D1 := Lib.hid (HD.out.trans (ho.b.mono (by omega)))
  have zX := HF.out.z
  have N1 := Lib.hid hN
  have HWD := Lib.hid hn
  obtain ⟨pa, pc, rfl⟩ := hN.p.form
  obtain ⟨ka, kc, rfl⟩ := own_form hN.c
  obtain ⟨sa, sc, rfl⟩ := own_form hN.s
  clear HF HD hr ho hN hn
  go_wp2_with (refine wpList_store_rowW rfl 39 (.tmp 2) (.tmp 8) rfl w.heap.size #[.slice pa S.parts.length pc, .slice ka S.chans.length kc, .slice sa S.slots.length sc] rfl rfl 39 #[.slice none 0 0, .slice none 0 0, .slice none 0 0] F1.out.r4 sizeSysR rfl (by simp [Value.oneCell']) ?_)
  intro W2 HW2
  have F2 : Hid (Lf w W2 #[.slice pa S.parts.length pc, .slice ka S.chans.length kc, .slice sa S.slots.length sc] r) := Lib.hid (by rw [HW2.out]; exact F1.out.store _)
  have N2 : Hid (SysO X.heap.size W2 (.slice pa S.parts.length pc) (.slice ka S.chans.length kc) (.slice sa S.slots.length sc) S) := Lib.hid (by rw [HW2.out]; exact N1.out.row (by omega) _)
  have D2 : Hid (Below w.heap.size w W2) := Lib.hid (by rw [HW2.out]; exact below_row D1.out (by omega) _)
  clear F1 N1 D1 HW2
  have q6 := F2.out.rd.cell (j := 0) (v := .string ⟨r.toArray⟩) rfl
  by_cases hr0 : r = []
  rotate_left
  · have HN : Hid (readD b = none) := Lib.hid (by unfold readD; rw [HWD.out]; cases r with | nil => exact absurd rfl hr0 | cons x r => rfl)
    have hne : r.isEmpty = false := by cases r with | nil => exact absurd rfl hr0 | cons x r => rfl
    go_wp2_with fail
    refine (must_no _).mono ?_
    rintro e w3 ⟨rfl, hw⟩
    subst hw
    exact read_out rfl F2.out.r4 F2.out.r5 D2.out rfl rfl fun w' h => .inl ⟨HN.out, rfl, h⟩
  · subst hr0
    go_wp2_with fail
    refine (must_yes _).mono ?_
    rintro e w3 ⟨rfl, hw⟩
    subst hw
    clear q6
    have s0 := F2.out.r4.cell (j := 0) (v := .slice pa S.parts.length pc) rfl
    have s1 := F2.out.r4.cell (j := 1) (v := .slice ka S.chans.length kc) rfl
    have s2 := F2.out.r4.cell (j := 2) (v := .slice sa S.slots.length sc) rfl
    go_wp2_with fail
    refine (confCheck_any S _ _ _ _ (HE.out.up D2.out) N2.out.r).mono ?_
    rintro e w4 ⟨rfl, b4⟩
    have F4 := Lib.hid (F2.out.up b4)
    have N4 := Lib.hid (N2.out.up b4)
    have z3 := D2.out.size
    have D4 := Lib.hid (D2.out.trans (b4.mono z3))
    clear s0 s1 s2 b4 F2 N2 D2
    by_cases hk : chkS S = 0
    · have hkb : (chkS S == 0) = true := by simp [hk]
      have HY : Hid (readD b = some S) := Lib.hid (by unfold readD; rw [HWD.out]; simp only [if_pos hk])
      clear hk
      go_wp2_with fail
      refine (must_yes _).mono ?_
      rintro e w5 ⟨rfl, hw⟩
      subst hw
      have q0 := F4.out.r4.cell (j := 0) (v := .slice pa S.parts.length pc) rfl
      have q1 := F4.out.r4.cell (j := 1) (v := .slice ka S.chans.length kc) rfl
      have q2 := F4.out.r4.cell (j := 2) (v := .slice sa S.slots.length sc) rfl
      have r5 := F4.out.r5.row_other (g' := w.heap.size) #[.slice pa S.parts.length pc, .slice ka S.chans.length kc, .slice sa S.slots.length sc] (by omega)
      have k5 := r5.cell (j := 0) (v := .bool false) rfl
      have f5 := r5.fr 0
      go_wp2_with (first | (refine wpList_store_row rfl 39 (.tmp 2) (.tmp 17) rfl w.heap.size #[.slice pa S.parts.length pc, .slice ka S.chans.length kc, .slice sa S.slots.length sc] rfl rfl 39 _ F4.out.r4 sizeSysR rfl (by simp [Value.oneCell']) ?_))
      refine leaves_cons (f := 93) (args := #[.pointer (some ⟨w.heap.size, 0, none⟩), .pointer (some ⟨w.heap.size + 1, 0, none⟩)]) (by simp) (by simp [go_sem]) ?_
      refine (read_idle _ _ _).mono ?_
      rintro e u' V2 ⟨rfl, rfl, hV⟩
      subst hV
      have R4 := (F4.out.r4.row #[.slice pa S.parts.length pc, .slice ka S.chans.length kc, .slice sa S.slots.length sc]).set_other (a := ⟨w.heap.size + 1, 0, none⟩) (.bool true) (by simp)
      have R5 := r5.set 0 (.bool true)
      refine ⟨.tuple #[.agg #[.slice pa S.parts.length pc, .slice ka S.chans.length kc, .slice sa S.slots.length sc], .bool true], results_row2 Tryz.results49 _ _ w.heap.size (w.heap.size + 1) _ _ rfl rfl (run_loadVar_row _ _ 39 _ _ (0, 0) _ R4 Tryz.underlying39 rfl sizeSysR) (loadBoolI (R5.cell (j := 0) rfl)), ?_⟩
      exact .inr ⟨S, HY.out, _, _, _, rfl, ((N4.out.row (by omega) _).setC (by show w.heap.size + 1 < X.heap.size; omega) _).low (by omega), (below_row D4.out (by omega) _).setCell (by simp) _⟩
    · have hkb : (chkS S == 0) = false := by simpa using hk
      have HN : Hid (readD b = none) := Lib.hid (by unfold readD; rw [HWD.out]; simp only [if_neg hk])
      clear hk
      go_wp2_with fail
      refine (must_no _).mono ?_
      rintro e w5 ⟨rfl, hw⟩
      subst hw
      exact read_out rfl F4.out.r4 F4.out.r5 D4.out rfl rfl fun w' h => .inl ⟨HN.out, rfl, h⟩
end Go.Proofs.YtbkdoohhdkahiaaGreatDoor
namespace Go.Proofs.YtbkdoohhdkahiaaGreatDoor
set_option linter.unusedSimpArgs false
set_option linter.unusedVariables false
open Go.RowKit Go.Sort
def sysZ : SysD := ⟨[], [], []⟩
def rdS (b : List UInt8) : SysD := if 8192 < b.length then sysZ else (readD b).getD sysZ
def rdE (b : List UInt8) : Int := if 8192 < b.length then 2 else if (readD b).isNone then 1 else 0
set_option maxRecDepth 100000 in
set_option maxHeartbeats 8000000 in
theorem imageRead_any (b : List UInt8) (w : World) (he : Env w) (v0 : Int) (hv : rdE b = v0) (S : SysD) (hS : rdS b = S) :
    Calls Tryz.prog 16 #[.string ⟨b.toArray⟩] w fun e w' => ∃ vp vc vs, e = .returned (.tuple #[.agg #[vp, vc, vs], .int .i64 v0]) ∧ SysO w.heap.size w' vp vc vs S ∧ Below w.heap.size w w' := by
  have HE := Lib.hid he
  have HB0 := Lib.hid ((Below.refl w.heap.size w).alloc (Nat.le_refl _) (.cells #[.slice none 0 0, .slice none 0 0, .slice none 0 0] 39))
  have R0 := Lib.hid (Rw.new w 39 #[.slice none 0 0, .slice none 0 0, .slice none 0 0] rfl)
  clear he
  by_cases hl : 8192 < b.length
  · have e1 : v0 = 2 := by rw [← hv]; unfold rdE; rw [if_pos hl]
    have e2 : S = sysZ := by rw [← hS]; unfold rdS; rw [if_pos hl]
    subst e1
    subst e2
    have hli : (8192 : Int) < b.length := by omega
    clear hv hS hl
    go_enter Tryz.func16, Tryz.ntmps16
    go_upto_region 2 with fail
    generalize hX : World.alloc _ _ = X
    rw [hX] at HB0 R0
    clear hX
    go_wp2_with (refine wpList_store_rowW rfl 39 (.tmp 2) (.tmp 9) rfl w.heap.size #[.slice none 0 0, .slice none 0 0, .slice none 0 0] rfl rfl 39 _ R0.out sizeSysR rfl (by simp [Value.oneCell']) ?_)
    intro W4 HW4
    have r5 : Rw W4 w.heap.size 39 #[.slice none 0 0, .slice none 0 0, .slice none 0 0] := by rw [HW4.out]; exact R0.out.row _
    have HB4 := Lib.hid (show Below w.heap.size w W4 by rw [HW4.out]; exact below_row HB0.out (Nat.le_refl _) _)
    clear HW4
    go_wp2
    refine bodyPost_ret (results_row_tmp Tryz.results16 _ _ w.heap.size _ _ rfl rfl (run_loadVar_row _ _ 39 _ _ (0, 0) _ r5 Tryz.underlying39 rfl sizeSysR)) rfl ⟨_, _, _, rfl, SysO.nil _ _, HB4.out⟩
  · have hli : ¬ (8192 : Int) < b.length := by omega
    have HV : Hid (v0 = if (readD b).isNone then 1 else 0) := Lib.hid (by rw [← hv]; unfold rdE; rw [if_neg hl])
    have HS : Hid (S = (readD b).getD sysZ) := Lib.hid (by rw [← hS]; unfold rdS; rw [if_neg hl])
    clear hv hS hl
    go_enter Tryz.func16, Tryz.ntmps16
    go_wp2_with fail
    refine (read_any b _ (HE.out.up HB0.out)).mono ?_
    rintro e w2 (⟨hn, rfl, b2⟩ | ⟨D, hn, vp, vc, vs, rfl, hN, b2⟩)
    · have e1 : v0 = 1 := by rw [HV.out, hn]; rfl
      have e2 : S = sysZ := by rw [HS.out, hn]; rfl
      subst e1
      subst e2
      have r4 := Lib.hid (R0.out.up b2 (by simp))
      have z2 := b2.size
      simp at z2
      have HB2 := Lib.hid (HB0.out.trans (b2.mono (by simp)))
      clear b2 HV HS hn R0 HB0
      go_upto_region 5 with fail
      generalize hW3 : World.alloc _ _ = W3
      have b3 : Below w2.heap.size w2 W3 := by rw [← hW3]; exact (Below.refl _ _).alloc (Nat.le_refl _) _
      have r4b := Lib.hid (r4.out.up b3 r4.out.lt)
      have HB3 := Lib.hid (HB2.out.trans (b3.mono (by omega)))
      clear hW3 b3 r4 HB2
      go_wp2_with (refine wpList_store_rowW rfl 39 (.tmp 2) (.tmp 17) rfl w.heap.size #[.slice none 0 0, .slice none 0 0, .slice none 0 0] rfl rfl 39 _ r4b.out sizeSysR rfl (by simp [Value.oneCell']) ?_)
      intro W4 HW4
      have r5 : Rw W4 w.heap.size 39 #[.slice none 0 0, .slice none 0 0, .slice none 0 0] := by rw [HW4.out]; exact r4b.out.row _
      have HB4 := Lib.hid (show Below w.heap.size w W4 by rw [HW4.out]; exact below_row HB3.out (Nat.le_refl _) _)
      clear HW4
      go_wp2
      refine bodyPost_ret (results_row_tmp Tryz.results16 _ _ w.heap.size _ _ rfl rfl (run_loadVar_row _ _ 39 _ _ (0, 0) _ r5 Tryz.underlying39 rfl sizeSysR)) rfl ⟨_, _, _, rfl, SysO.nil _ _, HB4.out⟩
    · have e1 : v0 = 0 := by rw [HV.out, hn]; rfl
      have e2 : S = D := by rw [HS.out, hn]; rfl
      subst e1
      subst e2
      obtain ⟨pa, pc, rfl⟩ := hN.p.form
      obtain ⟨ka, kc, rfl⟩ := own_form hN.c
      obtain ⟨sa, sc, rfl⟩ := own_form hN.s
      rw [World.size_alloc] at hN
      have r4 := Lib.hid (R0.out.up b2 (by simp))
      have z2 := b2.size
      simp at z2
      have HB2 := Lib.hid (HB0.out.trans (b2.mono (by simp)))
      have N2 := Lib.hid hN
      clear b2 HV HS hn R0 HB0 hN
      go_upto_region 4 with fail
      generalize hW3 : World.alloc _ _ = W3
      have b3 : Below w2.heap.size w2 W3 := by rw [← hW3]; exact (Below.refl _ _).alloc (Nat.le_refl _) _
      have r5 : Hid (Rw W3 w2.heap.size 39 #[.slice pa S.parts.length pc, .slice ka S.chans.length kc, .slice sa S.slots.length sc]) := Lib.hid (by rw [← hW3]; exact Rw.new _ _ _ rfl)
      have r4b := Lib.hid (r4.out.up b3 r4.out.lt)
      have HB3 := Lib.hid (HB2.out.trans (b3.mono (by omega)))
      have N3 := Lib.hid (N2.out.up b3)
      clear hW3 b3 r4 HB2 N2
      have q0 := r5.out.cell (j := 0) (v := .slice pa S.parts.length pc) rfl
      have q1 := r5.out.cell (j := 1) (v := .slice ka S.chans.length kc) rfl
      have q2 := r5.out.cell (j := 2) (v := .slice sa S.slots.length sc) rfl
      go_wp2_with (refine wpList_store_rowW rfl 39 (.tmp 2) (.tmp 18) rfl w.heap.size #[.slice pa S.parts.length pc, .slice ka S.chans.length kc, .slice sa S.slots.length sc] rfl rfl 39 _ r4b.out sizeSysR rfl (by simp [Value.oneCell']) ?_)
      intro W4 HW4
      have r6 : Rw W4 w.heap.size 39 #[.slice pa S.parts.length pc, .slice ka S.chans.length kc, .slice sa S.slots.length sc] := by rw [HW4.out]; exact r4b.out.row _
      have HB4 := Lib.hid (show Below w.heap.size w W4 by rw [HW4.out]; exact below_row HB3.out (Nat.le_refl _) _)
      have N4 := Lib.hid (show SysO (w.heap.size + 1) W4 (.slice pa S.parts.length pc) (.slice ka S.chans.length kc) (.slice sa S.slots.length sc) S by rw [HW4.out]; exact N3.out.row (by omega) _)
      clear HW4
      go_wp2
      refine bodyPost_ret (results_row_tmp Tryz.results16 _ _ w.heap.size _ _ rfl rfl (run_loadVar_row _ _ 39 _ _ (0, 0) _ r6 Tryz.underlying39 rfl sizeSysR)) rfl ⟨_, _, _, rfl, N4.out.low (by omega), HB4.out⟩
end Go.Proofs.YtbkdoohhdkahiaaGreatDoor
