/- sched.Frame, sched.Who; the reference's turns, FrameOf, WhoOf. -/
import Derived.Test.YtehhhiodfcdnmaaGreatDoorR14
import Derived.Test.YtehhhiodfcdnmaaGreatDoorR4
import Derived.Deep.CutRange
import Derived.Deep.RegionWith
import Derived.Deep.RegionHeld3
import Derived.Test.YtehhhiodfcdnmaaGreatDoorR8
import Derived.Test.YtehhhiodfcdnmaaGreatDoorR10
namespace Go.Proofs.YtehhhiodfcdnmaaGreatDoor
set_option linter.unusedSimpArgs false
set_option linter.unusedVariables false
set_option maxRecDepth 100000
set_option maxHeartbeats 8000000
open Go.RowKit Go.Sort
def repL : List Slt → List Int
 | [] => []
 | t :: r => List.replicate t.tk.toNat t.pt ++ repL r
theorem repL_snoc : ∀ (l : List Slt) (t : Slt), repL (l ++ [t]) = repL l ++ List.replicate t.tk.toNat t.pt
 | [], t => by simp [repL]
 | x :: r, t => by rw [List.cons_append, repL, repL, repL_snoc r, List.append_assoc]
theorem repL_len : ∀ (l : List Slt) (e : Int), (∀ t ∈ l, 0 ≤ t.tk) → sumT e l = e + (repL l).length
 | [], e, _ => by simp [sumT, repL]
 | x :: r, e, h => by
  rw [sumT, repL_len r _ (fun t ht => h t (by simp [ht])), repL, List.length_append, List.length_replicate]
  have := h x (by simp)
  omega
theorem ownL_rep : ∀ (l : List Slt) (e who : Int) (x : Nat), (∀ t ∈ l, 0 ≤ t.tk) → (hx : x < (repL l).length) → ownL (e + x) who (turnsL e l) = (repL l)[x]
 | t :: r, e, who, x, h, hx => by
  have h0 := h t (by simp)
  simp only [turnsL, ownL, repL]
  by_cases hlt : x < t.tk.toNat
  ·rw [if_pos om, List.getElem_append_left (by simpa using hlt)]
   simp
  ·rw [if_neg om, List.getElem_append_right (by simpa using hlt)]
   simp only [repL, List.length_append, List.length_replicate] at hx
   have := ownL_rep r (e + t.tk) t.pt (x - t.tk.toNat) (fun t ht => h t (by simp [ht])) om
   rw [show e + t.tk + ((x - t.tk.toNat : Nat) : Int) = e + x by omega] at this
   rw [this]
   congr 1
   simp
theorem chkS_zero {S : SysD} (h : chkS S = 0) : countsB S = true ∧ (∀ j (hj : j < S.parts.length), chkC S.parts[j].code = 0) ∧ S.chans.any kindBad = false ∧ placesB S = true ∧ namesB S = true := by
 unfold chkS at h
 split at h
 ·omega
 ·rename_i h1
  split at h
  ·rename_i h2; exact absurd h h2
  ·rename_i h2
   split at h
   ·omega
   ·rename_i h3
    split at h
    ·omega
    ·rename_i h4
     split at h
     ·omega
     ·rename_i h5
      exact ⟨by simpa using h1, firstP_zero (by simpa using h2), by simpa using h3, by simpa using h4, by simpa using h5⟩
theorem slots_ok {S : SysD} (h : chkS S = 0) : SlotsOk S.slots ∧ 1 ≤ S.slots.length := by
 obtain ⟨h1, -, -, h4, -⟩ := chkS_zero h
 obtain ⟨hc, -⟩ := countsB_is h1
 refine ⟨⟨hc.2.2.2.2, fun j hj => ?_⟩, hc.2.2.2.1⟩
 unfold placesB at h4
 rw [Bool.and_eq_true, Bool.not_eq_true', Bool.not_eq_true', List.any_eq_false, List.any_eq_false] at h4
 have := h4.2 _ (List.getElem_mem hj)
 unfold slotBad withinB at this
 simp at this
 omega
theorem SlotsOk.nonneg {ts : List Slt} (h : SlotsOk ts) : ∀ t ∈ ts, 0 ≤ t.tk := fun t ht => by
 obtain ⟨j, hj, rfl⟩ := List.getElem_of_mem ht
 have := h.2 j hj; omega
theorem frame_pos {ts : List Slt} (h : SlotsOk ts) (h1 : 1 ≤ ts.length) : 1 ≤ sumT 0 ts ∧ sumT 0 ts ≤ 48 := by
 have := sumT_bd h ts.length (Nat.le_refl _)
 rw [List.take_length] at this
 have := h.1
 omega
def whoS (S : SysD) (tick : Int) : Int := ownL (tick % sumT 0 S.slots) 0 (turnsL 0 S.slots)
theorem turnsRef_any (S : SysD) (hok : SlotsOk S.slots) (h1 : 1 ≤ S.slots.length) (vp vc vs : Value) (w : World) (hS : Sys w vp vc vs S) :
  Calls Tryz.prog 112 #[.agg #[vp, vc, vs]] w fun e w' => ∃ v, e = .returned v ∧ SlN w w' v (repL S.slots).length (ints (repL S.slots)) ∧ Below w.heap.size w w' := by
 obtain ⟨i0, hi, hz0, hz1, hz2⟩ := info_parts info3
 obtain ⟨pa, pc, rfl⟩ := hS.p.form
 obtain ⟨ca, cc, rfl⟩ := hS.c.form
 obtain ⟨sb, so, sc, rfl, hsc, hsb, hss⟩ := hS.s.open om
 have HO := hd hok
 have HC := hd hss
 have hl6 := hok.1
 clear hok hss hS
 have hB0 := box_new w (.slice pa S.parts.length pc) (.slice ca S.chans.length cc) (.slice (some ⟨sb, so, none⟩) S.slots.length sc) 26 _ rfl
 have hD0 : Below w.heap.size w (w.alloc (.cells #[.slice pa S.parts.length pc, .slice ca S.chans.length cc, .slice (some ⟨sb, so, none⟩) S.slots.length sc] 26)) := (Below.refl _ _).alloc (Nat.le_refl _) _
 have hz : (w.alloc (.cells #[.slice pa S.parts.length pc, .slice ca S.chans.length cc, .slice (some ⟨sb, so, none⟩) S.slots.length sc] 26)).heap.size = w.heap.size + 1 := by simp
 go_enter Tryz.func112, Tryz.ntmps112
 go_wp2
 generalize w.alloc (.cells #[.slice pa S.parts.length pc, .slice ca S.chans.length cc, .slice (some ⟨sb, so, none⟩) S.slots.length sc] 26) = W0 at *
 have HB0 := hd hB0
 have HD0 := hd hD0
 clear hB0 hD0
 go_loopw [3, 4] (fun o i wr => ∃ (k : Nat) (zs : List Int), i = .int .i64 k ∧ k ≤ S.slots.length ∧ Hid (zs = repL (S.slots.take k)) ∧ zs.length ≤ 8 * k ∧ wr.ownsRow W0.heap.size 3 1 o zs.length (ints zs) ∧ Hid (Below W0.heap.size W0 wr)) (fun _ i _ => S.slots.length - (intOf i).toNat)
 case atStart => exact ⟨0, [], rfl, by omega, (show [] = repL (S.slots.take 0) from rfl), Nat.le_refl _, World.ownsRow_nil _ _ _ _, Below.refl _ _⟩
 case round =>
  obtain ⟨k, zs, rfl, hk, HZ, hzl, hown, HT⟩ := hrel
  obtain ⟨oa, oc, rfl⟩ := own_form hown
  have k2 := (HB0.out.up HT.out).s
  by_cases hlt : k < S.slots.length
  ·have hli : (k : Int) < S.slots.length := by omega
   obtain ⟨d0, d1⟩ := slot_cells HC.out k hlt
   have D0 := hd d0
   have D1 := hd d1
   obtain ⟨m, hm, hm8⟩ : ∃ m : Nat, S.slots[k].tk = m ∧ m ≤ 8 := by
    have := HO.out.2 k hlt
    exact ⟨S.slots[k].tk.toNat, by omega, by omega⟩
   have HM := hd hm
   clear d0 d1 hm
   go_wp2
   go_loopw [3, 5] (fun o i wr => ∃ (t : Nat) (ys : List Int), i = .int .i64 t ∧ t ≤ m ∧ Hid (ys = zs ++ List.replicate t S.slots[k].pt) ∧ ys.length ≤ 8 * k + t ∧ wr.ownsRow W0.heap.size 3 1 o ys.length (ints ys) ∧ Hid (Below W0.heap.size W0 wr)) (fun _ i _ => m - (intOf i).toNat)
   case atStart => exact ⟨0, zs, rfl, by omega, (show zs = zs ++ List.replicate 0 S.slots[k].pt by simp), by omega, hown, HT⟩
   case round =>
    clear hown HT k2
    obtain ⟨t, ys, rfl, ht, HY, hyl, hown, HT⟩ := hrel
    obtain ⟨oa, oc, rfl⟩ := own_form hown
    have k2 := (HB0.out.up HT.out).s
    have hs0 := HD0.out.size
    have d0 := bcl HT.out om (bcl HD0.out hsb D0.out)
    have d1 := bcl HT.out om (bcl HD0.out hsb D1.out)
    rw [HM.out] at d1
    by_cases htt : t < m
    ·have hti : (t : Int) < m := by omega
     have hbs := HT.out.size
     go_wp2_with (at_builtin; refine wpList_append_lies _ rfl (.tmp 23) (.tmp 30) 33 rfl W0.heap.size 3 i0 (.int .i64 0) 1 8 Tryz.underlying33 hi hz0 hz1 hz2 rfl (by decide) (.slice oa ys.length oc) ys.length (ints ys) rfl (hown.alloc _) ⟨_, 0, none⟩ 1 1 [.int .i64 S.slots[k].pt] rfl rfl (one_new _ _ 3) (int_cell _) (by decide) (by unfold maxLen; omega) om (by simp; omega) _ rfl ?_; intro g cap1 w1 hown1 hgrow hat hglt)
     have R := ints_step HT.out hown hown1 hgrow
     have HYY : Hid (ys ++ [S.slots[k].pt] = zs ++ List.replicate (t + 1) S.slots[k].pt) := by
      show _ = _
      rw [HY.out, List.replicate_succ', List.append_assoc]
     clear hown1 hgrow hown hat
     go_wp2
     go_roundw
     case rel => exact ⟨t + 1, ys ++ [S.slots[k].pt], by go_num, by omega, HYY, by simp; omega, R.1, R.2⟩
     case measure => simp [intOf]; omega
    ·have hti : ¬ (t : Int) < m := by omega
     obtain rfl : t = m := by omega
     have HZZ : Hid (ys = repL (S.slots.take (k + 1))) := by
      show _ = _
      rw [List.take_succ_eq_append_getElem hlt, repL_snoc, HY.out, HZ.out, HM.out]
      rfl
     go_wp2
     go_roundw
     case rel => exact ⟨k + 1, ys, by go_num, by omega, HZZ, by omega, hown, HT⟩
     case measure => simp [intOf]; omega
  ·have hli : ¬ (k : Int) < S.slots.length := by omega
   have HZZ : Hid (zs = repL S.slots) := by
    show _ = _
    have := HZ.out
    rwa [List.take_of_length_le om] at this
   have hs0 := HD0.out.size
   go_wp2
   go_ret
   exact ⟨_, rfl, by rw [← HZZ.out]; exact own_sln hs0 hown, HD0.out.trans (HT.out.mono hs0)⟩
theorem frameOf_any (S : SysD) (hok : SlotsOk S.slots) (h1 : 1 ≤ S.slots.length) (vp vc vs : Value) (w : World) (hS : Sys w vp vc vs S) (fr : Int) (hf : sumT 0 S.slots = fr) :
  Calls Tryz.prog 113 #[.agg #[vp, vc, vs]] w fun e w' => e = .returned (.int .i64 fr) ∧ Below w.heap.size w w' := by
 have hl : ((repL S.slots).length : Int) = fr := by rw [← hf, repL_len _ 0 hok.nonneg]; omega
 obtain ⟨pa, pc, rfl⟩ := hS.p.form
 obtain ⟨ca, cc, rfl⟩ := hS.c.form
 obtain ⟨sa, sc, rfl⟩ := hS.s.form
 have HS := hd hS
 have HL := hd hl
 have HO := hd hok
 clear hS hl hok hf
 go_enter Tryz.func113, Tryz.ntmps113
 go_wp2_with fail
 refine (turnsRef_any S HO.out h1 _ _ _ _ (HS.out.up up0)).mono ?_
 rintro e w1 ⟨v, rfl, s, bb⟩
 obtain ⟨a1, c1, rfl⟩ := s.1.form
 have D := hd (Below.trans (show Below w.heap.size w _ from up0) (bb.mono (by simp)))
 clear s bb
 go_wp2
 go_ret
 exact ⟨ret_int HL.out, D.out⟩
theorem ret2i {a b c d : Int} (h1 : a = b) (h2 : c = d) : Ending.returned (.tuple #[.int .i64 a, .int .i64 c]) = .returned (.tuple #[.int .i64 b, .int .i64 d]) := by rw [h1, h2]
theorem who_any (S : SysD) (vp vc vs : Value) (tick : Int) (w : World) (he : Env w) (hS : Sys w vp vc vs S) (c : Int) (hc : (if chkS S = 0 then (if tick < 0 then 3 else 0) else chkS S) = c) (p : Int) (hp : (if c = 0 then whoS S tick else 0) = p) :
  Calls Tryz.prog 108 #[.agg #[vp, vc, vs], .int .i64 tick] w fun e w' => e = .returned (.tuple #[.int .i64 p, .int .i64 c]) ∧ Below w.heap.size w w' := by
 obtain ⟨pa, pc, rfl⟩ := hS.p.form
 obtain ⟨ca, cc, rfl⟩ := hS.c.form
 obtain ⟨sa, sc, rfl⟩ := hS.s.form
 have HS := hd hS
 have HC := hd hc
 have HP := hd hp
 generalize hz : chkS S = z
 have HZ := hd hz
 clear hS hc hp hz
 go_enter Tryz.func108, Tryz.ntmps108
 go_wp2_with fail
 refine (confCheck_any S _ _ _ _ (he.up up0) (HS.out.up up0)).mono ?_
 rw [HZ.out]
 rintro e w1 ⟨rfl, bb⟩
 have hB := (box_new w (.slice pa S.parts.length pc) (.slice ca S.chans.length cc) (.slice sa S.slots.length sc) 26 _ rfl).up bb
 have D := hd (Below.trans (show Below w.heap.size w _ from up0) (bb.mono (by simp)))
 have HB := hd hB
 have k2 := HB.out.s
 clear bb hB
 by_cases h0 : z = 0
 ·subst h0
  by_cases ht : tick < 0
  ·obtain rfl : 3 = c := by have := HC.out; rw [HZ.out, if_pos rfl, if_pos ht] at this; exact this
   obtain rfl : 0 = p := HP.out
   go_wp2
   go_ret2
   exact ⟨rfl, D.out⟩
  ·obtain rfl : 0 = c := by have := HC.out; rw [HZ.out, if_pos rfl, if_neg ht] at this; exact this
   have HPP : Hid (ownL (tick % sumT 0 S.slots) 0 (turnsL 0 S.slots) = p) := HP.out
   have hok := slots_ok HZ.out
   have hfp := frame_pos hok.1 hok.2
   generalize hfr : sumT 0 S.slots = fr
   have HFR := hd hfr
   rw [hfr] at hfp
   have hf1 : 1 ≤ fr := hfp.1
   have hf2 : fr ≤ 48 := hfp.2
   have ht0 : 0 ≤ tick := by omega
   have hne : (fr == 0) = false := by simp; omega
   have HO := hd hok
   clear hfr hfp hok HP HC ht
   go_wp2
   go_region_with (first | (go_at_call 138; refine (frame_any S.slots _ _ HO.out.1 HO.out.2 ((HS.out.s.up D.out).up up0)).mono ?_; rw [HFR.out]; rintro e w2 ⟨rfl, bb0⟩; have bb : Below w1.heap.size w1 w2 := Below.trans up0 (bb0.mono (by simp)); clear bb0; have k2' := (HB.out.up bb).s; have D2 := hd (D.out.trans (bb.mono D.out.size)); clear bb) | (go_at_call 137; refine (owner_any S.slots _ _ _ HO.out.1 HO.out.2 ((HS.out.s.up D2.out).up up0)).mono ?_; rintro e w3 ⟨rfl, bb0⟩; have bb : Below w2.heap.size w2 w3 := Below.trans up0 (bb0.mono (by simp)); clear bb0; have D3 := hd (D2.out.trans (bb.mono D2.out.size)); clear bb))
   all_goals go_wp2
   all_goals go_ret2
   all_goals exact ⟨ret2i (show ownL (tick % fr) 0 (turnsL 0 S.slots) = p by rw [← HPP.out, HFR.out]) rfl, D3.out⟩
 ·have hz' : (z != 0) = true := by simpa using h0
  obtain rfl : z = c := by have := HC.out; rw [HZ.out, if_neg h0] at this; exact this
  obtain rfl : 0 = p := by have := HP.out; rw [if_neg h0] at this; exact this
  clear h0
  go_wp2
  go_ret2
  exact ⟨rfl, D.out⟩
theorem whoS_rep {S : SysD} (hok : SlotsOk S.slots) (h1 : 1 ≤ S.slots.length) {tick : Int} (ht : 0 ≤ tick) : ∃ x : Nat, (x : Int) = tick % sumT 0 S.slots ∧ ∃ hx : x < (repL S.slots).length, (repL S.slots)[x] = whoS S tick := by
 have hp := frame_pos hok h1
 have hl := repL_len S.slots 0 hok.nonneg
 have ha := Int.emod_nonneg tick (show sumT 0 S.slots ≠ 0 by omega)
 have hb := Int.emod_lt_of_pos tick (show 0 < sumT 0 S.slots by omega)
 refine ⟨(tick % sumT 0 S.slots).toNat, by omega, by omega, ?_⟩
 have := ownL_rep S.slots 0 0 (tick % sumT 0 S.slots).toNat hok.nonneg om
 rw [← this]
 unfold whoS
 congr 1
 omega
theorem whoOf_any (S : SysD) (hok : SlotsOk S.slots) (h1 : 1 ≤ S.slots.length) (vp vc vs : Value) (tick : Int) (ht : 0 ≤ tick) (w : World) (hS : Sys w vp vc vs S) (p : Int) (hp : whoS S tick = p) :
  Calls Tryz.prog 68 #[.agg #[vp, vc, vs], .int .i64 tick] w fun e w' => e = .returned (.int .i64 p) ∧ Below w.heap.size w w' := by
 obtain ⟨pa, pc, rfl⟩ := hS.p.form
 obtain ⟨ca, cc, rfl⟩ := hS.c.form
 obtain ⟨sa, sc, rfl⟩ := hS.s.form
 obtain ⟨x, hx, hxl, hxv⟩ := whoS_rep hok h1 ht
 have hfp := frame_pos hok h1
 have hlen : (repL S.slots).length ≤ 48 := by have := repL_len S.slots 0 hok.nonneg; omega
 generalize hfr : sumT 0 S.slots = fr at hx hfp
 have HFR := hd hfr
 have HX := hd hx
 have HXV : Hid ((repL S.slots)[x] = p) := by show _ = _; rw [hxv, hp]
 have HO := hd hok
 have HS := hd hS
 have hf1 : 1 ≤ fr := hfp.1
 have hf2 : fr ≤ 48 := hfp.2
 have hne : (fr == 0) = false := by simp; omega
 have hB := box_new w (.slice pa S.parts.length pc) (.slice ca S.chans.length cc) (.slice sa S.slots.length sc) 26 _ rfl
 have HB := hd hB
 generalize hRL : repL S.slots = RL at hxl HXV hlen
 have HRL := hd hRL
 have hxi : (x : Int) < RL.length := by omega
 have hx0 : (0 : Int) ≤ x := by omega
 have hxm : tick % fr = x := hx.symm
 clear hok hS hp hxv hfr hx hfp hB hRL
 have hD0 : Below w.heap.size w (w.alloc (.cells #[.slice pa S.parts.length pc, .slice ca S.chans.length cc, .slice sa S.slots.length sc] 26)) := (Below.refl _ _).alloc (Nat.le_refl _) _
 have hz : (w.alloc (.cells #[.slice pa S.parts.length pc, .slice ca S.chans.length cc, .slice sa S.slots.length sc] 26)).heap.size = w.heap.size + 1 := by simp
 go_enter Tryz.func68, Tryz.ntmps68
 go_wp2
 generalize w.alloc (.cells #[.slice pa S.parts.length pc, .slice ca S.chans.length cc, .slice sa S.slots.length sc] 26) = W0 at *
 have k0 := HB.out.p
 have k1 := HB.out.c
 have k2 := HB.out.s
 have HS0 := hd (HS.out.up hD0)
 have HD0 := hd hD0
 clear hD0
 go_region_with (first | (go_at_call 112; refine (turnsRef_any S HO.out h1 _ _ _ _ (HS0.out.up up0)).mono ?_; rintro e w1 ⟨v, rfl, s, bb0⟩; rw [HRL.out] at s; obtain ⟨g, go, gc, rfl, hgc, hgl, hgcs⟩ := s.1.open om; have bb : Below W0.heap.size W0 w1 := Below.trans up0 (bb0.mono (by simp)); have q1 := hd (hgcs x _ (ints_at RL x hxl)); clear hgcs s bb0; have k0' := (HB.out.up bb).p; have k1' := (HB.out.up bb).c; have k2' := (HB.out.up bb).s; have D1 := hd bb; clear bb) | (go_at_call 113; refine (frameOf_any S HO.out h1 _ _ _ _ ((HS0.out.up D1.out).up up0) fr HFR.out).mono ?_; rintro e w2 ⟨rfl, bb0⟩; have bb : Below w1.heap.size w1 w2 := Below.trans up0 (bb0.mono (by simp)); have xc := bcl bb hgl q1.out; have D2 := hd (D1.out.trans (bb.mono D1.out.size)); clear bb bb0))
 all_goals go_wp2
 all_goals go_ret
 all_goals exact ⟨ret_int HXV.out, HD0.out.trans (D2.out.mono HD0.out.size)⟩
def servR (kind : Int) (l : List Int) (x : Wnt) : List Int × Int × Bool := if x.k = 12 then ((putR kind l x.val).1, 0, (putR kind l x.val).2) else getR kind l
theorem kserve_any (kind : Int) (l : List Int) (v : Value) (x : Wnt) (w : World) (hS : Sl w 1 v l.length (ints l)) (hc : chkL kind l.length = 0) (zs : List Int) (n : Int) (t : Bool) (hz : servR kind l x = (zs, n, t)) :
  Calls Tryz.prog 110 #[.int .i64 kind, .agg #[v], .agg x.cs] w fun e w' => ∃ v', e = .returned (.tuple #[.agg #[v'], .int .i64 n, .bool t]) ∧ SlN w w' v' zs.length (ints zs) ∧ Below w.heap.size w w' := by
 obtain ⟨ao, cap, rfl⟩ := hS.form
 have HS := hd hS
 by_cases hk : x.k = 12
 ·obtain ⟨⟨zs', t'⟩, hp⟩ : ∃ r, putR kind l x.val = r := ⟨_, rfl⟩
  have hz' : zs' = zs ∧ 0 = n ∧ t' = t := by
   unfold servR at hz
   rw [if_pos hk, hp] at hz
   injection hz with h1 h2
   injection h2 with h2 h3
   exact ⟨h1, h2, h3⟩
  obtain ⟨rfl, rfl, rfl⟩ := hz'
  have HP := hd fun w hS => put_c kind l (.slice ao l.length cap) x.val w hS 0 hc zs' t' hp
  have hk' : (x.k == 12) = true := by simpa using hk
  clear hS hc hz hp hk
  unfold Wnt.cs
  go_enter Tryz.func110, Tryz.ntmps110
  go_wp2_with fail
  refine (HP.out _ (HS.out.up up0)).mono ?_
  rintro e w1 ⟨v', rfl, hN, b1⟩
  have z1 := b1.size
  simp at z1
  obtain ⟨a1, c1, rfl⟩ := hN.1.form
  have R2 : Rw w1 (w.heap.size + 1 + 1) 81 #[.slice none 0 0] := Rw.up rn0 b1 o3
  have q2 := R2.cell (j := 0) (v := .slice none 0 0) rfl
  have f2 := R2.fr 0
  have HD : Hid (Below w.heap.size w w1) := by
   refine Below.trans ?_ (b1.mono o3)
   exact up0
  have HN := hd hN
  have hlt2 : w.heap.size + 1 + 1 < w1.heap.size := by omega
  have hne2 : w.heap.size + 1 + 1 ≠ w1.heap.size := by omega
  clear b1 hN R2 HP
  go_wp2
  have HS2 : Hid (SlN w ((w1.setCell ⟨w.heap.size + 1 + 1, 0, none⟩ (.slice a1 zs'.length c1)).alloc (.cells #[.slice a1 zs'.length c1] 81)) (.slice a1 zs'.length c1) zs'.length (ints zs')) := by
   refine ⟨Sl.up (HN.out.1.set _ (fun e => by have := HN.out.2 _ e; simp at this; omega)) ((Below.refl _ _).alloc (Nat.le_refl _) _), fun k e => by have := HN.out.2 k e; simp at this; omega⟩
  have HD2 : Hid (Below w.heap.size w ((w1.setCell ⟨w.heap.size + 1 + 1, 0, none⟩ (.slice a1 zs'.length c1)).alloc (.cells #[.slice a1 zs'.length c1] 81))) :=
   Below.alloc (HD.out.setCell (p := ⟨w.heap.size + 1 + 1, 0, none⟩) so _) (by rw [size_set]; omega) _
  clear HN HD
  have c2 : ((w1.setCell ⟨w.heap.size + 1 + 1, 0, none⟩ (.slice a1 zs'.length c1)).alloc (.cells #[.slice a1 zs'.length c1] 81)).cell? ⟨w.heap.size + 1 + 1, 0, none⟩ = some (.slice a1 zs'.length c1) := by
   rw [World.cell?_alloc_lt _ _ _ so]
   exact World.cell?_setCell_same _ _ _ q2
  clear q2 f2 hlt2 hne2
  refine bodyPost_ret (v := .tuple #[.agg #[.slice a1 zs'.length c1], .int .i64 0, .bool t']) ?_ rfl ⟨_, rfl, HS2.out, HD2.out⟩
  simp [results, Tryz.results110, go_sem, *]
 ·obtain ⟨⟨zs', n', t'⟩, hp⟩ : ∃ r, getR kind l = r := ⟨_, rfl⟩
  have hz' : zs' = zs ∧ n' = n ∧ t' = t := by
   unfold servR at hz
   rw [if_neg hk, hp] at hz
   injection hz with h1 h2
   injection h2 with h2 h3
   exact ⟨h1, h2, h3⟩
  obtain ⟨rfl, rfl, rfl⟩ := hz'
  have HP := hd fun w hS => get_c kind l (.slice ao l.length cap) w hS 0 hc zs' n' t' hp
  have hk' : (x.k == 12) = false := by simpa using hk
  clear hS hc hz hp hk
  unfold Wnt.cs
  go_enter Tryz.func110, Tryz.ntmps110
  go_wp2_with fail
  refine (HP.out _ (HS.out.up up0)).mono ?_
  rintro e w1 ⟨v', rfl, hN, b1⟩
  have z1 := b1.size
  simp at z1
  obtain ⟨a1, c1, rfl⟩ := hN.1.form
  have R2 : Rw w1 (w.heap.size + 1 + 1) 81 #[.slice none 0 0] := Rw.up rn0 b1 o3
  have q2 := R2.cell (j := 0) (v := .slice none 0 0) rfl
  have f2 := R2.fr 0
  have HD : Hid (Below w.heap.size w w1) := by
   refine Below.trans ?_ (b1.mono o3)
   exact up0
  have HN := hd hN
  have hlt2 : w.heap.size + 1 + 1 < w1.heap.size := by omega
  have hne2 : w.heap.size + 1 + 1 ≠ w1.heap.size := by omega
  clear b1 hN R2 HP
  go_wp2
  have HS2 : Hid (SlN w ((w1.setCell ⟨w.heap.size + 1 + 1, 0, none⟩ (.slice a1 zs'.length c1)).alloc (.cells #[.slice a1 zs'.length c1] 81)) (.slice a1 zs'.length c1) zs'.length (ints zs')) := by
   refine ⟨Sl.up (HN.out.1.set _ (fun e => by have := HN.out.2 _ e; simp at this; omega)) ((Below.refl _ _).alloc (Nat.le_refl _) _), fun k e => by have := HN.out.2 k e; simp at this; omega⟩
  have HD2 : Hid (Below w.heap.size w ((w1.setCell ⟨w.heap.size + 1 + 1, 0, none⟩ (.slice a1 zs'.length c1)).alloc (.cells #[.slice a1 zs'.length c1] 81))) :=
   Below.alloc (HD.out.setCell (p := ⟨w.heap.size + 1 + 1, 0, none⟩) so _) (by rw [size_set]; omega) _
  clear HN HD
  have c2 : ((w1.setCell ⟨w.heap.size + 1 + 1, 0, none⟩ (.slice a1 zs'.length c1)).alloc (.cells #[.slice a1 zs'.length c1] 81)).cell? ⟨w.heap.size + 1 + 1, 0, none⟩ = some (.slice a1 zs'.length c1) := by
   rw [World.cell?_alloc_lt _ _ _ so]
   exact World.cell?_setCell_same _ _ _ q2
  clear q2 f2 hlt2 hne2
  refine bodyPost_ret (v := .tuple #[.agg #[.slice a1 zs'.length c1], .int .i64 n', .bool t']) ?_ rfl ⟨_, rfl, HS2.out, HD2.out⟩
  simp [results, Tryz.results110, go_sem, *]
theorem repL_mem : ∀ {l : List Slt} {p : Int}, p ∈ repL l → ∃ t ∈ l, t.pt = p
 | t :: r, p, h => by
  rw [repL, List.mem_append] at h
  rcases h with h | h
  ·exact ⟨t, List.mem_cons_self, (List.eq_of_mem_replicate h).symm⟩
  ·obtain ⟨t', h1, h2⟩ := repL_mem h
   exact ⟨t', List.mem_cons_of_mem _ h1, h2⟩
theorem who_range {S : SysD} (h : chkS S = 0) {tick : Int} (ht : 0 ≤ tick) : 0 ≤ whoS S tick ∧ whoS S tick < S.parts.length := by
 obtain ⟨hok, h1⟩ := slots_ok h
 obtain ⟨x, _, hx, e⟩ := whoS_rep hok h1 ht
 obtain ⟨t, hm, e2⟩ := repL_mem (List.getElem_mem hx)
 rw [e] at e2
 obtain ⟨-, -, -, h4, -⟩ := chkS_zero h
 unfold placesB at h4
 rw [Bool.and_eq_true, Bool.not_eq_true', Bool.not_eq_true', List.any_eq_false, List.any_eq_false] at h4
 have := h4.2 _ hm
 unfold slotBad withinB at this
 simp at this
 omega
theorem doC_want {i : Ins} {inn xs ys : List Int} {c c' : Cel} {x' : Wnt} (h : doC i inn xs c wntZ = some (c', ys, x')) : x' = wntZ ∨ (i.op = 12 ∧ x' = ⟨12, i.n, i.a, 0, c.reg i.a⟩) ∨ (i.op = 13 ∧ x' = ⟨13, i.n, i.a, i.b, 0⟩) := by
 unfold doC at h
 by_cases h1 : i.op = 1
 ·rw [if_pos h1] at h; injection h with h; injection h with _ h; injection h with _ h; subst h; exact .inl rfl
 rw [if_neg h1] at h
 by_cases h2 : i.op = 2
 ·rw [if_pos h2] at h; injection h with h; injection h with _ h; injection h with _ h; subst h; exact .inl rfl
 rw [if_neg h2] at h
 by_cases h3 : i.op = 3
 ·rw [if_pos h3] at h; injection h with h; injection h with _ h; injection h with _ h; subst h; exact .inl rfl
 rw [if_neg h3] at h
 by_cases h4 : i.op = 4
 ·rw [if_pos h4] at h; injection h with h; injection h with _ h; injection h with _ h; subst h; exact .inl rfl
 rw [if_neg h4] at h
 by_cases h5 : i.op = 5
 ·rw [if_pos h5] at h; injection h with h; injection h with _ h; injection h with _ h; subst h; exact .inl rfl
 rw [if_neg h5] at h
 by_cases h6 : i.op = 6
 ·rw [if_pos h6] at h
  by_cases hm : c.reg i.b < 0 ∨ 8 ≤ c.reg i.b
  ·rw [if_pos hm] at h; cases h
  ·rw [if_neg hm] at h; injection h with h; injection h with _ h; injection h with _ h; subst h; exact .inl rfl
 rw [if_neg h6] at h
 by_cases h7 : i.op = 7
 ·rw [if_pos h7] at h
  by_cases hm : c.reg i.b < 0 ∨ 8 ≤ c.reg i.b
  ·rw [if_pos hm] at h; cases h
  ·rw [if_neg hm] at h; injection h with h; injection h with _ h; injection h with _ h; subst h; exact .inl rfl
 rw [if_neg h7] at h
 by_cases h8 : i.op = 8
 ·rw [if_pos h8] at h; injection h with h; injection h with _ h; injection h with _ h; subst h; exact .inl rfl
 rw [if_neg h8] at h
 by_cases h9 : i.op = 9
 ·rw [if_pos h9] at h; injection h with h; injection h with _ h; injection h with _ h; subst h; exact .inl rfl
 rw [if_neg h9] at h
 by_cases h10 : i.op = 10
 ·rw [if_pos h10] at h; injection h with h; injection h with _ h; injection h with _ h; subst h; exact .inl rfl
 rw [if_neg h10] at h
 by_cases h11 : i.op = 11
 ·rw [if_pos h11] at h; injection h with h; injection h with _ h; injection h with _ h; subst h; exact .inl rfl
 rw [if_neg h11] at h
 by_cases h12 : i.op = 12
 ·rw [if_pos h12] at h; injection h with h; injection h with _ h; injection h with _ h; subst h; exact .inr (.inl ⟨h12, rfl⟩)
 rw [if_neg h12] at h
 by_cases h13 : i.op = 13
 ·rw [if_pos h13] at h; injection h with h; injection h with _ h; injection h with _ h; subst h; exact .inr (.inr ⟨h13, rfl⟩)
 rw [if_neg h13] at h
 by_cases h14 : i.op = 14
 ·rw [if_pos h14] at h; injection h with h; injection h with _ h; injection h with _ h; subst h; exact .inl rfl
 rw [if_neg h14] at h
 injection h with h; injection h with _ h; injection h with _ h; subst h; exact .inl rfl
theorem names_at : ∀ {l : List Chn} {ps : List Prt} {k : Nat}, namesFrom l k ps = true → ∀ j (hj : j < ps.length), nameBad l ((k + j : Nat) : Int) ps[j] = false
 | l, p :: r, k, h, 0, _ => by
  rw [namesFrom] at h
  cases hb : nameBad l k p with
  | true => rw [hb] at h; simp at h
  | false => exact hb
 | l, p :: r, k, h, j + 1, hj => by
  rw [namesFrom] at h
  cases hb : nameBad l k p with
  | true => rw [hb] at h; simp at h
  | false =>
   rw [hb] at h
   have := names_at (l := l) (ps := r) (k := k + 1) (by simpa using h) j (by simpa using hj)
   rw [show k + (j + 1) = k + 1 + j by omega]
   exact this
structure WantOk (S : SysD) (x : Wnt) : Prop where
 k : x.k = 12 ∨ x.k = 13
 c0 : 0 ≤ x.ch
 c1 : x.ch < S.chans.length
 r0 : 0 ≤ x.reg
 r1 : x.reg < 4
 f0 : 0 ≤ x.flag
 f1 : x.flag < 4
theorem chan_named {l : List Ins} {i : Ins} (hi : i ∈ l) {op : Int} (ho : i.op = op) (h0 : 0 ≤ i.n) (h5 : i.n ≤ 5) : i.n ∈ chanL l op 6 := by
 obtain ⟨m, hm⟩ := Int.eq_ofNat_of_zero_le h0
 unfold chanL
 rw [List.mem_map]
 refine ⟨m, ?_, by rw [hm]⟩
 rw [List.mem_filter, List.mem_range]
 refine ⟨by omega, ?_⟩
 unfold hasC
 rw [List.any_eq_true]
 exact ⟨i, hi, by simp [ho, hm]⟩
theorem step_want {S : SysD} (h : chkS S = 0) {p : Nat} (hp : p < S.parts.length) {inn xs : List Int} {c : Cel} (h0 : 0 ≤ c.at_) : (stepC S.parts[p].code inn xs c).2.2 = wntZ ∨ WantOk S (stepC S.parts[p].code inn xs c).2.2 := by
 obtain ⟨-, hc, -, -, hn⟩ := chkS_zero h
 have hcode := hc p hp
 have hnb := names_at (l := S.chans) (k := 0) hn p hp
 unfold nameBad at hnb
 rw [Bool.or_eq_false_iff, List.any_eq_false, List.any_eq_false] at hnb
 have hfe : firstE S.parts[p].code = 0 := by
  unfold chkC at hcode
  split at hcode
  ·omega
  ·exact hcode
 unfold stepC
 split
 ·unfold runC
  split
  ·exact .inl rfl
  ·rename_i i hi
   have hlt : c.at_.toNat < S.parts[p].code.length := (List.getElem?_eq_some_iff.1 hi).1
   have hmem : i ∈ S.parts[p].code := List.mem_of_getElem? hi
   have hck : i.chk = 0 := by
    have := firstE_zero hfe _ hlt
    rw [(List.getElem?_eq_some_iff.1 hi).2] at this
    exact this
   obtain ⟨hop, ⟨ha0, ha1⟩, ⟨hb0, hb1⟩, hj, hch⟩ := chk0 (op := i.op) (a := i.a) (b := i.b) (n := i.n) hck
   cases hd : doC i inn xs c wntZ with
   | none => exact .inl rfl
   | some r =>
    obtain ⟨c', ys, x'⟩ := r
    rcases doC_want hd with e | ⟨ho, e⟩ | ⟨ho, e⟩
    ·exact .inl e
    ·right
     have hn5 := hch (.inl ho)
     have hb := hnb.1 _ (chan_named hmem ho hn5.1 hn5.2)
     have hl : i.n.toNat < S.chans.length := by
      unfold putBad at hb
      split at hb
      ·simp at hb
      ·rename_i y hy; exact (List.getElem?_eq_some_iff.1 hy).1
     subst e
     exact ⟨.inl rfl, hn5.1, by simp only [Option.getD_some]; omega, ha0, ha1, Int.le_refl _, by simp only [Option.getD_some]; omega⟩
    ·right
     have hn5 := hch (.inr ho)
     have hb := hnb.2 _ (chan_named hmem ho hn5.1 hn5.2)
     have hl : i.n.toNat < S.chans.length := by
      unfold getBad at hb
      split at hb
      ·simp at hb
      ·rename_i y hy; exact (List.getElem?_eq_some_iff.1 hy).1
     subst e
     exact ⟨.inr rfl, hn5.1, by simp only [Option.getD_some]; omega, ha0, ha1, hb0, hb1⟩
 ·exact .inl rfl
def nextC (S : SysD) (D : WldD) : WldD :=
 match S.parts[(whoS S D.tick).toNat]?, D.cells[(whoS S D.tick).toNat]? with
 | some P, some d =>
  if (stepC P.code P.inn d.out d.c).2.2.k = 0 then ⟨D.tick + 1, D.cells.set (whoS S D.tick).toNat ⟨(stepC P.code P.inn d.out d.c).1, (stepC P.code P.inn d.out d.c).2.1⟩, D.lines⟩
  else match S.chans[(stepC P.code P.inn d.out d.c).2.2.ch.toNat]?, D.lines[(stepC P.code P.inn d.out d.c).2.2.ch.toNat]? with
   | some ch, some ln => ⟨D.tick + 1, D.cells.set (whoS S D.tick).toNat ⟨(stepC P.code P.inn d.out d.c).1.replied (stepC P.code P.inn d.out d.c).2.2.k (stepC P.code P.inn d.out d.c).2.2.reg (stepC P.code P.inn d.out d.c).2.2.flag ch.kd (servR ch.kd ln (stepC P.code P.inn d.out d.c).2.2).2.1 (servR ch.kd ln (stepC P.code P.inn d.out d.c).2.2).2.2, (stepC P.code P.inn d.out d.c).2.1⟩, D.lines.set (stepC P.code P.inn d.out d.c).2.2.ch.toNat (servR ch.kd ln (stepC P.code P.inn d.out d.c).2.2).1⟩
   | _, _ => D
 | _, _ => D
structure Nx (X W : World) (ov : Option Value) (g8 g9 : Option Nat) (out : List Int) : Prop where
 d : Below X.heap.size X W
 o : ∀ v, ov = some v → W.ownsRow X.heap.size 3 1 v out.length (ints out)
 g : ∀ g, g8 = some g → Rw W g 35 (celZ.cs (.slice none 0 0)) ∧ X.heap.size ≤ g ∧ ∀ v, ov = some v → v.ownBlock ≠ some g
 h : ∀ g, g9 = some g → Rw W g 124 wntZ.cs ∧ X.heap.size ≤ g ∧ ∀ v, ov = some v → v.ownBlock ≠ some g
 ne : ∀ g g', g8 = some g → g9 = some g' → g ≠ g'
section
variable {X W W' : World} {o : Option Value} {g8 g9 : Option Nat} {out : List Int}
theorem Nx.begin (X : World) (out : List Int) : Nx X X.drew none none none out := ⟨(Below.refl _ _).drew, by simp, by simp, by simp, by simp⟩
theorem Nx.up (h : Nx X W o g8 g9 out) (hb : Below W.heap.size W W') : Nx X W' o g8 g9 out where
 d := h.d.trans (hb.mono h.d.size)
 o := fun v q => own_up (h.o v q) hb (own_lt (h.o v q))
 g := fun g q => ⟨(h.g g q).1.up hb (h.g g q).1.lt, (h.g g q).2⟩
 h := fun g q => ⟨(h.h g q).1.up hb (h.h g q).1.lt, (h.h g q).2⟩
 ne := h.ne
theorem Nx.eight (h : Nx X W o none g9 out) {g : Nat} (hg : g = W.heap.size) : Nx X (W.alloc (.cells (celZ.cs (.slice none 0 0)) 35)) o (some g) g9 out :=
 have k := h.up ((Below.refl _ _).alloc (Nat.le_refl _) (.cells (celZ.cs (.slice none 0 0)) 35))
 ⟨k.d, k.o, fun g' q => by
  injection q with q
  subst q
  exact ⟨Rw.new _ _ _ hg, by rw [hg]; exact h.d.size, fun v q e => by have := own_lt (h.o v q) _ e; omega⟩, k.h, fun a b q q' => by
  injection q with q
  have := (h.h b q').1.lt
  omega⟩
theorem Nx.nine (h : Nx X W o g8 none out) {g : Nat} (hg : g = W.heap.size) : Nx X (W.alloc (.cells wntZ.cs 124)) o g8 (some g) out :=
 have k := h.up ((Below.refl _ _).alloc (Nat.le_refl _) (.cells wntZ.cs 124))
 ⟨k.d, k.o, k.g, fun g' q => by
  injection q with q
  subst q
  exact ⟨Rw.new _ _ _ hg, by rw [hg]; exact h.d.size, fun v q e => by have := own_lt (h.o v q) _ e; omega⟩, fun a b q q' => by
  injection q' with q'
  have := (h.g a q).1.lt
  omega⟩
theorem Nx.call (h : Nx X W none g8 g9 out) {v : Value} (ho : W'.ownsRow W.heap.size 3 1 v out.length (ints out)) (hb : Below W.heap.size W W') : Nx X W' (some v) g8 g9 out :=
 have k := h.up hb
 have hv : ∀ g, v.ownBlock = some g → W.heap.size ≤ g := own_block ho
 ⟨k.d, fun v' q => by injection q with q; subst q; exact own_low ho h.d.size, fun g q => ⟨(k.g g q).1, (k.g g q).2.1, fun v' q' e => by injection q' with q'; subst q'; have := hv g e; have := (h.g g q).1.lt; omega⟩,
  fun g q => ⟨(k.h g q).1, (k.h g q).2.1, fun v' q' e => by injection q' with q'; subst q'; have := hv g e; have := (h.h g q).1.lt; omega⟩, h.ne⟩
structure Nd (X W : World) (g8 g9 : Nat) (c : Cel) (v : Value) (x : Wnt) (out : List Int) : Prop where
 d : Below X.heap.size X W
 r8 : Rw W g8 35 (c.cs v)
 r9 : Rw W g9 124 x.cs
 s : Sl W 1 v out.length (ints out)
 n : ∀ b, v.ownBlock = some b → X.heap.size ≤ b ∧ b < W.heap.size ∧ b ≠ g8 ∧ b ≠ g9
 n8 : X.heap.size ≤ g8
 n9 : X.heap.size ≤ g9
 ne : g8 ≠ g9
theorem Nx.done {v : Value} {a b : Nat} (h : Nx X W (some v) (some a) (some b) out) (c : Cel) (x : Wnt) : Nd X ((W.setRow a (c.cs v)).setRow b x.cs) a b c v x out := by
 have hne := h.ne a b rfl rfl
 obtain ⟨ra, na, ea⟩ := h.g a rfl
 obtain ⟨rb, nb, eb⟩ := h.h b rfl
 have ho := h.o v rfl
 refine ⟨below_row (below_row h.d na _) nb _, (ra.row _).row_other _ hne, Rw.row (rb.row_other _ (Ne.symm hne)) _, ((own_sl ho).row _ (ea v rfl)).row _ (eb v rfl), fun k e => ⟨own_block ho k e, by simpa using own_lt ho k e, fun e' => ea v rfl (e' ▸ e), fun e' => eb v rfl (e' ▸ e)⟩, na, nb, hne⟩
end
end Go.Proofs.YtehhhiodfcdnmaaGreatDoor
