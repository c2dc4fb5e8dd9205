/- sched.Who; the reference's WhoOf. -/
import Derived.Test.YtehhhiodfcdnmaaGreatDoorJ3
import Derived.Deep.CutRange
import Derived.Deep.RegionWith
import Derived.Deep.RegionHeld3
import Derived.Test.YtehhhiodfcdnmaaGreatDoorJ6
import Derived.Test.YtehhhiodfcdnmaaGreatDoorJ7
import Derived.Test.YtehhhiodfcdnmaaGreatDoorJ8
namespace Go.Proofs.YtehhhiodfcdnmaaGreatDoor
set_option linter.unusedSimpArgs false
set_option linter.unusedVariables false
open Go.RowKit Go.Sort
theorem ret2i {a b c d : Int} (h1 : a = b) (h2 : c = d) : Ending.returned (.tuple #[.int .i64 a, .int .i64 c]) = .returned (.tuple #[.int .i64 b, .int .i64 d]) := by rw [h1, h2]
set_option maxHeartbeats 2000000 in
theorem who_any (S : SysD) (vp vc vs : Value) (tick : Int) (w : World) (he : Env w) (hS : Sys w vp vc vs S) (c : Int) (hc : (if chkS S = 0 then (if tick < 0 then 3 else 0) else chkS S) = c) (p : Int) (hp : (if c = 0 then whoS S tick else 0) = p) :
    Calls Tryz.prog 108 #[.agg #[vp, vc, vs], .int .i64 tick] w fun e w' => e = .returned (.tuple #[.int .i64 p, .int .i64 c]) ∧ Below w.heap.size w w' := by
  obtain ⟨pa, pc, rfl⟩ := hS.p.form
  obtain ⟨ca, cc, rfl⟩ := hS.c.form
  obtain ⟨sa, sc, rfl⟩ := hS.s.form
  have HS := Lib.hid hS
  have HC := Lib.hid hc
  have HP := Lib.hid hp
  generalize hz : chkS S = z
  have HZ := Lib.hid hz
  clear hS hc hp hz
  go_enter Tryz.func108, Tryz.ntmps108
  go_wp2_with fail
  refine (confCheck_any S _ _ _ _ (he.up (by repeat (first | exact Below.refl _ _ | assumption | refine Below.drew ?_ | refine Below.alloc ?_ (by first | (simp; done) | (simp; omega)) _ | refine Below.setCell ?_ (by first | (simp; done) | (simp; omega)) _))) (HS.out.up (by repeat (first | exact Below.refl _ _ | assumption | refine Below.drew ?_ | refine Below.alloc ?_ (by first | (simp; done) | (simp; omega)) _ | refine Below.setCell ?_ (by first | (simp; done) | (simp; omega)) _)))).mono ?_
  rw [HZ.out]
  rintro e w1 ⟨rfl, bb⟩
  have hB := (box_new w (.slice pa S.parts.length pc) (.slice ca S.chans.length cc) (.slice sa S.slots.length sc) 26 _ rfl).up bb
  have D := Lib.hid (Below.trans (show Below w.heap.size w _ from (by repeat (first | exact Below.refl _ _ | assumption | refine Below.drew ?_ | refine Below.alloc ?_ (by first | (simp; done) | (simp; omega)) _ | refine Below.setCell ?_ (by first | (simp; done) | (simp; omega)) _))) (bb.mono (by simp)))
  have HB := Lib.hid hB
  have k2 := HB.out.s
  clear bb hB
  by_cases h0 : z = 0
  · subst h0
    by_cases ht : tick < 0
    · obtain rfl : 3 = c := by have := HC.out; rw [HZ.out, if_pos rfl, if_pos ht] at this; exact this
      obtain rfl : 0 = p := HP.out
      go_wp2
      go_ret2
      exact ⟨rfl, D.out⟩
    · obtain rfl : 0 = c := by have := HC.out; rw [HZ.out, if_pos rfl, if_neg ht] at this; exact this
      have HPP : Hid (ownL (tick % sumT 0 S.slots) 0 (turnsL 0 S.slots) = p) := HP.out
      have hok := slots_ok HZ.out
      have hfp := frame_pos hok.1 hok.2
      generalize hfr : sumT 0 S.slots = fr
      have HFR := Lib.hid hfr
      rw [hfr] at hfp
      have hf1 : 1 ≤ fr := hfp.1
      have hf2 : fr ≤ 48 := hfp.2
      have ht0 : 0 ≤ tick := by omega
      have hne : (fr == 0) = false := by simp; omega
      have HO := Lib.hid hok
      clear hfr hfp hok HP HC ht
      go_wp2
      go_region_with (first | (go_at_call 138; refine (frame_any S.slots _ _ HO.out.1 HO.out.2 ((HS.out.s.up D.out).up (by repeat (first | exact Below.refl _ _ | assumption | refine Below.drew ?_ | refine Below.alloc ?_ (by first | (simp; done) | (simp; omega)) _ | refine Below.setCell ?_ (by first | (simp; done) | (simp; omega)) _)))).mono ?_; rw [HFR.out]; rintro e w2 ⟨rfl, bb0⟩; have bb : Below w1.heap.size w1 w2 := Below.trans (by repeat (first | exact Below.refl _ _ | assumption | refine Below.drew ?_ | refine Below.alloc ?_ (by first | (simp; done) | (simp; omega)) _ | refine Below.setCell ?_ (by first | (simp; done) | (simp; omega)) _)) (bb0.mono (by simp)); clear bb0; have k2' := (HB.out.up bb).s; have D2 := Lib.hid (D.out.trans (bb.mono D.out.size)); clear bb) | (go_at_call 137; refine (owner_any S.slots _ _ _ HO.out.1 HO.out.2 ((HS.out.s.up D2.out).up (by repeat (first | exact Below.refl _ _ | assumption | refine Below.drew ?_ | refine Below.alloc ?_ (by first | (simp; done) | (simp; omega)) _ | refine Below.setCell ?_ (by first | (simp; done) | (simp; omega)) _)))).mono ?_; rintro e w3 ⟨rfl, bb0⟩; have bb : Below w2.heap.size w2 w3 := Below.trans (by repeat (first | exact Below.refl _ _ | assumption | refine Below.drew ?_ | refine Below.alloc ?_ (by first | (simp; done) | (simp; omega)) _ | refine Below.setCell ?_ (by first | (simp; done) | (simp; omega)) _)) (bb0.mono (by simp)); clear bb0; have D3 := Lib.hid (D2.out.trans (bb.mono D2.out.size)); clear bb))
      all_goals go_wp2
      all_goals go_ret2
      all_goals exact ⟨ret2i (show ownL (tick % fr) 0 (turnsL 0 S.slots) = p by rw [← HPP.out, HFR.out]) rfl, D3.out⟩
  · have hz' : (z != 0) = true := by simpa using h0
    obtain rfl : z = c := by have := HC.out; rw [HZ.out, if_neg h0] at this; exact this
    obtain rfl : 0 = p := by have := HP.out; rw [if_neg h0] at this; exact this
    clear h0
    go_wp2
    go_ret2
    exact ⟨rfl, D.out⟩
theorem whoS_rep {S : SysD} (hok : SlotsOk S.slots) (h1 : 1 ≤ S.slots.length) {tick : Int} (ht : 0 ≤ tick) : ∃ x : Nat, (x : Int) = tick % sumT 0 S.slots ∧ ∃ hx : x < (repL S.slots).length, (repL S.slots)[x] = whoS S tick := by
  have hp := frame_pos hok h1
  have hl := repL_len S.slots 0 hok.nonneg
  have ha := Int.emod_nonneg tick (show sumT 0 S.slots ≠ 0 by omega)
  have hb := Int.emod_lt_of_pos tick (show 0 < sumT 0 S.slots by omega)
  refine ⟨(tick % sumT 0 S.slots).toNat, by omega, by omega, ?_⟩
  have := ownL_rep S.slots 0 0 (tick % sumT 0 S.slots).toNat hok.nonneg (by omega)
  rw [← this]
  unfold whoS
  congr 1
  omega
end Go.Proofs.YtehhhiodfcdnmaaGreatDoor

namespace Go.Proofs.YtehhhiodfcdnmaaGreatDoor
set_option linter.unusedSimpArgs false
set_option linter.unusedVariables false
open Go.RowKit Go.Sort
def servR (kind : Int) (l : List Int) (x : Wnt) : List Int × Int × Bool := if x.k = 12 then ((putR kind l x.val).1, 0, (putR kind l x.val).2) else getR kind l
set_option maxRecDepth 100000 in
set_option maxHeartbeats 8000000 in
theorem kserve_any (kind : Int) (l : List Int) (v : Value) (x : Wnt) (w : World) (hS : Sl w 1 v l.length (ints l)) (hc : chkL kind l.length = 0) (zs : List Int) (n : Int) (t : Bool) (hz : servR kind l x = (zs, n, t)) :
    Calls Tryz.prog 110 #[.int .i64 kind, .agg #[v], .agg x.cs] w fun e w' => ∃ v', e = .returned (.tuple #[.agg #[v'], .int .i64 n, .bool t]) ∧ SlN w w' v' zs.length (ints zs) ∧ Below w.heap.size w w' := by
  obtain ⟨ao, cap, rfl⟩ := hS.form
  have HS := Lib.hid hS
  by_cases hk : x.k = 12
  · obtain ⟨⟨zs', t'⟩, hp⟩ : ∃ r, putR kind l x.val = r := ⟨_, rfl⟩
    have hz' : zs' = zs ∧ 0 = n ∧ t' = t := by
      unfold servR at hz
      rw [if_pos hk, hp] at hz
      injection hz with h1 h2
      injection h2 with h2 h3
      exact ⟨h1, h2, h3⟩
    obtain ⟨rfl, rfl, rfl⟩ := hz'
    have HP := Lib.hid fun w hS => put_c kind l (.slice ao l.length cap) x.val w hS 0 hc zs' t' hp
    have hk' : (x.k == 12) = true := by simpa using hk
    clear hS hc hz hp hk
    unfold Wnt.cs
    go_enter Tryz.func110, Tryz.ntmps110
    go_wp2_with fail
    refine (HP.out _ (HS.out.up (by repeat (first | exact Below.refl _ _ | assumption | refine Below.drew ?_ | refine Below.alloc ?_ (by first | (simp; done) | (simp; omega)) _ | refine Below.setCell ?_ (by first | (simp; done) | (simp; omega)) _)))).mono ?_
    rintro e w1 ⟨v', rfl, hN, b1⟩
    have z1 := b1.size
    simp at z1
    obtain ⟨a1, c1, rfl⟩ := hN.1.form
    have R2 : Rw w1 (w.heap.size + 1 + 1) 81 #[.slice none 0 0] := Rw.up (by repeat (first | exact Rw.new _ _ _ (by first | rfl | (simp; done) | omega | (simp; omega)) | refine Rw.alloc ?_ _)) b1 (by first | omega | (simp; done) | (simp; omega))
    have q2 := R2.cell (j := 0) (v := .slice none 0 0) rfl
    have f2 := R2.fr 0
    have HD : Hid (Below w.heap.size w w1) := by
      refine Below.trans ?_ (b1.mono (by first | omega | (simp; done) | (simp; omega)))
      exact (by repeat (first | exact Below.refl _ _ | assumption | refine Below.drew ?_ | refine Below.alloc ?_ (by first | (simp; done) | (simp; omega)) _ | refine Below.setCell ?_ (by first | (simp; done) | (simp; omega)) _))
    have HN := Lib.hid hN
    have hlt2 : w.heap.size + 1 + 1 < w1.heap.size := by omega
    have hne2 : w.heap.size + 1 + 1 ≠ w1.heap.size := by omega
    clear b1 hN R2 HP
    go_wp2
    have HS2 : Hid (SlN w ((w1.setCell ⟨w.heap.size + 1 + 1, 0, none⟩ (.slice a1 zs'.length c1)).alloc (.cells #[.slice a1 zs'.length c1] 81)) (.slice a1 zs'.length c1) zs'.length (ints zs')) := by
      refine ⟨Sl.up (HN.out.1.set _ (fun e => by have := HN.out.2 _ e; simp at this; omega)) ((Below.refl _ _).alloc (Nat.le_refl _) _), fun k e => by have := HN.out.2 k e; simp at this; omega⟩
    have HD2 : Hid (Below w.heap.size w ((w1.setCell ⟨w.heap.size + 1 + 1, 0, none⟩ (.slice a1 zs'.length c1)).alloc (.cells #[.slice a1 zs'.length c1] 81))) :=
      Below.alloc (HD.out.setCell (p := ⟨w.heap.size + 1 + 1, 0, none⟩) (by simp; omega) _) (by rw [size_set]; omega) _
    clear HN HD
    have c2 : ((w1.setCell ⟨w.heap.size + 1 + 1, 0, none⟩ (.slice a1 zs'.length c1)).alloc (.cells #[.slice a1 zs'.length c1] 81)).cell? ⟨w.heap.size + 1 + 1, 0, none⟩ = some (.slice a1 zs'.length c1) := by
      rw [World.cell?_alloc_lt _ _ _ (by simp; omega)]
      exact World.cell?_setCell_same _ _ _ q2
    clear q2 f2 hlt2 hne2
    refine bodyPost_ret (v := .tuple #[.agg #[.slice a1 zs'.length c1], .int .i64 0, .bool t']) ?_ rfl ⟨_, rfl, HS2.out, HD2.out⟩
    simp [results, Tryz.results110, go_sem, *]
  · obtain ⟨⟨zs', n', t'⟩, hp⟩ : ∃ r, getR kind l = r := ⟨_, rfl⟩
    have hz' : zs' = zs ∧ n' = n ∧ t' = t := by
      unfold servR at hz
      rw [if_neg hk, hp] at hz
      injection hz with h1 h2
      injection h2 with h2 h3
      exact ⟨h1, h2, h3⟩
    obtain ⟨rfl, rfl, rfl⟩ := hz'
    have HP := Lib.hid fun w hS => get_c kind l (.slice ao l.length cap) w hS 0 hc zs' n' t' hp
    have hk' : (x.k == 12) = false := by simpa using hk
    clear hS hc hz hp hk
    unfold Wnt.cs
    go_enter Tryz.func110, Tryz.ntmps110
    go_wp2_with fail
    refine (HP.out _ (HS.out.up (by repeat (first | exact Below.refl _ _ | assumption | refine Below.drew ?_ | refine Below.alloc ?_ (by first | (simp; done) | (simp; omega)) _ | refine Below.setCell ?_ (by first | (simp; done) | (simp; omega)) _)))).mono ?_
    rintro e w1 ⟨v', rfl, hN, b1⟩
    have z1 := b1.size
    simp at z1
    obtain ⟨a1, c1, rfl⟩ := hN.1.form
    have R2 : Rw w1 (w.heap.size + 1 + 1) 81 #[.slice none 0 0] := Rw.up (by repeat (first | exact Rw.new _ _ _ (by first | rfl | (simp; done) | omega | (simp; omega)) | refine Rw.alloc ?_ _)) b1 (by first | omega | (simp; done) | (simp; omega))
    have q2 := R2.cell (j := 0) (v := .slice none 0 0) rfl
    have f2 := R2.fr 0
    have HD : Hid (Below w.heap.size w w1) := by
      refine Below.trans ?_ (b1.mono (by first | omega | (simp; done) | (simp; omega)))
      exact (by repeat (first | exact Below.refl _ _ | assumption | refine Below.drew ?_ | refine Below.alloc ?_ (by first | (simp; done) | (simp; omega)) _ | refine Below.setCell ?_ (by first | (simp; done) | (simp; omega)) _))
    have HN := Lib.hid hN
    have hlt2 : w.heap.size + 1 + 1 < w1.heap.size := by omega
    have hne2 : w.heap.size + 1 + 1 ≠ w1.heap.size := by omega
    clear b1 hN R2 HP
    go_wp2
    have HS2 : Hid (SlN w ((w1.setCell ⟨w.heap.size + 1 + 1, 0, none⟩ (.slice a1 zs'.length c1)).alloc (.cells #[.slice a1 zs'.length c1] 81)) (.slice a1 zs'.length c1) zs'.length (ints zs')) := by
      refine ⟨Sl.up (HN.out.1.set _ (fun e => by have := HN.out.2 _ e; simp at this; omega)) ((Below.refl _ _).alloc (Nat.le_refl _) _), fun k e => by have := HN.out.2 k e; simp at this; omega⟩
    have HD2 : Hid (Below w.heap.size w ((w1.setCell ⟨w.heap.size + 1 + 1, 0, none⟩ (.slice a1 zs'.length c1)).alloc (.cells #[.slice a1 zs'.length c1] 81))) :=
      Below.alloc (HD.out.setCell (p := ⟨w.heap.size + 1 + 1, 0, none⟩) (by simp; omega) _) (by rw [size_set]; omega) _
    clear HN HD
    have c2 : ((w1.setCell ⟨w.heap.size + 1 + 1, 0, none⟩ (.slice a1 zs'.length c1)).alloc (.cells #[.slice a1 zs'.length c1] 81)).cell? ⟨w.heap.size + 1 + 1, 0, none⟩ = some (.slice a1 zs'.length c1) := by
      rw [World.cell?_alloc_lt _ _ _ (by simp; omega)]
      exact World.cell?_setCell_same _ _ _ q2
    clear q2 f2 hlt2 hne2
    refine bodyPost_ret (v := .tuple #[.agg #[.slice a1 zs'.length c1], .int .i64 n', .bool t']) ?_ rfl ⟨_, rfl, HS2.out, HD2.out⟩
    simp [results, Tryz.results110, go_sem, *]
end Go.Proofs.YtehhhiodfcdnmaaGreatDoor

namespace Go.Proofs.YtehhhiodfcdnmaaGreatDoor
set_option linter.unusedSimpArgs false
set_option linter.unusedVariables false
open Go.RowKit Go.Sort
theorem repL_mem : ∀ {l : List Slt} {p : Int}, p ∈ repL l → ∃ t ∈ l, t.pt = p
  | t :: r, p, h => by
    rw [repL, List.mem_append] at h
    rcases h with h | h
    · exact ⟨t, List.mem_cons_self, (List.eq_of_mem_replicate h).symm⟩
    · obtain ⟨t', h1, h2⟩ := repL_mem h
      exact ⟨t', List.mem_cons_of_mem _ h1, h2⟩
theorem who_range {S : SysD} (h : chkS S = 0) {tick : Int} (ht : 0 ≤ tick) : 0 ≤ whoS S tick ∧ whoS S tick < S.parts.length := by
  obtain ⟨hok, h1⟩ := slots_ok h
  obtain ⟨x, _, hx, e⟩ := whoS_rep hok h1 ht
  obtain ⟨t, hm, e2⟩ := repL_mem (List.getElem_mem hx)
  rw [e] at e2
  obtain ⟨-, -, -, h4, -⟩ := chkS_zero h
  unfold placesB at h4
  rw [Bool.and_eq_true, Bool.not_eq_true', Bool.not_eq_true', List.any_eq_false, List.any_eq_false] at h4
  have := h4.2 _ hm
  unfold slotBad withinB at this
  simp at this
  omega
theorem doC_want {i : Ins} {inn xs ys : List Int} {c c' : Cel} {x' : Wnt} (h : doC i inn xs c wntZ = some (c', ys, x')) : x' = wntZ ∨ (i.op = 12 ∧ x' = ⟨12, i.n, i.a, 0, c.reg i.a⟩) ∨ (i.op = 13 ∧ x' = ⟨13, i.n, i.a, i.b, 0⟩) := by
  unfold doC at h
  by_cases h1 : i.op = 1
  · rw [if_pos h1] at h; injection h with h; injection h with _ h; injection h with _ h; subst h; exact .inl rfl
  rw [if_neg h1] at h
  by_cases h2 : i.op = 2
  · rw [if_pos h2] at h; injection h with h; injection h with _ h; injection h with _ h; subst h; exact .inl rfl
  rw [if_neg h2] at h
  by_cases h3 : i.op = 3
  · rw [if_pos h3] at h; injection h with h; injection h with _ h; injection h with _ h; subst h; exact .inl rfl
  rw [if_neg h3] at h
  by_cases h4 : i.op = 4
  · rw [if_pos h4] at h; injection h with h; injection h with _ h; injection h with _ h; subst h; exact .inl rfl
  rw [if_neg h4] at h
  by_cases h5 : i.op = 5
  · rw [if_pos h5] at h; injection h with h; injection h with _ h; injection h with _ h; subst h; exact .inl rfl
  rw [if_neg h5] at h
  by_cases h6 : i.op = 6
  · rw [if_pos h6] at h
    by_cases hm : c.reg i.b < 0 ∨ 8 ≤ c.reg i.b
    · rw [if_pos hm] at h; cases h
    · rw [if_neg hm] at h; injection h with h; injection h with _ h; injection h with _ h; subst h; exact .inl rfl
  rw [if_neg h6] at h
  by_cases h7 : i.op = 7
  · rw [if_pos h7] at h
    by_cases hm : c.reg i.b < 0 ∨ 8 ≤ c.reg i.b
    · rw [if_pos hm] at h; cases h
    · rw [if_neg hm] at h; injection h with h; injection h with _ h; injection h with _ h; subst h; exact .inl rfl
  rw [if_neg h7] at h
  by_cases h8 : i.op = 8
  · rw [if_pos h8] at h; injection h with h; injection h with _ h; injection h with _ h; subst h; exact .inl rfl
  rw [if_neg h8] at h
  by_cases h9 : i.op = 9
  · rw [if_pos h9] at h; injection h with h; injection h with _ h; injection h with _ h; subst h; exact .inl rfl
  rw [if_neg h9] at h
  by_cases h10 : i.op = 10
  · rw [if_pos h10] at h; injection h with h; injection h with _ h; injection h with _ h; subst h; exact .inl rfl
  rw [if_neg h10] at h
  by_cases h11 : i.op = 11
  · rw [if_pos h11] at h; injection h with h; injection h with _ h; injection h with _ h; subst h; exact .inl rfl
  rw [if_neg h11] at h
  by_cases h12 : i.op = 12
  · rw [if_pos h12] at h; injection h with h; injection h with _ h; injection h with _ h; subst h; exact .inr (.inl ⟨h12, rfl⟩)
  rw [if_neg h12] at h
  by_cases h13 : i.op = 13
  · rw [if_pos h13] at h; injection h with h; injection h with _ h; injection h with _ h; subst h; exact .inr (.inr ⟨h13, rfl⟩)
  rw [if_neg h13] at h
  by_cases h14 : i.op = 14
  · rw [if_pos h14] at h; injection h with h; injection h with _ h; injection h with _ h; subst h; exact .inl rfl
  rw [if_neg h14] at h
  injection h with h; injection h with _ h; injection h with _ h; subst h; exact .inl rfl
theorem names_at : ∀ {l : List Chn} {ps : List Prt} {k : Nat}, namesFrom l k ps = true → ∀ j (hj : j < ps.length), nameBad l ((k + j : Nat) : Int) ps[j] = false
  | l, p :: r, k, h, 0, _ => by
    rw [namesFrom] at h
    cases hb : nameBad l k p with
    | true => rw [hb] at h; simp at h
    | false => exact hb
  | l, p :: r, k, h, j + 1, hj => by
    rw [namesFrom] at h
    cases hb : nameBad l k p with
    | true => rw [hb] at h; simp at h
    | false =>
      rw [hb] at h
      have := names_at (l := l) (ps := r) (k := k + 1) (by simpa using h) j (by simpa using hj)
      rw [show k + (j + 1) = k + 1 + j by omega]
      exact this
structure WantOk (S : SysD) (x : Wnt) : Prop where
  k : x.k = 12 ∨ x.k = 13
  c0 : 0 ≤ x.ch
  c1 : x.ch < S.chans.length
  r0 : 0 ≤ x.reg
  r1 : x.reg < 4
  f0 : 0 ≤ x.flag
  f1 : x.flag < 4
theorem chan_named {l : List Ins} {i : Ins} (hi : i ∈ l) {op : Int} (ho : i.op = op) (h0 : 0 ≤ i.n) (h5 : i.n ≤ 5) : i.n ∈ chanL l op 6 := by
  obtain ⟨m, hm⟩ := Int.eq_ofNat_of_zero_le h0
  unfold chanL
  rw [List.mem_map]
  refine ⟨m, ?_, by rw [hm]⟩
  rw [List.mem_filter, List.mem_range]
  refine ⟨by omega, ?_⟩
  unfold hasC
  rw [List.any_eq_true]
  exact ⟨i, hi, by simp [ho, hm]⟩
theorem step_want {S : SysD} (h : chkS S = 0) {p : Nat} (hp : p < S.parts.length) {inn xs : List Int} {c : Cel} (h0 : 0 ≤ c.at_) : (stepC S.parts[p].code inn xs c).2.2 = wntZ ∨ WantOk S (stepC S.parts[p].code inn xs c).2.2 := by
  obtain ⟨-, hc, -, -, hn⟩ := chkS_zero h
  have hcode := hc p hp
  have hnb := names_at (l := S.chans) (k := 0) hn p hp
  unfold nameBad at hnb
  rw [Bool.or_eq_false_iff, List.any_eq_false, List.any_eq_false] at hnb
  have hfe : firstE S.parts[p].code = 0 := by
    unfold chkC at hcode
    split at hcode
    · omega
    · exact hcode
  unfold stepC
  split
  · unfold runC
    split
    · exact .inl rfl
    · rename_i i hi
      have hlt : c.at_.toNat < S.parts[p].code.length := (List.getElem?_eq_some_iff.1 hi).1
      have hmem : i ∈ S.parts[p].code := List.mem_of_getElem? hi
      have hck : i.chk = 0 := by
        have := firstE_zero hfe _ hlt
        rw [(List.getElem?_eq_some_iff.1 hi).2] at this
        exact this
      obtain ⟨hop, ⟨ha0, ha1⟩, ⟨hb0, hb1⟩, hj, hch⟩ := chk0 (op := i.op) (a := i.a) (b := i.b) (n := i.n) hck
      cases hd : doC i inn xs c wntZ with
      | none => exact .inl rfl
      | some r =>
        obtain ⟨c', ys, x'⟩ := r
        rcases doC_want hd with e | ⟨ho, e⟩ | ⟨ho, e⟩
        · exact .inl e
        · right
          have hn5 := hch (.inl ho)
          have hb := hnb.1 _ (chan_named hmem ho hn5.1 hn5.2)
          have hl : i.n.toNat < S.chans.length := by
            unfold putBad at hb
            split at hb
            · simp at hb
            · rename_i y hy; exact (List.getElem?_eq_some_iff.1 hy).1
          subst e
          exact ⟨.inl rfl, hn5.1, by simp only [Option.getD_some]; omega, ha0, ha1, Int.le_refl _, by simp only [Option.getD_some]; omega⟩
        · right
          have hn5 := hch (.inr ho)
          have hb := hnb.2 _ (chan_named hmem ho hn5.1 hn5.2)
          have hl : i.n.toNat < S.chans.length := by
            unfold getBad at hb
            split at hb
            · simp at hb
            · rename_i y hy; exact (List.getElem?_eq_some_iff.1 hy).1
          subst e
          exact ⟨.inr rfl, hn5.1, by simp only [Option.getD_some]; omega, ha0, ha1, hb0, hb1⟩
  · exact .inl rfl
end Go.Proofs.YtehhhiodfcdnmaaGreatDoor

namespace Go.Proofs.YtehhhiodfcdnmaaGreatDoor
set_option linter.unusedSimpArgs false
set_option linter.unusedVariables false
open Go.RowKit Go.Sort
def nextC (S : SysD) (D : WldD) : WldD :=
  match S.parts[(whoS S D.tick).toNat]?, D.cells[(whoS S D.tick).toNat]? with
  | some P, some d =>
    if (stepC P.code P.inn d.out d.c).2.2.k = 0 then ⟨D.tick + 1, D.cells.set (whoS S D.tick).toNat ⟨(stepC P.code P.inn d.out d.c).1, (stepC P.code P.inn d.out d.c).2.1⟩, D.lines⟩
    else match S.chans[(stepC P.code P.inn d.out d.c).2.2.ch.toNat]?, D.lines[(stepC P.code P.inn d.out d.c).2.2.ch.toNat]? with
      | some ch, some ln => ⟨D.tick + 1, D.cells.set (whoS S D.tick).toNat ⟨(stepC P.code P.inn d.out d.c).1.replied (stepC P.code P.inn d.out d.c).2.2.k (stepC P.code P.inn d.out d.c).2.2.reg (stepC P.code P.inn d.out d.c).2.2.flag ch.kd (servR ch.kd ln (stepC P.code P.inn d.out d.c).2.2).2.1 (servR ch.kd ln (stepC P.code P.inn d.out d.c).2.2).2.2, (stepC P.code P.inn d.out d.c).2.1⟩, D.lines.set (stepC P.code P.inn d.out d.c).2.2.ch.toNat (servR ch.kd ln (stepC P.code P.inn d.out d.c).2.2).1⟩
      | _, _ => D
  | _, _ => D
structure Nx (X W : World) (ov : Option Value) (g8 g9 : Option Nat) (out : List Int) : Prop where
  d : Below X.heap.size X W
  o : ∀ v, ov = some v → W.ownsRow X.heap.size 3 1 v out.length (ints out)
  g : ∀ g, g8 = some g → Rw W g 35 (celZ.cs (.slice none 0 0)) ∧ X.heap.size ≤ g ∧ ∀ v, ov = some v → v.ownBlock ≠ some g
  h : ∀ g, g9 = some g → Rw W g 124 wntZ.cs ∧ X.heap.size ≤ g ∧ ∀ v, ov = some v → v.ownBlock ≠ some g
  ne : ∀ g g', g8 = some g → g9 = some g' → g ≠ g'
section
variable {X W W' : World} {o : Option Value} {g8 g9 : Option Nat} {out : List Int}
theorem Nx.begin (X : World) (out : List Int) : Nx X X.drew none none none out := ⟨(Below.refl _ _).drew, by simp, by simp, by simp, by simp⟩
theorem Nx.up (h : Nx X W o g8 g9 out) (hb : Below W.heap.size W W') : Nx X W' o g8 g9 out where
  d := h.d.trans (hb.mono h.d.size)
  o := fun v q => own_up (h.o v q) hb (own_lt (h.o v q))
  g := fun g q => ⟨(h.g g q).1.up hb (h.g g q).1.lt, (h.g g q).2⟩
  h := fun g q => ⟨(h.h g q).1.up hb (h.h g q).1.lt, (h.h g q).2⟩
  ne := h.ne
theorem Nx.eight (h : Nx X W o none g9 out) {g : Nat} (hg : g = W.heap.size) : Nx X (W.alloc (.cells (celZ.cs (.slice none 0 0)) 35)) o (some g) g9 out :=
  have k := h.up ((Below.refl _ _).alloc (Nat.le_refl _) (.cells (celZ.cs (.slice none 0 0)) 35))
  ⟨k.d, k.o, fun g' q => by
    injection q with q
    subst q
    exact ⟨Rw.new _ _ _ hg, by rw [hg]; exact h.d.size, fun v q e => by have := own_lt (h.o v q) _ e; omega⟩, k.h, fun a b q q' => by
    injection q with q
    have := (h.h b q').1.lt
    omega⟩
theorem Nx.nine (h : Nx X W o g8 none out) {g : Nat} (hg : g = W.heap.size) : Nx X (W.alloc (.cells wntZ.cs 124)) o g8 (some g) out :=
  have k := h.up ((Below.refl _ _).alloc (Nat.le_refl _) (.cells wntZ.cs 124))
  ⟨k.d, k.o, k.g, fun g' q => by
    injection q with q
    subst q
    exact ⟨Rw.new _ _ _ hg, by rw [hg]; exact h.d.size, fun v q e => by have := own_lt (h.o v q) _ e; omega⟩, fun a b q q' => by
    injection q' with q'
    have := (h.g a q).1.lt
    omega⟩
theorem Nx.call (h : Nx X W none g8 g9 out) {v : Value} (ho : W'.ownsRow W.heap.size 3 1 v out.length (ints out)) (hb : Below W.heap.size W W') : Nx X W' (some v) g8 g9 out :=
  have k := h.up hb
  have hv : ∀ g, v.ownBlock = some g → W.heap.size ≤ g := own_block ho
  ⟨k.d, fun v' q => by injection q with q; subst q; exact own_low ho h.d.size, fun g q => ⟨(k.g g q).1, (k.g g q).2.1, fun v' q' e => by injection q' with q'; subst q'; have := hv g e; have := (h.g g q).1.lt; omega⟩,
    fun g q => ⟨(k.h g q).1, (k.h g q).2.1, fun v' q' e => by injection q' with q'; subst q'; have := hv g e; have := (h.h g q).1.lt; omega⟩, h.ne⟩
structure Nd (X W : World) (g8 g9 : Nat) (c : Cel) (v : Value) (x : Wnt) (out : List Int) : Prop where
  d : Below X.heap.size X W
  r8 : Rw W g8 35 (c.cs v)
  r9 : Rw W g9 124 x.cs
  s : Sl W 1 v out.length (ints out)
  n : ∀ b, v.ownBlock = some b → X.heap.size ≤ b ∧ b < W.heap.size ∧ b ≠ g8 ∧ b ≠ g9
  n8 : X.heap.size ≤ g8
  n9 : X.heap.size ≤ g9
  ne : g8 ≠ g9
theorem Nx.done {v : Value} {a b : Nat} (h : Nx X W (some v) (some a) (some b) out) (c : Cel) (x : Wnt) : Nd X ((W.setRow a (c.cs v)).setRow b x.cs) a b c v x out := by
  have hne := h.ne a b rfl rfl
  obtain ⟨ra, na, ea⟩ := h.g a rfl
  obtain ⟨rb, nb, eb⟩ := h.h b rfl
  have ho := h.o v rfl
  refine ⟨below_row (below_row h.d na _) nb _, (ra.row _).row_other _ hne, Rw.row (rb.row_other _ (Ne.symm hne)) _, ((own_sl ho).row _ (ea v rfl)).row _ (eb v rfl), fun k e => ⟨own_block ho k e, by simpa using own_lt ho k e, fun e' => ea v rfl (e' ▸ e), fun e' => eb v rfl (e' ▸ e)⟩, na, nb, hne⟩
end
end Go.Proofs.YtehhhiodfcdnmaaGreatDoor

namespace Go.Proofs.YtehhhiodfcdnmaaGreatDoor
set_option linter.unusedSimpArgs false
set_option linter.unusedVariables false
open Go.RowKit Go.Sort
section
variable {B G : Nat} {w : World} {vc vl : Value} {cs : List CelD} {ls : List (List Int)}
theorem sl_setCells {w : World} {size : Nat} {v : Value} {n : Nat} {xs : List Value} (h : Sl w size v n xs) {g : Nat} (o : Nat) (us : List Value) (hs : (w.setCells g o us).heap.size = w.heap.size) (hne : v.ownBlock ≠ some g) : Sl (w.setCells g o us) size v n xs := by
  obtain ⟨h1, ao, cap, rfl, h3, h4⟩ := h
  refine ⟨h1, ao, cap, rfl, h3, fun hn => ?_⟩
  obtain ⟨b, off, rfl, hlt, hc⟩ := h4 hn
  refine ⟨b, off, rfl, by rw [hs]; exact hlt, fun j u hj => ?_⟩
  rw [World.cell?_setCells_out g us o w ⟨b, off + j, none⟩ (fun e _ => absurd (congrArg some e) hne)]
  exact hc j u hj
theorem size_setCells : ∀ (us : List Value) (w : World) (g o : Nat), (w.setCells g o us).heap.size = w.heap.size
  | [], _, _, _ => rfl
  | u :: r, w, g, o => by
    rw [World.setCells, size_setCells r _ g (o + 1)]
    exact size_set ..
theorem rw_setCells_same : ∀ (us : List Value) {w : World} {g : Nat} (o : Nat) {t : TypeId} {cs : Array Value}, Rw w g t cs → ∃ cs', Rw (w.setCells g o us) g t cs'
  | [], _, _, _, _, cs, h => ⟨cs, h⟩
  | u :: r, w, g, o, t, cs, h => by
    rw [World.setCells]
    exact rw_setCells_same r (o + 1) (h.set o u)
def NB (B G : Nat) (o : Value) : Prop := ∀ b, o.ownBlock = some b → B ≤ b ∧ b ≠ G
def In2 (B G : Nat) (vc o : Value) : Prop := ∀ b, o.ownBlock = some b → (B ≤ b ∧ b ≠ G) ∧ vc.ownBlock ≠ some b
structure WldN (B G : Nat) (w : World) (vc vl : Value) (cs : List CelD) (ls : List (List Int)) : Prop where
  c : ∃ ps : List (Cel × Value), ps.length = cs.length ∧ Sl w 16 vc cs.length (rowC celC ps) ∧ ∀ k (hk : k < cs.length) (hk' : k < ps.length), ps[k].1 = cs[k].c ∧ Sl w 1 ps[k].2 cs[k].out.length (ints cs[k].out) ∧ In2 B G vc ps[k].2
  l : ∃ vs : List Value, vs.length = ls.length ∧ Sl w 1 vl ls.length vs ∧ ∀ k (hk : k < ls.length) (hk' : k < vs.length), Sl w 1 vs[k] ls[k].length (ints ls[k]) ∧ In2 B G vc vs[k]
  bc : NB B G vc
  bl : In2 B G vc vl
  fz : ∀ g, vc.ownBlock = some g → ∃ cur, Rw w g 35 cur
theorem WldN.wld {D : WldD} (h : WldN B G w vc vl D.cells D.lines) : Wld w vc vl D := by
  obtain ⟨⟨ps, p1, p2, p3⟩, ⟨vs, q1, q2, q3⟩, _, _, _⟩ := h
  exact ⟨⟨ps, p1, p2, fun k hk hk' => ⟨(p3 k hk hk').1, (p3 k hk hk').2.1⟩⟩, ⟨vs, q1, q2, fun k hk hk' => (q3 k hk hk').1⟩⟩
theorem NB.ne {o : Value} (h : NB B G o) {x : Nat} (hx : x < B ∨ x = G) : o.ownBlock ≠ some x := fun e => by
  have := h x e
  omega
theorem In2.ne {o : Value} (h : In2 B G vc o) {x : Nat} (hx : x < B ∨ x = G) : o.ownBlock ≠ some x := fun e => by
  have := (h x e).1
  omega
theorem WldN.set (h : WldN B G w vc vl cs ls) {x : Nat} (hx : x < B ∨ x = G) (i : Nat) (u : Value) : WldN B G (w.setCell ⟨x, i, none⟩ u) vc vl cs ls := by
  obtain ⟨⟨ps, p1, p2, p3⟩, ⟨vs, q1, q2, q3⟩, bc, bl, fz⟩ := h
  exact ⟨⟨ps, p1, p2.set u (bc.ne hx), fun k hk hk' => ⟨(p3 k hk hk').1, (p3 k hk hk').2.1.set u ((p3 k hk hk').2.2.ne hx), (p3 k hk hk').2.2⟩⟩, ⟨vs, q1, q2.set u (bl.ne hx), fun k hk hk' => ⟨(q3 k hk hk').1.set u ((q3 k hk hk').2.ne hx), (q3 k hk hk').2⟩⟩, bc, bl, fun g e => let ⟨c, hc⟩ := fz g e; ⟨c, hc.set_other _ (fun e' => bc.ne hx (e.trans (congrArg some e')))⟩⟩
theorem WldN.row (h : WldN B G w vc vl cs ls) {x : Nat} (hx : x < B ∨ x = G) (u : Array Value) : WldN B G (w.setRow x u) vc vl cs ls := by
  obtain ⟨⟨ps, p1, p2, p3⟩, ⟨vs, q1, q2, q3⟩, bc, bl, fz⟩ := h
  exact ⟨⟨ps, p1, p2.row u (bc.ne hx), fun k hk hk' => ⟨(p3 k hk hk').1, (p3 k hk hk').2.1.row u ((p3 k hk hk').2.2.ne hx), (p3 k hk hk').2.2⟩⟩, ⟨vs, q1, q2.row u (bl.ne hx), fun k hk hk' => ⟨(q3 k hk hk').1.row u ((q3 k hk hk').2.ne hx), (q3 k hk hk').2⟩⟩, bc, bl, fun g e => let ⟨c, hc⟩ := fz g e; ⟨c, hc.row_other _ (fun e' => bc.ne hx (e' ▸ e))⟩⟩
structure NewP (B G : Nat) (w : World) (vc vl : Value) (cs : List CelD) (ls : List (List Int)) : Prop where
  c : ∃ ps : List (Cel × Value), ps.length = cs.length ∧ w.ownsRow B 35 16 vc cs.length (rowC celC ps) ∧ ∀ k (hk : k < cs.length) (hk' : k < ps.length), ps[k].1 = cs[k].c ∧ Sl w 1 ps[k].2 cs[k].out.length (ints cs[k].out) ∧ In2 B G vc ps[k].2
  l : ∃ vs : List Value, vs.length = ls.length ∧ Sl w 1 vl ls.length vs ∧ ∀ k (hk : k < ls.length) (hk' : k < vs.length), Sl w 1 vs[k] ls[k].length (ints ls[k]) ∧ In2 B G vc vs[k]
  bl : In2 B G vc vl
theorem In.in2 {o : Value} (h : In B G w vc vl o) : In2 B G vc o := fun b e => ⟨(h b e).1, (h b e).2.2.1⟩
theorem NewV.newP (h : NewV B G w vc vl cs ls) (gl : vl.ownBlock ≠ some G) : NewP B G w vc vl cs ls := by
  obtain ⟨⟨ps, p1, p2, p3⟩, ⟨vs, q1, q2, q3⟩, a⟩ := h
  exact ⟨⟨ps, p1, p2, fun k hk hk' => ⟨(p3 k hk hk').1, (p3 k hk hk').2.1, (p3 k hk hk').2.2.in2⟩⟩, ⟨vs, q1, own_sl q2, fun k hk hk' => ⟨(q3 k hk hk').1, (q3 k hk hk').2.in2⟩⟩, fun b e => ⟨⟨own_block q2 b e, fun e' => gl (e' ▸ e)⟩, fun e' => a b e' e⟩⟩
theorem NewP.putC (h : NewP B G w vc vl cs ls) (gc : vc.ownBlock ≠ some G) {pn : Nat} (hp : pn < cs.length) (d : CelD) (o : Value) (ho : Sl w 1 o d.out.length (ints d.out)) (hi : In2 B G vc o) :
    ∃ g cap, vc = .slice (some ⟨g, 0, none⟩) cs.length cap ∧ B ≤ g ∧ g < w.heap.size ∧ cs.length ≤ cap ∧ w.there g (pn * 16) 16 ∧ WldN B G (w.setCells g (pn * 16) (d.c.cs o).toList) vc vl (cs.set pn d) ls := by
  obtain ⟨⟨ps, p1, p2, p3⟩, ⟨vs, q1, q2, q3⟩, a⟩ := h
  obtain ⟨hlen, hor⟩ := p2
  have p2' : w.ownsRow B 35 16 vc cs.length (rowC celC ps) := ⟨hlen, hor⟩
  rcases hor with ⟨-, h0⟩ | ⟨g, cap, cur, rfl, hg, hh, hcap, hmax, hsz, htk⟩
  · omega
  have hgl := own_lt p2' g rfl
  have hcs : (d.c.cs o).toList.length = 16 := rfl
  have hcl : celC (d.c, o) = (d.c.cs o).toList := rfl
  generalize (d.c.cs o).toList = L at hcs hcl ⊢
  have hs := size_setCells L w g (pn * 16)
  have hth : w.there g (pn * 16) 16 := fun j hj => by
    refine ⟨?_, frozen_of_row w g _ cur _ hh⟩
    rw [cell_of_row w g _ cur _ _ hh, Array.getElem?_eq_getElem (by rw [hsz]; have : (pn + 1) * 16 ≤ cap * 16 := Nat.mul_le_mul_right 16 (by omega); omega)]
    rfl
  refine ⟨g, cap, rfl, hg, hgl, hcap, hth, ⟨ps.set pn (d.c, o), by simp [p1], ?_, fun k hk hk' => ?_⟩, ⟨vs, q1, sl_setCells q2 _ _ hs (fun e => (a g e).2 rfl), fun k hk hk' => ⟨sl_setCells (q3 k hk hk').1 _ _ hs (fun e => ((q3 k hk hk').2 g e).2 rfl), (q3 k hk hk').2⟩⟩, fun b e => ⟨own_block p2' b e, fun e' => gc (e' ▸ e)⟩, a, fun g' e => by simp [Value.ownBlock] at e; subst e; exact rw_setCells_same L _ hh⟩
  · have hsl := own_sl p2'
    refine ⟨by rw [rowC_len celC_len]; simp [p1], some ⟨g, 0, none⟩, cap, by simp, by simpa using hcap, fun hn => ⟨g, 0, rfl, by rw [hs]; exact hgl, fun j u hj => ?_⟩⟩
    have hjl : j < ps.length * 16 := by
      have := (List.getElem?_eq_some_iff.1 hj).1
      rw [rowC_len celC_len] at this
      simpa using this
    have hk : j / 16 < ps.length := by omega
    have hr : j % 16 < 16 := by omega
    have hjk : j = j / 16 * 16 + j % 16 := by omega
    rw [hjk, rowC_at celC_len _ (j / 16) (j % 16) (by simpa using hk) hr] at hj
    rw [Nat.zero_add]
    by_cases he : pn = j / 16
    · have e1 : (ps.set pn (d.c, o))[j / 16]'(by simpa using hk) = (d.c, o) := by simp [he]
      rw [e1, hcl] at hj
      have := World.cell?_setCells_in g L (pn * 16) w (fun i hi' => (hth i (by omega)).1) (j % 16) (by omega)
      rw [List.getElem?_eq_getElem (by omega)] at hj
      rw [← he] at hjk
      rw [hjk, this]
      exact hj
    · have e1 : (ps.set pn (d.c, o))[j / 16]'(by simpa using hk) = ps[j / 16] := List.getElem_set_ne (by omega) _
      rw [e1, ← rowC_at celC_len ps (j / 16) (j % 16) hk hr, ← hjk] at hj
      rw [World.cell?_setCells_out g L (pn * 16) w ⟨g, j, none⟩ (fun _ _ => by
        rw [hcs]
        rcases Nat.lt_or_ge (j / 16) pn with h1 | h1
        · left; show j < pn * 16; omega
        · right; show pn * 16 + 16 ≤ j; omega)]
      obtain ⟨b, off, cp, e, _, _, hc⟩ := hsl.open (by omega)
      injection e with e _ _
      injection e with e
      injection e with e e2
      subst e e2
      have := hc j u hj
      simpa using this
  · have hk2 : k < cs.length := by simpa using hk
    have hk2' : k < ps.length := by omega
    by_cases he : pn = k
    · subst he
      simp only [List.getElem_set_self]
      exact ⟨trivial, sl_setCells ho _ _ hs (fun e => (hi g e).2 rfl), hi⟩
    · simp only [List.getElem_set_ne he]
      exact ⟨(p3 k hk2 hk2').1, sl_setCells (p3 k hk2 hk2').2.1 _ _ hs (fun e => ((p3 k hk2 hk2').2.2 g e).2 rfl), (p3 k hk2 hk2').2.2⟩
theorem NewV.putL (h : NewV B G w vc vl cs ls) {kn : Nat} (hk : kn < ls.length) (d : List Int) (o : Value) (ho : Sl w 1 o d.length (ints d)) (hi : In2 B G vc o) (hi2 : ∀ b, o.ownBlock = some b → vl.ownBlock ≠ some b) (gl : vl.ownBlock ≠ some G) :
    ∃ g cap, vl = .slice (some ⟨g, 0, none⟩) ls.length cap ∧ B ≤ g ∧ g < w.heap.size ∧ ls.length ≤ cap ∧ (∃ u, w.cell? ⟨g, kn, none⟩ = some u) ∧ w.frozen? ⟨g, kn, none⟩ = false ∧ NewP B G (w.setCell ⟨g, kn, none⟩ o) vc vl cs (ls.set kn d) := by
  obtain ⟨⟨ps, p1, p2, p3⟩, ⟨vs, q1, q2, q3⟩, a⟩ := h
  obtain ⟨hlen, hor⟩ := q2
  have q2' : w.ownsRow B 81 1 vl ls.length vs := ⟨hlen, hor⟩
  rcases hor with ⟨-, h0⟩ | ⟨g, cap, cur, rfl, hg, hh, hcap, hmax, hsz, htk⟩
  · omega
  have hgl := own_lt q2' g rfl
  have hs : (w.setCell ⟨g, kn, none⟩ o).heap.size = w.heap.size := size_set ..
  have hne : ∀ x, In B G w vc (.slice (some ⟨g, 0, none⟩) ls.length cap) x → x.ownBlock ≠ some g := fun x hx e => (hx g e).2.2.2 rfl
  refine ⟨g, cap, rfl, hg, hgl, hcap, ?_, frozen_of_row w g _ cur _ hh, ⟨ps, p1, own_set (a := ⟨g, kn, none⟩) p2 o (fun e => a g e rfl), fun k hk hk' => ⟨(p3 k hk hk').1, (p3 k hk hk').2.1.set o (hne _ (p3 k hk hk').2.2), (p3 k hk hk').2.2.in2⟩⟩, ⟨vs.set kn o, by simp [q1], ?_, fun k hk2 hk' => ?_⟩, fun b e => ⟨⟨own_block q2' b e, fun e' => gl (e' ▸ e)⟩, fun e' => a b e' e⟩⟩
  · rw [cell_of_row w g _ cur _ _ hh]
    exact ⟨_, Array.getElem?_eq_getElem (by omega)⟩
  · refine own_sl (base := B) (e := 81) ⟨by simpa using hlen, .inr ⟨g, cap, cur.setIfInBounds kn o, by simp, hg, heap_setCell_same w g kn cur _ o hh, by simpa using hcap, hmax, by simpa using hsz, ?_⟩⟩
    rw [Array.toList_setIfInBounds, List.length_set, List.take_set, htk]
  · have hk3 : k < ls.length := by simpa using hk2
    have hk3' : k < vs.length := by omega
    by_cases he : kn = k
    · subst he
      simp only [List.getElem_set_self]
      exact ⟨ho.set o (fun e => hi2 g e rfl), hi⟩
    · simp only [List.getElem_set_ne he]
      exact ⟨(q3 k hk3 hk3').1.set o (hne _ (q3 k hk3 hk3').2), (q3 k hk3 hk3').2.in2⟩
end
def NF (B : Nat) (v : Value) : Prop := ∀ b, v.ownBlock = some b → B ≤ b
def NS (B : Nat) (vc o : Value) : Prop := ∀ b, o.ownBlock = some b → B ≤ b ∧ vc.ownBlock ≠ some b
structure WldF (B : Nat) (w : World) (vc vl : Value) (D : WldD) : Prop where
  c : ∃ ps : List (Cel × Value), ps.length = D.cells.length ∧ Sl w 16 vc D.cells.length (rowC celC ps) ∧ ∀ k (hk : k < D.cells.length) (hk' : k < ps.length), ps[k].1 = D.cells[k].c ∧ Sl w 1 ps[k].2 D.cells[k].out.length (ints D.cells[k].out) ∧ NS B vc ps[k].2
  l : ∃ vs : List Value, vs.length = D.lines.length ∧ Sl w 1 vl D.lines.length vs ∧ ∀ k (hk : k < D.lines.length) (hk' : k < vs.length), Sl w 1 vs[k] D.lines[k].length (ints D.lines[k]) ∧ NS B vc vs[k]
  bc : NF B vc
  bl : NS B vc vl
  fz : ∀ g, vc.ownBlock = some g → ∃ cur, Rw w g 35 cur
theorem WldF.wld {B : Nat} {w : World} {vc vl : Value} {D : WldD} (h : WldF B w vc vl D) : Wld w vc vl D := by
  obtain ⟨⟨ps, p1, p2, p3⟩, ⟨vs, q1, q2, q3⟩, _, _, _⟩ := h
  exact ⟨⟨ps, p1, p2, fun k hk hk' => ⟨(p3 k hk hk').1, (p3 k hk hk').2.1⟩⟩, ⟨vs, q1, q2, fun k hk hk' => (q3 k hk hk').1⟩⟩
theorem NF.ne {B : Nat} {o : Value} (h : NF B o) {x : Nat} (hx : x < B) : o.ownBlock ≠ some x := fun e => by
  have := h x e
  omega
theorem NS.ne {B : Nat} {vc o : Value} (h : NS B vc o) {x : Nat} (hx : x < B) : o.ownBlock ≠ some x := fun e => by
  have := (h x e).1
  omega
theorem WldF.row {B : Nat} {w : World} {vc vl : Value} {D : WldD} (h : WldF B w vc vl D) {x : Nat} (hx : x < B) (u : Array Value) : WldF B (w.setRow x u) vc vl D := by
  obtain ⟨⟨ps, p1, p2, p3⟩, ⟨vs, q1, q2, q3⟩, bc, bl, fz⟩ := h
  exact ⟨⟨ps, p1, p2.row u (bc.ne hx), fun k hk hk' => ⟨(p3 k hk hk').1, (p3 k hk hk').2.1.row u ((p3 k hk hk').2.2.ne hx), (p3 k hk hk').2.2⟩⟩, ⟨vs, q1, q2.row u (bl.ne hx), fun k hk hk' => ⟨(q3 k hk hk').1.row u ((q3 k hk hk').2.ne hx), (q3 k hk hk').2⟩⟩, bc, bl, fun g e => let ⟨c, hc⟩ := fz g e; ⟨c, hc.row_other _ (fun e' => bc.ne hx (e' ▸ e))⟩⟩
theorem WldF.up {B : Nat} {w w' : World} {vc vl : Value} {D : WldD} (h : WldF B w vc vl D) (hb : Below w.heap.size w w') : WldF B w' vc vl D := by
  obtain ⟨⟨ps, p1, p2, p3⟩, ⟨vs, q1, q2, q3⟩, bc, bl, fz⟩ := h
  exact ⟨⟨ps, p1, p2.up hb, fun k hk hk' => ⟨(p3 k hk hk').1, (p3 k hk hk').2.1.up hb, (p3 k hk hk').2.2⟩⟩, ⟨vs, q1, q2.up hb, fun k hk hk' => ⟨(q3 k hk hk').1.up hb, (q3 k hk hk').2⟩⟩, bc, bl, fun g e => let ⟨c, hc⟩ := fz g e; ⟨c, hc.up hb hc.lt⟩⟩
theorem WldF.low {B B' : Nat} {w : World} {vc vl : Value} {D : WldD} (h : WldF B w vc vl D) (hb : B' ≤ B) : WldF B' w vc vl D := by
  obtain ⟨⟨ps, p1, p2, p3⟩, ⟨vs, q1, q2, q3⟩, bc, bl, fz⟩ := h
  have low : ∀ o, NS B vc o → NS B' vc o := fun o h b e => ⟨Nat.le_trans hb (h b e).1, (h b e).2⟩
  exact ⟨⟨ps, p1, p2, fun k hk hk' => ⟨(p3 k hk hk').1, (p3 k hk hk').2.1, low _ (p3 k hk hk').2.2⟩⟩, ⟨vs, q1, q2, fun k hk hk' => ⟨(q3 k hk hk').1, low _ (q3 k hk hk').2⟩⟩, fun b e => Nat.le_trans hb (bc b e), low _ bl, fz⟩
theorem WldN.f {B G B' : Nat} {w : World} {vc vl : Value} {D : WldD} (h : WldN B G w vc vl D.cells D.lines) (hb : B' ≤ B) : WldF B' w vc vl D := by
  obtain ⟨⟨ps, p1, p2, p3⟩, ⟨vs, q1, q2, q3⟩, bc, bl, fz⟩ := h
  have low : ∀ o, In2 B G vc o → NS B' vc o := fun o h b e => ⟨Nat.le_trans hb (h b e).1.1, (h b e).2⟩
  exact ⟨⟨ps, p1, p2, fun k hk hk' => ⟨(p3 k hk hk').1, (p3 k hk hk').2.1, low _ (p3 k hk hk').2.2⟩⟩, ⟨vs, q1, q2, fun k hk hk' => ⟨(q3 k hk hk').1, low _ (q3 k hk hk').2⟩⟩, fun b e => Nat.le_trans hb (bc b e).1, low _ bl, fz⟩
end Go.Proofs.YtehhhiodfcdnmaaGreatDoor

namespace Go.Proofs.YtehhhiodfcdnmaaGreatDoor
set_option linter.unusedSimpArgs false
set_option linter.unusedVariables false
open Go.RowKit Go.Sort
theorem setReg_at (c : Cel) (k v : Int) : (c.setReg k v).at_ = c.at_ := by unfold Cel.setReg; split <;> (try split) <;> (try split) <;> rfl
theorem setReg_read (c : Cel) (k v : Int) : (c.setReg k v).read = c.read := by unfold Cel.setReg; split <;> (try split) <;> (try split) <;> rfl
theorem setReg_en (c : Cel) (k v : Int) : (c.setReg k v).en = c.en := by unfold Cel.setReg; split <;> (try split) <;> (try split) <;> rfl
theorem setMem_read (c : Cel) (k v : Int) : (c.setMem k v).read = c.read := by unfold Cel.setMem; repeat' (first | rfl | split)
theorem setMem_en (c : Cel) (k v : Int) : (c.setMem k v).en = c.en := by unfold Cel.setMem; repeat' (first | rfl | split)
theorem tellL_take (xs : List Int) (n : Int) : (tellL xs n).take xs.length = xs ∧ xs.length ≤ (tellL xs n).length ∧ (xs.length ≤ 16 → (tellL xs n).length ≤ 16) := by
  unfold tellL
  split
  · simp; omega
  · simp
structure Goes (inn xs : List Int) (c c' : Cel) (ys : List Int) : Prop where
  at0 : 0 ≤ c'.at_
  at1 : c'.at_ ≤ 20
  en0 : 0 ≤ c'.en
  en1 : c'.en ≤ 2
  rd0 : c.read ≤ c'.read
  rd1 : c'.read ≤ c.read + 1
  rd2 : c'.read ≤ inn.length
  out : ys.take xs.length = xs
  len : xs.length ≤ ys.length
  len2 : ys.length ≤ 16
theorem takeC_read (c : Cel) (n : Nat) (h : c.read ≤ n) : c.read ≤ (takeC c n).read ∧ (takeC c n).read ≤ c.read + 1 ∧ (takeC c n).read ≤ n := by
  unfold takeC
  split
  · simp; omega
  · omega
theorem takeC_en (c : Cel) (n : Nat) : (takeC c n).en = c.en := by unfold takeC; split <;> rfl
theorem doC_goes {i : Ins} (hi : i.chk = 0) {inn xs ys : List Int} {c c' : Cel} {x x' : Wnt} (h : doC i inn xs c x = some (c', ys, x')) (h0 : 0 ≤ c.at_) (h1 : c.at_ < 20) (h2 : 0 ≤ c.en) (h3 : c.en ≤ 2) (h4 : c.read ≤ inn.length) (h5 : xs.length ≤ 16) : Goes inn xs c c' ys := by
  obtain ⟨hop, ⟨ha0, ha1⟩, ⟨hb0, hb1⟩, hj, hch⟩ := chk0 (op := i.op) (a := i.a) (b := i.b) (n := i.n) hi
  have ht := tellL_take xs (c.reg i.a)
  have hk := takeC_read c inn.length h4
  have hx : xs.take xs.length = xs := List.take_of_length_le (Nat.le_refl _)
  unfold doC at h
  by_cases o1 : i.op = 1
  · rw [if_pos o1] at h; injection h with h; injection h with ha h; injection h with hb hc; subst ha hb hc
    exact ⟨by simp only []; omega, by simp only []; omega, by simp only [setReg_en, setMem_en, takeC_en]; omega, by simp only [setReg_en, setMem_en, takeC_en]; omega, by simp only [setReg_read, setMem_read]; omega, by simp only [setReg_read, setMem_read]; omega, by simp only [setReg_read, setMem_read]; omega, hx, Nat.le_refl _, h5⟩
  rw [if_neg o1] at h
  by_cases o2 : i.op = 2
  · rw [if_pos o2] at h; injection h with h; injection h with ha h; injection h with hb hc; subst ha hb hc
    exact ⟨by simp only []; omega, by simp only []; omega, by simp only [setReg_en, setMem_en, takeC_en]; omega, by simp only [setReg_en, setMem_en, takeC_en]; omega, by simp only [setReg_read, setMem_read]; omega, by simp only [setReg_read, setMem_read]; omega, by simp only [setReg_read, setMem_read]; omega, hx, Nat.le_refl _, h5⟩
  rw [if_neg o2] at h
  by_cases o3 : i.op = 3
  · rw [if_pos o3] at h; injection h with h; injection h with ha h; injection h with hb hc; subst ha hb hc
    exact ⟨by simp only []; omega, by simp only []; omega, by simp only [setReg_en, setMem_en, takeC_en]; omega, by simp only [setReg_en, setMem_en, takeC_en]; omega, by simp only [setReg_read, setMem_read]; omega, by simp only [setReg_read, setMem_read]; omega, by simp only [setReg_read, setMem_read]; omega, hx, Nat.le_refl _, h5⟩
  rw [if_neg o3] at h
  by_cases o4 : i.op = 4
  · rw [if_pos o4] at h; injection h with h; injection h with ha h; injection h with hb hc; subst ha hb hc
    exact ⟨by simp only []; omega, by simp only []; omega, by simp only [setReg_en, setMem_en, takeC_en]; omega, by simp only [setReg_en, setMem_en, takeC_en]; omega, by simp only [setReg_read, setMem_read]; omega, by simp only [setReg_read, setMem_read]; omega, by simp only [setReg_read, setMem_read]; omega, hx, Nat.le_refl _, h5⟩
  rw [if_neg o4] at h
  by_cases o5 : i.op = 5
  · rw [if_pos o5] at h; injection h with h; injection h with ha h; injection h with hb hc; subst ha hb hc
    exact ⟨by simp only []; omega, by simp only []; omega, by simp only [setReg_en, setMem_en, takeC_en]; omega, by simp only [setReg_en, setMem_en, takeC_en]; omega, by simp only [setReg_read, setMem_read]; omega, by simp only [setReg_read, setMem_read]; omega, by simp only [setReg_read, setMem_read]; omega, hx, Nat.le_refl _, h5⟩
  rw [if_neg o5] at h
  by_cases o6 : i.op = 6
  · rw [if_pos o6] at h
    by_cases hm : c.reg i.b < 0 ∨ 8 ≤ c.reg i.b
    · rw [if_pos hm] at h; cases h
    · rw [if_neg hm] at h; injection h with h; injection h with ha h; injection h with hb hc; subst ha hb hc
      exact ⟨by simp only []; omega, by simp only []; omega, by simp only [setReg_en, setMem_en, takeC_en]; omega, by simp only [setReg_en, setMem_en, takeC_en]; omega, by simp only [setReg_read, setMem_read]; omega, by simp only [setReg_read, setMem_read]; omega, by simp only [setReg_read, setMem_read]; omega, hx, Nat.le_refl _, h5⟩
  rw [if_neg o6] at h
  by_cases o7 : i.op = 7
  · rw [if_pos o7] at h
    by_cases hm : c.reg i.b < 0 ∨ 8 ≤ c.reg i.b
    · rw [if_pos hm] at h; cases h
    · rw [if_neg hm] at h; injection h with h; injection h with ha h; injection h with hb hc; subst ha hb hc
      exact ⟨by simp only []; omega, by simp only []; omega, by simp only [setReg_en, setMem_en, takeC_en]; omega, by simp only [setReg_en, setMem_en, takeC_en]; omega, by simp only [setReg_read, setMem_read]; omega, by simp only [setReg_read, setMem_read]; omega, by simp only [setReg_read, setMem_read]; omega, hx, Nat.le_refl _, h5⟩
  rw [if_neg o7] at h
  by_cases o8 : i.op = 8
  · rw [if_pos o8] at h; injection h with h; injection h with ha h; injection h with hb hc; subst ha hb hc
    have := hj (.inl o8)
    exact ⟨by simp only []; omega, by simp only []; omega, by simp only [setReg_en, setMem_en, takeC_en]; omega, by simp only [setReg_en, setMem_en, takeC_en]; omega, by simp only [setReg_read, setMem_read]; omega, by simp only [setReg_read, setMem_read]; omega, by simp only [setReg_read, setMem_read]; omega, hx, Nat.le_refl _, h5⟩
  rw [if_neg o8] at h
  by_cases o9 : i.op = 9
  · rw [if_pos o9] at h; injection h with h; injection h with ha h; injection h with hb hc; subst ha hb hc
    have := hj (.inr o9)
    by_cases hz : c.reg i.a = 0
    · exact ⟨by simp only [hz, if_true]; omega, by simp only [hz, if_true]; omega, by simp only []; omega, by simp only []; omega, by simp only []; omega, by simp only []; omega, by simp only []; omega, hx, Nat.le_refl _, h5⟩
    · exact ⟨by simp only [hz, if_false]; omega, by simp only [hz, if_false]; omega, by simp only []; omega, by simp only []; omega, by simp only []; omega, by simp only []; omega, by simp only []; omega, hx, Nat.le_refl _, h5⟩
  rw [if_neg o9] at h
  by_cases o10 : i.op = 10
  · rw [if_pos o10] at h; injection h with h; injection h with ha h; injection h with hb hc; subst ha hb hc
    exact ⟨by simp only []; omega, by simp only []; omega, by simp only [setReg_en, setMem_en, takeC_en]; omega, by simp only [setReg_en, setMem_en, takeC_en]; omega, by simp only [setReg_read, setMem_read]; omega, by simp only [setReg_read, setMem_read]; omega, by simp only [setReg_read, setMem_read]; omega, hx, Nat.le_refl _, h5⟩
  rw [if_neg o10] at h
  by_cases o11 : i.op = 11
  · rw [if_pos o11] at h; injection h with h; injection h with ha h; injection h with hb hc; subst ha hb hc
    exact ⟨by simp only []; omega, by simp only []; omega, by simp only [setReg_en, setMem_en, takeC_en]; omega, by simp only [setReg_en, setMem_en, takeC_en]; omega, by simp only [setReg_read, setMem_read]; omega, by simp only [setReg_read, setMem_read]; omega, by simp only [setReg_read, setMem_read]; omega, ht.1, ht.2.1, ht.2.2 h5⟩
  rw [if_neg o11] at h
  by_cases o12 : i.op = 12
  · rw [if_pos o12] at h; injection h with h; injection h with ha h; injection h with hb hc; subst ha hb hc
    exact ⟨by simp only []; omega, by simp only []; omega, by simp only [setReg_en, setMem_en, takeC_en]; omega, by simp only [setReg_en, setMem_en, takeC_en]; omega, by simp only [setReg_read, setMem_read]; omega, by simp only [setReg_read, setMem_read]; omega, by simp only [setReg_read, setMem_read]; omega, hx, Nat.le_refl _, h5⟩
  rw [if_neg o12] at h
  by_cases o13 : i.op = 13
  · rw [if_pos o13] at h; injection h with h; injection h with ha h; injection h with hb hc; subst ha hb hc
    exact ⟨by simp only []; omega, by simp only []; omega, by simp only [setReg_en, setMem_en, takeC_en]; omega, by simp only [setReg_en, setMem_en, takeC_en]; omega, by simp only [setReg_read, setMem_read]; omega, by simp only [setReg_read, setMem_read]; omega, by simp only [setReg_read, setMem_read]; omega, hx, Nat.le_refl _, h5⟩
  rw [if_neg o13] at h
  by_cases o14 : i.op = 14
  · rw [if_pos o14] at h; injection h with h; injection h with ha h; injection h with hb hc; subst ha hb hc
    exact ⟨by simp only []; omega, by simp only []; omega, by simp only [setReg_en, setMem_en, takeC_en]; omega, by simp only [setReg_en, setMem_en, takeC_en]; omega, by simp only [setReg_read, setMem_read]; omega, by simp only [setReg_read, setMem_read]; omega, by simp only [setReg_read, setMem_read]; omega, hx, Nat.le_refl _, h5⟩
  rw [if_neg o14] at h
  injection h with h; injection h with ha h; injection h with hb hc; subst ha hb hc
  exact ⟨by simp only []; omega, by simp only []; omega, by simp only [setReg_en, setMem_en, takeC_en]; omega, by simp only [setReg_en, setMem_en, takeC_en]; omega, by simp only [setReg_read, setMem_read]; omega, by simp only [setReg_read, setMem_read]; omega, by simp only [setReg_read, setMem_read]; omega, hx, Nat.le_refl _, h5⟩
theorem stepC_goes {l : List Ins} (hl : chkC l = 0) {inn xs : List Int} {c : Cel} (hf : c.fine xs.length = true) (hr : c.read ≤ inn.length) : Goes inn xs c (stepC l inn xs c).1 (stepC l inn xs c).2.1 := by
  obtain ⟨f0, f1, f2, f3, f4, f5, f6⟩ := (fine_iff c _).1 hf
  have hx : xs.take xs.length = xs := List.take_of_length_le (Nat.le_refl _)
  have hn : l.length ≤ 20 ∧ firstE l = 0 := by
    unfold chkC at hl
    split at hl
    · omega
    · exact ⟨by omega, hl⟩
  unfold stepC
  split
  · unfold runC
    split
    · exact ⟨f0, f1, (show (0 : Int) ≤ 2 by decide), (show (2 : Int) ≤ 2 by decide), Int.le_refl _, by simp only []; omega, hr, hx, Nat.le_refl _, f6⟩
    · rename_i i hi
      have hlt : c.at_.toNat < l.length := (List.getElem?_eq_some_iff.1 hi).1
      have hck : i.chk = 0 := by
        have := firstE_zero hn.2 _ hlt
        rw [(List.getElem?_eq_some_iff.1 hi).2] at this
        exact this
      cases h : doC i inn xs c wntZ with
      | none => exact ⟨f0, f1, (show (0 : Int) ≤ 2 by decide), (show (2 : Int) ≤ 2 by decide), Int.le_refl _, by simp only [Option.getD_none]; omega, hr, hx, Nat.le_refl _, f6⟩
      | some r =>
        obtain ⟨c', ys, x'⟩ := r
        exact doC_goes hck h f0 (by omega) f4 f5 hr f6
  · exact ⟨f0, f1, f4, f5, Int.le_refl _, by simp only []; omega, hr, hx, Nat.le_refl _, f6⟩
theorem Goes.fine {inn xs : List Int} {c c' : Cel} {ys : List Int} (h : Goes inn xs c c' ys) (h0 : 0 ≤ c.read) (hi : inn.length ≤ 12) : c'.fine ys.length = true :=
  (fine_iff _ _).2 ⟨h.at0, h.at1, by have := h.rd0; omega, by have := h.rd2; omega, h.en0, h.en1, h.len2⟩
end Go.Proofs.YtehhhiodfcdnmaaGreatDoor
