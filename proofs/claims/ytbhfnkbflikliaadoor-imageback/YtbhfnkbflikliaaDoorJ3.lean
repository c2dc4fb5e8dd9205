/- conf.names, conf.Check. -/
import Derived.Test.YtbhfnkbflikliaaDoorJ2
import Derived.Test.YtbhfnkbflikliaaDoorJ1
import Derived.Deep.CutRange
import Derived.Defers
import Derived.Recover
import Derived.Shelf.RegionOpenPlain
import Derived.Lib.Builder
import Derived.Lib.UnsafeStr
import Derived.Lib.AppendStr
import Derived.Laws.Externs
import Derived.Deep.RegionWith
namespace Go.Proofs.YtbhfnkbflikliaaDoor
set_option linter.unusedSimpArgs false
set_option linter.unusedVariables false
open Go.RowKit Go.Sort
theorem chanL_nat {l : List Ins} {op : Int} {m k : Nat} (h : k < (chanL l op m).length) : ∃ c : Nat, (chanL l op m)[k] = (c : Int) ∧ c < m := by
  have hm := List.getElem_mem h
  unfold chanL at hm
  obtain ⟨c, hc, e⟩ := List.mem_map.1 hm
  exact ⟨c, e.symm, by simpa using (List.mem_filter.1 hc).1⟩
theorem namesFrom_at (l : List Chn) : ∀ (ps : List Prt) (k j : Nat) (h : j < ps.length), nameBad l ((k + j : Nat) : Int) ps[j] = true → namesFrom l k ps = false
  | p :: r, k, 0, _, hb => by
    rw [namesFrom, if_pos (by simpa using hb)]
  | p :: r, k, j + 1, h, hb => by
    rw [namesFrom]
    split
    · rfl
    · exact namesFrom_at l r (k + 1) j (by simpa using h) (by rw [show k + 1 + j = k + (j + 1) by omega]; simpa using hb)
theorem namesFrom_all (l : List Chn) : ∀ (ps : List Prt) (k : Nat), (∀ j (h : j < ps.length), nameBad l ((k + j : Nat) : Int) ps[j] = false) → namesFrom l k ps = true
  | [], _, _ => rfl
  | p :: r, k, hz => by
    rw [namesFrom, if_neg (by have := hz 0 (by simp); simpa using this)]
    exact namesFrom_all l r (k + 1) (fun j h => by rw [show k + 1 + j = k + (j + 1) by omega]; have := hz (j + 1) (by simpa using h); simpa using this)
set_option maxHeartbeats 2000000 in
theorem names_any (S : SysD) (vp vc vs : Value) (w : World) (he : Env w) (hS : Sys w vp vc vs S) (hc : countsB S = true) (hp : firstP S.parts = 0) : Calls Tryd.prog 30 #[.agg #[vp, vc, vs]] w fun e w' => e = .returned (.bool (namesB S)) ∧ Below w.heap.size w w' := by
  have hn : 1 ≤ S.parts.length ∧ S.parts.length ≤ 4 ∧ S.chans.length ≤ 6 := by unfold countsB at hc; simp at hc; omega
  obtain ⟨hn0, hn1, hn2⟩ := hn
  obtain ⟨pb, po, pc, rfl, hpc, hpb, hpp⟩ := hS.p.open (by omega)
  obtain ⟨ca, cc, rfl⟩ := hS.c.form
  obtain ⟨sa, sc, rfl⟩ := hS.s.form
  have HS := Lib.hid hS
  have HP := Lib.hid hpp
  have HZ := Lib.hid (firstP_zero hp)
  generalize hr : namesB S = r
  have HR := Lib.hid hr
  clear hS hpp hp hr hc
  go_enter Tryd.func30, Tryd.ntmps30
  go_wp2
  go_loopw [12] (fun i wr => ∃ k : Nat, i = .int .i64 k ∧ k ≤ S.parts.length ∧ Hid (∀ j (h : j < S.parts.length), j < k → nameBad S.chans (j : Int) S.parts[j] = false) ∧ Hid (Box wr w.heap.size (.slice (some ⟨pb, po, none⟩) S.parts.length pc) (.slice ca S.chans.length cc) (.slice sa S.slots.length sc)) ∧ Hid (Below w.heap.size w wr)) (fun i _ => S.parts.length - (intOf i).toNat)
  case atStart => exact ⟨0, rfl, Nat.zero_le _, fun j hj h => by omega, box_new w _ _ _ _ _ rfl, (by repeat (first | exact Below.refl _ _ | assumption | refine Below.drew ?_ | refine Below.alloc ?_ (by first | (simp; done) | (simp; omega)) _ | refine Below.setCell ?_ (by first | (simp; done) | (simp; omega)) _))⟩
  case round =>
    obtain ⟨k, rfl, hk, HN, HB, hbel⟩ := hrel
    by_cases hlt : k < S.parts.length
    · have hli : (k : Int) < S.parts.length := by omega
      obtain ⟨c, i, c0, c1, hpr⟩ := HP.out k hlt
      obtain ⟨a1, b1, rfl⟩ := hpr.code.form
      obtain ⟨a2, b2, rfl⟩ := hpr.inn.form
      have c0 := bcl hbel.out hpb c0
      have c1 := bcl hbel.out hpb c1
      have HPR := Lib.hid hpr
      have hcz := HZ.out k hlt
      have HCZ := Lib.hid hcz
      clear hpr hcz
      have hbs := hbel.out.size
      generalize hq1 : (chanL S.parts[k].code 12 6).any (putBad S.chans (k : Int)) = q1
      generalize hq2 : (chanL S.parts[k].code 13 6).any (getBad S.chans (k : Int)) = q2
      have H1 := Lib.hid hq1
      have H2 := Lib.hid hq2
      have HNB : Hid (nameBad S.chans (k : Int) S.parts[k] = (q1 || q2)) := by show nameBad _ _ _ = _; unfold nameBad; rw [hq1, hq2]
      clear hq1 hq2
      have e0 := he.up hbel.out
      go_wp2_with fail
      refine (puts_yes S.parts[k].code _ _ (e0.up (by repeat (first | exact Below.refl _ _ | assumption | refine Below.drew ?_ | refine Below.alloc ?_ (by first | (simp; done) | (simp; omega)) _ | refine Below.setCell ?_ (by first | (simp; done) | (simp; omega)) _))) ((HPR.out.code.up hbel.out).up (by repeat (first | exact Below.refl _ _ | assumption | refine Below.drew ?_ | refine Below.alloc ?_ (by first | (simp; done) | (simp; omega)) _ | refine Below.setCell ?_ (by first | (simp; done) | (simp; omega)) _))) HCZ.out).mono ?_
      rintro e w1 ⟨v1, rfl, s1, bb⟩
      obtain ⟨v1a, v1c, rfl⟩ := s1.form
      have D : Below wr.heap.size wr w1 := Below.trans (by repeat (first | exact Below.refl _ _ | assumption | refine Below.drew ?_ | refine Below.alloc ?_ (by first | (simp; done) | (simp; omega)) _ | refine Below.setCell ?_ (by first | (simp; done) | (simp; omega)) _)) (bb.mono (by simp; omega))
      have m0 : w1.cell? ⟨wr.heap.size, 0, none⟩ = some (.int .i64 k) := bcl bb (by simp; omega) (cl_alloc _ (by simp) (by simp))
      have p0 : w1.cell? ⟨wr.heap.size + 1, 0, none⟩ = some (.slice a1 S.parts[k].code.length b1) := bcl bb (by simp) (by simp)
      have z1 : wr.heap.size + 1 < w1.heap.size := by have := bb.size; simp at this; omega
      have HD := Lib.hid D
      have M0 := Lib.hid m0
      have S1 := Lib.hid s1
      clear bb D s1 m0 c0 c1
      go_wp2_with fail
      refine (oneInt_any _ _ _ enNames1 _ (putBad S.chans (k : Int)) _ S1.out (Nat.le_trans (chanL_len _ _ _) (by decide)) (fun j hj w2 hb => ?_) q1 H1.out).mono ?_
      · obtain ⟨c, e, hc6⟩ := chanL_nat hj
        rw [e, app2]
        exact putLit_any c S.chans k _ _ _ _ _ _ ((HB.out.up HD.out).up hb) (bcl hb (by omega) M0.out) (((HS.out.c.up hbel.out).up HD.out).up hb) hc6
      rintro e w2 ⟨rfl, bb⟩
      have p0 : w2.cell? ⟨wr.heap.size + 1, 0, none⟩ = some (.slice a1 S.parts[k].code.length b1) := bcl bb z1 p0
      have M0 := Lib.hid (bcl bb (by omega) M0.out)
      have HD := Lib.hid (HD.out.trans (bb.mono HD.out.size))
      have z1 : wr.heap.size + 1 < w2.heap.size := by have := bb.size; omega
      clear bb S1
      cases q1
      · go_wp2_with fail
        refine (gets_yes S.parts[k].code _ _ (e0.up HD.out) ((HPR.out.code.up hbel.out).up HD.out) HCZ.out).mono ?_
        rintro e w3 ⟨v2, rfl, s2, bb⟩
        obtain ⟨v2a, v2c, rfl⟩ := s2.form
        have M0 := Lib.hid (bcl bb (by omega) M0.out)
        have HD := Lib.hid (HD.out.trans (bb.mono HD.out.size))
        have z1 : wr.heap.size + 1 < w3.heap.size := by have := bb.size; omega
        have S2 := Lib.hid s2
        clear bb s2 p0
        go_wp2_with fail
        refine (oneInt_any _ _ _ enNames2 _ (getBad S.chans (k : Int)) _ S2.out (Nat.le_trans (chanL_len _ _ _) (by decide)) (fun j hj w2 hb => ?_) q2 H2.out).mono ?_
        · obtain ⟨c, e, hc6⟩ := chanL_nat hj
          rw [e, app2]
          exact getLit_any c S.chans k _ _ _ _ _ _ ((HB.out.up HD.out).up hb) (bcl hb (by omega) M0.out) (((HS.out.c.up hbel.out).up HD.out).up hb) hc6
        rintro e w4 ⟨rfl, bb⟩
        have HD := Lib.hid (HD.out.trans (bb.mono HD.out.size))
        have HW := Lib.hid (hbel.out.trans (HD.out.mono hbs))
        clear bb S2
        cases q2
        · have HBB := Lib.hid (HB.out.up HD.out)
          go_wp2
          go_roundw
          case rel => exact ⟨k + 1, by go_num, by omega, (fun j hj hjk => by
            by_cases e : j = k
            · subst e; exact HNB.out
            · exact HN.out j hj (by omega)), HBB, HW⟩
          case measure => simp [intOf]; omega
        · have HF := Lib.hid (namesFrom_at S.chans S.parts 0 k hlt (by rw [Nat.zero_add]; exact HNB.out))
          go_wp2
          go_ret
          exact ⟨ret_bool (by rw [← HR.out]; exact HF.out.symm), HW.out⟩
      · have HW := Lib.hid (hbel.out.trans (HD.out.mono hbs))
        have HF := Lib.hid (namesFrom_at S.chans S.parts 0 k hlt (by rw [Nat.zero_add]; exact HNB.out))
        go_wp2
        go_ret
        exact ⟨ret_bool (by rw [← HR.out]; exact HF.out.symm), HW.out⟩
    · have hli : ¬ (k : Int) < S.parts.length := by omega
      have HF := Lib.hid (namesFrom_all S.chans S.parts 0 (fun j hj => by rw [Nat.zero_add]; exact HN.out j hj (by omega)))
      go_wp2
      go_ret
      exact ⟨ret_bool (by rw [← HR.out]; exact HF.out.symm), hbel.out⟩
end Go.Proofs.YtbhfnkbflikliaaDoor

namespace Go.Proofs.YtbhfnkbflikliaaDoor
set_option linter.unusedSimpArgs false
set_option linter.unusedVariables false
open Go.RowKit Go.Sort
set_option maxHeartbeats 2000000 in
theorem confCheck_any (S : SysD) (vp vc vs : Value) (w : World) (he : Env w) (hS : Sys w vp vc vs S) : Calls Tryd.prog 12 #[.agg #[vp, vc, vs]] w fun e w' => e = .returned (.int .i64 (chkS S)) ∧ Below w.heap.size w w' := by
  generalize hr : chkS S = r
  unfold chkS at hr
  obtain ⟨pa, pc, rfl⟩ := hS.p.form
  obtain ⟨ca, cc, rfl⟩ := hS.c.form
  obtain ⟨sa, sc, rfl⟩ := hS.s.form
  have HS := Lib.hid hS
  generalize hc : countsB S = qc at hr
  have HC := Lib.hid hc
  clear hS
  cases qc
  · obtain rfl : 2 = r := hr
    clear hc
    go_enter Tryd.func12, Tryd.ntmps12
    go_wp2_with fail
    refine (counts_any S _ _ _ _ (HS.out.up (by repeat (first | exact Below.refl _ _ | assumption | refine Below.drew ?_ | refine Below.alloc ?_ (by first | (simp; done) | (simp; omega)) _ | refine Below.setCell ?_ (by first | (simp; done) | (simp; omega)) _)))).mono ?_
    rw [HC.out]
    rintro e w1 ⟨rfl, bb⟩
    have D := Lib.hid (Below.trans (show Below w.heap.size w _ from (by repeat (first | exact Below.refl _ _ | assumption | refine Below.drew ?_ | refine Below.alloc ?_ (by first | (simp; done) | (simp; omega)) _ | refine Below.setCell ?_ (by first | (simp; done) | (simp; omega)) _))) (bb.mono (by simp)))
    clear bb
    go_wp2
    go_ret
    exact ⟨rfl, D.out⟩
  · rw [if_neg (by decide)] at hr
    have hn : 1 ≤ S.parts.length ∧ S.parts.length ≤ 4 ∧ S.chans.length ≤ 6 := by unfold countsB at hc; simp at hc; omega
    obtain ⟨hn0, hn1, hn2⟩ := hn
    have HR := Lib.hid hr
    obtain ⟨pb, po, pc', e1, hpc, hpb, hpp⟩ := HS.out.p.open (by omega)
    cases e1
    have HP := Lib.hid hpp
    clear hr hc hpp
    go_enter Tryd.func12, Tryd.ntmps12
    go_wp2_with fail
    refine (counts_any S _ _ _ _ (HS.out.up (by repeat (first | exact Below.refl _ _ | assumption | refine Below.drew ?_ | refine Below.alloc ?_ (by first | (simp; done) | (simp; omega)) _ | refine Below.setCell ?_ (by first | (simp; done) | (simp; omega)) _)))).mono ?_
    rw [HC.out]
    rintro e w1 ⟨rfl, bb⟩
    have D : Below w.heap.size w w1 := (Below.trans (show Below w.heap.size w _ from (by repeat (first | exact Below.refl _ _ | assumption | refine Below.drew ?_ | refine Below.alloc ?_ (by first | (simp; done) | (simp; omega)) _ | refine Below.setCell ?_ (by first | (simp; done) | (simp; omega)) _))) (bb.mono (by simp)))
    have hB := (box_new w (.slice (some ⟨pb, po, none⟩) S.parts.length pc) (.slice ca S.chans.length cc) (.slice sa S.slots.length sc) 26 _ rfl).up bb
    have k0 := hB.p
    have HB := Lib.hid hB
    have HD := Lib.hid D
    clear bb D hB
    go_wp2
    go_loopw [12] (fun i wr => ∃ k : Nat, i = .int .i64 k ∧ k ≤ S.parts.length ∧ Hid (∀ j (h : j < S.parts.length), j < k → chkC S.parts[j].code = 0) ∧ Hid (Below w1.heap.size w1 wr)) (fun i _ => S.parts.length - (intOf i).toNat)
    case atStart => exact ⟨0, rfl, Nat.zero_le _, fun j hj h => by omega, Below.refl _ _⟩
    case round =>
      obtain ⟨k, rfl, hk, HN, hbel⟩ := hrel
      have HT := Lib.hid (HD.out.trans (hbel.out.mono HD.out.size))
      have hts := HT.out.size
      by_cases hlt : k < S.parts.length
      · have hli : (k : Int) < S.parts.length := by omega
        obtain ⟨c, i, c0, c1, hpr⟩ := HP.out k hlt
        obtain ⟨a1, b1, rfl⟩ := hpr.code.form
        obtain ⟨a2, b2, rfl⟩ := hpr.inn.form
        have c0 := bcl HT.out hpb c0
        have c1 := bcl HT.out hpb c1
        have HPR := Lib.hid hpr
        clear hpr k0
        generalize hcz : chkC S.parts[k].code = z
        have HCZ := Lib.hid hcz
        clear hcz
        have e0 := he.up HT.out
        go_wp2_with fail
        refine (codeCheck_any S.parts[k].code _ _ (e0.up (by repeat (first | exact Below.refl _ _ | assumption | refine Below.drew ?_ | refine Below.alloc ?_ (by first | (simp; done) | (simp; omega)) _ | refine Below.setCell ?_ (by first | (simp; done) | (simp; omega)) _))) ((HPR.out.code.up HT.out).up (by repeat (first | exact Below.refl _ _ | assumption | refine Below.drew ?_ | refine Below.alloc ?_ (by first | (simp; done) | (simp; omega)) _ | refine Below.setCell ?_ (by first | (simp; done) | (simp; omega)) _)))).mono ?_
        rw [HCZ.out]
        rintro e w2 ⟨rfl, bb⟩
        have HD2 := Lib.hid (show Below wr.heap.size wr w2 from Below.trans (by repeat (first | exact Below.refl _ _ | assumption | refine Below.drew ?_ | refine Below.alloc ?_ (by first | (simp; done) | (simp; omega)) _ | refine Below.setCell ?_ (by first | (simp; done) | (simp; omega)) _)) (bb.mono (by simp)))
        clear bb c0 c1
        by_cases hz : z = 0
        · subst hz
          go_wp2
          go_roundw
          case rel => exact ⟨k + 1, by go_num, by omega, (fun j hj hjk => by
            by_cases e : j = k
            · subst e; exact HCZ.out
            · exact HN.out j hj (by omega)), hbel.out.trans (HD2.out.mono hbel.out.size)⟩
          case measure => simp [intOf]; omega
        · have hz' : (z != 0) = true := by simpa using hz
          have HF := Lib.hid (firstP_at S.parts k hlt HN.out (by rw [HCZ.out]; exact hz))
          have HRR : Hid (r = z) := by
            show r = z
            have := HR.out
            rw [HF.out, HCZ.out, if_pos hz] at this
            exact this.symm
          clear hz
          go_wp2
          go_ret
          exact ⟨ret_int HRR.out.symm, HT.out.trans (HD2.out.mono hts)⟩
      · have hli : ¬ (k : Int) < S.parts.length := by omega
        have HF := Lib.hid (firstP_all S.parts (fun j hj => HN.out j hj (by omega)))
        have HR2 := HR
        clear HR
        have HR : Hid ((if S.chans.any kindBad = true then (4 : Int) else if placesB S = false then 3 else if namesB S = false then 1 else 0) = r) := by
          have := HR2.out
          rw [HF.out, if_neg (by simp)] at this
          exact this
        have HBr := Lib.hid (HB.out.up hbel.out)
        have k0 := HBr.out.p
        have k1 := HBr.out.c
        have k2 := HBr.out.s
        generalize hq1 : S.chans.any kindBad = q1
        have H1 := Lib.hid hq1
        clear hq1 HR2 HN
        go_wp2_with fail
        refine (oneChan_any S.chans _ _ enCheck1 #[] kindBad _ (HS.out.c.up HT.out) (by omega) (fun k hk w1 hb => ?_) q1 H1.out).mono ?_
        · rw [app0]
          exact kindLit_any _ _
        rintro e w2 ⟨rfl, bb⟩
        have HT := Lib.hid (HT.out.trans (bb.mono hts))
        have hts := HT.out.size
        have HBr := Lib.hid (HBr.out.up bb)
        clear k0 k1 k2 bb
        have k0 := HBr.out.p
        have k1 := HBr.out.c
        have k2 := HBr.out.s
        cases q1
        · generalize hq2 : placesB S = q2
          have H2 := Lib.hid hq2
          clear hq2
          go_wp2_with fail
          refine (places_any S _ _ _ _ (HS.out.up HT.out) HC.out).mono ?_
          rw [H2.out]
          rintro e w3 ⟨rfl, bb⟩
          have HT := Lib.hid (HT.out.trans (bb.mono hts))
          have hts := HT.out.size
          have HBr := Lib.hid (HBr.out.up bb)
          clear k0 k1 k2 bb
          have k0 := HBr.out.p
          have k1 := HBr.out.c
          have k2 := HBr.out.s
          cases q2
          · have HRR : Hid (3 = r) := by show 3 = r; have := HR.out; rw [H1.out, H2.out] at this; simpa using this
            go_wp2
            go_ret
            exact ⟨ret_int HRR.out, HT.out⟩
          · generalize hq3 : namesB S = q3
            have H3 := Lib.hid hq3
            clear hq3
            go_wp2_with fail
            refine (names_any S _ _ _ _ (he.up HT.out) (HS.out.up HT.out) HC.out HF.out).mono ?_
            rw [H3.out]
            rintro e w4 ⟨rfl, bb⟩
            have HT := Lib.hid (HT.out.trans (bb.mono hts))
            have HRR : Hid ((if q3 = false then (1 : Int) else 0) = r) := by show (if q3 = false then (1 : Int) else 0) = r; have := HR.out; rw [H1.out, H2.out, H3.out] at this; simpa using this
            clear bb k0 k1 k2
            cases q3
            all_goals
              go_wp2
              go_ret
              exact ⟨ret_int HRR.out, HT.out⟩
        · have HRR : Hid (4 = r) := by show 4 = r; have := HR.out; rw [H1.out] at this; simpa using this
          go_wp2
          go_ret
          exact ⟨ret_int HRR.out, HT.out⟩
end Go.Proofs.YtbhfnkbflikliaaDoor

namespace Go.Proofs.YtbhfnkbflikliaaDoor
set_option linter.unusedSimpArgs false
set_option linter.unusedVariables false
open Go.RowKit Go.Sort
structure SysO (B : Nat) (w : World) (vp vc vs : Value) (S : SysD) : Prop where
  p : PartsO B w vp S.parts
  c : w.ownsRow B 55 3 vc S.chans.length (rowC chC S.chans)
  s : w.ownsRow B 57 2 vs S.slots.length (rowC slC S.slots)
section
variable {B B' g : Nat} {w w' : World} {vp vc vs : Value} {S : SysD}
theorem SysO.r (h : SysO B w vp vc vs S) : Sys w vp vc vs S := ⟨h.p.r, own_sl h.c, own_sl h.s⟩
theorem SysO.low (h : SysO B w vp vc vs S) (hb : B' ≤ B) : SysO B' w vp vc vs S := ⟨h.p.low hb, own_low h.c hb, own_low h.s hb⟩
theorem SysO.row (h : SysO B w vp vc vs S) (hg : g < B) (cs : Array Value) : SysO B (w.setRow g cs) vp vc vs S :=
  ⟨h.p.row hg cs, own_row h.c cs (fun e => by have := own_block h.c g e; omega), own_row h.s cs (fun e => by have := own_block h.s g e; omega)⟩
theorem SysO.one (h : SysO B w vp vc vs S) (ho : One g w w') (hg : g < B) : SysO B w' vp vc vs S := ⟨h.p.one ho hg, own_one h.c ho hg, own_one h.s ho hg⟩
theorem SysO.nil (B : Nat) (w : World) : SysO B w (.slice none 0 0) (.slice none 0 0) (.slice none 0 0) ⟨[], [], []⟩ := ⟨PartsO.nil _ _, World.ownsRow_nil _ _ _ _, World.ownsRow_nil _ _ _ _⟩
end
theorem own_grK {w w' : World} {base : Nat} {e : TypeId} {size : Nat} {v : Value} {n : Nat} {xs : List Value} (h : w.ownsRow base e size v n xs) (hb : Below w.heap.size w w') : w'.ownsRow base e size v n xs := own_up h hb (own_lt h)
theorem SysO.up {B : Nat} {w w' : World} {vp vc vs : Value} {S : SysD} (h : SysO B w vp vc vs S) (hb : Below w.heap.size w w') : SysO B w' vp vc vs S := by
  obtain ⟨⟨us, h1, h2, h3⟩, hc, hs⟩ := h
  exact ⟨⟨us, h1, own_grK h2 hb, fun k hk hk' => ⟨own_grK (h3 k hk hk').code hb, own_grK (h3 k hk hk').inn hb⟩⟩, own_grK hc hb, own_grK hs hb⟩
theorem SysO.setC {B : Nat} {w : World} {vp vc vs : Value} {S : SysD} (h : SysO B w vp vc vs S) {a : Addr} (ha : a.block < B) (u : Value) : SysO B (w.setCell a u) vp vc vs S := by
  obtain ⟨⟨us, h1, h2, h3⟩, hc, hs⟩ := h
  have ne : ∀ {e : TypeId} {size : Nat} {v : Value} {n : Nat} {xs : List Value}, w.ownsRow B e size v n xs → v.ownBlock ≠ some a.block := fun h e => by have := own_block h _ e; omega
  exact ⟨⟨us, h1, own_set h2 u (ne h2), fun k hk hk' => ⟨own_set (h3 k hk hk').code u (ne (h3 k hk hk').code), own_set (h3 k hk hk').inn u (ne (h3 k hk hk').inn)⟩⟩, own_set hc u (ne hc), own_set hs u (ne hs)⟩
theorem sizeSysR : (Tryd.prog.info? 26).map (·.size) = some 3 := by kernel_rfl
set_option maxRecDepth 100000 in
set_option maxHeartbeats 4000000 in
theorem rsystem_any (W : World) (g : Nat) (xs : List UInt8) (h : Rdr W g xs) :
    Calls Tryd.prog 39 #[.pointer (some ⟨g, 0, none⟩)] W fun e w' => (cS.dec xs = none ∧ e = .panicked wrongE ∧ Below g W w') ∨ (∃ S r vp vc vs, cS.dec xs = some (S, r) ∧ e = .returned (.agg #[vp, vc, vs]) ∧ SysO W.heap.size w' vp vc vs S ∧ Rdr w' g r ∧ One g W w') := by
  have hgl : g < W.heap.size := h.lt
  have H0 : Hid (Rdr (W.alloc (.cells #[.slice none 0 0, .slice none 0 0, .slice none 0 0] 26)) g xs) := Lib.hid (h.alloc _)
  clear h
  have O0 := Lib.hid (One.up (g := g) ((Below.refl W.heap.size W).alloc (Nat.le_refl _) (.cells #[.slice none 0 0, .slice none 0 0, .slice none 0 0] 26)) (by omega))
  have R0 := Lib.hid (Rw.new W 26 #[.slice none 0 0, .slice none 0 0, .slice none 0 0] rfl)
  go_enter Tryd.func39, Tryd.ntmps39
  go_wp2_with fail
  refine (rlistP_any _ g xs H0.out).mono ?_
  rintro e w1 (⟨hn, rfl, b1⟩ | ⟨ds, q1, v1, hd1, rfl, hv1, h1, o1⟩)
  · exact post_panicI rfl (.inl ⟨im_none (pr_none1 hn), rfl, O0.out.b.trans b1⟩)
  rw [World.size_alloc] at hv1
  have HD1 := Lib.hid hd1
  have HV1 := Lib.hid hv1
  have H1 := Lib.hid h1
  have O1 := Lib.hid (O0.out.trans o1)
  have R1 := Lib.hid (o1.rw R0.out (by omega))
  have z1 : W.heap.size + 1 ≤ w1.heap.size := by have := o1.size; rw [World.size_alloc] at this; exact this
  clear hd1 hv1 h1 o1 H0 O0 R0
  obtain ⟨pa, pc, rfl⟩ := HV1.out.form
  go_wp2_with fail
  refine (rlistC_any _ g q1 H1.out).mono ?_
  rintro e w2 (⟨hn, rfl, b1⟩ | ⟨es, q2, v2, hd2, rfl, hv2, h2, o2⟩)
  · exact post_panicI rfl (.inl ⟨im_none (pr_none2 HD1.out (pr_none1 hn)), rfl, O1.out.b.trans b1⟩)
  have HD2 := Lib.hid hd2
  have HV1b := Lib.hid (HV1.out.one o2 (by omega))
  have HV2 := Lib.hid (own_low hv2 z1)
  have H2 := Lib.hid h2
  have O2 := Lib.hid (O1.out.trans o2)
  have R2 := Lib.hid (o2.rw R1.out (by omega))
  have z2 : W.heap.size + 1 ≤ w2.heap.size := by have := o2.size; omega
  clear hd2 hv2 h2 o2 H1 O1 R1 HV1
  obtain ⟨ka, kc, rfl⟩ := own_form HV2.out
  go_wp2_with fail
  refine (rlistT_any _ g q2 H2.out).mono ?_
  rintro e w3 (⟨hn, rfl, b1⟩ | ⟨fs, q3, v3, hd3, rfl, hv3, h3, o3⟩)
  · exact post_panicI rfl (.inl ⟨im_none (pr_none2 HD1.out (pr_none2 HD2.out hn)), rfl, O2.out.b.trans b1⟩)
  have HD := Lib.hid (im_some (f := fun p => (⟨p.1, p.2.1, p.2.2⟩ : SysD)) (g := fun s => (s.parts, s.chans, s.slots)) (pr_some HD1.out (pr_some HD2.out hd3)))
  have HV3 := Lib.hid (show SysO (W.heap.size + 1) w3 (.slice pa ds.length pc) (.slice ka es.length kc) v3 ⟨ds, es, fs⟩ from ⟨HV1b.out.one o3 (by omega), own_one HV2.out o3 (by omega), own_low hv3 z2⟩)
  obtain ⟨sa, sc, rfl⟩ := own_form hv3
  have H3 := Lib.hid h3
  have O3 := Lib.hid (O2.out.trans o3)
  have R3 := Lib.hid (o3.rw R2.out (by omega))
  clear hd3 hv3 h3 o3 H2 O2 R2 HD1 HD2 HV1b HV2
  go_wp2_with (refine wpList_store_rowW rfl 26 (.tmp 2) (.tmp 15) rfl W.heap.size #[.slice pa ds.length pc, .slice ka es.length kc, .slice sa fs.length sc] rfl rfl 26 _ R3.out sizeSysR rfl (by simp [Value.oneCell']) ?_)
  intro W4 HW4
  have r5 : Rw W4 W.heap.size 26 #[.slice pa ds.length pc, .slice ka es.length kc, .slice sa fs.length sc] := by rw [HW4.out]; exact R3.out.row _
  have H5 := Lib.hid (show Rdr W4 g q3 by rw [HW4.out]; exact Rw.row_other H3.out _ (by omega))
  have O5 := Lib.hid (show One g W W4 by rw [HW4.out]; exact O3.out.row (Nat.le_refl _) (by omega) _)
  have V5 := Lib.hid (show SysO W.heap.size W4 (.slice pa ds.length pc) (.slice ka es.length kc) (.slice sa fs.length sc) ⟨ds, es, fs⟩ by rw [HW4.out]; exact (HV3.out.row (by omega) _).low (by omega))
  clear HW4 R3 H3 O3 HV3
  go_wp2
  refine bodyPost_ret (results_row1 Tryd.results39 _ _ W.heap.size _ rfl (run_loadVar_row _ _ 26 _ _ (0, 0) _ r5 Tryd.underlying26 rfl sizeSysR)) rfl (.inr ⟨_, _, _, _, _, HD.out, rfl, V5.out, H5.out, O5.out⟩)
def readD (b : List UInt8) : Option SysD :=
  match cS.dec b with
  | some (S, []) => if chkS S = 0 then some S else none
  | _ => none
theorem read_catch (V : World) (g4 g5 : Nat) (hne : g4 ≠ g5) (cs : Array Value) (hcs : cs.size = 3) (b : Bool) (u : TypeId) (pv : Value) (older : List PanicEntry) (h4 : Rw V g4 26 cs) (h5 : Rw V g5 4 #[.bool b]) :
    CallsD Tryd.prog 38 #[.pointer (some ⟨g4, 0, none⟩), .pointer (some ⟨g5, 0, none⟩)] (.panicking ({ v := .iface u pv, recovered := false } :: older)) V fun e u' V' =>
      e = .returned (.tuple #[]) ∧ u' = .panicking ({ v := .iface u pv, recovered := true } :: older) ∧ V' = (V.setRow g4 #[.slice none 0 0, .slice none 0 0, .slice none 0 0]).setCell ⟨g5, 0, none⟩ (.bool false) := by
  have k5 : (V.setRow g4 #[.slice none 0 0, .slice none 0 0, .slice none 0 0]).cell? ⟨g5, 0, none⟩ = some (.bool b) := (h5.row_other _ (fun e => hne e.symm)).cell rfl
  have f5 : (V.setRow g4 #[.slice none 0 0, .slice none 0 0, .slice none 0 0]).frozen? ⟨g5, 0, none⟩ = false := (h5.row_other _ (fun e => hne e.symm)).fr 0
  refine callsD_of_wpS Tryd.func38 rfl fun c₀ fs hu => ?_
  apply wpS_seq
  apply wpS_region
  simp [wpOpsS, go_sem, recoverD, hu, Tryd.ntmps38, Exit.thenS]
  refine wpS_cond (t := true) (by simp [Act.eval, Array.replicate]) ?_
  simp only [if_true]
  refine wpS_of_wp ?_
  go_wp2_with (refine wpList_store_row rfl 26 (.tmp 0) (.tmp 4) rfl g4 #[.slice none 0 0, .slice none 0 0, .slice none 0 0] rfl rfl 26 _ h4 sizeSysR hcs (by simp [Value.oneCell']) ?_)
  simp [bodyPostS, results, Tryd.results38]
theorem read_idle (V : World) (g4 g5 : Nat) :
    CallsD Tryd.prog 38 #[.pointer (some ⟨g4, 0, none⟩), .pointer (some ⟨g5, 0, none⟩)] .returning V fun e u' V' => e = .returned (.tuple #[]) ∧ u' = .returning ∧ V' = V := by
  refine callsD_of_wpS Tryd.func38 rfl fun c₀ cs hu => ?_
  apply wpS_seq
  apply wpS_region
  simp [wpOpsS, go_sem, recoverD, hu, Tryd.ntmps38, Exit.thenS]
  refine wpS_cond (t := false) (by simp [Act.eval, Array.replicate]) ?_
  simp only [Bool.false_eq_true, if_false]
  refine wpS_of_wp (wp_skip ?_)
  cases c₀
  simp_all [bodyPostS, results, Tryd.results38]
structure Lf (w W : World) (cs : Array Value) (q : List UInt8) : Prop where
  r4 : Rw W w.heap.size 26 cs
  r5 : Rw W (w.heap.size + 1) 4 #[.bool false]
  rd : Rdr W (w.heap.size + 2) q
theorem Lf.z {w W : World} {cs : Array Value} {q : List UInt8} (h : Lf w W cs q) : w.heap.size + 2 < W.heap.size := h.rd.lt
theorem Lf.call {w W W' : World} {cs : Array Value} {q q' : List UInt8} (h : Lf w W cs q) (ho : One (w.heap.size + 2) W W') (hr : Rdr W' (w.heap.size + 2) q') : Lf w W' cs q' :=
  ⟨ho.rw h.r4 (by omega), ho.rw h.r5 (by omega), hr⟩
theorem Lf.up {w W W' : World} {cs : Array Value} {q : List UInt8} (h : Lf w W cs q) (hb : Below W.heap.size W W') : Lf w W' cs q :=
  ⟨h.r4.up hb h.r4.lt, h.r5.up hb h.r5.lt, Rw.up h.rd hb h.rd.lt⟩
theorem Lf.store {w W : World} {cs : Array Value} {q : List UInt8} (h : Lf w W cs q) (cs' : Array Value) : Lf w (W.setRow w.heap.size cs') cs' q :=
  ⟨h.r4.row _, h.r5.row_other _ (by omega), Rw.row_other h.rd _ (by omega)⟩
theorem loadBoolI {w : World} {g : Nat} {b : Bool} (h : w.cell? ⟨g, 0, none⟩ = some (.bool b)) : (loadVar 4 ⟨g, 0, none⟩).run Tryd.prog w = .ok (.bool b) w := by
  simp [go_sem, h]
theorem read_out {R : Ending → World → Prop} {tmps : Array Value} {w V : World} {cs : Array Value} (hcs : cs.size = 3) (h4 : Rw V w.heap.size 26 cs) (h5 : Rw V (w.heap.size + 1) 4 #[.bool false]) (hb : Below w.heap.size w V)
    (t4 : tmps.getD 2 undef = .pointer (some ⟨w.heap.size, 0, none⟩)) (t5 : tmps.getD 3 undef = .pointer (some ⟨w.heap.size + 1, 0, none⟩))
    (hR : ∀ w', Below w.heap.size w w' → R (.returned (.tuple #[.agg #[.slice none 0 0, .slice none 0 0, .slice none 0 0], .bool false])) w') :
    Leaves Tryd.prog Tryd.f19 tmps R [{ target := .fn (.func 38) #[.pointer (some ⟨w.heap.size, 0, none⟩), .pointer (some ⟨w.heap.size + 1, 0, none⟩)], args := #[] }] (.panicking wrongE) V := by
  refine leaves_cons (f := 38) (args := #[.pointer (some ⟨w.heap.size, 0, none⟩), .pointer (some ⟨w.heap.size + 1, 0, none⟩)]) (by simp) (by simp [go_sem]) ?_
  refine (read_catch V _ _ (by omega) cs hcs false _ _ [] h4 h5).mono ?_
  rintro e u' V2 ⟨rfl, rfl, hV⟩
  subst hV
  have r4 := (h4.row #[.slice none 0 0, .slice none 0 0, .slice none 0 0]).set_other (a := ⟨w.heap.size + 1, 0, none⟩) (.bool false) (by simp)
  have r5 := (h5.row_other (g' := w.heap.size) #[.slice none 0 0, .slice none 0 0, .slice none 0 0] (by omega)).set 0 (.bool false)
  refine ⟨.tuple #[.agg #[.slice none 0 0, .slice none 0 0, .slice none 0 0], .bool false], results_row2 Tryd.results19 _ _ w.heap.size (w.heap.size + 1) _ _ t4 t5 (run_loadVar_row _ _ 26 _ #[.slice none 0 0, .slice none 0 0, .slice none 0 0] (0, 0) _ r4 Tryd.underlying26 rfl sizeSysR) (loadBoolI (r5.cell (j := 0) rfl)), ?_⟩
  exact hR _ ((below_row hb (by omega) _).setCell (by simp) _)
set_option maxRecDepth 100000 in
set_option maxHeartbeats 8000000 in
theorem read_any (b : List UInt8) (w : World) (he : Env w) :
    Calls Tryd.prog 19 #[.string ⟨b.toArray⟩] w fun e w' => (readD b = none ∧ e = .returned (.tuple #[.agg #[.slice none 0 0, .slice none 0 0, .slice none 0 0], .bool false]) ∧ Below w.heap.size w w') ∨
      (∃ S, readD b = some S ∧ ∃ vp vc vs, e = .returned (.tuple #[.agg #[vp, vc, vs], .bool true]) ∧ SysO w.heap.size w' vp vc vs S ∧ Below w.heap.size w w') := by
  have hmf : ∀ (fn : Go.Fn) (first cap : Array Value) (w : World), (Instr.makeFunc fn first cap).run Tryd.prog w = .ok (.func fn first cap) w := fun _ _ _ _ => rfl
  have HE := Lib.hid he
  clear he
  go_enter_defers Tryd.func19, Tryd.ntmps19
  go_upto_region 3 with fail
  generalize hX : World.alloc _ _ = X
  have hXX : X = ((w.alloc (.cells #[.slice none 0 0, .slice none 0 0, .slice none 0 0] 26)).alloc (.cells #[.bool false] 4)).alloc (.cells #[.string ⟨b.toArray⟩] 82) := by rw [← hX]
  have D0 : Below w.heap.size w X := by rw [hXX]; exact (by repeat (first | exact Below.refl _ _ | assumption | refine Below.drew ?_ | refine Below.alloc ?_ (by first | (simp; done) | (simp; omega)) _ | refine Below.setCell ?_ (by first | (simp; done) | (simp; omega)) _))
  have HF : Hid (Lf w X #[.slice none 0 0, .slice none 0 0, .slice none 0 0] b) := Lib.hid ⟨by rw [hXX]; exact (by repeat (first | exact Rw.new _ _ _ (by first | rfl | (simp; done) | omega | (simp; omega)) | refine Rw.alloc ?_ _)), by rw [hXX]; exact (by repeat (first | exact Rw.new _ _ _ (by first | rfl | (simp; done) | omega | (simp; omega)) | refine Rw.alloc ?_ _)), by rw [hXX]; exact (by repeat (first | exact Rw.new _ _ _ (by first | rfl | (simp; done) | omega | (simp; omega)) | refine Rw.alloc ?_ _))⟩
  have HD := Lib.hid D0
  clear hX hXX D0
  go_wp2_with fail
  refine (rsystem_any X (w.heap.size + 2) b HF.out.rd).mono ?_
  rintro e w1 (⟨hn, rfl, hb⟩ | ⟨S, r, vp, vc, vs, hn, rfl, hN, hr, ho⟩)
  · have HN : Hid (readD b = none) := Lib.hid (by unfold readD; rw [hn])
    exact read_out rfl (HF.out.r4.up hb (by omega)) (HF.out.r5.up hb (by omega)) (HD.out.trans (hb.mono (by omega))) rfl rfl fun w' h => .inl ⟨HN.out, rfl, h⟩
  have F1 := Lib.hid (HF.out.call ho hr)
  have D1 := Lib.hid (HD.out.trans (ho.b.mono (by omega)))
  have zX := HF.out.z
  have N1 := Lib.hid hN
  have HWD := Lib.hid hn
  obtain ⟨pa, pc, rfl⟩ := hN.p.form
  obtain ⟨ka, kc, rfl⟩ := own_form hN.c
  obtain ⟨sa, sc, rfl⟩ := own_form hN.s
  clear HF HD hr ho hN hn
  go_wp2_with (refine wpList_store_rowW rfl 26 (.tmp 2) (.tmp 8) rfl w.heap.size #[.slice pa S.parts.length pc, .slice ka S.chans.length kc, .slice sa S.slots.length sc] rfl rfl 26 #[.slice none 0 0, .slice none 0 0, .slice none 0 0] F1.out.r4 sizeSysR rfl (by simp [Value.oneCell']) ?_)
  intro W2 HW2
  have F2 : Hid (Lf w W2 #[.slice pa S.parts.length pc, .slice ka S.chans.length kc, .slice sa S.slots.length sc] r) := Lib.hid (by rw [HW2.out]; exact F1.out.store _)
  have N2 : Hid (SysO X.heap.size W2 (.slice pa S.parts.length pc) (.slice ka S.chans.length kc) (.slice sa S.slots.length sc) S) := Lib.hid (by rw [HW2.out]; exact N1.out.row (by omega) _)
  have D2 : Hid (Below w.heap.size w W2) := Lib.hid (by rw [HW2.out]; exact below_row D1.out (by omega) _)
  clear F1 N1 D1 HW2
  have q6 := F2.out.rd.cell (j := 0) (v := .string ⟨r.toArray⟩) rfl
  by_cases hr0 : r = []
  rotate_left
  · have HN : Hid (readD b = none) := Lib.hid (by unfold readD; rw [HWD.out]; cases r with | nil => exact absurd rfl hr0 | cons x r => rfl)
    have hne : r.isEmpty = false := by cases r with | nil => exact absurd rfl hr0 | cons x r => rfl
    go_wp2_with fail
    refine (must_no _).mono ?_
    rintro e w3 ⟨rfl, hw⟩
    subst hw
    exact read_out rfl F2.out.r4 F2.out.r5 D2.out rfl rfl fun w' h => .inl ⟨HN.out, rfl, h⟩
  · subst hr0
    go_wp2_with fail
    refine (must_yes _).mono ?_
    rintro e w3 ⟨rfl, hw⟩
    subst hw
    clear q6
    have s0 := F2.out.r4.cell (j := 0) (v := .slice pa S.parts.length pc) rfl
    have s1 := F2.out.r4.cell (j := 1) (v := .slice ka S.chans.length kc) rfl
    have s2 := F2.out.r4.cell (j := 2) (v := .slice sa S.slots.length sc) rfl
    go_wp2_with fail
    refine (confCheck_any S _ _ _ _ (HE.out.up D2.out) N2.out.r).mono ?_
    rintro e w4 ⟨rfl, b4⟩
    have F4 := Lib.hid (F2.out.up b4)
    have N4 := Lib.hid (N2.out.up b4)
    have z3 := D2.out.size
    have D4 := Lib.hid (D2.out.trans (b4.mono z3))
    clear s0 s1 s2 b4 F2 N2 D2
    by_cases hk : chkS S = 0
    · have hkb : (chkS S == 0) = true := by simp [hk]
      have HY : Hid (readD b = some S) := Lib.hid (by unfold readD; rw [HWD.out]; simp only [if_pos hk])
      clear hk
      go_wp2_with fail
      refine (must_yes _).mono ?_
      rintro e w5 ⟨rfl, hw⟩
      subst hw
      have q0 := F4.out.r4.cell (j := 0) (v := .slice pa S.parts.length pc) rfl
      have q1 := F4.out.r4.cell (j := 1) (v := .slice ka S.chans.length kc) rfl
      have q2 := F4.out.r4.cell (j := 2) (v := .slice sa S.slots.length sc) rfl
      have r5 := F4.out.r5.row_other (g' := w.heap.size) #[.slice pa S.parts.length pc, .slice ka S.chans.length kc, .slice sa S.slots.length sc] (by omega)
      have k5 := r5.cell (j := 0) (v := .bool false) rfl
      have f5 := r5.fr 0
      go_wp2_with (first | (refine wpList_store_row rfl 26 (.tmp 2) (.tmp 17) rfl w.heap.size #[.slice pa S.parts.length pc, .slice ka S.chans.length kc, .slice sa S.slots.length sc] rfl rfl 26 _ F4.out.r4 sizeSysR rfl (by simp [Value.oneCell']) ?_))
      refine leaves_cons (f := 38) (args := #[.pointer (some ⟨w.heap.size, 0, none⟩), .pointer (some ⟨w.heap.size + 1, 0, none⟩)]) (by simp) (by simp [go_sem]) ?_
      refine (read_idle _ _ _).mono ?_
      rintro e u' V2 ⟨rfl, rfl, hV⟩
      subst hV
      have R4 := (F4.out.r4.row #[.slice pa S.parts.length pc, .slice ka S.chans.length kc, .slice sa S.slots.length sc]).set_other (a := ⟨w.heap.size + 1, 0, none⟩) (.bool true) (by simp)
      have R5 := r5.set 0 (.bool true)
      refine ⟨.tuple #[.agg #[.slice pa S.parts.length pc, .slice ka S.chans.length kc, .slice sa S.slots.length sc], .bool true], results_row2 Tryd.results19 _ _ w.heap.size (w.heap.size + 1) _ _ rfl rfl (run_loadVar_row _ _ 26 _ _ (0, 0) _ R4 Tryd.underlying26 rfl sizeSysR) (loadBoolI (R5.cell (j := 0) rfl)), ?_⟩
      exact .inr ⟨S, HY.out, _, _, _, rfl, ((N4.out.row (by omega) _).setC (by show w.heap.size + 1 < X.heap.size; omega) _).low (by omega), (below_row D4.out (by omega) _).setCell (by simp) _⟩
    · have hkb : (chkS S == 0) = false := by simpa using hk
      have HN : Hid (readD b = none) := Lib.hid (by unfold readD; rw [HWD.out]; simp only [if_neg hk])
      clear hk
      go_wp2_with fail
      refine (must_no _).mono ?_
      rintro e w5 ⟨rfl, hw⟩
      subst hw
      exact read_out rfl F4.out.r4 F4.out.r5 D4.out rfl rfl fun w' h => .inl ⟨HN.out, rfl, h⟩
end Go.Proofs.YtbhfnkbflikliaaDoor

namespace Go.Proofs.YtbhfnkbflikliaaDoor
set_option linter.unusedSimpArgs false
set_option linter.unusedVariables false
open Go.RowKit Go.Sort
def Eye (W : World) (g : Nat) (xs : List UInt8) : Prop := Rw W g 66 #[.string ⟨xs.toArray⟩]
set_option maxRecDepth 100000 in
set_option maxHeartbeats 4000000 in
theorem eyeByte_any (W : World) (g : Nat) (xs : List UInt8) (h : Eye W g xs) :
    Calls Tryd.prog 23 #[.pointer (some ⟨g, 0, none⟩)] W fun e w' => e = .returned (.int .i64 (eyeB xs).1) ∧ Eye w' g (eyeB xs).2 ∧ One g W w' := by
  match xs, h with
  | [], h =>
    have k0 : W.cell? ⟨g, 0, none⟩ = some (.string ⟨#[]⟩) := h.cell (j := 0) rfl
    have HR := Lib.hid h
    clear h
    go_enter Tryd.func23, Tryd.ntmps23
    go_wp2
    go_ret
    exact ⟨rfl, HR.out, One.refl _ _⟩
  | x :: q, h =>
    have k0 : W.cell? ⟨g, 0, none⟩ = some (.string ⟨(x :: q).toArray⟩) := h.cell (j := 0) rfl
    have f0 := h.fr 0
    have HR := Lib.hid h
    clear h
    have hx : x.toNat < 256 := x.toNat_lt
    have e2 : (⟨(x :: q).toArray⟩ : ByteArray).extract 1 (q.length + 1) = ⟨q.toArray⟩ := by rw [ext_eq]; simp
    have hsz : (⟨(x :: q).toArray⟩ : ByteArray).size = q.length + 1 := by rw [ba_size]; rfl
    have hw : wrap64 (x.toNat : Int) = (x.toNat : Int) := by unfold wrap64; omega
    go_enter Tryd.func23, Tryd.ntmps23
    go_wp2
    go_ret
    refine ⟨?_, HR.out.set 0 _, One.set _ _ _ _⟩
    show Ending.returned (.int .i64 (wrap64 (x.toNat : Int))) = _
    rw [hw]
    rfl
theorem or_pushI (n b : Int) (h0 : 0 ≤ b) (h1 : b < 256) : bits .or .i64 (wrap64 (n * 256)) b = IntKind.i64.wrap (n * 256 + b) := by
  have hb : ((UInt8.ofNat b.toNat).toNat : Int) = b := by rw [UInt8.toNat_ofNat']; omega
  have := or_push n (UInt8.ofNat b.toNat)
  rw [hb] at this
  rw [wrap64_is, this]
  unfold push
  rw [hb]
set_option maxRecDepth 100000 in
set_option maxHeartbeats 4000000 in
theorem eyeNum_any (W : World) (g : Nat) (xs : List UInt8) (h : Eye W g xs) :
    Calls Tryd.prog 24 #[.pointer (some ⟨g, 0, none⟩)] W fun e w' => e = .returned (.int .i64 (eyeN 8 xs).1) ∧ Eye w' g (eyeN 8 xs).2 ∧ One g W w' := by
  have HR := Lib.hid h
  clear h
  go_enter Tryd.func24, Tryd.ntmps24
  go_wp2
  go_loopw [3, 4] (fun n i wr => ∃ k : Nat, i = .int .i64 k ∧ k ≤ 8 ∧ n = .int .i64 (eyeN k xs).1 ∧ Hid (Eye wr g (eyeN k xs).2) ∧ Hid (One g W wr)) (fun _ i _ => 8 - (intOf i).toNat)
  case atStart => exact ⟨0, rfl, by omega, rfl, HR, Lib.hid (One.refl _ _)⟩
  case round =>
    obtain ⟨k, rfl, hk, rfl, HE, HO⟩ := hrel
    by_cases hlt : k < 8
    · have hli : (k : Int) < 8 := by omega
      have HS : Hid ((eyeN (k + 1) xs).1 = IntKind.i64.wrap ((eyeN k xs).1 * 256 + (eyeB (eyeN k xs).2).1)) := Lib.hid rfl
      have HS2 : Hid ((eyeN (k + 1) xs).2 = (eyeB (eyeN k xs).2).2) := Lib.hid rfl
      have hr := eyeB_range (eyeN k xs).2
      generalize (eyeN k xs).1 = n at *
      generalize (eyeN k xs).2 = q at *
      have HOP := Lib.hid (or_pushI n (eyeB q).1 hr.1 hr.2)
      go_wp2_with fail
      refine (eyeByte_any _ g q HE.out).mono ?_
      rintro e w2 ⟨rfl, h2, o2⟩
      have H2 := Lib.hid h2
      have O2 := Lib.hid (HO.out.trans o2)
      clear h2 o2 HE HO
      go_wp2
      refine ⟨⟨k + 1, by simp, by omega, ?_, by rw [HS2.out]; exact H2, O2⟩, by simp [intOf]; omega⟩
      rw [HS.out, ← HOP.out]
    · obtain rfl : k = 8 := by omega
      go_wp2
      go_ret
      exact ⟨rfl, HE.out, HO.out⟩
end Go.Proofs.YtbhfnkbflikliaaDoor

namespace Go.Proofs.YtbhfnkbflikliaaDoor
set_option linter.unusedSimpArgs false
set_option linter.unusedVariables false
open Go.RowKit Go.Sort
theorem bldSize : (Tryd.prog.info? 42).map (·.size) = some 2 := by kernel_rfl
theorem infoByte : (Tryd.prog.info? 5).map (fun i => (i.zero, i.size, i.bytes)) = some (some (.int .u8 0), 1, 1) := by kernel_rfl
theorem cellsByte : Tryd.prog.cellsOf 5 = 1 := by kernel_rfl
def LiesB (T : TypeId) : Prop := liesAt Tryd.prog Tryd.prog.depth T (2 / Tryd.prog.cellsOf T) 0 42 1 = true ∧ T ≠ 5
structure Wr (B g : Nat) (w w' : World) : Prop where
  b : Below B w w'
  k : ∀ c t cs, c ≠ g → t ≠ 5 → Rw w c t cs → Rw w' c t cs
theorem Wr.refl (B b : Nat) (w : World) : Wr B b w w := ⟨Below.refl _ _, fun _ _ _ _ _ h => h⟩
theorem Wr.trans {B b : Nat} {w w1 w2 : World} (h : Wr B b w w1) (h' : Wr B b w1 w2) : Wr B b w w2 := ⟨h.b.trans h'.b, fun c t cs h1 h2 h3 => h'.k c t cs h1 h2 (h.k c t cs h1 h2 h3)⟩
theorem Wr.up {B b : Nat} {w w' : World} (h : Below w.heap.size w w') (hB : B ≤ w.heap.size) : Wr B b w w' := ⟨h.mono hB, fun _ _ _ _ _ h3 => h3.up h h3.lt⟩
theorem Wr.set {B b : Nat} {w w' : World} (h : Wr B b w w') (hB : B ≤ b) (i : Nat) (v : Value) : Wr B b w (w'.setCell ⟨b, i, none⟩ v) :=
  ⟨h.b.setCell (p := ⟨b, i, none⟩) hB _, fun c t cs h1 h2 h3 => (h.k c t cs h1 h2 h3).set_other _ h1⟩
theorem Wr.size {B b : Nat} {w w' : World} (h : Wr B b w w') : w.heap.size ≤ w'.heap.size := h.b.size
set_option maxHeartbeats 1000000 in
set_option maxRecDepth 100000 in
theorem copyCheck_used (b : Nat) (w : World) (h0 : w.cell? ⟨b, 0, none⟩ = some (.pointer (some ⟨b, 0, none⟩))) :
    Calls Tryd.prog 76 #[.pointer (some ⟨b, 0, none⟩)] w fun e w' => e = .returned (.tuple #[]) ∧ w' = w := by
  obtain ⟨j, hj, _⟩ := Option.map_eq_some_iff.1 bldSize
  go_enter Tryd.func76, Tryd.ntmps76
  go_wp2
  rw [Lib.run_neq_ptr_same w _ Tryd.underlying39 hj]
  go_wp2
  go_end0
  exact ⟨rfl, rfl⟩
set_option maxHeartbeats 1000000 in
set_option maxRecDepth 100000 in
theorem copyCheck_fresh (T : TypeId) (hT : LiesB T) (b : Nat) (w : World) (h0 : w.cell? ⟨b, 0, none⟩ = some (.pointer none)) (hsh : w.shape? b = some (T, 2)) (hfz : w.frozen? ⟨b, 0, none⟩ = false) :
    Calls Tryd.prog 76 #[.pointer (some ⟨b, 0, none⟩)] w fun e w' => e = .returned (.tuple #[]) ∧ w' = w.setCell ⟨b, 0, none⟩ (.pointer (some ⟨b, 0, none⟩)) := by
  obtain ⟨j, hj, hjs⟩ := Option.map_eq_some_iff.1 bldSize
  go_enter Tryd.func76, Tryd.ntmps76
  go_wp2
  rw [Lib.run_to_unsafe w ⟨b, 0, none⟩ Tryd.underlying39 Tryd.underlying118 hj (by rw [hjs]; decide) hsh (Nat.zero_lt_succ 1)]
  simp only [Result.andThen]
  rw [Oper.upon_value]
  go_wp2
  rw [run_callFunc_extern Tryd.func78 (by kernel_rfl) (by kernel_rfl) (by kernel_rfl) (e := Extern.AbiNoEscape.same) (by kernel_rfl)]
  rw [Lib.run_noEscape]
  simp only [Result.andThen]
  rw [Oper.upon_value]
  go_wp2
  rw [Lib.run_from_unsafe w ⟨b, 0, none⟩ Tryd.underlying118 Tryd.underlying39 hj hsh hT.1]
  simp only [Result.andThen]
  rw [Oper.upon_value]
  go_wp2
  go_end0
  exact ⟨rfl, rfl⟩
theorem copyCheck_any (T : TypeId) (hT : LiesB T) (B b : Nat) (bs : List Value) (w : World) (h : Lib.IsBuilder T 5 B b bs w) :
    Calls Tryd.prog 76 #[.pointer (some ⟨b, 0, none⟩)] w fun e w' => e = .returned (.tuple #[]) ∧ (Lib.BuilderAt T 5 B b (.pointer (some ⟨b, 0, none⟩)) bs w' ∧ Wr B b w w') := by
  rcases h with h | h
  · refine (copyCheck_fresh T hT b w h.cell0 h.shape h.frozen0).mono ?_
    rintro e w' ⟨rfl, rfl⟩
    exact ⟨rfl, h.used _, (Wr.refl B b w).set h.1 _ _⟩
  · refine (copyCheck_used b w h.cell0).mono ?_
    rintro e w' ⟨rfl, rfl⟩
    exact ⟨rfl, h, Wr.refl B b _⟩
set_option maxHeartbeats 2000000 in
set_option maxRecDepth 100000 in
theorem writeByte_any (T : TypeId) (hT : LiesB T) (B b : Nat) (bs : List Value) (c : Int) (w : World) (h : Lib.IsBuilder T 5 B b bs w) (hlen : bs.length + 1 ≤ 140737488355328) (hBw : B ≤ w.heap.size) :
    Calls Tryd.prog 70 #[.pointer (some ⟨b, 0, none⟩), .int .u8 c] w fun e w' => e = .returned .nilIface ∧ (Lib.IsBuilder T 5 B b (bs ++ [.int .u8 c]) w' ∧ Wr B b w w') := by
  obtain ⟨i0, hi, hz0, hz1, hz2⟩ := info_parts infoByte
  go_enter Tryd.func70, Tryd.ntmps70
  go_wp2_with fail
  refine (copyCheck_any T hT B b bs _ h).mono ?_
  rintro e w1 ⟨rfl, h1, hb1⟩
  obtain ⟨hB, v, hbk, hown, hne⟩ := h1
  have c0 : w1.cell? ⟨b, 0, none⟩ = some (.pointer (some ⟨b, 0, none⟩)) := by rw [Lib.cell_of_heap hbk]; rfl
  have c1 : w1.cell? ⟨b, 1, none⟩ = some v := by rw [Lib.cell_of_heap hbk]; rfl
  go_wp2_with (at_builtin; refine wpList_append_own _ rfl _ _ 40 rfl B 5 i0 (.int .u8 0) 1 1 Tryd.underlying40 hi hz0 hz1 hz2 rfl (by decide) _ _ _ rfl (hown.alloc _) ⟨w1.heap.size, 0, none⟩ 1 1 [.int .u8 c] rfl rfl ?c1 ?c2 ?c3 ?c4 ?c5 ?_)
  case c1 =>
    intro j u hj
    match j, hj with
    | 0, hj => simp at hj; subst hj; simp [Addr.add]
  case c2 => intro u hu; simp at hu; subst hu; rfl
  case c3 => unfold maxLen; omega
  case c4 => omega
  case c5 => have := hb1.size; simp; omega
  intro v' w2 hown' hgrow _
  have hlt : b < w1.heap.size := by
    rcases Nat.lt_or_ge b w1.heap.size with h' | h'
    · exact h'
    · simp [Array.getElem?_eq_none h'] at hbk
  have hb2 : w2.heap[b]? = some (.cells #[.pointer (some ⟨b, 0, none⟩), v] T (0, 0)) := by
    rw [hgrow.block b (by simp; omega) (fun e => hne e.symm), Lib.alloc_old w1 _ b hlt]
    exact hbk
  have d0 : w2.cell? ⟨b, 0, none⟩ = some (.pointer (some ⟨b, 0, none⟩)) := by rw [Lib.cell_of_heap hb2]; rfl
  have d1 : w2.cell? ⟨b, 1, none⟩ = some v := by rw [Lib.cell_of_heap hb2]; rfl
  have f1 : w2.frozen? ⟨b, 1, none⟩ = false := Lib.frozen_of_heap hb2 1
  obtain ⟨g, cap, rfl⟩ : ∃ g cap, v' = .slice (some ⟨g, 0, none⟩) (bs.length + 1) cap := by
    rcases hown'.2 with ⟨_, h0⟩ | ⟨g, cap, cur, hv, _⟩
    · omega
    · exact ⟨g, cap, hv⟩
  go_wp2
  go_ret
  refine ⟨rfl, ?_, ?_⟩
  · exact .inr (Lib.BuilderAt.put (T := T) (e := 5) hB hb2 (bs' := bs ++ [.int .u8 c]) (by simpa using hown') hT.2)
  · refine Wr.set ⟨(hb1.b.alloc (by have := hb1.size; omega) _).grown hgrow (by have := hb1.size; simp; omega) (fun k hk => (hown.lt k hk).1), fun c' t cs h1 h2 h3 => ?_⟩ hB _ _
    have h4 := (hb1.k c' t cs h1 h2 h3).alloc (.cells #[.int .u8 c] 5)
    refine (hgrow.block c' h4.lt ?_).trans h4
    intro e
    rcases hown.2 with ⟨rfl, _⟩ | ⟨g', cap', cur', rfl, _, hh, _⟩
    · cases e
    · simp [Value.ownBlock] at e
      subst e
      have h5 := (hb1.k c' t cs h1 h2 h3).symm.trans hh
      injection h5 with h5
      injection h5 with _ h5
      exact h2 h5
theorem own_upB {w w' : World} {base : Nat} {e : TypeId} {size : Nat} {v : Value} {n : Nat} {xs : List Value} (h : w.ownsRow base e size v n xs) (hb : Below w.heap.size w w') : w'.ownsRow base e size v n xs := own_up h hb (own_lt h)
theorem bld_up {w w' : World} {T e : TypeId} {B b : Nat} {bs : List Value} (h : Lib.IsBuilder T e B b bs w) (hb : Below w.heap.size w w') : Lib.IsBuilder T e B b bs w' := by
  rcases h with h | h
  · obtain ⟨h1, v, h2, h3, h4⟩ := h
    have hlt := Lib.BuilderAt.lt ⟨h1, v, h2, h3, h4⟩
    exact Or.inl ⟨h1, v, by rw [hb.block b hlt]; exact h2, own_upB h3 hb, h4⟩
  · obtain ⟨h1, v, h2, h3, h4⟩ := h
    have hlt := Lib.BuilderAt.lt ⟨h1, v, h2, h3, h4⟩
    exact Or.inr ⟨h1, v, by rw [hb.block b hlt]; exact h2, own_upB h3 hb, h4⟩
theorem byteCells_app (a b : List UInt8) : Lib.byteCells (a ++ b) = Lib.byteCells a ++ Lib.byteCells b := by simp [Lib.byteCells]
end Go.Proofs.YtbhfnkbflikliaaDoor

namespace Go.Proofs.YtbhfnkbflikliaaDoor
set_option linter.unusedSimpArgs false
set_option linter.unusedVariables false
open Go.RowKit Go.Sort
theorem liesPaper : LiesB 44 := ⟨by kernel_rfl, by decide⟩
def Pap (B b : Nat) (l : List UInt8) (w : World) : Prop := Lib.IsBuilder 44 5 B b (Lib.byteCells l) w ∧ B ≤ w.heap.size
theorem Pap.up {B b : Nat} {l : List UInt8} {w w' : World} (h : Pap B b l w) (hb : Below w.heap.size w w') : Pap B b l w' := ⟨bld_up h.1 hb, Nat.le_trans h.2 hb.size⟩
theorem Pap.alloc {B b : Nat} {l : List UInt8} {w : World} (h : Pap B b l w) (o : Obj) : Pap B b l (w.alloc o) := h.up ((Below.refl _ _).alloc (Nat.le_refl _) _)
theorem byteCells_one (b : UInt8) : Lib.byteCells [b] = [.int .u8 b.toNat] := rfl
theorem wrap8 (n : Int) : IntKind.u8.wrap n = ((by8 n).toNat : Int) := by rw [by8_nat, IntKind.wrap_u8]
set_option maxRecDepth 100000 in
set_option maxHeartbeats 1000000 in
theorem small_any (B b : Nat) (l : List UInt8) (n : Int) (w : World) (h : Pap B b l w) (hl : l.length ≤ 1000000) :
    Calls Tryd.prog 55 #[.pointer (some ⟨b, 0, none⟩), .int .i64 n] w fun e w' => e = .returned (.tuple #[]) ∧ Pap B b (l ++ [by8 n]) w' ∧ Wr B b w w' := by
  have hw := wrap8 n
  have H := Lib.hid h
  clear h
  go_enter Tryd.func55, Tryd.ntmps55
  go_wp2_with fail
  refine (writeByte_any _ liesPaper B b (Lib.byteCells l) _ _ H.out.1 (by rw [Lib.byteCells_length]; omega) H.out.2).mono ?_
  rintro e w1 ⟨rfl, h1, hb1⟩
  go_wp2
  go_end0
  exact ⟨rfl, ⟨by rw [byteCells_app, byteCells_one]; exact h1, Nat.le_trans H.out.2 hb1.size⟩, hb1⟩
end Go.Proofs.YtbhfnkbflikliaaDoor

namespace Go.Proofs.YtbhfnkbflikliaaDoor
set_option linter.unusedSimpArgs false
set_option linter.unusedVariables false
open Go.RowKit Go.Sort
theorem eight_at {n : Int} : ∀ k (h : k < 8), (eight n)[k]'(by rw [eight_len]; exact h) = by8 (n.fdiv (2 ^ (56 - 8 * k)))
  | 0, _ => by rw [Int.fdiv_eq_ediv_of_nonneg _ (by decide)]; rfl
  | 1, _ => by rw [Int.fdiv_eq_ediv_of_nonneg _ (by decide)]; rfl
  | 2, _ => by rw [Int.fdiv_eq_ediv_of_nonneg _ (by decide)]; rfl
  | 3, _ => by rw [Int.fdiv_eq_ediv_of_nonneg _ (by decide)]; rfl
  | 4, _ => by rw [Int.fdiv_eq_ediv_of_nonneg _ (by decide)]; rfl
  | 5, _ => by rw [Int.fdiv_eq_ediv_of_nonneg _ (by decide)]; rfl
  | 6, _ => by rw [Int.fdiv_eq_ediv_of_nonneg _ (by decide)]; rfl
  | 7, _ => by rw [show 56 - 8 * 7 = 0 from rfl, Int.pow_zero, Int.fdiv_one]; rfl
theorem take_snocU (l : List UInt8) (k : Nat) (h : k < l.length) : l.take (k + 1) = l.take k ++ [l[k]] := by rw [List.take_add_one, List.getElem?_eq_getElem h]; rfl
set_option maxRecDepth 100000 in
set_option maxHeartbeats 2000000 in
theorem pnumber_any (B b : Nat) (l : List UInt8) (n : Int) (w : World) (h : Pap B b l w) (hl : l.length ≤ 900000) :
    Calls Tryd.prog 59 #[.pointer (some ⟨b, 0, none⟩), .int .i64 n] w fun e w' => e = .returned (.tuple #[]) ∧ Pap B b (l ++ eight n) w' ∧ Wr B b w w' := by
  have H := Lib.hid h
  have HL := Lib.hid hl
  clear h hl
  go_enter Tryd.func59, Tryd.ntmps59
  go_wp2
  go_loopw [4] (fun i wr => ∃ k : Nat, i = .int .i64 (56 - 8 * (k : Int)) ∧ k ≤ 8 ∧ Hid (Pap B b (l ++ (eight n).take k) wr) ∧ Hid (Wr B b w wr)) (fun i _ => (intOf i + 8).toNat)
  case atStart => exact ⟨0, rfl, by omega, by rw [List.take_zero, List.append_nil]; exact H, Lib.hid (Wr.refl _ _ _)⟩
  case round =>
    obtain ⟨k, rfl, hk, HP, HB⟩ := hrel
    by_cases hlt : k < 8
    · have h0 : (0 : Int) ≤ 56 - 8 * (k : Int) := by omega
      have h1 : ¬ (56 - 8 * (k : Int) < 0) := by omega
      have HE := Lib.hid (eight_at (n := n) k hlt)
      have HT := Lib.hid (take_snocU (eight n) k (by rw [eight_len]; exact hlt))
      have h3 : IntKind.i64.wrap (56 - 8 * (k : Int) - 8) = 56 - 8 * ((k + 1 : Nat) : Int) := by rw [IntKind.wrap_i64]; omega
      have HX : Hid (IntKind.u8.wrap (n / 2 ^ (56 - 8 * (k : Int)).toNat) = ((by8 (n.fdiv (2 ^ (56 - 8 * k)))).toNat : Int)) := Lib.hid (by rw [wrap8, Int.fdiv_eq_ediv_of_nonneg _ (Int.pow_nonneg (by decide)), show (56 - 8 * (k : Int)).toNat = 56 - 8 * k by omega])
      go_wp2
      go_region_with (go_at_call 70; refine (writeByte_any _ liesPaper B b (Lib.byteCells (l ++ (eight n).take k)) _ _ (bld_up HP.out.1 (Below.refl _ _).drew) (by rw [Lib.byteCells_length]; have := HL.out; simp; omega) HP.out.2).mono ?_; rintro e w1 ⟨rfl, p1, b1⟩; have P1 := Lib.hid p1; have b2 : Wr B b wr w1 := (Wr.up (Below.refl _ _).drew HP.out.2).trans b1; clear p1 b1)
      all_goals
        go_wp2
        go_roundw
        case rel => exact ⟨k + 1, rfl, by omega, Lib.hid ⟨by rw [HT.out, HE.out, ← List.append_assoc, byteCells_app, byteCells_one, ← HX.out]; exact P1.out, Nat.le_trans HP.out.2 b2.size⟩, Lib.hid (HB.out.trans b2)⟩
        case measure => simp [intOf]; omega
    · obtain rfl : k = 8 := by omega
      have h4 : ¬ ((0 : Int) ≤ 56 - 8 * ((8 : Nat) : Int)) := by omega
      go_wp2
      go_end0
      exact ⟨rfl, HP.out, HB.out⟩
set_option maxRecDepth 100000 in
set_option maxHeartbeats 2000000 in
theorem pinstr_any (B b : Nat) (l : List UInt8) (i : Ins) (w : World) (h : Pap B b l w) (hl : l.length ≤ 800000) (hb : b < w.heap.size) :
    Calls Tryd.prog 57 #[.pointer (some ⟨b, 0, none⟩), .agg #[.int .i64 i.op, .int .i64 i.a, .int .i64 i.b, .int .i64 i.n]] w fun e w' => e = .returned (.tuple #[]) ∧ Pap B b (l ++ cI.enc i) w' ∧ Wr B b w w' := by
  have H := Lib.hid h
  have HL := Lib.hid hl
  have HE : Hid (l ++ cI.enc i = (((l ++ [by8 i.op]) ++ [by8 i.a]) ++ [by8 i.b]) ++ eight i.n) := Lib.hid (by rw [show cI.enc i = [by8 i.op] ++ ([by8 i.a] ++ ([by8 i.b] ++ eight i.n)) from rfl]; simp only [List.append_assoc])
  have hwr : ∀ o : Obj, Wr B b w (w.alloc o) := fun o => Wr.up ((Below.refl _ _).alloc (Nat.le_refl _) _) h.2
  have HW := Lib.hid hwr
  clear h hl hwr
  go_enter Tryd.func57, Tryd.ntmps57
  go_wp2_with fail
  refine (small_any B b l _ _ (H.out.alloc _) (by have := HL.out; omega)).mono ?_
  rintro e w1 ⟨rfl, p1, b1⟩
  have r1 : Rw w1 w.heap.size 59 #[.int .i64 i.op, .int .i64 i.a, .int .i64 i.b, .int .i64 i.n] := b1.k _ _ _ (by omega) (by decide) (Rw.new _ _ _ rfl)
  have W1 := Lib.hid ((HW.out _).trans b1)
  have P1 := Lib.hid p1
  have R1 := Lib.hid r1
  have k1 := r1.cell (j := 1) rfl
  clear p1 b1 r1 H HW
  go_wp2_with fail
  refine (small_any B b (l ++ [by8 i.op]) _ _ P1.out (by have := HL.out; simp; omega)).mono ?_
  rintro e w2 ⟨rfl, p2, b2⟩
  have r2 := b2.k _ _ _ (by omega) (by decide) R1.out
  have W2 := Lib.hid (W1.out.trans b2)
  have P2 := Lib.hid p2
  have R2 := Lib.hid r2
  have k2 := r2.cell (j := 2) rfl
  clear p2 b2 r2 P1 W1 R1 k1
  go_wp2_with fail
  refine (small_any B b ((l ++ [by8 i.op]) ++ [by8 i.a]) _ _ P2.out (by have := HL.out; simp; omega)).mono ?_
  rintro e w3 ⟨rfl, p3, b3⟩
  have r3 := b3.k _ _ _ (by omega) (by decide) R2.out
  have W3 := Lib.hid (W2.out.trans b3)
  have P3 := Lib.hid p3
  have R3 := Lib.hid r3
  have k3 := r3.cell (j := 3) rfl
  clear p3 b3 r3 P2 W2 R2 k2
  go_wp2_with fail
  refine (pnumber_any B b (((l ++ [by8 i.op]) ++ [by8 i.a]) ++ [by8 i.b]) _ _ P3.out (by have := HL.out; simp; omega)).mono ?_
  rintro e w4 ⟨rfl, p4, b4⟩
  go_wp2
  go_end0
  exact ⟨rfl, by rw [HE.out]; exact p4, W3.out.trans b4⟩
set_option maxRecDepth 100000 in
set_option maxHeartbeats 2000000 in
theorem pchannel_any (B b : Nat) (l : List UInt8) (i : Chn) (w : World) (h : Pap B b l w) (hl : l.length ≤ 800000) (hb : b < w.heap.size) :
    Calls Tryd.prog 34 #[.pointer (some ⟨b, 0, none⟩), .agg #[.int .i64 i.kd, .int .i64 i.fr, .int .i64 i.tt]] w fun e w' => e = .returned (.tuple #[]) ∧ Pap B b (l ++ cC.enc i) w' ∧ Wr B b w w' := by
  have H := Lib.hid h
  have HL := Lib.hid hl
  have HE : Hid (l ++ cC.enc i = ((l ++ [by8 i.kd]) ++ [by8 i.fr]) ++ [by8 i.tt]) := Lib.hid (by rw [show cC.enc i = [by8 i.kd] ++ ([by8 i.fr] ++ [by8 i.tt]) from rfl]; simp only [List.append_assoc])
  have hwr : ∀ o : Obj, Wr B b w (w.alloc o) := fun o => Wr.up ((Below.refl _ _).alloc (Nat.le_refl _) _) h.2
  have HW := Lib.hid hwr
  clear h hl hwr
  go_enter Tryd.func34, Tryd.ntmps34
  go_wp2_with fail
  refine (small_any B b l _ _ (H.out.alloc _) (by have := HL.out; omega)).mono ?_
  rintro e w1 ⟨rfl, p1, b1⟩
  have r1 : Rw w1 w.heap.size 55 #[.int .i64 i.kd, .int .i64 i.fr, .int .i64 i.tt] := b1.k _ _ _ (by omega) (by decide) (Rw.new _ _ _ rfl)
  have W1 := Lib.hid ((HW.out _).trans b1)
  have P1 := Lib.hid p1
  have R1 := Lib.hid r1
  have k1 := r1.cell (j := 1) rfl
  clear p1 b1 r1 H HW
  go_wp2_with fail
  refine (small_any B b (l ++ [by8 i.kd]) _ _ P1.out (by have := HL.out; simp; omega)).mono ?_
  rintro e w2 ⟨rfl, p2, b2⟩
  have r2 := b2.k _ _ _ (by omega) (by decide) R1.out
  have W2 := Lib.hid (W1.out.trans b2)
  have P2 := Lib.hid p2
  have R2 := Lib.hid r2
  have k2 := r2.cell (j := 2) rfl
  clear p2 b2 r2 P1 W1 R1 k1
  go_wp2_with fail
  refine (small_any B b ((l ++ [by8 i.kd]) ++ [by8 i.fr]) _ _ P2.out (by have := HL.out; simp; omega)).mono ?_
  rintro e w4 ⟨rfl, p4, b4⟩
  go_wp2
  go_end0
  exact ⟨rfl, by rw [HE.out]; exact p4, W2.out.trans b4⟩
set_option maxRecDepth 100000 in
set_option maxHeartbeats 2000000 in
theorem pslot_any (B b : Nat) (l : List UInt8) (i : Slt) (w : World) (h : Pap B b l w) (hl : l.length ≤ 800000) (hb : b < w.heap.size) :
    Calls Tryd.prog 36 #[.pointer (some ⟨b, 0, none⟩), .agg #[.int .i64 i.pt, .int .i64 i.tk]] w fun e w' => e = .returned (.tuple #[]) ∧ Pap B b (l ++ cT.enc i) w' ∧ Wr B b w w' := by
  have H := Lib.hid h
  have HL := Lib.hid hl
  have HE : Hid (l ++ cT.enc i = (l ++ [by8 i.pt]) ++ [by8 i.tk]) := Lib.hid (by rw [show cT.enc i = [by8 i.pt] ++ [by8 i.tk] from rfl]; simp only [List.append_assoc])
  have hwr : ∀ o : Obj, Wr B b w (w.alloc o) := fun o => Wr.up ((Below.refl _ _).alloc (Nat.le_refl _) _) h.2
  have HW := Lib.hid hwr
  clear h hl hwr
  go_enter Tryd.func36, Tryd.ntmps36
  go_wp2_with fail
  refine (small_any B b l _ _ (H.out.alloc _) (by have := HL.out; omega)).mono ?_
  rintro e w1 ⟨rfl, p1, b1⟩
  have r1 : Rw w1 w.heap.size 57 #[.int .i64 i.pt, .int .i64 i.tk] := b1.k _ _ _ (by omega) (by decide) (Rw.new _ _ _ rfl)
  have W1 := Lib.hid ((HW.out _).trans b1)
  have P1 := Lib.hid p1
  have k1 := r1.cell (j := 1) rfl
  clear p1 b1 r1 H HW
  go_wp2_with fail
  refine (small_any B b (l ++ [by8 i.pt]) _ _ P1.out (by have := HL.out; simp; omega)).mono ?_
  rintro e w4 ⟨rfl, p4, b4⟩
  go_wp2
  go_end0
  exact ⟨rfl, by rw [HE.out]; exact p4, W1.out.trans b4⟩
end Go.Proofs.YtbhfnkbflikliaaDoor
