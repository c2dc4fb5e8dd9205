/- conf.names, conf.Check. -/
import Derived.Test.YtdijpjmbicfcdaaDoorCf2
namespace Go.Proofs.YtdijpjmbicfcdaaDoor
set_option linter.unusedSimpArgs false
set_option linter.unusedVariables false
open Go.RowKit Go.Sort

theorem chanL_nat {l : List Ins} {op : Int} {m k : Nat} (h : k < (chanL l op m).length) : ∃ c : Nat, (chanL l op m)[k] = (c : Int) ∧ c < m := by
  have hm := List.getElem_mem h
  unfold chanL at hm
  obtain ⟨c, hc, e⟩ := List.mem_map.1 hm
  exact ⟨c, e.symm, by simpa using (List.mem_filter.1 hc).1⟩
theorem namesFrom_at (l : List Chn) : ∀ (ps : List Prt) (k j : Nat) (h : j < ps.length), nameBad l ((k + j : Nat) : Int) ps[j] = true → namesFrom l k ps = false
  | p :: r, k, 0, _, hb => by
    rw [namesFrom, if_pos (by simpa using hb)]
  | p :: r, k, j + 1, h, hb => by
    rw [namesFrom]
    split
    · rfl
    · exact namesFrom_at l r (k + 1) j (by simpa using h) (by rw [show k + 1 + j = k + (j + 1) by omega]; simpa using hb)
theorem namesFrom_all (l : List Chn) : ∀ (ps : List Prt) (k : Nat), (∀ j (h : j < ps.length), nameBad l ((k + j : Nat) : Int) ps[j] = false) → namesFrom l k ps = true
  | [], _, _ => rfl
  | p :: r, k, hz => by
    rw [namesFrom, if_neg (by have := hz 0 (by simp); simpa using this)]
    exact namesFrom_all l r (k + 1) (fun j h => by rw [show k + 1 + j = k + (j + 1) by omega]; have := hz (j + 1) (by simpa using h); simpa using this)

set_option maxHeartbeats 2000000 in
theorem names_any (S : SysD) (vp vc vs : Value) (w : World) (he : Env w) (hS : Sys w vp vc vs S) (hc : countsB S = true) (hp : firstP S.parts = 0) : Calls Tryd.prog 34 #[.agg #[vp, vc, vs]] w fun e w' => e = .returned (.bool (namesB S)) ∧ Below w.heap.size w w' := by
  have hn : 1 ≤ S.parts.length ∧ S.parts.length ≤ 4 ∧ S.chans.length ≤ 6 := by unfold countsB at hc; simp at hc; omega
  obtain ⟨hn0, hn1, hn2⟩ := hn
  obtain ⟨pb, po, pc, rfl, hpc, hpb, hpp⟩ := hS.p.open (by omega)
  obtain ⟨ca, cc, rfl⟩ := hS.c.form
  obtain ⟨sa, sc, rfl⟩ := hS.s.form
  have HS := Lib.hid hS
  have HP := Lib.hid hpp
  have HZ := Lib.hid (firstP_zero hp)
  generalize hr : namesB S = r
  have HR := Lib.hid hr
  clear hS hpp hp hr hc
  go_enter Tryd.func34, Tryd.ntmps34
  go_wp2
  go_loopw [12] (fun i wr => ∃ k : Nat, i = .int .i64 k ∧ k ≤ S.parts.length ∧ Hid (∀ j (h : j < S.parts.length), j < k → nameBad S.chans (j : Int) S.parts[j] = false) ∧ Hid (Box wr w.heap.size (.slice (some ⟨pb, po, none⟩) S.parts.length pc) (.slice ca S.chans.length cc) (.slice sa S.slots.length sc)) ∧ Hid (Below w.heap.size w wr)) (fun i _ => S.parts.length - (intOf i).toNat)
  case atStart => exact ⟨0, rfl, Nat.zero_le _, fun j hj h => by omega, box_new w _ _ _ _ _ rfl, (by repeat (first | exact Below.refl _ _ | assumption | refine Below.drew ?_ | refine Below.alloc ?_ (by first | (simp; done) | (simp; omega)) _ | refine Below.setCell ?_ (by first | (simp; done) | (simp; omega)) _))⟩
  case round =>
    obtain ⟨k, rfl, hk, HN, HB, hbel⟩ := hrel
    by_cases hlt : k < S.parts.length
    · have hli : (k : Int) < S.parts.length := by omega
      obtain ⟨c, i, c0, c1, hpr⟩ := HP.out k hlt
      obtain ⟨a1, b1, rfl⟩ := hpr.code.form
      obtain ⟨a2, b2, rfl⟩ := hpr.inn.form
      have c0 := bcl hbel.out hpb c0
      have c1 := bcl hbel.out hpb c1
      have HPR := Lib.hid hpr
      have hcz := HZ.out k hlt
      have HCZ := Lib.hid hcz
      clear hpr hcz
      have hbs := hbel.out.size
      generalize hq1 : (chanL S.parts[k].code 12 6).any (putBad S.chans (k : Int)) = q1
      generalize hq2 : (chanL S.parts[k].code 13 6).any (getBad S.chans (k : Int)) = q2
      have H1 := Lib.hid hq1
      have H2 := Lib.hid hq2
      have HNB : Hid (nameBad S.chans (k : Int) S.parts[k] = (q1 || q2)) := by show nameBad _ _ _ = _; unfold nameBad; rw [hq1, hq2]
      clear hq1 hq2
      have e0 := he.up hbel.out
      go_wp2_with fail
      refine (puts_yes S.parts[k].code _ _ (e0.up (by repeat (first | exact Below.refl _ _ | assumption | refine Below.drew ?_ | refine Below.alloc ?_ (by first | (simp; done) | (simp; omega)) _ | refine Below.setCell ?_ (by first | (simp; done) | (simp; omega)) _))) ((HPR.out.code.up hbel.out).up (by repeat (first | exact Below.refl _ _ | assumption | refine Below.drew ?_ | refine Below.alloc ?_ (by first | (simp; done) | (simp; omega)) _ | refine Below.setCell ?_ (by first | (simp; done) | (simp; omega)) _))) HCZ.out).mono ?_
      rintro e w1 ⟨v1, rfl, s1, bb⟩
      obtain ⟨v1a, v1c, rfl⟩ := s1.form
      have D : Below wr.heap.size wr w1 := Below.trans (by repeat (first | exact Below.refl _ _ | assumption | refine Below.drew ?_ | refine Below.alloc ?_ (by first | (simp; done) | (simp; omega)) _ | refine Below.setCell ?_ (by first | (simp; done) | (simp; omega)) _)) (bb.mono (by simp; omega))
      have m0 : w1.cell? ⟨wr.heap.size, 0, none⟩ = some (.int .i64 k) := bcl bb (by simp; omega) (cl_alloc _ (by simp) (by simp))
      have p0 : w1.cell? ⟨wr.heap.size + 1, 0, none⟩ = some (.slice a1 S.parts[k].code.length b1) := bcl bb (by simp) (by simp)
      have z1 : wr.heap.size + 1 < w1.heap.size := by have := bb.size; simp at this; omega
      have HD := Lib.hid D
      have M0 := Lib.hid m0
      have S1 := Lib.hid s1
      clear bb D s1 m0 c0 c1
      go_wp2_with fail
      refine (oneInt_any _ _ _ enNames1 _ (putBad S.chans (k : Int)) _ S1.out (Nat.le_trans (chanL_len _ _ _) (by decide)) (fun j hj w2 hb => ?_) q1 H1.out).mono ?_
      · obtain ⟨c, e, hc6⟩ := chanL_nat hj
        rw [e, app2]
        exact putLit_any c S.chans k _ _ _ _ _ _ ((HB.out.up HD.out).up hb) (bcl hb (by omega) M0.out) (((HS.out.c.up hbel.out).up HD.out).up hb) hc6
      rintro e w2 ⟨rfl, bb⟩
      have p0 : w2.cell? ⟨wr.heap.size + 1, 0, none⟩ = some (.slice a1 S.parts[k].code.length b1) := bcl bb z1 p0
      have M0 := Lib.hid (bcl bb (by omega) M0.out)
      have HD := Lib.hid (HD.out.trans (bb.mono HD.out.size))
      have z1 : wr.heap.size + 1 < w2.heap.size := by have := bb.size; omega
      clear bb S1
      cases q1
      · go_wp2_with fail
        refine (gets_yes S.parts[k].code _ _ (e0.up HD.out) ((HPR.out.code.up hbel.out).up HD.out) HCZ.out).mono ?_
        rintro e w3 ⟨v2, rfl, s2, bb⟩
        obtain ⟨v2a, v2c, rfl⟩ := s2.form
        have M0 := Lib.hid (bcl bb (by omega) M0.out)
        have HD := Lib.hid (HD.out.trans (bb.mono HD.out.size))
        have z1 : wr.heap.size + 1 < w3.heap.size := by have := bb.size; omega
        have S2 := Lib.hid s2
        clear bb s2 p0
        go_wp2_with fail
        refine (oneInt_any _ _ _ enNames2 _ (getBad S.chans (k : Int)) _ S2.out (Nat.le_trans (chanL_len _ _ _) (by decide)) (fun j hj w2 hb => ?_) q2 H2.out).mono ?_
        · obtain ⟨c, e, hc6⟩ := chanL_nat hj
          rw [e, app2]
          exact getLit_any c S.chans k _ _ _ _ _ _ ((HB.out.up HD.out).up hb) (bcl hb (by omega) M0.out) (((HS.out.c.up hbel.out).up HD.out).up hb) hc6
        rintro e w4 ⟨rfl, bb⟩
        have HD := Lib.hid (HD.out.trans (bb.mono HD.out.size))
        have HW := Lib.hid (hbel.out.trans (HD.out.mono hbs))
        clear bb S2
        cases q2
        · have HBB := Lib.hid (HB.out.up HD.out)
          go_wp2
          go_roundw
          case rel => exact ⟨k + 1, by go_num, by omega, (fun j hj hjk => by
            by_cases e : j = k
            · subst e; exact HNB.out
            · exact HN.out j hj (by omega)), HBB, HW⟩
          case measure => simp [intOf]; omega
        · have HF := Lib.hid (namesFrom_at S.chans S.parts 0 k hlt (by rw [Nat.zero_add]; exact HNB.out))
          go_wp2
          go_ret
          exact ⟨ret_bool (by rw [← HR.out]; exact HF.out.symm), HW.out⟩
      · have HW := Lib.hid (hbel.out.trans (HD.out.mono hbs))
        have HF := Lib.hid (namesFrom_at S.chans S.parts 0 k hlt (by rw [Nat.zero_add]; exact HNB.out))
        go_wp2
        go_ret
        exact ⟨ret_bool (by rw [← HR.out]; exact HF.out.symm), HW.out⟩
    · have hli : ¬ (k : Int) < S.parts.length := by omega
      have HF := Lib.hid (namesFrom_all S.chans S.parts 0 (fun j hj => by rw [Nat.zero_add]; exact HN.out j hj (by omega)))
      go_wp2
      go_ret
      exact ⟨ret_bool (by rw [← HR.out]; exact HF.out.symm), hbel.out⟩
end Go.Proofs.YtdijpjmbicfcdaaDoor
