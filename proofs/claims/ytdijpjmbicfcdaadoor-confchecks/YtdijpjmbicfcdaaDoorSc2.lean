/- sched.Frame, sched.Who; the reference's turns, FrameOf, WhoOf. -/
import Derived.Test.YtdijpjmbicfcdaaDoorSc1
import Derived.Test.YtdijpjmbicfcdaaDoorCf6
namespace Go.Proofs.YtdijpjmbicfcdaaDoor
set_option linter.unusedSimpArgs false
set_option linter.unusedVariables false
open Go.RowKit Go.Sort

/-- Whose turn each tick of a frame is. -/
def repL : List Slt → List Int
  | [] => []
  | t :: r => List.replicate t.tk.toNat t.pt ++ repL r
theorem repL_snoc : ∀ (l : List Slt) (t : Slt), repL (l ++ [t]) = repL l ++ List.replicate t.tk.toNat t.pt
  | [], t => by simp [repL]
  | x :: r, t => by rw [List.cons_append, repL, repL, repL_snoc r, List.append_assoc]
theorem repL_len : ∀ (l : List Slt) (e : Int), (∀ t ∈ l, 0 ≤ t.tk) → sumT e l = e + (repL l).length
  | [], e, _ => by simp [sumT, repL]
  | x :: r, e, h => by
    rw [sumT, repL_len r _ (fun t ht => h t (by simp [ht])), repL, List.length_append, List.length_replicate]
    have := h x (by simp)
    omega
theorem ownL_rep : ∀ (l : List Slt) (e who : Int) (x : Nat), (∀ t ∈ l, 0 ≤ t.tk) → (hx : x < (repL l).length) → ownL (e + x) who (turnsL e l) = (repL l)[x]
  | t :: r, e, who, x, h, hx => by
    have h0 := h t (by simp)
    simp only [turnsL, ownL, repL]
    by_cases hlt : x < t.tk.toNat
    · rw [if_pos (by omega), List.getElem_append_left (by simpa using hlt)]
      simp
    · rw [if_neg (by omega), List.getElem_append_right (by simpa using hlt)]
      simp only [repL, List.length_append, List.length_replicate] at hx
      have := ownL_rep r (e + t.tk) t.pt (x - t.tk.toNat) (fun t ht => h t (by simp [ht])) (by omega)
      rw [show e + t.tk + ((x - t.tk.toNat : Nat) : Int) = e + x by omega] at this
      rw [this]
      congr 1
      simp

theorem chkS_zero {S : SysD} (h : chkS S = 0) : countsB S = true ∧ (∀ j (hj : j < S.parts.length), chkC S.parts[j].code = 0) ∧ S.chans.any kindBad = false ∧ placesB S = true ∧ namesB S = true := by
  unfold chkS at h
  split at h
  · omega
  · rename_i h1
    split at h
    · rename_i h2; exact absurd h h2
    · rename_i h2
      split at h
      · omega
      · rename_i h3
        split at h
        · omega
        · rename_i h4
          split at h
          · omega
          · rename_i h5
            exact ⟨by simpa using h1, firstP_zero (by simpa using h2), by simpa using h3, by simpa using h4, by simpa using h5⟩
theorem slots_ok {S : SysD} (h : chkS S = 0) : SlotsOk S.slots ∧ 1 ≤ S.slots.length := by
  obtain ⟨h1, -, -, h4, -⟩ := chkS_zero h
  obtain ⟨hc, -⟩ := countsB_is h1
  refine ⟨⟨hc.2.2.2.2, fun j hj => ?_⟩, hc.2.2.2.1⟩
  unfold placesB at h4
  rw [Bool.and_eq_true, Bool.not_eq_true', Bool.not_eq_true', List.any_eq_false, List.any_eq_false] at h4
  have := h4.2 _ (List.getElem_mem hj)
  unfold slotBad withinB at this
  simp at this
  omega
theorem SlotsOk.nonneg {ts : List Slt} (h : SlotsOk ts) : ∀ t ∈ ts, 0 ≤ t.tk := fun t ht => by
  obtain ⟨j, hj, rfl⟩ := List.getElem_of_mem ht
  have := h.2 j hj; omega
theorem frame_pos {ts : List Slt} (h : SlotsOk ts) (h1 : 1 ≤ ts.length) : 1 ≤ sumT 0 ts ∧ sumT 0 ts ≤ 48 := by
  have := sumT_bd h ts.length (Nat.le_refl _)
  rw [List.take_length] at this
  have := h.1
  omega
/-- What Who tells of a right system. -/
def whoS (S : SysD) (tick : Int) : Int := ownL (tick % sumT 0 S.slots) 0 (turnsL 0 S.slots)

set_option maxHeartbeats 1000000 in
theorem frameC_any (S : SysD) (vp vc vs : Value) (w : World) (he : Env w) (hS : Sys w vp vc vs S) (c : Int) (hc : chkS S = c) (fr : Int) (hf : (if c = 0 then sumT 0 S.slots else 0) = fr) :
    Calls Tryd.prog 14 #[.agg #[vp, vc, vs]] w fun e w' => e = .returned (.tuple #[.int .i64 fr, .int .i64 c]) ∧ Below w.heap.size w w' := by
  obtain ⟨pa, pc, rfl⟩ := hS.p.form
  obtain ⟨ca, cc, rfl⟩ := hS.c.form
  obtain ⟨sa, sc, rfl⟩ := hS.s.form
  have HS := Lib.hid hS
  have HC := Lib.hid hc
  have HF := Lib.hid hf
  clear hS hc hf
  go_enter Tryd.func14, Tryd.ntmps14
  go_wp2_with fail
  refine (confCheck_any S _ _ _ _ (he.up (by repeat (first | exact Below.refl _ _ | assumption | refine Below.drew ?_ | refine Below.alloc ?_ (by first | (simp; done) | (simp; omega)) _ | refine Below.setCell ?_ (by first | (simp; done) | (simp; omega)) _))) (HS.out.up (by repeat (first | exact Below.refl _ _ | assumption | refine Below.drew ?_ | refine Below.alloc ?_ (by first | (simp; done) | (simp; omega)) _ | refine Below.setCell ?_ (by first | (simp; done) | (simp; omega)) _)))).mono ?_
  rw [HC.out]
  rintro e w1 ⟨rfl, bb⟩
  have hB := (box_new w (.slice pa S.parts.length pc) (.slice ca S.chans.length cc) (.slice sa S.slots.length sc) 26 _ rfl).up bb
  have D := Lib.hid (Below.trans (show Below w.heap.size w _ from (by repeat (first | exact Below.refl _ _ | assumption | refine Below.drew ?_ | refine Below.alloc ?_ (by first | (simp; done) | (simp; omega)) _ | refine Below.setCell ?_ (by first | (simp; done) | (simp; omega)) _))) (bb.mono (by simp)))
  have k2 := hB.s
  clear bb hB
  by_cases h0 : c = 0
  · subst h0
    have HF1 : Hid (sumT 0 S.slots = fr) := by have := HF.out; rw [if_pos rfl] at this; exact this
    have hok := slots_ok HC.out
    go_wp2_with fail
    refine (frame_any S.slots _ _ hok.1 hok.2 (HS.out.s.up D.out)).mono ?_
    rw [HF1.out]
    rintro e w2 ⟨rfl, bb⟩
    have D := Lib.hid (D.out.trans (bb.mono D.out.size))
    clear bb hok
    go_wp2
    go_ret2
    exact ⟨rfl, D.out⟩
  · have hz' : (c != 0) = true := by simpa using h0
    obtain rfl : 0 = fr := by have := HF.out; rw [if_neg h0] at this; exact this
    clear h0
    go_wp2
    go_ret2
    exact ⟨rfl, D.out⟩

set_option maxRecDepth 100000 in
set_option maxHeartbeats 2000000 in
/-- The reference's turns. -/
theorem turnsRef_any (S : SysD) (hok : SlotsOk S.slots) (h1 : 1 ≤ S.slots.length) (vp vc vs : Value) (w : World) (hS : Sys w vp vc vs S) :
    Calls Tryd.prog 42 #[.agg #[vp, vc, vs]] w fun e w' => ∃ v, e = .returned v ∧ SlN w w' v (repL S.slots).length (ints (repL S.slots)) ∧ Below w.heap.size w w' := by
  obtain ⟨i0, hi, hz0, hz1, hz2⟩ := info_parts info3
  obtain ⟨pa, pc, rfl⟩ := hS.p.form
  obtain ⟨ca, cc, rfl⟩ := hS.c.form
  obtain ⟨sb, so, sc, rfl, hsc, hsb, hss⟩ := hS.s.open (by omega)
  have HO := Lib.hid hok
  have HC := Lib.hid hss
  have hl6 := hok.1
  clear hok hss hS
  have hB0 := box_new w (.slice pa S.parts.length pc) (.slice ca S.chans.length cc) (.slice (some ⟨sb, so, none⟩) S.slots.length sc) 26 _ rfl
  have hD0 : Below w.heap.size w (w.alloc (.cells #[.slice pa S.parts.length pc, .slice ca S.chans.length cc, .slice (some ⟨sb, so, none⟩) S.slots.length sc] 26)) := (Below.refl _ _).alloc (Nat.le_refl _) _
  have hz : (w.alloc (.cells #[.slice pa S.parts.length pc, .slice ca S.chans.length cc, .slice (some ⟨sb, so, none⟩) S.slots.length sc] 26)).heap.size = w.heap.size + 1 := by simp
  go_enter Tryd.func42, Tryd.ntmps42
  go_wp2
  generalize w.alloc (.cells #[.slice pa S.parts.length pc, .slice ca S.chans.length cc, .slice (some ⟨sb, so, none⟩) S.slots.length sc] 26) = W0 at *
  have HB0 := Lib.hid hB0
  have HD0 := Lib.hid hD0
  clear hB0 hD0
  go_loopw [3, 4] (fun o i wr => ∃ (k : Nat) (zs : List Int), i = .int .i64 k ∧ k ≤ S.slots.length ∧ Hid (zs = repL (S.slots.take k)) ∧ zs.length ≤ 8 * k ∧ wr.ownsRow W0.heap.size 3 1 o zs.length (ints zs) ∧ Hid (Below W0.heap.size W0 wr)) (fun _ i _ => S.slots.length - (intOf i).toNat)
  case atStart => exact ⟨0, [], rfl, by omega, (show [] = repL (S.slots.take 0) from rfl), Nat.le_refl _, World.ownsRow_nil _ _ _ _, Below.refl _ _⟩
  case round =>
    obtain ⟨k, zs, rfl, hk, HZ, hzl, hown, HT⟩ := hrel
    obtain ⟨oa, oc, rfl⟩ := own_form hown
    have k2 := (HB0.out.up HT.out).s
    by_cases hlt : k < S.slots.length
    · have hli : (k : Int) < S.slots.length := by omega
      obtain ⟨d0, d1⟩ := slot_cells HC.out k hlt
      have D0 := Lib.hid d0
      have D1 := Lib.hid d1
      obtain ⟨m, hm, hm8⟩ : ∃ m : Nat, S.slots[k].tk = m ∧ m ≤ 8 := by
        have := HO.out.2 k hlt
        exact ⟨S.slots[k].tk.toNat, by omega, by omega⟩
      have HM := Lib.hid hm
      clear d0 d1 hm
      go_wp2
      go_loopw [3, 5] (fun o i wr => ∃ (t : Nat) (ys : List Int), i = .int .i64 t ∧ t ≤ m ∧ Hid (ys = zs ++ List.replicate t S.slots[k].pt) ∧ ys.length ≤ 8 * k + t ∧ wr.ownsRow W0.heap.size 3 1 o ys.length (ints ys) ∧ Hid (Below W0.heap.size W0 wr)) (fun _ i _ => m - (intOf i).toNat)
      case atStart => exact ⟨0, zs, rfl, by omega, (show zs = zs ++ List.replicate 0 S.slots[k].pt by simp), by omega, hown, HT⟩
      case round =>
        clear hown HT k2
        obtain ⟨t, ys, rfl, ht, HY, hyl, hown, HT⟩ := hrel
        obtain ⟨oa, oc, rfl⟩ := own_form hown
        have k2 := (HB0.out.up HT.out).s
        have hs0 := HD0.out.size
        have d0 := bcl HT.out (by omega) (bcl HD0.out hsb D0.out)
        have d1 := bcl HT.out (by omega) (bcl HD0.out hsb D1.out)
        rw [HM.out] at d1
        by_cases htt : t < m
        · have hti : (t : Int) < m := by omega
          have hbs := HT.out.size
          go_wp2_with (at_builtin; refine wpList_append_lies _ rfl (.tmp 23) (.tmp 30) 50 rfl W0.heap.size 3 i0 (.int .i64 0) 1 8 Tryd.underlying50 hi hz0 hz1 hz2 rfl (by decide) (.slice oa ys.length oc) ys.length (ints ys) rfl (hown.alloc _) ⟨_, 0, none⟩ 1 1 [.int .i64 S.slots[k].pt] rfl rfl (one_new _ _ 3) (int_cell _) (by decide) (by unfold maxLen; omega) (by omega) (by simp; omega) _ rfl ?_; intro g cap1 w1 hown1 hgrow hat hglt)
          have R := ints_step HT.out hown hown1 hgrow
          have HYY : Hid (ys ++ [S.slots[k].pt] = zs ++ List.replicate (t + 1) S.slots[k].pt) := by
            show _ = _
            rw [HY.out, List.replicate_succ', List.append_assoc]
          clear hown1 hgrow hown hat
          go_wp2
          go_roundw
          case rel => exact ⟨t + 1, ys ++ [S.slots[k].pt], by go_num, by omega, HYY, by simp; omega, R.1, R.2⟩
          case measure => simp [intOf]; omega
        · have hti : ¬ (t : Int) < m := by omega
          obtain rfl : t = m := by omega
          have HZZ : Hid (ys = repL (S.slots.take (k + 1))) := by
            show _ = _
            rw [List.take_succ_eq_append_getElem hlt, repL_snoc, HY.out, HZ.out, HM.out]
            rfl
          go_wp2
          go_roundw
          case rel => exact ⟨k + 1, ys, by go_num, by omega, HZZ, by omega, hown, HT⟩
          case measure => simp [intOf]; omega
    · have hli : ¬ (k : Int) < S.slots.length := by omega
      have HZZ : Hid (zs = repL S.slots) := by
        show _ = _
        have := HZ.out
        rwa [List.take_of_length_le (by omega)] at this
      have hs0 := HD0.out.size
      go_wp2
      go_ret
      exact ⟨_, rfl, by rw [← HZZ.out]; exact own_sln hs0 hown, HD0.out.trans (HT.out.mono hs0)⟩

set_option maxHeartbeats 1000000 in
theorem frameOf_any (S : SysD) (hok : SlotsOk S.slots) (h1 : 1 ≤ S.slots.length) (vp vc vs : Value) (w : World) (hS : Sys w vp vc vs S) (fr : Int) (hf : sumT 0 S.slots = fr) :
    Calls Tryd.prog 16 #[.agg #[vp, vc, vs]] w fun e w' => e = .returned (.int .i64 fr) ∧ Below w.heap.size w w' := by
  have hl : ((repL S.slots).length : Int) = fr := by rw [← hf, repL_len _ 0 hok.nonneg]; omega
  obtain ⟨pa, pc, rfl⟩ := hS.p.form
  obtain ⟨ca, cc, rfl⟩ := hS.c.form
  obtain ⟨sa, sc, rfl⟩ := hS.s.form
  have HS := Lib.hid hS
  have HL := Lib.hid hl
  have HO := Lib.hid hok
  clear hS hl hok hf
  go_enter Tryd.func16, Tryd.ntmps16
  go_wp2_with fail
  refine (turnsRef_any S HO.out h1 _ _ _ _ (HS.out.up (by repeat (first | exact Below.refl _ _ | assumption | refine Below.drew ?_ | refine Below.alloc ?_ (by first | (simp; done) | (simp; omega)) _ | refine Below.setCell ?_ (by first | (simp; done) | (simp; omega)) _)))).mono ?_
  rintro e w1 ⟨v, rfl, s, bb⟩
  obtain ⟨a1, c1, rfl⟩ := s.1.form
  have D := Lib.hid (Below.trans (show Below w.heap.size w _ from (by repeat (first | exact Below.refl _ _ | assumption | refine Below.drew ?_ | refine Below.alloc ?_ (by first | (simp; done) | (simp; omega)) _ | refine Below.setCell ?_ (by first | (simp; done) | (simp; omega)) _))) (bb.mono (by simp)))
  clear s bb
  go_wp2
  go_ret
  exact ⟨ret_int HL.out, D.out⟩
end Go.Proofs.YtdijpjmbicfcdaaDoor
