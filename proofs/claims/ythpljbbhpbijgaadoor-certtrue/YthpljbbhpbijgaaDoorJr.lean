/- The reference's leads. -/
import Derived.Test.YthpljbbhpbijgaaDoorJq
import Derived.Test.YthpljbbhpbijgaaDoorCf6
namespace Go.Proofs.YthpljbbhpbijgaaDoor
set_option linter.unusedSimpArgs false
set_option linter.unusedVariables false
open Go.RowKit Go.Sort Go.Shelf Go.Lib

def leadB (a b : Int) (c : Chn) : Bool := (c.fr == a && c.tt == b) || (c.kd == 2 && c.fr == b && c.tt == a)
def leadsB (S : SysD) (a b : Int) : Bool := S.chans.any (leadB a b)
theorem leads_yes {S : SysD} {a b : Int} {k : Nat} (hk : k < S.chans.length) (h : leadB a b S.chans[k] = true) : leadsB S a b = true := List.any_eq_true.2 ⟨_, List.getElem_mem hk, h⟩
theorem leads_no {S : SysD} {a b : Int} (h : ∀ j (hj : j < S.chans.length), leadB a b S.chans[j] = false) : leadsB S a b = false := by
  unfold leadsB
  rw [List.any_eq_false]
  intro c hc
  obtain ⟨j, hj, rfl⟩ := List.getElem_of_mem hc
  rw [h j hj]
  decide
set_option maxRecDepth 100000 in
set_option maxHeartbeats 8000000 in
theorem leads_any (S : SysD) (hl : S.chans.length ≤ 6) (a b : Int) (vp vc vs : Value) (w : World) (hS : Sys w vp vc vs S) : Calls Tryd.prog 35 #[.agg #[vp, vc, vs], .int .i64 a, .int .i64 b] w fun e w' => e = .returned (.bool (leadsB S a b)) ∧ RowKit.Below w.heap.size w w' := by
  generalize hr : leadsB S a b = r
  have HR := Lib.hid hr
  obtain ⟨pa, pc, rfl⟩ := hS.p.form
  obtain ⟨ca, cc, rfl⟩ := hS.c.form
  obtain ⟨sa, sc, rfl⟩ := hS.s.form
  have HS := Lib.hid hS
  clear hS hr
  go_enter Tryd.func35, Tryd.ntmps35
  go_wp2
  go_loopw [7] (fun i wr => ∃ k : Nat, i = .int .i64 k ∧ k ≤ S.chans.length ∧ Hid (∀ j (h : j < S.chans.length), j < k → leadB a b S.chans[j] = false) ∧ Hid (Box wr w.heap.size (.slice pa S.parts.length pc) (.slice ca S.chans.length cc) (.slice sa S.slots.length sc)) ∧ Hid (RowKit.Below w.heap.size w wr)) (fun i _ => S.chans.length - (intOf i).toNat)
  case atStart => exact ⟨0, rfl, Nat.zero_le _, fun j hj h => by omega, box_new w _ _ _ _ _ rfl, (by repeat (first | exact Below.refl _ _ | assumption | refine Below.drew ?_ | refine Below.alloc ?_ (by first | (simp; done) | (simp; omega)) _ | refine Below.setCell ?_ (by first | (simp; done) | (simp; omega)) _))⟩
  case round =>
    obtain ⟨k, rfl, hk, HN, HB, HT⟩ := hrel
    have k0 := HB.out.c
    by_cases hlt : k < S.chans.length
    · have hli : (k : Int) < S.chans.length := by omega
      have h0i : (0 : Int) ≤ k := by omega
      obtain ⟨b', off, cap, e1, hcap, hbw, hc⟩ := HS.out.c.open (by omega)
      cases e1
      obtain ⟨hkd, hfr, htt⟩ := chan_cells hc k hlt
      have hws := HT.out.size
      have c0 := bcl HT.out hbw hkd
      have c1 := bcl HT.out hbw hfr
      have c2 := bcl HT.out hbw htt
      have hbr : b' < wr.heap.size := by omega
      have hbr' : b' ≠ wr.heap.size := by omega
      have hyes := Lib.hid (fun (h : leadB a b S.chans[k] = true) => (HR.out.symm.trans (leads_yes hlt h)))
      have hno : Hid (leadB a b S.chans[k] = false → ∀ j (h : j < S.chans.length), j < k + 1 → leadB a b S.chans[j] = false) := Lib.hid (fun h j hj hjk => by
        by_cases e : j = k
        · subst e; exact h
        · exact HN.out j hj (by omega))
      generalize S.chans[k] = ch at c0 c1 c2 hyes hno
      obtain ⟨kd, fr, tt⟩ := ch
      simp only at c0 c1 c2
      clear hkd hfr htt hc HN
      by_cases h1 : fr = a
      · subst h1
        by_cases h2 : tt = b
        · subst h2
          go_wp2
          go_ret
          exact ⟨by rw [hyes.out (by simp [leadB])]; rfl, HT.out.alloc hws _⟩
        · by_cases h3 : kd = 2
          · subst h3
            by_cases h4 : fr = b
            · subst h4
              go_wp2
              go_roundw
              case rel => exact ⟨k + 1, by go_num, by omega, Lib.hid (hno.out (by simp [leadB, h2])), Lib.hid (HB.out.up ((RowKit.Below.refl _ _).alloc (Nat.le_refl _) _)), Lib.hid (HT.out.alloc hws _)⟩
              case measure => simp [intOf]; omega
            · go_wp2
              go_roundw
              case rel => exact ⟨k + 1, by go_num, by omega, Lib.hid (hno.out (by simp [leadB, h2, h4])), Lib.hid (HB.out.up ((RowKit.Below.refl _ _).alloc (Nat.le_refl _) _)), Lib.hid (HT.out.alloc hws _)⟩
              case measure => simp [intOf]; omega
          · go_wp2
            go_roundw
            case rel => exact ⟨k + 1, by go_num, by omega, Lib.hid (hno.out (by simp [leadB, h2, h3])), Lib.hid (HB.out.up ((RowKit.Below.refl _ _).alloc (Nat.le_refl _) _)), Lib.hid (HT.out.alloc hws _)⟩
            case measure => simp [intOf]; omega
      · by_cases h3 : kd = 2
        · subst h3
          by_cases h4 : fr = b
          · subst h4
            by_cases h5 : tt = a
            · subst h5
              go_wp2
              go_ret
              exact ⟨by rw [hyes.out (by simp [leadB])]; rfl, HT.out.alloc hws _⟩
            · go_wp2
              go_roundw
              case rel => exact ⟨k + 1, by go_num, by omega, Lib.hid (hno.out (by simp [leadB, h1, h5])), Lib.hid (HB.out.up ((RowKit.Below.refl _ _).alloc (Nat.le_refl _) _)), Lib.hid (HT.out.alloc hws _)⟩
              case measure => simp [intOf]; omega
          · go_wp2
            go_roundw
            case rel => exact ⟨k + 1, by go_num, by omega, Lib.hid (hno.out (by simp [leadB, h1, h4])), Lib.hid (HB.out.up ((RowKit.Below.refl _ _).alloc (Nat.le_refl _) _)), Lib.hid (HT.out.alloc hws _)⟩
            case measure => simp [intOf]; omega
        · go_wp2
          go_roundw
          case rel => exact ⟨k + 1, by go_num, by omega, Lib.hid (hno.out (by simp [leadB, h1, h3])), Lib.hid (HB.out.up ((RowKit.Below.refl _ _).alloc (Nat.le_refl _) _)), Lib.hid (HT.out.alloc hws _)⟩
          case measure => simp [intOf]; omega
    · have hli : ¬ (k : Int) < S.chans.length := by omega
      have hno := leads_no (fun j hj => HN.out j hj (by omega))
      go_wp2
      go_ret
      exact ⟨by rw [← HR.out, hno]; rfl, HT.out⟩
end Go.Proofs.YthpljbbhpbijgaaDoor

namespace Go.Proofs.YthpljbbhpbijgaaDoor
set_option linter.unusedSimpArgs false
set_option linter.unusedVariables false
open Go.RowKit Go.Sort Go.Shelf Go.Lib

def rowL (S : SysD) (a : Nat) (m : Nat) : List Edg := ((List.range m).filter fun (b : Nat) => leadsB S a b).map fun (b : Nat) => ⟨a, b⟩
def outL (S : SysD) (n : Nat) (k : Nat) : List Edg := (List.range k).flatMap fun a => rowL S a n
def edgesL (S : SysD) : List Edg := outL S S.parts.length S.parts.length
theorem rowL_step (S : SysD) (a m : Nat) : rowL S a (m + 1) = rowL S a m ++ if leadsB S a m then [⟨a, m⟩] else [] := by
  unfold rowL
  rw [List.range_succ, List.filter_append, List.map_append]
  congr 1
  by_cases h : leadsB S a m = true
  · simp [h]
  · simp [h]
theorem outL_step (S : SysD) (n k : Nat) : outL S n (k + 1) = outL S n k ++ rowL S k n := by
  unfold outL
  rw [List.range_succ, List.flatMap_append]
  simp
theorem rowL_len (S : SysD) (a m : Nat) : (rowL S a m).length ≤ m := by
  unfold rowL
  rw [List.length_map]
  refine Nat.le_trans (List.length_filter_le _ _) ?_
  simp
theorem outL_len (S : SysD) (n : Nat) : ∀ k, (outL S n k).length ≤ k * n
  | 0 => by simp [outL]
  | k + 1 => by
    have := outL_len S n k
    have := rowL_len S k n
    rw [outL_step, List.length_append, Nat.succ_mul]
    omega
theorem own_upF {w w' : World} {base : Nat} {e : TypeId} {size : Nat} {v : Value} {n : Nat} {xs : List Value} (h : w.ownsRow base e size v n xs) (hb : RowKit.Below w.heap.size w w') : w'.ownsRow base e size v n xs := by
  have hlt := h.lt
  refine ⟨h.1, ?_⟩
  rcases h.2 with hn | ⟨g, cap, cur, rfl, hg, hh, r⟩
  · exact .inl hn
  · exact .inr ⟨g, cap, cur, rfl, hg, by rw [hb.block g (hlt g rfl).2]; exact hh, r⟩
theorem Box.grownF {w w' : World} {g : Nat} {vp vc vs : Value} {row : Option Nat} (h : Box w g vp vc vs) (hg : w.grownBy w' row) (hne : some g ≠ row) : Box w' g vp vc vs :=
  ⟨(hg.cell_far ⟨g, 0, none⟩ h.lt hne).trans h.p, (hg.cell_far ⟨g, 1, none⟩ h.lt hne).trans h.c, (hg.cell_far ⟨g, 2, none⟩ h.lt hne).trans h.s, Nat.lt_of_lt_of_le h.lt hg.size⟩
set_option maxRecDepth 100000 in
set_option maxHeartbeats 8000000 in
theorem edgesOf_any (S : SysD) (hp : S.parts.length ≤ 4) (hl : S.chans.length ≤ 6) (vp vc vs : Value) (w : World) (hS : Sys w vp vc vs S) : Calls Tryd.prog 12 #[.agg #[vp, vc, vs]] w fun e w' => ∃ v, e = .returned v ∧ Sl w' 2 v (edgesL S).length (rowC Edg.cells (edgesL S)) ∧ RowKit.Below w.heap.size w w' := by
  obtain ⟨i1, hi1, hy0, hy1, hy2⟩ := info_parts infoEdg
  obtain ⟨pa, pc, rfl⟩ := hS.p.form
  obtain ⟨ca, cc, rfl⟩ := hS.c.form
  obtain ⟨sa, sc, rfl⟩ := hS.s.form
  have HS := Lib.hid hS
  clear hS
  go_enter Tryd.func12, Tryd.ntmps12
  go_wp2
  go_loopw [4, 3] (fun i l wr => ∃ k : Nat, i = .int .i64 k ∧ k ≤ S.parts.length ∧ Hid (wr.ownsRow (w.heap.size + 1) 37 2 l (outL S S.parts.length k).length (rowC Edg.cells (outL S S.parts.length k))) ∧ Hid (Box wr w.heap.size (.slice pa S.parts.length pc) (.slice ca S.chans.length cc) (.slice sa S.slots.length sc)) ∧ Hid (RowKit.Below w.heap.size w wr)) (fun i _ _ => S.parts.length - (intOf i).toNat)
  case atStart => exact ⟨0, rfl, Nat.zero_le _, Lib.hid (World.ownsRow_nil _ _ _ _), box_new w _ _ _ _ _ rfl, (by repeat (first | exact Below.refl _ _ | assumption | refine Below.drew ?_ | refine Below.alloc ?_ (by first | (simp; done) | (simp; omega)) _ | refine Below.setCell ?_ (by first | (simp; done) | (simp; omega)) _))⟩
  case round =>
    obtain ⟨k, rfl, hk, HO, HB, HT⟩ := hrel
    have k0 := HB.out.p
    by_cases hlt : k < S.parts.length
    · have hli : (k : Int) < S.parts.length := by omega
      go_wp2
      clear k0
      go_loopw [5, 3] (fun i l wr => ∃ j : Nat, i = .int .i64 j ∧ j ≤ S.parts.length ∧ Hid (wr.ownsRow (w.heap.size + 1) 37 2 l (outL S S.parts.length k ++ rowL S k j).length (rowC Edg.cells (outL S S.parts.length k ++ rowL S k j))) ∧ Hid (Box wr w.heap.size (.slice pa S.parts.length pc) (.slice ca S.chans.length cc) (.slice sa S.slots.length sc)) ∧ Hid (RowKit.Below w.heap.size w wr)) (fun i _ _ => S.parts.length - (intOf i).toNat)
      case atStart => exact ⟨0, rfl, Nat.zero_le _, by rw [show rowL S k 0 = [] from rfl, List.append_nil]; exact HO, HB, HT⟩
      case round =>
        clear HO HB HT
        obtain ⟨j, rfl, hj, HO, HB, HT⟩ := hrel
        have k0 := HB.out.p
        have k1 := HB.out.c
        have k2 := HB.out.s
        obtain ⟨a3, c3, hform⟩ := own_form HO.out
        subst hform
        by_cases hjl : j < S.parts.length
        · have hji : (j : Int) < S.parts.length := by omega
          have hol := outL_len S S.parts.length k
          have hrl := rowL_len S k j
          have hkn : k * S.parts.length ≤ 3 * 4 := Nat.mul_le_mul (by omega) hp
          have hstep := rowL_step S k j
          have HLL : Hid ((outL S S.parts.length k ++ rowL S k j).length ≤ 16) := Lib.hid (by rw [List.length_append]; omega)
          have HST : Hid (outL S S.parts.length k ++ rowL S k (j + 1) = (outL S S.parts.length k ++ rowL S k j) ++ if leadsB S k j then [⟨k, j⟩] else []) := Lib.hid (by rw [hstep, List.append_assoc])
          generalize outL S S.parts.length k ++ rowL S k j = L at HO HLL HST
          clear hol hrl hkn hstep
          go_wp2_with fail
          refine (leads_any S hl _ _ _ _ _ _ (HS.out.up HT.out)).mono ?_
          rintro e w2 ⟨rfl, hb2⟩
          have HB2 := Lib.hid (HB.out.up hb2)
          have HO2 := Lib.hid (own_upF HO.out hb2)
          have HT2 := Lib.hid (HT.out.trans (hb2.mono HT.out.size))
          clear HO HB HT hb2 k0 k1 k2
          by_cases hle : leadsB S k j = true
          · rw [hle]
            have HST2 := Lib.hid (HST.out.trans (by rw [if_pos hle]))
            clear HST
            have hw2 := HT2.out.size
            have hb2l := HB2.out.lt
            have HO3 := Lib.hid (HO2.out.alloc (.cells #[.int .i64 k, .int .i64 j] 37))
            go_wp2_with (at_builtin; refine wpList_append_lies _ rfl (.tmp 24) (.tmp 28) 27 rfl (w.heap.size + 1) 37 i1 _ 2 16 Tryd.underlying27 hi1 hy0 hy1 hy2 rfl (by decide) _ L.length (rowC Edg.cells L) rfl HO3.out ⟨w2.heap.size,0,none⟩ 1 1 [.int .i64 k, .int .i64 j] rfl rfl (new_rangeE _ _ _ _ rfl) (two_one _ _) (by decide) (by have := HLL.out; unfold maxLen; omega) (by have := HLL.out; omega) (by simp; omega) _ rfl ?_)
            intro g4 cap4 W4 hown hgrow hat hg4
            have HO4 : Hid (W4.ownsRow (w.heap.size + 1) 37 2 (.slice (some ⟨g4, 0, none⟩) (L.length + 1) cap4) (L ++ [(⟨k, j⟩ : Edg)]).length (rowC Edg.cells (L ++ [(⟨k, j⟩ : Edg)]))) := Lib.hid (by rw [rowE_snoc, List.length_append]; exact hown)
            have HT4 := Lib.hid ((HT2.out.alloc hw2 _).grown hgrow (by simp; omega) (fun q e => by have := own_block HO3.out q e; omega))
            have HB4 := Lib.hid ((HB2.out.up ((RowKit.Below.refl _ _).alloc (Nat.le_refl _) _)).grownF hgrow (fun e => by have := own_block HO3.out _ e.symm; omega))
            clear hown hgrow hat HO2 HO3 HT2 HB2
            go_wp2
            go_roundw
            case rel => exact ⟨j + 1, by go_num, by omega, by rw [HST2.out]; exact HO4, HB4, HT4⟩
            case measure => simp [intOf]; omega
          · have hlf : leadsB S k j = false := by simpa using hle
            rw [hlf]
            have HST2 := Lib.hid (HST.out.trans (by rw [hlf]; simp) : _ = L)
            clear HST
            go_wp2
            go_roundw
            case rel => exact ⟨j + 1, by go_num, by omega, by rw [HST2.out]; exact HO2, HB2, HT2⟩
            case measure => simp [intOf]; omega
        · have hji : ¬ (j : Int) < S.parts.length := by omega
          have hje : j = S.parts.length := by omega
          go_wp2
          go_roundw
          case rel => exact ⟨k + 1, by go_num, by omega, by rw [outL_step, ← hje]; rw [← hje] at HO; exact HO, HB, HT⟩
          case measure => simp [intOf]; omega
    · have hli : ¬ (k : Int) < S.parts.length := by omega
      have hke : k = S.parts.length := by omega
      have HE : Hid (outL S S.parts.length k = edgesL S) := Lib.hid (by rw [hke]; rfl)
      go_wp2
      go_ret
      exact ⟨_, rfl, by rw [← HE.out]; exact own_sl HO.out, HT.out⟩
end Go.Proofs.YthpljbbhpbijgaaDoor

namespace Go.Proofs.YthpljbbhpbijgaaDoor
set_option linter.unusedSimpArgs false
set_option linter.unusedVariables false
open Go.RowKit Go.Sort Go.Shelf Go.Lib

def ltE (x y : Edg) : Prop := x.fr < y.fr ∨ (x.fr = y.fr ∧ x.tt < y.tt)
theorem ltE_irr {x : Edg} (h : ltE x x) : False := by unfold ltE at h; omega
theorem ltE_trans {x y z : Edg} (h : ltE x y) (h2 : ltE y z) : ltE x z := by unfold ltE at *; omega
theorem ltOf_E (x y : Edg) : ltOf cmpE x y = true ↔ ltE x y := by
  unfold ltOf cmpE orI cmpI ltE
  rw [decide_eq_true_iff]
  repeat' split
  all_goals omega
theorem eq_of_rise : ∀ (l1 l2 : List Edg), l1.Pairwise ltE → l2.Pairwise ltE → (∀ x, x ∈ l1 ↔ x ∈ l2) → l1 = l2
  | [], [], _, _, _ => rfl
  | [], b :: r, _, _, h => absurd ((h b).2 (by simp)) (by simp)
  | a :: r, [], _, _, h => absurd ((h a).1 (by simp)) (by simp)
  | a :: r1, b :: r2, h1, h2, h => by
    rw [List.pairwise_cons] at h1 h2
    have ha : a ∈ b :: r2 := (h a).1 (by simp)
    have hb : b ∈ a :: r1 := (h b).2 (by simp)
    have hab : a = b := by
      rcases List.mem_cons.1 ha with e | ha
      · exact e
      · rcases List.mem_cons.1 hb with e | hb
        · exact e.symm
        · exact absurd (ltE_trans (h2.1 a ha) (h1.1 b hb)) (fun h => ltE_irr h)
    subst hab
    congr 1
    refine eq_of_rise r1 r2 h1.2 h2.2 fun x => ⟨fun hx => ?_, fun hx => ?_⟩
    · rcases List.mem_cons.1 ((h x).1 (List.mem_cons_of_mem _ hx)) with e | hx2
      · subst e
        exact absurd (h1.1 x hx) (fun h => ltE_irr h)
      · exact hx2
    · rcases List.mem_cons.1 ((h x).2 (List.mem_cons_of_mem _ hx)) with e | hx2
      · subst e
        exact absurd (h2.1 x hx) (fun h => ltE_irr h)
      · exact hx2
theorem uniq_mem : ∀ (l : List Edg) (x : Edg), x ∈ uniqE l ↔ x ∈ l
  | [], x => by simp [uniqE]
  | [a], x => by simp [uniqE]
  | a :: b :: r, x => by
    have ih := uniq_mem (b :: r) x
    rw [uniqE]
    split
    · rename_i e
      subst e
      rw [ih]
      simp
    · rw [List.mem_cons, ih, List.mem_cons (a := x) (b := a)]
def leE (x y : Edg) : Prop := ¬ ltE y x
theorem uniq_rise : ∀ (l : List Edg), l.Pairwise leE → (uniqE l).Pairwise ltE
  | [], _ => by simp [uniqE]
  | [a], _ => by simp [uniqE]
  | a :: b :: r, h => by
    have h' := List.pairwise_cons.1 h
    have ih := uniq_rise (b :: r) h'.2
    rw [uniqE]
    split
    · exact ih
    · rename_i hne
      rw [List.pairwise_cons]
      refine ⟨fun x hx => ?_, ih⟩
      have hx := (uniq_mem _ _).1 hx
      have hab : ltE a b := by
        have := h'.1 b (by simp)
        unfold leE ltE at this
        unfold ltE
        have hn : ¬ (a.fr = b.fr ∧ a.tt = b.tt) := fun e => hne (by cases a; cases b; simp at e; simp [e])
        omega
      rcases List.mem_cons.1 hx with e | hx2
      · exact e ▸ hab
      · have h3 := (List.pairwise_cons.1 h'.2).1 x hx2
        unfold leE at h3
        unfold ltE at *
        omega
theorem rise_pair {l : List Edg} (h : RiseE l) : l.Pairwise leE := by
  rw [List.pairwise_iff_getElem]
  intro i j hi hj hij
  have := h i j hij hj
  unfold leE
  intro h2
  have := (ltOf_E _ _).2 h2
  simp_all
theorem rowL_mem {S : SysD} {a m : Nat} {x : Edg} : x ∈ rowL S a m ↔ x.fr = a ∧ ∃ b : Nat, b < m ∧ x.tt = b ∧ leadsB S a b = true := by
  unfold rowL
  rw [List.mem_map]
  constructor
  · rintro ⟨b, hb, rfl⟩
    rw [List.mem_filter, List.mem_range] at hb
    exact ⟨rfl, b, hb.1, rfl, hb.2⟩
  · rintro ⟨h1, b, hb, h2, h3⟩
    exact ⟨b, by rw [List.mem_filter, List.mem_range]; exact ⟨hb, h3⟩, by cases x; simp at h1 h2; simp [h1, h2]⟩
theorem rowL_rise (S : SysD) (a : Nat) : ∀ m, (rowL S a m).Pairwise ltE
  | 0 => by simp [rowL]
  | m + 1 => by
    rw [rowL_step, List.pairwise_append]
    refine ⟨rowL_rise S a m, by split <;> simp, fun x hx y hy => ?_⟩
    obtain ⟨h1, b, hb, h2, _⟩ := rowL_mem.1 hx
    split at hy
    · simp at hy
      subst hy
      unfold ltE
      simp only
      omega
    · simp at hy
theorem outL_mem {S : SysD} {n k : Nat} {x : Edg} : x ∈ outL S n k ↔ ∃ a b : Nat, a < k ∧ b < n ∧ x = ⟨a, b⟩ ∧ leadsB S a b = true := by
  unfold outL
  rw [List.mem_flatMap]
  constructor
  · rintro ⟨a, ha, hx⟩
    obtain ⟨h1, b, hb, h2, h3⟩ := rowL_mem.1 hx
    exact ⟨a, b, List.mem_range.1 ha, hb, by cases x; simp at h1 h2; simp [h1, h2], h3⟩
  · rintro ⟨a, b, ha, hb, rfl, h3⟩
    exact ⟨a, List.mem_range.2 ha, rowL_mem.2 ⟨rfl, b, hb, rfl, h3⟩⟩
theorem outL_rise (S : SysD) (n : Nat) : ∀ k, (outL S n k).Pairwise ltE
  | 0 => by simp [outL]
  | k + 1 => by
    rw [outL_step, List.pairwise_append]
    refine ⟨outL_rise S n k, rowL_rise S k n, fun x hx y hy => ?_⟩
    obtain ⟨a, b, ha, hb, rfl, _⟩ := outL_mem.1 hx
    obtain ⟨h1, _⟩ := rowL_mem.1 hy
    unfold ltE
    simp only
    omega
theorem rawE_mem : ∀ {cs : List Chn} {x : Edg}, x ∈ rawE cs ↔ ∃ c ∈ cs, leadB x.fr x.tt c = true
  | [], x => by simp [rawE]
  | c :: r, x => by
    have ih := rawE_mem (cs := r) (x := x)
    rw [rawE, List.mem_append, ih]
    have hc : x ∈ chE c ↔ leadB x.fr x.tt c = true := by
      obtain ⟨kd, fr, tt⟩ := c
      obtain ⟨xf, xt⟩ := x
      unfold chE leadB
      by_cases h : kd = 2
      · simp [h]
        omega
      · simp [h]
        omega
    simp [hc]
/-- Every channel's two ends are partitions. -/
def EndsIn (S : SysD) : Prop := ∀ c ∈ S.chans, 0 ≤ c.fr ∧ c.fr < S.parts.length ∧ 0 ≤ c.tt ∧ c.tt < S.parts.length
theorem edges_eq {S : SysD} (hE : EndsIn S) {l : List Edg} (h : IsEdges S.chans l) : l = edgesL S := by
  obtain ⟨r, hperm, hrise, rfl⟩ := h
  refine eq_of_rise _ _ (uniq_rise _ (rise_pair hrise)) (outL_rise S _ _) fun x => ?_
  rw [uniq_mem, hperm.mem_iff, rawE_mem, edgesL, outL_mem]
  constructor
  · rintro ⟨c, hc, hl⟩
    obtain ⟨e1, e2, e3, e4⟩ := hE c hc
    have hx : 0 ≤ x.fr ∧ x.fr < S.parts.length ∧ 0 ≤ x.tt ∧ x.tt < S.parts.length := by
      unfold leadB at hl
      simp at hl
      omega
    refine ⟨x.fr.toNat, x.tt.toNat, by omega, by omega, by cases x; simp at hx; simp; omega, ?_⟩
    rw [Int.toNat_of_nonneg hx.1, Int.toNat_of_nonneg hx.2.2.1]
    exact List.any_eq_true.2 ⟨c, hc, hl⟩
  · rintro ⟨a, b, ha, hb, rfl, hl⟩
    obtain ⟨c, hc, h2⟩ := List.any_eq_true.1 hl
    exact ⟨c, hc, h2⟩
end Go.Proofs.YthpljbbhpbijgaaDoor
