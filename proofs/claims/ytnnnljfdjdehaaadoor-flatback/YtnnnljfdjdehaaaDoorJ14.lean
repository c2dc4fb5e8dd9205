/- flat.Own. -/
import Derived.Test.YtnnnljfdjdehaaaDoorJ13
import Derived.Test.YtnnnljfdjdehaaaDoorJ4
import Derived.Test.YtnnnljfdjdehaaaDoorKn8
namespace Go.Proofs.YtnnnljfdjdehaaaDoor
set_option linter.unusedSimpArgs false
set_option linter.unusedVariables false
open Go.RowKit Go.Sort

def bolL (xs : List Bool) : List Value := xs.map .bool
theorem bolL_rep (xs : List Bool) (n : Nat) (x : Bool) : bolL (xs ++ List.replicate n x) = bolL xs ++ List.replicate n (.bool x) := by simp [bolL]
theorem rep_cell (n : Nat) (x : Bool) : ∀ v ∈ List.replicate n (Value.bool x), v.oneCell' = true := fun v hv => by rw [List.eq_of_mem_replicate hv]; rfl
theorem own_oneB (w : World) (x : Bool) : (w.alloc (.cells #[.bool x] 4)).ownsRow w.heap.size 4 1 (.slice (some ⟨w.heap.size, 0, none⟩) 1 1) 1 (bolL [x]) :=
  ⟨rfl, .inr ⟨w.heap.size, 1, #[.bool x], rfl, Nat.le_refl _, (Rw.new w _ _ rfl : Rw _ _ _ _), Nat.le_refl _, by unfold maxLen; omega, rfl, rfl⟩⟩
/-- Whose the cells are, whose the lines. -/
def partO (n : Nat) (part : Int) : List Bool := (List.range n).flatMap fun k : Nat => List.replicate 32 ((k : Int) == part)
def chanO (cs : List Chn) (part : Int) : List Bool := cs.flatMap fun c => List.replicate 4 (c.fr == part || c.tt == part)
def ownF (S : SysD) (part : Int) : List Bool := [true] ++ partO S.parts.length part ++ chanO S.chans part
theorem partO_step (k : Nat) (part : Int) : partO (k + 1) part = partO k part ++ List.replicate 32 ((k : Int) == part) := by
  unfold partO
  rw [List.range_succ, List.flatMap_append]
  simp
theorem chanO_step {cs : List Chn} {k : Nat} (h : k < cs.length) (part : Int) : chanO (cs.take (k + 1)) part = chanO (cs.take k) part ++ List.replicate 4 (cs[k].fr == part || cs[k].tt == part) := by
  unfold chanO
  rw [List.take_succ_eq_append_getElem h, List.flatMap_append]
  simp
theorem partO_len (n : Nat) (part : Int) : (partO n part).length = 32 * n := by
  induction n with
  | zero => rfl
  | succ k ih => rw [partO_step, List.length_append, ih, List.length_replicate]; omega
theorem chanO_len (cs : List Chn) (part : Int) : (chanO cs part).length = 4 * cs.length := by
  induction cs with
  | nil => rfl
  | cons c r ih =>
    unfold chanO at ih ⊢
    rw [List.flatMap_cons, List.length_append, ih, List.length_replicate, List.length_cons]
    omega
/-- What Own answers. -/
def ownE (S : SysD) (part : Int) : Int := if chkS S ≠ 0 then chkS S else if part < 0 ∨ (S.parts.length : Int) ≤ part then 5 else 0
def ownsF (S : SysD) (part : Int) : List Bool := if ownE S part = 0 then ownF S part else []
set_option maxRecDepth 100000 in
set_option maxHeartbeats 8000000 in
theorem flatOwn_any (S : SysD) (part : Int) (vp vc vs : Value) (w : World) (he : Env w) (hS : Sys w vp vc vs S) :
    Calls Tryd.prog 16 #[.agg #[vp, vc, vs], .int .i64 part] w fun e w' => ∃ v, e = .returned (.tuple #[v, .int .i64 (ownE S part)]) ∧ w'.ownsRow w.heap.size 4 1 v (ownsF S part).length (bolL (ownsF S part)) ∧ Below w.heap.size w w' := by
  obtain ⟨i1, hi1, hy0, hy1, hy2⟩ := info_parts infoBoolF
  obtain ⟨pa, pc, rfl⟩ := hS.p.form
  obtain ⟨ka, kc, rfl⟩ := hS.c.form
  obtain ⟨sa, sc, rfl⟩ := hS.s.form
  have hone : Hid (∀ r : Int, ownE S part = r → ownE S part = r) := Lib.hid fun _ h => h
  go_enter Tryd.func16, Tryd.ntmps16
  go_upto_region 1 with fail
  have HRS : Hid (Rw (w.alloc (.cells #[.slice pa S.parts.length pc, .slice ka S.chans.length kc, .slice sa S.slots.length sc] 26)) w.heap.size 26 #[.slice pa S.parts.length pc, .slice ka S.chans.length kc, .slice sa S.slots.length sc]) := Lib.hid (Rw.new _ _ _ rfl)
  have D0 : Hid (Below w.heap.size w (w.alloc (.cells #[.slice pa S.parts.length pc, .slice ka S.chans.length kc, .slice sa S.slots.length sc] 26))) := Lib.hid ((Below.refl _ _).alloc (Nat.le_refl _) _)
  have hX : (w.alloc (.cells #[.slice pa S.parts.length pc, .slice ka S.chans.length kc, .slice sa S.slots.length sc] 26)).heap.size = w.heap.size + 1 := by simp
  generalize w.alloc (.cells #[.slice pa S.parts.length pc, .slice ka S.chans.length kc, .slice sa S.slots.length sc] 26) = X0 at HRS D0 hX ⊢
  have HCK := Lib.hid (confCheck_any S _ _ _ X0 (he.up D0.out) (hS.up D0.out))
  have HSY := Lib.hid (hS.up D0.out)
  have s0 : X0.cell? ⟨w.heap.size, 0, none⟩ = some (.slice pa S.parts.length pc) := HRS.out.cell (j := 0) rfl
  have s1 : X0.cell? ⟨w.heap.size, 1, none⟩ = some (.slice ka S.chans.length kc) := HRS.out.cell (j := 1) rfl
  have s2 : X0.cell? ⟨w.heap.size, 2, none⟩ = some (.slice sa S.slots.length sc) := HRS.out.cell (j := 2) rfl
  have HXS := Lib.hid hX
  clear he hS hX hone
  by_cases h0 : chkS S = 0
  · have hcl : S.parts.length ≤ 4 ∧ S.chans.length ≤ 6 := by
      have h0 := h0
      unfold chkS at h0
      cases hb : countsB S with
      | false => rw [hb] at h0; simp at h0
      | true => simp [countsB] at hb; omega
    obtain ⟨hcl1, hcl2⟩ := hcl
    rw [h0] at HCK
    have HZ := Lib.hid h0
    clear h0
    go_wp2_with fail
    refine HCK.out.mono ?_
    rintro e X ⟨rfl, b1⟩
    have HB1 := Lib.hid b1
    have hw1 := b1.size
    have d0 : X.cell? ⟨w.heap.size, 0, none⟩ = some (.slice pa S.parts.length pc) := bcl b1 (by have := HXS.out; omega) s0
    clear b1 s0 s1 s2 HCK
    by_cases hr : part < 0 ∨ (S.parts.length : Int) ≤ part
    · have HE : Hid (ownE S part = 5) := Lib.hid (by unfold ownE; rw [HZ.out, if_neg (by simp), if_pos hr])
      have HRF : Hid (ownsF S part = []) := Lib.hid (if_neg (by rw [HE.out]; omega))
      by_cases hn : part < 0
      · clear hr
        go_wp2
        go_ret2
        exact ⟨.slice none 0 0, by rw [HE.out]; rfl, by rw [HRF.out]; exact World.ownsRow_nil _ _ _ _, D0.out.trans (HB1.out.mono (by have := HXS.out; omega))⟩
      · have hr2 : (S.parts.length : Int) ≤ part := by omega
        clear hr
        go_wp2
        go_ret2
        exact ⟨.slice none 0 0, by rw [HE.out]; rfl, by rw [HRF.out]; exact World.ownsRow_nil _ _ _ _, D0.out.trans (HB1.out.mono (by have := HXS.out; omega))⟩
    · have hr1 : ¬ part < 0 := by omega
      have hr2 : ¬ (S.parts.length : Int) ≤ part := by omega
      have HE : Hid (ownE S part = 0) := Lib.hid (by unfold ownE; rw [HZ.out, if_neg (by simp), if_neg hr])
      clear hr
      have HO := Lib.hid (own_oneB X true)
      have HB : Hid (Below X.heap.size X (X.alloc (.cells #[.bool true] 4))) := Lib.hid ((Below.refl _ _).alloc (Nat.le_refl _) _)
      have hl1 : w.heap.size < X.heap.size := by have := HXS.out; omega
      go_wp2
      clear d0
      go_loopw [29, 7] (fun i l wr => ∃ k : Nat, i = .int .i64 k ∧ k ≤ S.parts.length ∧ Hid (wr.ownsRow X.heap.size 4 1 l ([true] ++ partO k part).length (bolL ([true] ++ partO k part))) ∧ Hid (Below X.heap.size X wr)) (fun i _ _ => S.parts.length - (intOf i).toNat)
      case atStart => exact ⟨0, rfl, Nat.zero_le _, HO, HB⟩
      case round =>
        clear HO HB
        obtain ⟨k, rfl, hk, HO, HB⟩ := hrel
        obtain ⟨a3, c3, hform⟩ := own_form HO.out
        subst hform
        have hw := HB.out.size
        by_cases hlt : k < S.parts.length
        · have hli : (k : Int) < S.parts.length := by omega
          have HST : Hid ([true] ++ partO (k + 1) part = [true] ++ partO k part ++ List.replicate 32 ((k : Int) == part)) := Lib.hid (by rw [partO_step, List.append_assoc])
          have HLL : Hid (([true] ++ partO k part).length ≤ 200) := Lib.hid (by rw [List.length_append, partO_len]; simp; omega)
          obtain ⟨x, hx⟩ : ∃ x, ((k : Int) == part) = x := ⟨_, rfl⟩
          rw [hx] at HST
          generalize [true] ++ partO k part = zs at HO HST HLL
          go_wp2_with fail
          refine (repeat_any x 32 (by omega) _ _ (lit_slF wr [.bool x] 4 _ 1 1 rfl rfl)).mono ?_
          rintro e w2 ⟨v2, rfl, ho2, b2⟩
          obtain ⟨pa2, pc2, rfl⟩ := own_form ho2
          have b3 : Below wr.heap.size wr w2 := ((Below.refl _ _).alloc (Nat.le_refl _) _).trans (b2.mono (by simp))
          have HO2 := Lib.hid (own_upG HO.out b3)
          have HP2 := Lib.hid (own_sl ho2)
          have HB2 := Lib.hid (HB.out.trans (b3.mono HB.out.size))
          have hw2 := HB2.out.size
          clear ho2 b2 HO HB b3
          go_wp2_with (at_builtin; refine wpList_append_sl rfl (.tmp 32) (.tmp 37) 46 rfl X.heap.size 4 i1 (.bool false) 1 1 Tryd.underlying46 hi1 hy0 hy1 hy2 rfl (by decide) _ zs.length (bolL zs) rfl HO2.out _ 32 (List.replicate 32 (.bool x)) rfl HP2.out (rep_cell _ _) (by have := HLL.out; unfold maxLen; omega) (by have := HLL.out; omega) (by omega) ?_)
          intro v7 W7 hown hgrow _
          have HB7 := Lib.hid (HB2.out.grown hgrow (by omega) (fun k e => by have := own_block HO2.out k e; omega))
          have HO7 : Hid (W7.ownsRow X.heap.size 4 1 v7 (zs ++ List.replicate 32 x).length (bolL (zs ++ List.replicate 32 x))) := Lib.hid (by rw [bolL_rep, List.length_append, List.length_replicate]; exact hown)
          clear hown hgrow HO2 HP2 HB2
          go_wp2
          go_roundw
          case rel => exact ⟨k + 1, by go_num, by omega, by rw [HST.out]; exact HO7, HB7⟩
          case measure => simp [intOf]; omega
        · have hli : ¬ (k : Int) < S.parts.length := by omega
          obtain rfl : k = S.parts.length := by omega
          have HL1 : Hid (([true] ++ partO S.parts.length part).length ≤ 200) := Lib.hid (by rw [List.length_append, partO_len]; simp; omega)
          have HRF : Hid (ownsF S part = [true] ++ partO S.parts.length part ++ chanO S.chans part) := Lib.hid (if_pos HE.out)
          have hs1 : wr.cell? ⟨w.heap.size, 1, none⟩ = some (.slice ka S.chans.length kc) := ((HRS.out.up HB1.out HRS.out.lt).up HB.out hl1).cell (j := 1) rfl
          generalize [true] ++ partO S.parts.length part = ys at HO HL1 HRF ⊢
          go_wp2
          clear hs1
          go_loopw [43, 7] (fun i l wr => ∃ k : Nat, i = .int .i64 k ∧ k ≤ S.chans.length ∧ Hid (wr.ownsRow X.heap.size 4 1 l (ys ++ chanO (S.chans.take k) part).length (bolL (ys ++ chanO (S.chans.take k) part))) ∧ Hid (Below X.heap.size X wr)) (fun i _ _ => S.chans.length - (intOf i).toNat)
          case atStart => exact ⟨0, rfl, Nat.zero_le _, by rw [List.take_zero, show chanO [] part = [] from rfl, List.append_nil]; exact HO, HB⟩
          case round =>
            clear HO HB hw
            obtain ⟨j, rfl, hj, HO, HB⟩ := hrel
            obtain ⟨a4, c4, hform⟩ := own_form HO.out
            subst hform
            have hw := HB.out.size
            by_cases hjl : j < S.chans.length
            · have hji : (j : Int) < S.chans.length := by omega
              have hj0 : (0 : Int) ≤ j := by omega
              obtain ⟨b', off, cap, e1, hcap, hbw, hc⟩ := HSY.out.c.open (by omega)
              cases e1
              obtain ⟨hkd, hfr, htt⟩ := chan_cells hc j hjl
              have BX := HB1.out.trans (HB.out.mono hw1)
              have hx0 := BX.size
              have c0 := bcl BX hbw hkd
              have c1 := bcl BX hbw hfr
              have c2 := bcl BX hbw htt
              have hbr : b' < wr.heap.size := by omega
              have hbr' : b' ≠ wr.heap.size := by omega
              have HST : Hid (ys ++ chanO (S.chans.take (j + 1)) part = ys ++ chanO (S.chans.take j) part ++ List.replicate 4 (S.chans[j].fr == part || S.chans[j].tt == part)) := Lib.hid (by rw [chanO_step hjl, List.append_assoc])
              have HLL : Hid ((ys ++ chanO (S.chans.take j) part).length ≤ 300) := Lib.hid (by
                have h2 := HL1.out
                rw [List.length_append, chanO_len, List.length_take]
                omega)
              generalize S.chans[j] = ch at c0 c1 c2 HST
              obtain ⟨kd, fr, tt⟩ := ch
              simp only at c0 c1 c2 HST
              clear hkd hfr htt hc BX
              generalize ys ++ chanO (S.chans.take j) part = zs at HO HST HLL
              by_cases h1 : fr = part
              · have HST : Hid (ys ++ chanO (S.chans.take (j + 1)) part = zs ++ List.replicate 4 true) := Lib.hid (by rw [HST.out]; simp [h1])
                have h1b : (fr == part) = true := by simp [h1]
                clear h1
                go_wp2_with fail
                refine (repeat_any true 4 (by omega) _ _ (lit_slF (wr.alloc (.cells #[.int .i64 kd, .int .i64 fr, .int .i64 tt] 73)) [.bool true] 4 (wr.heap.size + 1) 1 1 (by simp) rfl)).mono ?_
                rintro e w2 ⟨v2, rfl, ho2, b2⟩
                obtain ⟨pa2, pc2, rfl⟩ := own_form ho2
                have b3 : Below wr.heap.size wr w2 := ((Below.refl _ _).alloc (Nat.le_refl _) _).trans ((((Below.refl _ _).alloc (by simp) _)).trans (b2.mono (by simp; omega)))
                have HO2 := Lib.hid (own_upG HO.out b3)
                have HP2 := Lib.hid (own_sl ho2)
                have HB2 := Lib.hid (HB.out.trans (b3.mono HB.out.size))
                have hw2 := HB2.out.size
                clear ho2 b2 HO HB b3
                go_wp2_with (at_builtin; refine wpList_append_sl rfl (.tmp 47) (.tmp 59) 46 rfl X.heap.size 4 i1 (.bool false) 1 1 Tryd.underlying46 hi1 hy0 hy1 hy2 rfl (by decide) _ zs.length (bolL zs) rfl HO2.out _ 4 (List.replicate 4 (.bool true)) rfl HP2.out (rep_cell _ _) (by have := HLL.out; unfold maxLen; omega) (by have := HLL.out; omega) (by omega) ?_)
                intro v7 W7 hown hgrow _
                have HB7 := Lib.hid (HB2.out.grown hgrow (by omega) (fun k e => by have := own_block HO2.out k e; omega))
                have HO7 : Hid (W7.ownsRow X.heap.size 4 1 v7 (zs ++ List.replicate 4 true).length (bolL (zs ++ List.replicate 4 true))) := Lib.hid (by rw [bolL_rep, List.length_append, List.length_replicate]; exact hown)
                clear hown hgrow HO2 HP2 HB2
                go_wp2
                go_roundw
                case rel => exact ⟨j + 1, by go_num, by omega, by rw [HST.out]; exact HO7, HB7⟩
                case measure => simp [intOf]; omega
              · have h1b : (fr == part) = false := by simp [h1]
                by_cases h2 : tt = part
                · have HST : Hid (ys ++ chanO (S.chans.take (j + 1)) part = zs ++ List.replicate 4 true) := Lib.hid (by rw [HST.out]; simp [h2])
                  have h2b : (tt == part) = true := by simp [h2]
                  clear h2
                  go_wp2_with fail
                  refine (repeat_any true 4 (by omega) _ _ (lit_slF (wr.alloc (.cells #[.int .i64 kd, .int .i64 fr, .int .i64 tt] 73)) [.bool true] 4 (wr.heap.size + 1) 1 1 (by simp) rfl)).mono ?_
                  rintro e w2 ⟨v2, rfl, ho2, b2⟩
                  obtain ⟨pa2, pc2, rfl⟩ := own_form ho2
                  have b3 : Below wr.heap.size wr w2 := ((Below.refl _ _).alloc (Nat.le_refl _) _).trans ((((Below.refl _ _).alloc (by simp) _)).trans (b2.mono (by simp; omega)))
                  have HO2 := Lib.hid (own_upG HO.out b3)
                  have HP2 := Lib.hid (own_sl ho2)
                  have HB2 := Lib.hid (HB.out.trans (b3.mono HB.out.size))
                  have hw2 := HB2.out.size
                  clear ho2 b2 HO HB b3
                  go_wp2_with (at_builtin; refine wpList_append_sl rfl (.tmp 47) (.tmp 59) 46 rfl X.heap.size 4 i1 (.bool false) 1 1 Tryd.underlying46 hi1 hy0 hy1 hy2 rfl (by decide) _ zs.length (bolL zs) rfl HO2.out _ 4 (List.replicate 4 (.bool true)) rfl HP2.out (rep_cell _ _) (by have := HLL.out; unfold maxLen; omega) (by have := HLL.out; omega) (by omega) ?_)
                  intro v7 W7 hown hgrow _
                  have HB7 := Lib.hid (HB2.out.grown hgrow (by omega) (fun k e => by have := own_block HO2.out k e; omega))
                  have HO7 : Hid (W7.ownsRow X.heap.size 4 1 v7 (zs ++ List.replicate 4 true).length (bolL (zs ++ List.replicate 4 true))) := Lib.hid (by rw [bolL_rep, List.length_append, List.length_replicate]; exact hown)
                  clear hown hgrow HO2 HP2 HB2
                  go_wp2
                  go_roundw
                  case rel => exact ⟨j + 1, by go_num, by omega, by rw [HST.out]; exact HO7, HB7⟩
                  case measure => simp [intOf]; omega
                · have HST : Hid (ys ++ chanO (S.chans.take (j + 1)) part = zs ++ List.replicate 4 false) := Lib.hid (by rw [HST.out]; simp [h1, h2])
                  have h2b : (tt == part) = false := by simp [h2]
                  go_wp2_with fail
                  refine (repeat_any false 4 (by omega) _ _ (lit_slF (wr.alloc (.cells #[.int .i64 kd, .int .i64 fr, .int .i64 tt] 73)) [.bool false] 4 (wr.heap.size + 1) 1 1 (by simp) rfl)).mono ?_
                  rintro e w2 ⟨v2, rfl, ho2, b2⟩
                  obtain ⟨pa2, pc2, rfl⟩ := own_form ho2
                  have b3 : Below wr.heap.size wr w2 := ((Below.refl _ _).alloc (Nat.le_refl _) _).trans ((((Below.refl _ _).alloc (by simp) _)).trans (b2.mono (by simp; omega)))
                  have HO2 := Lib.hid (own_upG HO.out b3)
                  have HP2 := Lib.hid (own_sl ho2)
                  have HB2 := Lib.hid (HB.out.trans (b3.mono HB.out.size))
                  have hw2 := HB2.out.size
                  clear ho2 b2 HO HB b3
                  go_wp2_with (at_builtin; refine wpList_append_sl rfl (.tmp 47) (.tmp 59) 46 rfl X.heap.size 4 i1 (.bool false) 1 1 Tryd.underlying46 hi1 hy0 hy1 hy2 rfl (by decide) _ zs.length (bolL zs) rfl HO2.out _ 4 (List.replicate 4 (.bool false)) rfl HP2.out (rep_cell _ _) (by have := HLL.out; unfold maxLen; omega) (by have := HLL.out; omega) (by omega) ?_)
                  intro v7 W7 hown hgrow _
                  have HB7 := Lib.hid (HB2.out.grown hgrow (by omega) (fun k e => by have := own_block HO2.out k e; omega))
                  have HO7 : Hid (W7.ownsRow X.heap.size 4 1 v7 (zs ++ List.replicate 4 false).length (bolL (zs ++ List.replicate 4 false))) := Lib.hid (by rw [bolL_rep, List.length_append, List.length_replicate]; exact hown)
                  clear hown hgrow HO2 HP2 HB2
                  go_wp2
                  go_roundw
                  case rel => exact ⟨j + 1, by go_num, by omega, by rw [HST.out]; exact HO7, HB7⟩
                  case measure => simp [intOf]; omega
            · have hji : ¬ (j : Int) < S.chans.length := by omega
              have HE2 : Hid (ownsF S part = ys ++ chanO (S.chans.take j) part) := Lib.hid (by rw [List.take_of_length_le (by omega), HRF.out])
              generalize ys ++ chanO (S.chans.take j) part = zs at HO HE2 ⊢
              go_wp2
              go_ret2
              have hF : wr.ownsRow w.heap.size 4 1 (.slice a4 zs.length c4) zs.length (bolL zs) := own_low HO.out (by omega)
              exact ⟨.slice a4 zs.length c4, by rw [HE.out]; rfl, by rw [HE2.out]; exact hF, D0.out.trans ((HB1.out.trans (HB.out.mono hw1)).mono (by have := HXS.out; omega))⟩
  · have h0' : (chkS S != 0) = true := by simp [h0]
    have HE : Hid (ownE S part = chkS S) := Lib.hid (by unfold ownE; rw [if_pos h0])
    have HRF : Hid (ownsF S part = []) := Lib.hid (if_neg (by rw [HE.out]; exact h0))
    obtain ⟨z, hz⟩ : ∃ z, chkS S = z := ⟨_, rfl⟩
    rw [hz] at HCK h0' h0 HE
    clear hz
    go_wp2_with fail
    refine HCK.out.mono ?_
    rintro e w1 ⟨rfl, b1⟩
    have HB1 := Lib.hid (D0.out.trans (b1.mono (by have := HXS.out; omega)))
    clear b1 HCK
    go_wp2
    go_ret2
    exact ⟨.slice none 0 0, by rw [HE.out]; rfl, by rw [HRF.out]; exact World.ownsRow_nil _ _ _ _, HB1.out⟩
end Go.Proofs.YtnnnljfdjdehaaaDoor

namespace Go.Proofs.YtnnnljfdjdehaaaDoor
set_option linter.unusedSimpArgs false
set_option linter.unusedVariables false
open Go.RowKit Go.Sort

/-- What Step tells, and makes. -/
def stepW (S : SysD) (D : WldD) : Int := if chkW S D ≠ 0 then chkW S D else if D.tick = 300 then 3 else 0
def stepR (S : SysD) (D : WldD) : WldD := if stepW S D = 0 then nextC S D else wldZ
theorem stepW_zero {S : SysD} {D : WldD} (h : stepW S D = 0) : chkS S = 0 ∧ Right S D ∧ D.tick < 300 := by
  unfold stepW at h
  split at h
  · exact absurd h (by assumption)
  · rename_i h1
    split at h
    · omega
    · rename_i h2
      obtain ⟨h3, h4⟩ := chkW_zero (S := S) (D := D) (by simpa using h1)
      have := h4.t1
      exact ⟨h3, h4, by omega⟩
theorem stepW_right {S : SysD} {D : WldD} (hk : chkS S = 0) (h : Right S D) (ht : D.tick < 300) : stepW S D = 0 := by
  unfold stepW
  rw [chkW_right hk h, if_neg (by simp), if_neg (by omega)]
set_option maxRecDepth 100000 in
set_option maxHeartbeats 8000000 in
theorem kernStep_any (S : SysD) (D : WldD) (vp vc vs uc ul : Value) (w : World) (he : Env w) (hS : Sys w vp vc vs S) (hW : Wld w uc ul D) (e0 : Int) (hk : stepW S D = e0) (D' : WldD) (hD : stepR S D = D') :
    Calls Tryd.prog 19 #[.agg #[vp, vc, vs], .agg #[.int .i64 D.tick, uc, ul]] w fun e w' => ∃ xc xl, e = .returned (.tuple #[.agg #[.int .i64 D'.tick, xc, xl], .int .i64 e0]) ∧ WldF w.heap.size w' xc xl D' ∧ Below w.heap.size w w' := by
  obtain ⟨pa, pc, rfl⟩ := hS.p.form
  obtain ⟨ka, kc, rfl⟩ := hS.c.form
  obtain ⟨sa, sc, rfl⟩ := hS.s.form
  obtain ⟨ua, uc, rfl⟩ := hW.c.form
  obtain ⟨la, lc, rfl⟩ := hW.l.form
  have HC := Lib.hid fun w he hS hW => kernCheck_any S D (.slice pa S.parts.length pc) (.slice ka S.chans.length kc) (.slice sa S.slots.length sc) (.slice ua D.cells.length uc) (.slice la D.lines.length lc) w he hS hW
  have HE := Lib.hid he
  have HS := Lib.hid hS
  have HW := Lib.hid hW
  obtain ⟨c0, hc0⟩ : ∃ c0, chkW S D = c0 := ⟨_, rfl⟩
  rw [hc0] at HC
  have HX : Hid (e0 = 0 → next_any = next_any) := Lib.hid (fun _ => rfl)
  clear he hS hW
  by_cases h0 : c0 = 0
  · subst h0
    obtain ⟨hkS, hR⟩ := chkW_zero hc0
    by_cases ht : D.tick = 300
    · have ht' : (D.tick == 300) = true := by simpa using ht
      have hw3 : stepW S D = 3 := by unfold stepW; rw [hc0, if_neg (by simp), if_pos ht]
      obtain rfl : e0 = 3 := by rw [← hk, hw3]
      have HD : Hid (wldZ = D') := by
        show _ = _
        rw [← hD, stepR, if_neg (by rw [hw3]; decide)]
      clear hk hD hw3 hc0 hkS hR ht HX
      go_enter Tryd.func19, Tryd.ntmps19
      go_wp2_with fail
      refine (HC.out _ (HE.out.up (by repeat (first | exact Below.refl _ _ | assumption | refine Below.drew ?_ | refine Below.alloc ?_ (by first | (simp; done) | (simp; omega)) _ | refine Below.setCell ?_ (by first | (simp; done) | (simp; omega)) _))) (HS.out.up (by repeat (first | exact Below.refl _ _ | assumption | refine Below.drew ?_ | refine Below.alloc ?_ (by first | (simp; done) | (simp; omega)) _ | refine Below.setCell ?_ (by first | (simp; done) | (simp; omega)) _))) (HW.out.up (by repeat (first | exact Below.refl _ _ | assumption | refine Below.drew ?_ | refine Below.alloc ?_ (by first | (simp; done) | (simp; omega)) _ | refine Below.setCell ?_ (by first | (simp; done) | (simp; omega)) _)))).mono ?_
      rintro e w1 ⟨rfl, b1⟩
      have z1 := b1.size
      simp at z1
      have R1 : Hid (Rw w1 (w.heap.size + 1) 30 #[.int .i64 D.tick, .slice ua D.cells.length uc, .slice la D.lines.length lc]) := Rw.up (by repeat (first | exact Rw.new _ _ _ (by first | rfl | (simp; done) | omega | (simp; omega)) | refine Rw.alloc ?_ _)) b1 (by first | omega | (simp; done) | (simp; omega))
      have RB : Hid (Rw w1 (w.heap.size + 1 + 1) 30 #[.int .i64 0, .slice none 0 0, .slice none 0 0]) := Rw.up (by repeat (first | exact Rw.new _ _ _ (by first | rfl | (simp; done) | omega | (simp; omega)) | refine Rw.alloc ?_ _)) b1 (by first | omega | (simp; done) | (simp; omega))
      have HB : Hid (Below w.heap.size w w1) := by
        refine Below.trans ?_ (b1.mono (by first | omega | (simp; done) | (simp; omega)))
        exact (by repeat (first | exact Below.refl _ _ | assumption | refine Below.drew ?_ | refine Below.alloc ?_ (by first | (simp; done) | (simp; omega)) _ | refine Below.setCell ?_ (by first | (simp; done) | (simp; omega)) _))
      have q0 := R1.out.cell (j := 0) (v := .int .i64 D.tick) rfl
      clear b1 HC
      go_wp2_with (refine wpList_store_row rfl 30 (.tmp 4) (.tmp 17) rfl (w.heap.size + 1 + 1) #[.int .i64 0, .slice none 0 0, .slice none 0 0] rfl rfl 30 #[.int .i64 0, .slice none 0 0, .slice none 0 0] RB.out sizeWld rfl (world_one _ _ _ _ _ _ _) ?_)
      refine bodyPost_ret (results_row_tmp Tryd.results19 _ _ (w.heap.size + 1 + 1) _ _ rfl rfl (run_loadVar_row _ _ 30 _ #[.int .i64 0, .slice none 0 0, .slice none 0 0] (0, 0) _ (RB.out.row _) Tryd.underlying30 rfl sizeWld)) rfl ⟨.slice none 0 0, .slice none 0 0, by rw [← HD.out]; rfl, by rw [← HD.out]; exact WldF.nil _ _, below_row HB.out (by omega) _⟩
    · have ht' : (D.tick == 300) = false := by simpa using ht
      have hw3 : stepW S D = 0 := by unfold stepW; rw [hc0, if_neg (by simp), if_neg ht]
      obtain rfl : e0 = 0 := by rw [← hk, hw3]
      have HD : Hid (nextC S D = D') := by
        show _ = _
        rw [← hD, stepR, if_pos hw3]
      obtain ⟨hnr, hnt⟩ := next_right hkS hR (by have := hR.t1; omega)
      have HT := Lib.hid hnt
      have HNX := Lib.hid fun w he hS hW => next_any S D (.slice pa S.parts.length pc) (.slice ka S.chans.length kc) (.slice sa S.slots.length sc) (.slice ua D.cells.length uc) (.slice la D.lines.length lc) w he hS hW hkS hR.t0 (by have := hR.t1; omega) hR.c hR.l
      clear hk hD hw3 hc0 hkS hR ht HX hnr hnt
      go_enter Tryd.func19, Tryd.ntmps19
      go_wp2_with fail
      refine (HC.out _ (HE.out.up (by repeat (first | exact Below.refl _ _ | assumption | refine Below.drew ?_ | refine Below.alloc ?_ (by first | (simp; done) | (simp; omega)) _ | refine Below.setCell ?_ (by first | (simp; done) | (simp; omega)) _))) (HS.out.up (by repeat (first | exact Below.refl _ _ | assumption | refine Below.drew ?_ | refine Below.alloc ?_ (by first | (simp; done) | (simp; omega)) _ | refine Below.setCell ?_ (by first | (simp; done) | (simp; omega)) _))) (HW.out.up (by repeat (first | exact Below.refl _ _ | assumption | refine Below.drew ?_ | refine Below.alloc ?_ (by first | (simp; done) | (simp; omega)) _ | refine Below.setCell ?_ (by first | (simp; done) | (simp; omega)) _)))).mono ?_
      rintro e w1 ⟨rfl, b1⟩
      have z1 := b1.size
      simp at z1
      have R0 : Hid (Rw w1 w.heap.size 26 #[.slice pa S.parts.length pc, .slice ka S.chans.length kc, .slice sa S.slots.length sc]) := Rw.up (by repeat (first | exact Rw.new _ _ _ (by first | rfl | (simp; done) | omega | (simp; omega)) | refine Rw.alloc ?_ _)) b1 (by first | omega | (simp; done) | (simp; omega))
      have R1 : Hid (Rw w1 (w.heap.size + 1) 30 #[.int .i64 D.tick, .slice ua D.cells.length uc, .slice la D.lines.length lc]) := Rw.up (by repeat (first | exact Rw.new _ _ _ (by first | rfl | (simp; done) | omega | (simp; omega)) | refine Rw.alloc ?_ _)) b1 (by first | omega | (simp; done) | (simp; omega))
      have RB : Hid (Rw w1 (w.heap.size + 1 + 1) 30 #[.int .i64 0, .slice none 0 0, .slice none 0 0]) := Rw.up (by repeat (first | exact Rw.new _ _ _ (by first | rfl | (simp; done) | omega | (simp; omega)) | refine Rw.alloc ?_ _)) b1 (by first | omega | (simp; done) | (simp; omega))
      have HB : Hid (Below w.heap.size w w1) := by
        refine Below.trans ?_ (b1.mono (by first | omega | (simp; done) | (simp; omega)))
        exact (by repeat (first | exact Below.refl _ _ | assumption | refine Below.drew ?_ | refine Below.alloc ?_ (by first | (simp; done) | (simp; omega)) _ | refine Below.setCell ?_ (by first | (simp; done) | (simp; omega)) _))
      have q0 := R1.out.cell (j := 0) (v := .int .i64 D.tick) rfl
      have q1 := R1.out.cell (j := 1) (v := .slice ua D.cells.length uc) rfl
      have q2 := R1.out.cell (j := 2) (v := .slice la D.lines.length lc) rfl
      have s0 := R0.out.cell (j := 0) (v := .slice pa S.parts.length pc) rfl
      have s1 := R0.out.cell (j := 1) (v := .slice ka S.chans.length kc) rfl
      have s2 := R0.out.cell (j := 2) (v := .slice sa S.slots.length sc) rfl
      clear b1 HC
      go_wp2_with fail
      refine (HNX.out _ (HE.out.up HB.out) (HS.out.up HB.out) (HW.out.up HB.out)).mono ?_
      rintro e w2 ⟨xc, xl, rfl, hN, b2⟩
      obtain ⟨a5, c5, rfl⟩ := hN.wld.c.form
      obtain ⟨a6, c6, rfl⟩ := hN.wld.l.form
      have HN := Lib.hid hN
      have RB2 := Lib.hid (RB.out.up b2 (by omega))
      have HB2 := Lib.hid (HB.out.trans (b2.mono (by omega)))
      clear b2 hN q0 q1 q2 s0 s1 s2 R0 R1 RB HNX
      go_wp2_with (refine wpList_store_row rfl 30 (.tmp 4) (.tmp 20) rfl (w.heap.size + 1 + 1) #[.int .i64 (D.tick + 1), .slice a5 (nextC S D).cells.length c5, .slice a6 (nextC S D).lines.length c6] rfl rfl 30 #[.int .i64 0, .slice none 0 0, .slice none 0 0] RB2.out sizeWld rfl (world_one _ _ _ _ _ _ _) ?_)
      refine bodyPost_ret (results_row_tmp Tryd.results19 _ _ (w.heap.size + 1 + 1) _ _ rfl rfl (run_loadVar_row _ _ 30 _ #[.int .i64 (D.tick + 1), .slice a5 (nextC S D).cells.length c5, .slice a6 (nextC S D).lines.length c6] (0, 0) _ (RB2.out.row _) Tryd.underlying30 rfl sizeWld)) rfl ⟨.slice a5 (nextC S D).cells.length c5, .slice a6 (nextC S D).lines.length c6, by rw [← HD.out, HT.out]; rfl, by rw [← HD.out]; exact (HN.out.row (by omega) _).low (by omega), below_row HB2.out (by omega) _⟩
  · have h0' : (c0 != 0) = true := by simpa using h0
    have hw3 : stepW S D = c0 := by unfold stepW; rw [hc0, if_pos h0]
    obtain rfl : e0 = c0 := by rw [← hk, hw3]
    have HD : Hid (wldZ = D') := by
      show _ = _
      rw [← hD, stepR, if_neg (by rw [hw3]; exact h0)]
    clear hk hD hw3 hc0 h0 HX
    go_enter Tryd.func19, Tryd.ntmps19
    go_wp2_with fail
    refine (HC.out _ (HE.out.up (by repeat (first | exact Below.refl _ _ | assumption | refine Below.drew ?_ | refine Below.alloc ?_ (by first | (simp; done) | (simp; omega)) _ | refine Below.setCell ?_ (by first | (simp; done) | (simp; omega)) _))) (HS.out.up (by repeat (first | exact Below.refl _ _ | assumption | refine Below.drew ?_ | refine Below.alloc ?_ (by first | (simp; done) | (simp; omega)) _ | refine Below.setCell ?_ (by first | (simp; done) | (simp; omega)) _))) (HW.out.up (by repeat (first | exact Below.refl _ _ | assumption | refine Below.drew ?_ | refine Below.alloc ?_ (by first | (simp; done) | (simp; omega)) _ | refine Below.setCell ?_ (by first | (simp; done) | (simp; omega)) _)))).mono ?_
    rintro e w1 ⟨rfl, b1⟩
    have z1 := b1.size
    simp at z1
    have RB : Hid (Rw w1 (w.heap.size + 1 + 1) 30 #[.int .i64 0, .slice none 0 0, .slice none 0 0]) := Rw.up (by repeat (first | exact Rw.new _ _ _ (by first | rfl | (simp; done) | omega | (simp; omega)) | refine Rw.alloc ?_ _)) b1 (by first | omega | (simp; done) | (simp; omega))
    have HB : Hid (Below w.heap.size w w1) := by
      refine Below.trans ?_ (b1.mono (by first | omega | (simp; done) | (simp; omega)))
      exact (by repeat (first | exact Below.refl _ _ | assumption | refine Below.drew ?_ | refine Below.alloc ?_ (by first | (simp; done) | (simp; omega)) _ | refine Below.setCell ?_ (by first | (simp; done) | (simp; omega)) _))
    clear b1 HC
    go_wp2_with (refine wpList_store_row rfl 30 (.tmp 4) (.tmp 12) rfl (w.heap.size + 1 + 1) #[.int .i64 0, .slice none 0 0, .slice none 0 0] rfl rfl 30 #[.int .i64 0, .slice none 0 0, .slice none 0 0] RB.out sizeWld rfl (world_one _ _ _ _ _ _ _) ?_)
    refine bodyPost_ret (results_row_tmp Tryd.results19 _ _ (w.heap.size + 1 + 1) _ _ rfl rfl (run_loadVar_row _ _ 30 _ #[.int .i64 0, .slice none 0 0, .slice none 0 0] (0, 0) _ (RB.out.row _) Tryd.underlying30 rfl sizeWld)) rfl ⟨.slice none 0 0, .slice none 0 0, by rw [← HD.out]; rfl, by rw [← HD.out]; exact WldF.nil _ _, below_row HB.out (by omega) _⟩

/-- What Run tells, and makes. -/
def runE (S : SysD) (n : Int) : Int := if chkS S ≠ 0 then chkS S else if withinB n 0 300 then 0 else 3
def runR (S : SysD) (n : Int) : WldD := if runE S n = 0 then runN S n.toNat (beginC S) else wldZ
theorem runE_zero {S : SysD} {n : Int} (h : runE S n = 0) : chkS S = 0 ∧ 0 ≤ n ∧ n ≤ 300 := by
  unfold runE at h
  split at h
  · exact absurd h (by assumption)
  · rename_i h1
    split at h
    · rename_i h2
      unfold withinB at h2
      rw [Bool.and_eq_true, decide_eq_true_eq, decide_eq_true_eq] at h2
      exact ⟨by simpa using h1, h2⟩
    · omega
theorem runE_right {S : SysD} {n : Int} (hk : chkS S = 0) (h0 : 0 ≤ n) (h1 : n ≤ 300) : runE S n = 0 := by
  unfold runE
  rw [if_neg (by simpa using hk), if_pos]
  unfold withinB
  rw [Bool.and_eq_true, decide_eq_true_eq, decide_eq_true_eq]
  exact ⟨h0, h1⟩
/-- Where Run stands: g the world. -/
structure RnS (w W : World) (g : Nat) (vp vc vs : Value) (D : WldD) : Prop where
  d : Below w.heap.size w W
  r0 : Rw W w.heap.size 26 #[vp, vc, vs]
  rb : Rw W (w.heap.size + 1) 30 #[.int .i64 0, .slice none 0 0, .slice none 0 0]
  r1 : ∃ ua uc la lc, Rw W g 30 #[.int .i64 D.tick, .slice ua D.cells.length uc, .slice la D.lines.length lc] ∧ WldF (w.heap.size + 2) W (.slice ua D.cells.length uc) (.slice la D.lines.length lc) D
  g0 : w.heap.size + 2 ≤ g
set_option maxRecDepth 100000 in
set_option maxHeartbeats 8000000 in
theorem kernRun_any (S : SysD) (n : Int) (vp vc vs : Value) (w : World) (he : Env w) (hS : Sys w vp vc vs S) (e0 : Int) (hk : runE S n = e0) (D' : WldD) (hD : runR S n = D') :
    Calls Tryd.prog 36 #[.agg #[vp, vc, vs], .int .i64 n] w fun e w' => ∃ xc xl, e = .returned (.tuple #[.agg #[.int .i64 D'.tick, xc, xl], .int .i64 e0]) ∧ WldF w.heap.size w' xc xl D' ∧ Below w.heap.size w w' := by
  obtain ⟨pa, pc, rfl⟩ := hS.p.form
  obtain ⟨ka, kc, rfl⟩ := hS.c.form
  obtain ⟨sa, sc, rfl⟩ := hS.s.form
  obtain ⟨c0, hc0⟩ : ∃ c0, chkS S = c0 := ⟨_, rfl⟩
  obtain ⟨B, hB⟩ : ∃ B, beginR S = B := ⟨_, rfl⟩
  have HC := Lib.hid fun w he hS => kernBegin_any S (.slice pa S.parts.length pc) (.slice ka S.chans.length kc) (.slice sa S.slots.length sc) w he hS c0 hc0 B hB
  have HE := Lib.hid he
  have HS := Lib.hid hS
  clear he hS
  by_cases h0 : c0 = 0
  · subst h0
    obtain rfl : beginC S = B := by rw [← hB, beginR, if_pos hc0]
    have HI := Lib.hid fun V => isRun_any n V
    have HRT := Lib.hid (begin_right hc0)
    cases hn : withinB n 0 300
    · have hw3 : runE S n = 3 := by unfold runE; rw [hc0, if_neg (by simp), hn]; rfl
      obtain rfl : e0 = 3 := by rw [← hk, hw3]
      have HD : Hid (wldZ = D') := by
        show _ = _
        rw [← hD, runR, if_neg (by rw [hw3]; decide)]
      rw [hn] at HI
      clear hk hD hw3 hc0 hn hB HRT
      go_enter Tryd.func36, Tryd.ntmps36
      go_wp2_with fail
      refine (HC.out _ (HE.out.up (by repeat (first | exact Below.refl _ _ | assumption | refine Below.drew ?_ | refine Below.alloc ?_ (by first | (simp; done) | (simp; omega)) _ | refine Below.setCell ?_ (by first | (simp; done) | (simp; omega)) _))) (HS.out.up (by repeat (first | exact Below.refl _ _ | assumption | refine Below.drew ?_ | refine Below.alloc ?_ (by first | (simp; done) | (simp; omega)) _ | refine Below.setCell ?_ (by first | (simp; done) | (simp; omega)) _)))).mono ?_
      rintro e w1 ⟨xc, xl, rfl, hN, b1⟩
      obtain ⟨a5, c5, rfl⟩ := hN.wld.c.form
      obtain ⟨a6, c6, rfl⟩ := hN.wld.l.form
      have z1 := b1.size
      simp at z1
      have RB : Hid (Rw w1 (w.heap.size + 1) 30 #[.int .i64 0, .slice none 0 0, .slice none 0 0]) := Rw.up (by repeat (first | exact Rw.new _ _ _ (by first | rfl | (simp; done) | omega | (simp; omega)) | refine Rw.alloc ?_ _)) b1 (by first | omega | (simp; done) | (simp; omega))
      have HB : Hid (Below w.heap.size w w1) := by
        refine Below.trans ?_ (b1.mono (by first | omega | (simp; done) | (simp; omega)))
        exact (by repeat (first | exact Below.refl _ _ | assumption | refine Below.drew ?_ | refine Below.alloc ?_ (by first | (simp; done) | (simp; omega)) _ | refine Below.setCell ?_ (by first | (simp; done) | (simp; omega)) _))
      clear b1 HC hN
      go_wp2_with (refine wpList_store_rowW rfl 30 (.tmp 6) (.tmp 11) rfl w1.heap.size #[.int .i64 (beginC S).tick, .slice a5 (beginC S).cells.length c5, .slice a6 (beginC S).lines.length c6] rfl rfl 30 #[.int .i64 0, .slice none 0 0, .slice none 0 0] (by repeat (first | exact Rw.new _ _ _ (by first | rfl | (simp; done) | omega | (simp; omega)) | refine Rw.alloc ?_ _)) sizeWld rfl (world_one _ _ _ _ _ _ _) ?_)
      intro W HW1
      have RB2 : Hid (Rw W (w.heap.size + 1) 30 #[.int .i64 0, .slice none 0 0, .slice none 0 0]) := by
        show Rw _ _ _ _
        rw [HW1.out]
        exact (RB.out.up ((Below.refl _ _).alloc (Nat.le_refl _) _) (by omega)).row_other _ (by omega)
      have HB2 : Hid (Below w.heap.size w W) := by
        show Below _ _ _
        rw [HW1.out]
        exact below_row (HB.out.alloc (by omega) _) (by omega) _
      clear HW1 RB HB
      go_wp2_with (first | (go_at_call 45; refine (HI.out _).mono ?_; rintro e w2 ⟨rfl, rfl⟩) | (refine wpList_store_row rfl 30 (.tmp 4) (.tmp 20) rfl (w.heap.size + 1) #[.int .i64 0, .slice none 0 0, .slice none 0 0] rfl rfl 30 #[.int .i64 0, .slice none 0 0, .slice none 0 0] RB2.out sizeWld rfl (world_one _ _ _ _ _ _ _) ?_))
      refine bodyPost_ret (results_row_tmp Tryd.results36 _ _ (w.heap.size + 1) _ _ rfl rfl (run_loadVar_row _ _ 30 _ #[.int .i64 0, .slice none 0 0, .slice none 0 0] (0, 0) _ (RB2.out.row _) Tryd.underlying30 rfl sizeWld)) rfl ⟨.slice none 0 0, .slice none 0 0, by rw [← HD.out]; rfl, by rw [← HD.out]; exact WldF.nil _ _, below_row HB2.out (by omega) _⟩
    · have hw3 : runE S n = 0 := by unfold runE; rw [hc0, if_neg (by simp), hn]; rfl
      obtain rfl : e0 = 0 := by rw [← hk, hw3]
      have HD : Hid (runN S n.toNat (beginC S) = D') := by
        show _ = _
        rw [← hD, runR, if_pos hw3]
      obtain ⟨-, hn0, hn1⟩ := runE_zero hw3
      obtain ⟨m, rfl⟩ := Int.eq_ofNat_of_zero_le hn0
      rw [hn] at HI
      have HNX := Lib.hid fun D uc ul w he hS hW hR ht => next_any S D (.slice pa S.parts.length pc) (.slice ka S.chans.length kc) (.slice sa S.slots.length sc) uc ul w he hS hW hc0 (Right.t0 (S := S) hR) ht (Right.c hR) (Right.l hR)
      have HKS := Lib.hid hc0
      clear hk hD hw3 hc0 hn hB
      go_enter Tryd.func36, Tryd.ntmps36
      go_wp2_with fail
      refine (HC.out _ (HE.out.up (by repeat (first | exact Below.refl _ _ | assumption | refine Below.drew ?_ | refine Below.alloc ?_ (by first | (simp; done) | (simp; omega)) _ | refine Below.setCell ?_ (by first | (simp; done) | (simp; omega)) _))) (HS.out.up (by repeat (first | exact Below.refl _ _ | assumption | refine Below.drew ?_ | refine Below.alloc ?_ (by first | (simp; done) | (simp; omega)) _ | refine Below.setCell ?_ (by first | (simp; done) | (simp; omega)) _)))).mono ?_
      rintro e w1 ⟨xc, xl, rfl, hN, b1⟩
      obtain ⟨a5, c5, rfl⟩ := hN.wld.c.form
      obtain ⟨a6, c6, rfl⟩ := hN.wld.l.form
      have z1 := b1.size
      simp at z1
      have R0 : Hid (Rw w1 w.heap.size 26 #[.slice pa S.parts.length pc, .slice ka S.chans.length kc, .slice sa S.slots.length sc]) := Rw.up (by repeat (first | exact Rw.new _ _ _ (by first | rfl | (simp; done) | omega | (simp; omega)) | refine Rw.alloc ?_ _)) b1 (by first | omega | (simp; done) | (simp; omega))
      have RB : Hid (Rw w1 (w.heap.size + 1) 30 #[.int .i64 0, .slice none 0 0, .slice none 0 0]) := Rw.up (by repeat (first | exact Rw.new _ _ _ (by first | rfl | (simp; done) | omega | (simp; omega)) | refine Rw.alloc ?_ _)) b1 (by first | omega | (simp; done) | (simp; omega))
      have HB : Hid (Below w.heap.size w w1) := by
        refine Below.trans ?_ (b1.mono (by first | omega | (simp; done) | (simp; omega)))
        exact (by repeat (first | exact Below.refl _ _ | assumption | refine Below.drew ?_ | refine Below.alloc ?_ (by first | (simp; done) | (simp; omega)) _ | refine Below.setCell ?_ (by first | (simp; done) | (simp; omega)) _))
      have HN := Lib.hid (hN.low (B' := w.heap.size + 2) (by simp))
      clear b1 HC hN
      go_wp2_with (refine wpList_store_rowW rfl 30 (.tmp 6) (.tmp 11) rfl w1.heap.size #[.int .i64 (beginC S).tick, .slice a5 (beginC S).cells.length c5, .slice a6 (beginC S).lines.length c6] rfl rfl 30 #[.int .i64 0, .slice none 0 0, .slice none 0 0] (by repeat (first | exact Rw.new _ _ _ (by first | rfl | (simp; done) | omega | (simp; omega)) | refine Rw.alloc ?_ _)) sizeWld rfl (world_one _ _ _ _ _ _ _) ?_)
      intro W HW1
      have hRn : RnS w W w1.heap.size (.slice pa S.parts.length pc) (.slice ka S.chans.length kc) (.slice sa S.slots.length sc) (beginC S) := by
        rw [HW1.out]
        have hb0 : Below w1.heap.size w1 (w1.alloc (.cells #[.int .i64 0, .slice none 0 0, .slice none 0 0] 30)) := (Below.refl _ _).alloc (Nat.le_refl _) _
        refine ⟨below_row (HB.out.alloc (by omega) _) (by omega) _, (R0.out.up hb0 (by omega)).row_other _ (by omega), (RB.out.up hb0 (by omega)).row_other _ (by omega), ⟨a5, c5, a6, c6, Rw.row (cs := #[.int .i64 0, .slice none 0 0, .slice none 0 0]) (by repeat (first | exact Rw.new _ _ _ (by first | rfl | (simp; done) | omega | (simp; omega)) | refine Rw.alloc ?_ _)) _, HN.out.fresh _ _⟩, by omega⟩
      have RN := Lib.hid hRn
      clear HW1 RB HB R0 hRn HN
      go_wp2_with (go_at_call 45; refine (HI.out _).mono ?_; rintro e w2 ⟨rfl, rfl⟩)
      go_loopw [22] (fun i wr => ∃ k : Nat, i = .int .i64 k ∧ k ≤ m ∧ Hid (RnS w wr w1.heap.size (.slice pa S.parts.length pc) (.slice ka S.chans.length kc) (.slice sa S.slots.length sc) (runN S k (beginC S)))) (fun i _ => m - (intOf i).toNat)
      case atStart => exact ⟨0, rfl, Nat.zero_le _, RN⟩
      case round =>
        obtain ⟨k, rfl, hk, HR⟩ := hrel
        have hR := HR.out
        clear HR RN
        by_cases hlt : k < m
        · have hli : (k : Int) < m := by omega
          obtain ⟨hrt, htk⟩ := runN_right HKS.out k HRT.out (by show (0 : Int) + k ≤ 300; omega)
          have hnr := (next_right HKS.out hrt (by rw [htk]; show (0 : Int) + k < 300; omega)).2
          have hrn := runN_last S k (beginC S)
          have ht : (runN S k (beginC S)).tick < 300 := by rw [htk]; show (0 : Int) + k < 300; omega
          generalize runN S k (beginC S) = D at hR hrt hnr hrn ht
          obtain ⟨ua, uc, la, lc, r1, hwf⟩ := hR.r1
          have q0 := r1.cell (j := 0) (v := .int .i64 D.tick) rfl
          have q1 := r1.cell (j := 1) (v := .slice ua D.cells.length uc) rfl
          have q2 := r1.cell (j := 2) (v := .slice la D.lines.length lc) rfl
          have s0 := hR.r0.cell (j := 0) (v := .slice pa S.parts.length pc) rfl
          have s1 := hR.r0.cell (j := 1) (v := .slice ka S.chans.length kc) rfl
          have s2 := hR.r0.cell (j := 2) (v := .slice sa S.slots.length sc) rfl
          have HR := Lib.hid hR
          have HWF := Lib.hid hwf
          have R1 := Lib.hid r1
          have HRT2 := Lib.hid hrt
          have HNR := Lib.hid hnr
          have HRN := Lib.hid hrn
          clear hR hwf r1 hrt hnr hrn htk
          go_wp2_with fail
          refine (HNX.out D _ _ _ (HE.out.up HR.out.d) (HS.out.up HR.out.d) HWF.out.wld HRT2.out ht).mono ?_
          rintro e w3 ⟨xc, xl, rfl, hN, b3⟩
          obtain ⟨a7, c7, rfl⟩ := hN.wld.c.form
          obtain ⟨a8, c8, rfl⟩ := hN.wld.l.form
          have HN := Lib.hid hN
          have B3 := Lib.hid b3
          clear b3 hN q0 q1 q2 s0 s1 s2
          go_wp2_with (refine wpList_store_rowW rfl 30 (.tmp 6) (.tmp 26) rfl w1.heap.size #[.int .i64 (D.tick + 1), .slice a7 (nextC S D).cells.length c7, .slice a8 (nextC S D).lines.length c8] rfl rfl 30 _ (R1.out.up B3.out R1.out.lt) sizeWld rfl (world_one _ _ _ _ _ _ _) ?_)
          intro W4 HW4
          have RN4 : Hid (RnS w W4 w1.heap.size (.slice pa S.parts.length pc) (.slice ka S.chans.length kc) (.slice sa S.slots.length sc) (nextC S D)) := by
            show RnS _ _ _ _ _ _ _
            rw [HW4.out]
            have hg := HR.out.g0
            have hl1 := R1.out.lt
            have hsz := HR.out.d.size
            refine ⟨below_row (HR.out.d.trans (B3.out.mono hsz)) (by omega) _, (HR.out.r0.up B3.out HR.out.r0.lt).row_other _ (by omega), (HR.out.rb.up B3.out HR.out.rb.lt).row_other _ (by omega), ⟨a7, c7, a8, c8, ?_, (HN.out.row (by omega) _).low (by omega)⟩, hg⟩
            rw [HNR.out]
            exact (R1.out.up B3.out R1.out.lt).row _
          clear HW4 HN B3 HR HWF R1 HRT2 HNR
          go_wp2
          go_roundw
          case rel => exact ⟨k + 1, by go_num, by omega, by rw [HRN.out]; exact RN4⟩
          case measure => simp [intOf]; omega
        · obtain rfl : k = m := by omega
          have hli : ¬ (k : Int) < k := by omega
          obtain ⟨hrt, htk⟩ := runN_right HKS.out k HRT.out (by show (0 : Int) + k ≤ 300; omega)
          have HDD := Lib.hid (show runN S k (beginC S) = D' by rw [← HD.out, Int.toNat_natCast])
          rw [HDD.out] at hR
          obtain ⟨ua, uc, la, lc, r1, hwf⟩ := hR.r1
          have HR := Lib.hid hR
          have HWF := Lib.hid hwf
          have R1 := Lib.hid r1
          have hsz := hR.d.size
          have hlb := hR.rb.lt
          clear hR hwf r1 hrt htk HDD HD
          go_wp2_with (first | (refine wpList_load_row rfl 30 (.tmp 6) rfl w1.heap.size rfl 30 _ (0, 0) _ R1.out Tryd.underlying30 rfl sizeWld ?_) | (refine wpList_store_row rfl 30 (.tmp 4) (.tmp 28) rfl (w.heap.size + 1) #[.int .i64 D'.tick, .slice ua D'.cells.length uc, .slice la D'.lines.length lc] rfl rfl 30 _ HR.out.rb sizeWld rfl (world_one _ _ _ _ _ _ _) ?_))
          refine bodyPost_ret (results_row_tmp Tryd.results36 _ _ (w.heap.size + 1) _ _ rfl rfl (run_loadVar_row _ _ 30 _ #[.int .i64 D'.tick, .slice ua D'.cells.length uc, .slice la D'.lines.length lc] (0, 0) _ (HR.out.rb.row _) Tryd.underlying30 rfl sizeWld)) rfl ⟨_, _, rfl, (HWF.out.row (by omega) _).low (by omega), below_row HR.out.d (by omega) _⟩
  · have h0' : (c0 != 0) = true := by simpa using h0
    have hw3 : runE S n = c0 := by unfold runE; rw [hc0, if_pos h0]
    obtain rfl : e0 = c0 := by rw [← hk, hw3]
    have HD : Hid (wldZ = D') := by
      show _ = _
      rw [← hD, runR, if_neg (by rw [hw3]; exact h0)]
    clear hk hD hw3 hc0 h0 hB
    go_enter Tryd.func36, Tryd.ntmps36
    go_wp2_with fail
    refine (HC.out _ (HE.out.up (by repeat (first | exact Below.refl _ _ | assumption | refine Below.drew ?_ | refine Below.alloc ?_ (by first | (simp; done) | (simp; omega)) _ | refine Below.setCell ?_ (by first | (simp; done) | (simp; omega)) _))) (HS.out.up (by repeat (first | exact Below.refl _ _ | assumption | refine Below.drew ?_ | refine Below.alloc ?_ (by first | (simp; done) | (simp; omega)) _ | refine Below.setCell ?_ (by first | (simp; done) | (simp; omega)) _)))).mono ?_
    rintro e w1 ⟨xc, xl, rfl, hN, b1⟩
    obtain ⟨a5, c5, rfl⟩ := hN.wld.c.form
    obtain ⟨a6, c6, rfl⟩ := hN.wld.l.form
    have z1 := b1.size
    simp at z1
    have RB : Hid (Rw w1 (w.heap.size + 1) 30 #[.int .i64 0, .slice none 0 0, .slice none 0 0]) := Rw.up (by repeat (first | exact Rw.new _ _ _ (by first | rfl | (simp; done) | omega | (simp; omega)) | refine Rw.alloc ?_ _)) b1 (by first | omega | (simp; done) | (simp; omega))
    have HB : Hid (Below w.heap.size w w1) := by
      refine Below.trans ?_ (b1.mono (by first | omega | (simp; done) | (simp; omega)))
      exact (by repeat (first | exact Below.refl _ _ | assumption | refine Below.drew ?_ | refine Below.alloc ?_ (by first | (simp; done) | (simp; omega)) _ | refine Below.setCell ?_ (by first | (simp; done) | (simp; omega)) _))
    clear b1 HC hN
    go_wp2_with (refine wpList_store_rowW rfl 30 (.tmp 6) (.tmp 11) rfl w1.heap.size #[.int .i64 B.tick, .slice a5 B.cells.length c5, .slice a6 B.lines.length c6] rfl rfl 30 #[.int .i64 0, .slice none 0 0, .slice none 0 0] (by repeat (first | exact Rw.new _ _ _ (by first | rfl | (simp; done) | omega | (simp; omega)) | refine Rw.alloc ?_ _)) sizeWld rfl (world_one _ _ _ _ _ _ _) ?_)
    intro W HW1
    have RB2 : Hid (Rw W (w.heap.size + 1) 30 #[.int .i64 0, .slice none 0 0, .slice none 0 0]) := by
      show Rw _ _ _ _
      rw [HW1.out]
      exact (RB.out.up ((Below.refl _ _).alloc (Nat.le_refl _) _) (by omega)).row_other _ (by omega)
    have HB2 : Hid (Below w.heap.size w W) := by
      show Below _ _ _
      rw [HW1.out]
      exact below_row (HB.out.alloc (by omega) _) (by omega) _
    clear HW1 RB HB
    go_wp2_with (refine wpList_store_row rfl 30 (.tmp 4) (.tmp 15) rfl (w.heap.size + 1) #[.int .i64 0, .slice none 0 0, .slice none 0 0] rfl rfl 30 #[.int .i64 0, .slice none 0 0, .slice none 0 0] RB2.out sizeWld rfl (world_one _ _ _ _ _ _ _) ?_)
    refine bodyPost_ret (results_row_tmp Tryd.results36 _ _ (w.heap.size + 1) _ _ rfl rfl (run_loadVar_row _ _ 30 _ #[.int .i64 0, .slice none 0 0, .slice none 0 0] (0, 0) _ (RB2.out.row _) Tryd.underlying30 rfl sizeWld)) rfl ⟨.slice none 0 0, .slice none 0 0, by rw [← HD.out]; rfl, by rw [← HD.out]; exact WldF.nil _ _, below_row HB2.out (by omega) _⟩
end Go.Proofs.YtnnnljfdjdehaaaDoor

namespace Go.Proofs.YtnnnljfdjdehaaaDoor
set_option linter.unusedSimpArgs false
set_option linter.unusedVariables false
open Go.RowKit Go.Sort

theorem ent_sameInts : Enters 14 := enters Tryd.func14 (by kernel_rfl) (by kernel_rfl)
theorem ent_sameCells : Enters 39 := enters Tryd.func39 (by kernel_rfl) (by kernel_rfl)
theorem sameInts_yes (xs : List Int) (v u : Value) (w : World) (hx : Sl w 1 v xs.length (ints xs)) (hy : Sl w 1 u xs.length (ints xs)) (hm : xs.length < 4294967281) :
    Calls Tryd.prog 14 #[v, u] w fun e w' => e = .returned (.bool true) ∧ Below w.heap.size w w' := sameInts_any xs xs v u w hx hy hm true (by simp)
theorem sameCells_agg (c : Cel) (xs : List Int) (v u : Value) (w : World) (hx : Sl w 1 v xs.length (ints xs)) (hy : Sl w 1 u xs.length (ints xs)) (hm : xs.length < 4294967281) :
    Calls Tryd.prog 39 #[.agg (c.cs v), .agg (c.cs u)] w fun e w' => e = .returned (.bool true) ∧ Below w.heap.size w w' := by
  have h := sameCells_yes c xs v u w hx hy hm
  rw [Cel.v_cs, Cel.v_cs] at h
  exact h
set_option maxRecDepth 100000 in
set_option maxHeartbeats 8000000 in
theorem sameLines_yes (ls : List (List Int)) (v u : Value) (hl : ls.length ≤ 1000) (hn : ∀ k (h : k < ls.length), ls[k].length ≤ 1000) (w : World) (hV : LinesR w v ls) (hU : LinesR w u ls) :
    Calls Tryd.prog 38 #[v, u] w fun e w' => e = .returned (.bool true) ∧ Below w.heap.size w w' := by
  obtain ⟨pa, pc, rfl⟩ := hV.form
  obtain ⟨ca, cc, rfl⟩ := hU.form
  have HV := Lib.hid hV
  have HU := Lib.hid hU
  have HN := Lib.hid hn
  clear hV hU hn
  have he' : ((ls.length : Int) != ls.length) = false := by simp
  go_enter Tryd.func38, Tryd.ntmps38
  go_wp2
  go_loopw [5] (fun i wr => ∃ k : Nat, i = .int .i64 k ∧ k ≤ ls.length ∧ Hid (Below w.heap.size w wr)) (fun i _ => ls.length - (intOf i).toNat)
  case atStart => exact ⟨0, rfl, Nat.zero_le _, Lib.hid (Below.refl _ _)⟩
  case round =>
    obtain ⟨k, rfl, hk, HB⟩ := hrel
    by_cases hlt : k < ls.length
    · have hli : (k : Int) < ls.length := by omega
      have h0i : (0 : Int) ≤ k := by omega
      obtain ⟨b, off, cap, e1, hcap, hbw, hc⟩ := HV.out.open (by omega)
      cases e1
      obtain ⟨ao, oc, hra, hso⟩ := hc k hlt
      obtain ⟨b2, off2, cap2, e2, hcap2, hbw2, hc2⟩ := HU.out.open (by omega)
      cases e2
      obtain ⟨ao2, oc2, hra2, hso2⟩ := hc2 k hlt
      have RA := Lib.hid (bcl HB.out hbw hra)
      have RB := Lib.hid (bcl HB.out hbw2 hra2)
      have SA := Lib.hid (hso.up HB.out)
      have SB := Lib.hid (hso2.up HB.out)
      have hws := HB.out.size
      have hb1 : b < wr.heap.size := by omega
      have hb2 : b2 < wr.heap.size := by omega
      have hnk := HN.out k hlt
      generalize ls[k] = l at RA RB SA SB hnk
      have HCK := Lib.hid fun V hx hy => sameInts_yes l (.slice ao l.length oc) (.slice ao2 l.length oc2) V hx hy (by omega)
      clear hra hso hc hra2 hso2 hc2
      go_wp2
      refine region_still (S := fun w' => Below wr.heap.size wr w') 11 (by kernel_rfl) (Below.refl _ _).drew (fun hHeld => ?_)
      refine Still.takeBy (i := 0) [10, 4, 3, 2] (v := ?v11) (by kernel_rfl) (by kernel_rfl) rfl (by kernel_rfl) (by kernel_rfl) (by kernel_rfl) (fun _ _ _ h => h) (Or.inl ⟨by rfl, ?y11⟩) hHeld ?r11
      case y11 => (intro w' hSw; (try dsimp only at hSw); have q1 := bcl hSw hb1 RA.out; have q2 := bcl hSw hb2 RB.out; clear hSw; go_simp; try with_reducible rfl)
      simp only [Act.put, List.getElem_toArray, List.getElem_cons_zero, List.getElem_cons_succ, List.setIfInBounds_toArray, List.set_cons_zero, List.set_cons_succ]
      refine Still.takeBy (i := 1) [10, 4, 3, 2] (v := ?v12) (by kernel_rfl) (by kernel_rfl) rfl (by kernel_rfl) (by kernel_rfl) (by kernel_rfl) (fun _ _ _ h => h) (Or.inl ⟨by rfl, ?y12⟩) hHeld ?r12
      case y12 => (intro w' hSw; (try dsimp only at hSw); have q1 := bcl hSw hb1 RA.out; have q2 := bcl hSw hb2 RB.out; clear hSw; go_simp; try with_reducible rfl)
      simp only [Act.put, List.getElem_toArray, List.getElem_cons_zero, List.getElem_cons_succ, List.setIfInBounds_toArray, List.set_cons_zero, List.set_cons_succ]
      refine Still.takeBy (i := 2) [10, 4, 3] (v := ?v13) (by kernel_rfl) (by kernel_rfl) rfl (by kernel_rfl) (by kernel_rfl) (by kernel_rfl) (fun _ _ _ h => h) (Or.inl ⟨by rfl, ?y13⟩) hHeld ?r13
      case y13 => (intro w' hSw; (try dsimp only at hSw); have q1 := bcl hSw hb1 RA.out; have q2 := bcl hSw hb2 RB.out; clear hSw; go_simp; try with_reducible rfl)
      simp only [Act.put, List.getElem_toArray, List.getElem_cons_zero, List.getElem_cons_succ, List.setIfInBounds_toArray, List.set_cons_zero, List.set_cons_succ]
      refine Still.takeBy (i := 3) [10, 4] (v := ?v14) (by kernel_rfl) (by kernel_rfl) rfl (by kernel_rfl) (by kernel_rfl) (by kernel_rfl) (fun _ _ _ h => h) (Or.inl ⟨by rfl, ?y14⟩) hHeld ?r14
      case y14 => (intro w' hSw; (try dsimp only at hSw); have q1 := bcl hSw hb1 RA.out; have q2 := bcl hSw hb2 RB.out; clear hSw; go_simp; try with_reducible rfl)
      simp only [Act.put, List.getElem_toArray, List.getElem_cons_zero, List.getElem_cons_succ, List.setIfInBounds_toArray, List.set_cons_zero, List.set_cons_succ]
      refine Still.takeBy (i := 4) [10] (v := ?v15) (by kernel_rfl) (by kernel_rfl) rfl (by kernel_rfl) (by kernel_rfl) (by kernel_rfl) (fun _ _ _ h => h) (Or.inl ⟨by rfl, ?y15⟩) hHeld ?r15
      case y15 => (intro w' hSw; (try dsimp only at hSw); have q1 := bcl hSw hb1 RA.out; have q2 := bcl hSw hb2 RB.out; clear hSw; go_simp; try with_reducible rfl)
      simp only [Act.put, List.getElem_toArray, List.getElem_cons_zero, List.getElem_cons_succ, List.setIfInBounds_toArray, List.set_cons_zero, List.set_cons_succ]
      refine Still.takeBy (i := 5) [10, 9, 8, 7] (v := ?v16) (by kernel_rfl) (by kernel_rfl) rfl (by kernel_rfl) (by kernel_rfl) (by kernel_rfl) (fun _ _ _ h => h) (Or.inl ⟨by rfl, ?y16⟩) hHeld ?r16
      case y16 => (intro w' hSw; (try dsimp only at hSw); have q1 := bcl hSw hb1 RA.out; have q2 := bcl hSw hb2 RB.out; clear hSw; go_simp; try with_reducible rfl)
      simp only [Act.put, List.getElem_toArray, List.getElem_cons_zero, List.getElem_cons_succ, List.setIfInBounds_toArray, List.set_cons_zero, List.set_cons_succ]
      refine Still.takeBy (i := 6) [10, 9, 8, 7] (v := ?v17) (by kernel_rfl) (by kernel_rfl) rfl (by kernel_rfl) (by kernel_rfl) (by kernel_rfl) (fun _ _ _ h => h) (Or.inl ⟨by rfl, ?y17⟩) hHeld ?r17
      case y17 => (intro w' hSw; (try dsimp only at hSw); have q1 := bcl hSw hb1 RA.out; have q2 := bcl hSw hb2 RB.out; clear hSw; go_simp; try with_reducible rfl)
      simp only [Act.put, List.getElem_toArray, List.getElem_cons_zero, List.getElem_cons_succ, List.setIfInBounds_toArray, List.set_cons_zero, List.set_cons_succ]
      refine Still.takeBy (i := 7) [10, 9, 8] (v := ?v18) (by kernel_rfl) (by kernel_rfl) rfl (by kernel_rfl) (by kernel_rfl) (by kernel_rfl) (fun _ _ _ h => h) (Or.inl ⟨by rfl, ?y18⟩) hHeld ?r18
      case y18 => (intro w' hSw; (try dsimp only at hSw); have q1 := bcl hSw hb1 RA.out; have q2 := bcl hSw hb2 RB.out; clear hSw; go_simp; try with_reducible rfl)
      simp only [Act.put, List.getElem_toArray, List.getElem_cons_zero, List.getElem_cons_succ, List.setIfInBounds_toArray, List.set_cons_zero, List.set_cons_succ]
      refine Still.takeBy (i := 8) [10, 9] (v := ?v19) (by kernel_rfl) (by kernel_rfl) rfl (by kernel_rfl) (by kernel_rfl) (by kernel_rfl) (fun _ _ _ h => h) (Or.inl ⟨by rfl, ?y19⟩) hHeld ?r19
      case y19 => (intro w' hSw; (try dsimp only at hSw); have q1 := bcl hSw hb1 RA.out; have q2 := bcl hSw hb2 RB.out; clear hSw; go_simp; try with_reducible rfl)
      simp only [Act.put, List.getElem_toArray, List.getElem_cons_zero, List.getElem_cons_succ, List.setIfInBounds_toArray, List.set_cons_zero, List.set_cons_succ]
      refine Still.takeBy (i := 9) [10] (v := ?v20) (by kernel_rfl) (by kernel_rfl) rfl (by kernel_rfl) (by kernel_rfl) (by kernel_rfl) (fun _ _ _ h => h) (Or.inl ⟨by rfl, ?y20⟩) hHeld ?r20
      case y20 => (intro w' hSw; (try dsimp only at hSw); have q1 := bcl hSw hb1 RA.out; have q2 := bcl hSw hb2 RB.out; clear hSw; go_simp; try with_reducible rfl)
      simp only [Act.put, List.getElem_toArray, List.getElem_cons_zero, List.getElem_cons_succ, List.setIfInBounds_toArray, List.set_cons_zero, List.set_cons_succ]
      refine Still.all (rs := [10]) (by kernel_rfl) (by simp) (Still.one (i := 10) rfl rfl (fun K hK => ?_) (by simp))
      refine wp_call 14 _ _ rfl ent_sameInts #[.slice ao l.length oc, .slice ao2 l.length oc2] (by first | rfl | simp [Act.eval, Act.put]) ((HCK.out _ (SA.out.up hHeld) (SB.out.up hHeld)).mono ?_)
      rintro e V1 ⟨rfl, bb⟩
      refine ⟨_, rfl, hK _ _ (fun _ => hHeld.trans (bb.mono hHeld.size)) (fun hh => ?_)⟩
      have hHeld := hh (by decide)
      clear hK K hh
      try simp only [Act.put, List.getElem_toArray, List.getElem_cons_zero, List.getElem_cons_succ, List.setIfInBounds_toArray, List.set_cons_zero, List.set_cons_succ]
      clear bb
      refine Still.all (rs := [11]) (by kernel_rfl) (by simp) (Still.one (i := 11) rfl rfl (fun K hK => ?_) (by simp))
      go_simp
      refine hK _ _ (fun h => absurd rfl h) (fun _ => ?_)
      clear hK K
      refine Still.over (by kernel_rfl) ?_ _
      have HL2 := Lib.hid (HB.out.trans (hHeld.mono HB.out.size))
      clear hHeld
      go_wp2
      go_roundw
      case rel => exact ⟨k + 1, by go_num, by omega, HL2⟩
      case measure => simp [intOf]; omega
    · have hli : ¬ (k : Int) < ls.length := by omega
      go_wp2
      go_ret
      exact ⟨rfl, HB.out⟩
/-- Bounds that a right world keeps. -/
structure WSmall (D : WldD) : Prop where
  c : D.cells.length ≤ 1000
  l : D.lines.length ≤ 1000
  o : ∀ k (h : k < D.cells.length), D.cells[k].out.length ≤ 1000
  n : ∀ k (h : k < D.lines.length), D.lines[k].length ≤ 1000
set_option maxRecDepth 100000 in
set_option maxHeartbeats 8000000 in
theorem sameWorlds_yes (D : WldD) (hs : WSmall D) (vc vl uc ul : Value) (w : World) (hV : Wld w vc vl D) (hU : Wld w uc ul D) :
    Calls Tryd.prog 15 #[.agg #[.int .i64 D.tick, vc, vl], .agg #[.int .i64 D.tick, uc, ul]] w fun e w' => e = .returned (.bool true) ∧ Below w.heap.size w w' := by
  obtain ⟨pa, pc, rfl⟩ := hV.c.form
  obtain ⟨la, lc, rfl⟩ := hV.l.form
  obtain ⟨pa', pc', rfl⟩ := hU.c.form
  obtain ⟨la', lc', rfl⟩ := hU.l.form
  have HCK := Lib.hid fun V h1 h2 => sameLines_yes D.lines (.slice la D.lines.length lc) (.slice la' D.lines.length lc') hs.l hs.n V h1 h2
  have HV := Lib.hid hV
  have HU := Lib.hid hU
  have HN := Lib.hid hs.o
  have hcl := hs.c
  clear hV hU hs
  have he1 : ((D.tick : Int) != D.tick) = false := by simp
  have he2 : ((D.cells.length : Int) != D.cells.length) = false := by simp
  go_enter Tryd.func15, Tryd.ntmps15
  go_wp2_with fail
  refine (HCK.out _ (HV.out.l.up (by repeat (first | exact Below.refl _ _ | assumption | refine Below.drew ?_ | refine Below.alloc ?_ (by first | (simp; done) | (simp; omega)) _ | refine Below.setCell ?_ (by first | (simp; done) | (simp; omega)) _))) (HU.out.l.up (by repeat (first | exact Below.refl _ _ | assumption | refine Below.drew ?_ | refine Below.alloc ?_ (by first | (simp; done) | (simp; omega)) _ | refine Below.setCell ?_ (by first | (simp; done) | (simp; omega)) _)))).mono ?_
  rintro e w1 ⟨rfl, b1⟩
  have z1 := b1.size
  simp at z1
  have R0 : Hid (Rw w1 w.heap.size 30 #[.int .i64 D.tick, .slice pa D.cells.length pc, .slice la D.lines.length lc]) := Rw.up (by repeat (first | exact Rw.new _ _ _ (by first | rfl | (simp; done) | omega | (simp; omega)) | refine Rw.alloc ?_ _)) b1 (by first | omega | (simp; done) | (simp; omega))
  have R1 : Hid (Rw w1 (w.heap.size + 1) 30 #[.int .i64 D.tick, .slice pa' D.cells.length pc', .slice la' D.lines.length lc']) := Rw.up (by repeat (first | exact Rw.new _ _ _ (by first | rfl | (simp; done) | omega | (simp; omega)) | refine Rw.alloc ?_ _)) b1 (by first | omega | (simp; done) | (simp; omega))
  have HB1 : Hid (Below w.heap.size w w1) := by
    refine Below.trans ?_ (b1.mono (by first | omega | (simp; done) | (simp; omega)))
    exact (by repeat (first | exact Below.refl _ _ | assumption | refine Below.drew ?_ | refine Below.alloc ?_ (by first | (simp; done) | (simp; omega)) _ | refine Below.setCell ?_ (by first | (simp; done) | (simp; omega)) _))
  clear b1 HCK
  go_wp2
  go_loopw [5] (fun i wr => ∃ k : Nat, i = .int .i64 k ∧ k ≤ D.cells.length ∧ Hid (Below w1.heap.size w1 wr)) (fun i _ => D.cells.length - (intOf i).toNat)
  case atStart => exact ⟨0, rfl, Nat.zero_le _, Lib.hid (Below.refl _ _)⟩
  case round =>
    obtain ⟨k, rfl, hk, HB⟩ := hrel
    have hws := HB.out.size
    have r0 := R0.out.up HB.out (by omega)
    have r1 := R1.out.up HB.out (by omega)
    have q0 := r0.cell (j := 1) (v := .slice pa D.cells.length pc) rfl
    have q1 := r1.cell (j := 1) (v := .slice pa' D.cells.length pc') rfl
    have Q0 := Lib.hid q0
    have Q1 := Lib.hid q1
    clear r0 r1
    by_cases hlt : k < D.cells.length
    · have hli : (k : Int) < D.cells.length := by omega
      have h0i : (0 : Int) ≤ k := by omega
      obtain ⟨b, off, cap, e1, hcap, hbw, hc⟩ := HV.out.c.open (by omega)
      cases e1
      obtain ⟨ao, oc, hra, hso⟩ := hc k hlt
      obtain ⟨b2, off2, cap2, e2, hcap2, hbw2, hc2⟩ := HU.out.c.open (by omega)
      cases e2
      obtain ⟨ao2, oc2, hra2, hso2⟩ := hc2 k hlt
      have HBB := HB1.out.trans (HB.out.mono (by omega))
      have RA := Lib.hid (range_up hra HBB hbw)
      have RB := Lib.hid (range_up hra2 HBB hbw2)
      have SA := Lib.hid (hso.up HBB)
      have SB := Lib.hid (hso2.up HBB)
      have hb1 : b < wr.heap.size := by omega
      have hb2 : b2 < wr.heap.size := by omega
      have hg0 : w.heap.size < wr.heap.size := by omega
      have hg1 : w.heap.size + 1 < wr.heap.size := by omega
      have hnk := HN.out k hlt
      generalize D.cells[k] = d at RA RB SA SB hnk
      obtain ⟨c, out⟩ := d
      simp only at RA RB SA SB hnk
      have HCK := Lib.hid fun V hx hy => sameCells_agg c out (.slice ao out.length oc) (.slice ao2 out.length oc2) V hx hy (by omega)
      clear hra hso hc hra2 hso2 hc2 HBB
      go_wp2
      clear q0 q1
      refine region_still (S := fun w' => Below wr.heap.size wr w') 11 (by kernel_rfl) (Below.refl _ _).drew (fun hHeld => ?_)
      refine Still.takeBy (i := 0) [10, 4, 3, 1] (v := ?v51) (by kernel_rfl) (by kernel_rfl) rfl (by kernel_rfl) (by kernel_rfl) (by kernel_rfl) (fun _ _ _ h => h) (Or.inl ⟨by rfl, ?y51⟩) hHeld ?r51
      case y51 => (intro w' hSw; (try dsimp only at hSw); have q1 := bcl hSw hg0 Q0.out; have q2 := bcl hSw hg1 Q1.out; clear hSw; go_simp; try with_reducible rfl)
      simp only [Act.put, List.getElem_toArray, List.getElem_cons_zero, List.getElem_cons_succ, List.setIfInBounds_toArray, List.set_cons_zero, List.set_cons_succ]
      refine Still.takeBy (i := 1) [10, 4, 3] (v := ?v52) (by kernel_rfl) (by kernel_rfl) rfl (by kernel_rfl) (by kernel_rfl) (by kernel_rfl) (fun _ _ _ h => h) (Or.inl ⟨by rfl, ?y52⟩) hHeld ?r52
      case y52 => (intro w' hSw; (try dsimp only at hSw); have q1 := bcl hSw hg0 Q0.out; have q2 := bcl hSw hg1 Q1.out; clear hSw; go_simp; try with_reducible rfl)
      simp only [Act.put, List.getElem_toArray, List.getElem_cons_zero, List.getElem_cons_succ, List.setIfInBounds_toArray, List.set_cons_zero, List.set_cons_succ]
      refine Still.takeBy (i := 2) [10, 4, 3] (v := ?v53) (by kernel_rfl) (by kernel_rfl) rfl (by kernel_rfl) (by kernel_rfl) (by kernel_rfl) (fun _ _ _ h => h) (Or.inl ⟨by rfl, ?y53⟩) hHeld ?r53
      case y53 => (intro w' hSw; (try dsimp only at hSw); have q1 := bcl hSw hg0 Q0.out; have q2 := bcl hSw hg1 Q1.out; clear hSw; go_simp; try with_reducible rfl)
      simp only [Act.put, List.getElem_toArray, List.getElem_cons_zero, List.getElem_cons_succ, List.setIfInBounds_toArray, List.set_cons_zero, List.set_cons_succ]
      refine Still.takeBy (i := 3) [10, 4] (v := ?v54) (by kernel_rfl) (by kernel_rfl) rfl (by kernel_rfl) (by kernel_rfl) (by kernel_rfl) (fun _ _ _ h => h) (Or.inl ⟨by rfl, ?y54⟩) hHeld ?r54
      case y54 => (intro w' hSw; (try dsimp only at hSw); have q1 := bcl hSw hg0 Q0.out; have q2 := bcl hSw hg1 Q1.out; clear hSw; go_simp; try with_reducible rfl)
      simp only [Act.put, List.getElem_toArray, List.getElem_cons_zero, List.getElem_cons_succ, List.setIfInBounds_toArray, List.set_cons_zero, List.set_cons_succ]
      refine Still.takeBy (i := 4) [10] (by kernel_rfl) (by kernel_rfl) rfl (by kernel_rfl) (by kernel_rfl) (by kernel_rfl) (fun _ _ _ h => h) (yields_load_midA (by rfl) _ _ rfl b (off + k * 16) (by first | rfl | simp [Act.eval, Act.put]) (c.cs (.slice ao out.length oc)) _ (fun w' hSw => range_up RA.out hSw hb1) Tryd.underlying62 rfl sizeCell) hHeld ?r55
      simp only [Act.put, List.getElem_toArray, List.getElem_cons_zero, List.getElem_cons_succ, List.setIfInBounds_toArray, List.set_cons_zero, List.set_cons_succ]
      refine Still.takeBy (i := 5) [10, 9, 8, 6] (v := ?v56) (by kernel_rfl) (by kernel_rfl) rfl (by kernel_rfl) (by kernel_rfl) (by kernel_rfl) (fun _ _ _ h => h) (Or.inl ⟨by rfl, ?y56⟩) hHeld ?r56
      case y56 => (intro w' hSw; (try dsimp only at hSw); have q1 := bcl hSw hg0 Q0.out; have q2 := bcl hSw hg1 Q1.out; clear hSw; go_simp; try with_reducible rfl)
      simp only [Act.put, List.getElem_toArray, List.getElem_cons_zero, List.getElem_cons_succ, List.setIfInBounds_toArray, List.set_cons_zero, List.set_cons_succ]
      refine Still.takeBy (i := 6) [10, 9, 8] (v := ?v57) (by kernel_rfl) (by kernel_rfl) rfl (by kernel_rfl) (by kernel_rfl) (by kernel_rfl) (fun _ _ _ h => h) (Or.inl ⟨by rfl, ?y57⟩) hHeld ?r57
      case y57 => (intro w' hSw; (try dsimp only at hSw); have q1 := bcl hSw hg0 Q0.out; have q2 := bcl hSw hg1 Q1.out; clear hSw; go_simp; try with_reducible rfl)
      simp only [Act.put, List.getElem_toArray, List.getElem_cons_zero, List.getElem_cons_succ, List.setIfInBounds_toArray, List.set_cons_zero, List.set_cons_succ]
      refine Still.takeBy (i := 7) [10, 9, 8] (v := ?v58) (by kernel_rfl) (by kernel_rfl) rfl (by kernel_rfl) (by kernel_rfl) (by kernel_rfl) (fun _ _ _ h => h) (Or.inl ⟨by rfl, ?y58⟩) hHeld ?r58
      case y58 => (intro w' hSw; (try dsimp only at hSw); have q1 := bcl hSw hg0 Q0.out; have q2 := bcl hSw hg1 Q1.out; clear hSw; go_simp; try with_reducible rfl)
      simp only [Act.put, List.getElem_toArray, List.getElem_cons_zero, List.getElem_cons_succ, List.setIfInBounds_toArray, List.set_cons_zero, List.set_cons_succ]
      refine Still.takeBy (i := 8) [10, 9] (v := ?v59) (by kernel_rfl) (by kernel_rfl) rfl (by kernel_rfl) (by kernel_rfl) (by kernel_rfl) (fun _ _ _ h => h) (Or.inl ⟨by rfl, ?y59⟩) hHeld ?r59
      case y59 => (intro w' hSw; (try dsimp only at hSw); have q1 := bcl hSw hg0 Q0.out; have q2 := bcl hSw hg1 Q1.out; clear hSw; go_simp; try with_reducible rfl)
      simp only [Act.put, List.getElem_toArray, List.getElem_cons_zero, List.getElem_cons_succ, List.setIfInBounds_toArray, List.set_cons_zero, List.set_cons_succ]
      refine Still.takeBy (i := 9) [10] (by kernel_rfl) (by kernel_rfl) rfl (by kernel_rfl) (by kernel_rfl) (by kernel_rfl) (fun _ _ _ h => h) (yields_load_midA (by rfl) _ _ rfl b2 (off2 + k * 16) (by first | rfl | simp [Act.eval, Act.put]) (c.cs (.slice ao2 out.length oc2)) _ (fun w' hSw => range_up RB.out hSw hb2) Tryd.underlying62 rfl sizeCell) hHeld ?r60
      simp only [Act.put, List.getElem_toArray, List.getElem_cons_zero, List.getElem_cons_succ, List.setIfInBounds_toArray, List.set_cons_zero, List.set_cons_succ]
      refine Still.all (rs := [10]) (by kernel_rfl) (by simp) (Still.one (i := 10) rfl rfl (fun K hK => ?_) (by simp))
      refine wp_call 39 _ _ rfl ent_sameCells #[.agg (c.cs (.slice ao out.length oc)), .agg (c.cs (.slice ao2 out.length oc2))] (by first | rfl | simp [Act.eval, Act.put]) ((HCK.out _ (SA.out.up hHeld) (SB.out.up hHeld)).mono ?_)
      rintro e V1 ⟨rfl, bb⟩
      refine ⟨_, rfl, hK _ _ (fun _ => hHeld.trans (bb.mono hHeld.size)) (fun hh => ?_)⟩
      have hHeld := hh (by decide)
      clear hK K hh
      try simp only [Act.put, List.getElem_toArray, List.getElem_cons_zero, List.getElem_cons_succ, List.setIfInBounds_toArray, List.set_cons_zero, List.set_cons_succ]
      clear bb
      refine Still.all (rs := [11]) (by kernel_rfl) (by simp) (Still.one (i := 11) rfl rfl (fun K hK => ?_) (by simp))
      go_simp
      refine hK _ _ (fun h => absurd rfl h) (fun _ => ?_)
      clear hK K
      refine Still.over (by kernel_rfl) ?_ _
      have HL2 := Lib.hid (HB.out.trans (hHeld.mono HB.out.size))
      clear hHeld
      go_wp2
      go_roundw
      case rel => exact ⟨k + 1, by go_num, by omega, HL2⟩
      case measure => simp [intOf]; omega
    · have hli : ¬ (k : Int) < D.cells.length := by omega
      go_wp2
      go_ret
      exact ⟨rfl, HB1.out.trans (HB.out.mono (by omega))⟩
end Go.Proofs.YtnnnljfdjdehaaaDoor
