/- The reference's VerifyOf. -/
import Derived.Test.YthpljbbhpbijgaaDoorJx
namespace Go.Proofs.YthpljbbhpbijgaaDoor
set_option linter.unusedSimpArgs false
set_option linter.unusedVariables false
open Go.RowKit Go.Sort Go.Shelf Go.Lib Go.Maps

theorem ent_may : Enters 47 := enters Tryd.func47 (by kernel_rfl) (by kernel_rfl)
theorem ent_leads : Enters 35 := enters Tryd.func35 (by kernel_rfl) (by kernel_rfl)
theorem ent_in : Enters 55 := enters Tryd.func55 (by kernel_rfl) (by kernel_rfl)
/-- The first k of a set are right. -/
structure SetGo (S : SysD) (L : List Edg) (l : List Int) (u k : Nat) : Prop where
  up : SetUp S.parts.length l k
  may : ∀ j (h : j < l.length), j < k → mayB L l[j] u = true
  cl : ∀ j (h : j < l.length), j < k → ∀ a : Nat, a < S.parts.length → leadsB S a l[j] = true → inB l a = true
theorem setGo_zero (S : SysD) (L : List Edg) (l : List Int) (u : Nat) : SetGo S L l u 0 := ⟨fun j _ h => by omega, fun j _ h => by omega, fun j _ h => by omega⟩
theorem SetGo.all {S : SysD} {L : List Edg} {l : List Int} {u k : Nat} (h : SetGo S L l u k) (hk : ¬ k < l.length) (hin : inB l u = true) : SetRight S L l u := by
  refine ⟨fun j hj _ => h.up j hj (by omega), hin, ?_, fun x hx => ?_⟩
  · unfold closedB
    rw [Bool.not_eq_true', List.any_eq_false]
    intro e he
    obtain ⟨⟨f0, f1⟩, ⟨t0, t1⟩, hl⟩ := edgesL_mem.1 (show (⟨e.fr, e.tt⟩ : Edg) ∈ edgesL S from he)
    simp only [Bool.and_eq_true, Bool.not_eq_true', not_and]
    intro ht
    obtain ⟨j, hj, ej⟩ := List.getElem_of_mem (inB_iff.1 ht)
    have := h.cl j hj (by omega) e.fr.toNat (by omega) (by rw [ej, Int.toNat_of_nonneg f0]; exact hl)
    rw [Int.toNat_of_nonneg f0] at this
    simp [this]
  · obtain ⟨j, hj, rfl⟩ := List.getElem_of_mem hx
    exact h.may j hj (by omega)
theorem bad_within {S : SysD} {L : List Edg} {l : List Int} {u k : Nat} (hk : k < l.length) (h : withinB l[k] 0 ((S.parts.length : Int) - 1) = false) : ¬ SetRight S L l u := fun hh => by
  have := (hh.1 k hk hk).1
  rw [h] at this
  cases this
theorem bad_rise {S : SysD} {L : List Edg} {l : List Int} {u k : Nat} (hk : k < l.length) (h0 : 0 < k) (h : ¬ l[k - 1]'(by omega) < l[k]) : ¬ SetRight S L l u := fun hh => h ((hh.1 k hk hk).2 h0)
theorem bad_may {S : SysD} {L : List Edg} {l : List Int} {u k : Nat} (hk : k < l.length) (h : mayB L l[k] u = false) : ¬ SetRight S L l u := fun hh => by
  have := hh.2.2.2 _ (List.getElem_mem hk)
  rw [h] at this
  cases this
theorem bad_closed {S : SysD} {L : List Edg} {l : List Int} {u k a : Nat} (hk : k < l.length) (hw : withinB l[k] 0 ((S.parts.length : Int) - 1) = true) (ha : a < S.parts.length) (hl : leadsB S a l[k] = true) (hi : inB l a = false) : ¬ SetRight S L l u := fun hh => by
  have h := hh.2.2.1
  unfold closedB at h
  rw [Bool.not_eq_true', List.any_eq_false] at h
  unfold withinB at hw
  simp at hw
  have := h ⟨a, l[k]⟩ (edgesL_mem.2 ⟨by omega, by omega, hl⟩)
  simp [hi, inB_iff.2 (List.getElem_mem hk)] at this
theorem SetGo.step {S : SysD} {L : List Edg} {l : List Int} {u k : Nat} (h : SetGo S L l u k) (hk : k < l.length) (h1 : withinB l[k] 0 ((S.parts.length : Int) - 1) = true) (h2 : ∀ h0 : 0 < k, l[k - 1]'(by omega) < l[k]) (h3 : mayB L l[k] u = true) (h4 : ∀ a : Nat, a < S.parts.length → leadsB S a l[k] = true → inB l a = true) : SetGo S L l u (k + 1) := by
  refine ⟨setUp_step h.up hk h1 h2, fun j hj hjk => ?_, fun j hj hjk => ?_⟩
  · by_cases e : j = k
    · subst e; exact h3
    · exact h.may j hj (by omega)
  · by_cases e : j = k
    · subst e; exact h4
    · exact h.cl j hj (by omega)
set_option maxRecDepth 100000 in
set_option maxHeartbeats 8000000 in
theorem verifyOf_any (S : SysD) (h4 : S.parts.length ≤ 4) (hcl : S.chans.length ≤ 6) (L : List Edg) (hLl : L.length ≤ 16) (ss : List (List Int)) (hss : ∀ l ∈ ss, l.length ≤ 9223372036854775807) (vp vc vs vL vC : Value) (w : World) (hS : Sys w vp vc vs S) (hL : Sl w 2 vL L.length (rowC Edg.cells L)) (hC : SetsR w vC ss) :
    Calls Tryd.prog 27 #[.agg #[vp, vc, vs], .agg #[vL], .agg #[vC]] w fun e w' => e = .returned (.bool (verB S L ss)) ∧ RowKit.Below w.heap.size w w' := by
  generalize hv : verB S L ss = vq
  have HV0 := Lib.hid hv
  obtain ⟨pa, pc, rfl⟩ := hS.p.form
  obtain ⟨ca, cc, rfl⟩ := hS.c.form
  obtain ⟨sa, sc, rfl⟩ := hS.s.form
  obtain ⟨la, lc, rfl⟩ := hL.form
  obtain ⟨ta, tc, rfl⟩ := hC.form
  have HSS := Lib.hid hss
  clear hv hss
  go_enter Tryd.func27, Tryd.ntmps27
  go_upto_region 1 with fail
  have HB := Lib.hid ((box_new w (.slice pa S.parts.length pc) (.slice ca S.chans.length cc) (.slice sa S.slots.length sc) 26 _ rfl).up (((RowKit.Below.refl _ _).alloc (Nat.le_refl _) (.cells #[.slice la L.length lc] 52)).alloc (by simp) (.cells #[.slice ta ss.length tc] 55)))
  have y3 : (((w.alloc (.cells #[.slice pa S.parts.length pc, .slice ca S.chans.length cc, .slice sa S.slots.length sc] 26)).alloc (.cells #[.slice la L.length lc] 52)).alloc (.cells #[.slice ta ss.length tc] 55)).cell? ⟨w.heap.size + 1, 0, none⟩ = some (.slice la L.length lc) := bcl ((RowKit.Below.refl _ _).alloc (Nat.le_refl _) _) (by simp) (by simp)
  have y4 : (((w.alloc (.cells #[.slice pa S.parts.length pc, .slice ca S.chans.length cc, .slice sa S.slots.length sc] 26)).alloc (.cells #[.slice la L.length lc] 52)).alloc (.cells #[.slice ta ss.length tc] 55)).cell? ⟨w.heap.size + 1 + 1, 0, none⟩ = some (.slice ta ss.length tc) := (Rw.new _ _ _ (by simp)).cell (j := 0) rfl
  have hw0 : w.heap.size + 2 < (((w.alloc (.cells #[.slice pa S.parts.length pc, .slice ca S.chans.length cc, .slice sa S.slots.length sc] 26)).alloc (.cells #[.slice la L.length lc] 52)).alloc (.cells #[.slice ta ss.length tc] 55)).heap.size := by simp
  have D0 : Hid (RowKit.Below w.heap.size w (((w.alloc (.cells #[.slice pa S.parts.length pc, .slice ca S.chans.length cc, .slice sa S.slots.length sc] 26)).alloc (.cells #[.slice la L.length lc] 52)).alloc (.cells #[.slice ta ss.length tc] 55))) := Lib.hid (by repeat (first | exact Below.refl _ _ | assumption | refine Below.drew ?_ | refine Below.alloc ?_ (by first | (simp; done) | (simp; omega)) _ | refine Below.setCell ?_ (by first | (simp; done) | (simp; omega)) _))
  generalize (((w.alloc (.cells #[.slice pa S.parts.length pc, .slice ca S.chans.length cc, .slice sa S.slots.length sc] 26)).alloc (.cells #[.slice la L.length lc] 52)).alloc (.cells #[.slice ta ss.length tc] 55)) = W0 at HB y3 y4 hw0 D0 ⊢
  have HS := Lib.hid (hS.up D0.out)
  have HL := Lib.hid (hL.up D0.out)
  have HCS := Lib.hid (hC.up D0.out)
  clear hS hL hC
  have k0 := HB.out.p
  have HY3 := Lib.hid y3
  have HY4 := Lib.hid y4
  by_cases hsl : ss.length = S.parts.length
  · have hsl' : ((ss.length : Int) != (S.parts.length : Int)) = false := by simp; omega
    have HSL := Lib.hid hsl
    clear hsl
    go_wp2
    clear y3 y4 k0 hsl'
    go_loopw [7] (fun i wr => ∃ u : Nat, i = .int .i64 u ∧ u ≤ ss.length ∧ Hid (∀ v (h : v < ss.length), v < u → SetRight S L ss[v] v) ∧ Hid (RowKit.Below W0.heap.size W0 wr)) (fun i _ => ss.length - (intOf i).toNat)
    case atStart => exact ⟨0, rfl, Nat.zero_le _, Lib.hid (fun u _ h => by omega), Lib.hid (RowKit.Below.refl _ _)⟩
    case round =>
      obtain ⟨u, rfl, hu, HP, HT⟩ := hrel
      have hws := HT.out.size
      have y4 := bcl HT.out (by show w.heap.size + 1 + 1 < _; omega) HY4.out
      by_cases hlt : u < ss.length
      · have hli : (u : Int) < ss.length := by omega
        have hun : u < S.parts.length := by have := HSL.out; omega
        obtain ⟨tb, tof, tcap, e1, htb, hts⟩ := (HCS.out.up HT.out).open (by omega)
        cases e1
        obtain ⟨xa, xc, hx0, hxs⟩ := hts u hlt
        have HXT := Lib.hid hxs
        have hll := HSS.out _ (List.getElem_mem hlt)
        have HBAD := Lib.hid (fun h => HV0.out.symm.trans (verB_bad (S := S) (L := L) hlt h))
        have HST : Hid (SetRight S L ss[u] u → ∀ v (h : v < ss.length), v < u + 1 → SetRight S L ss[v] v) := Lib.hid (fun hr v hv huk => by
          by_cases e : v = u
          · subst e; exact hr
          · exact HP.out v hv (by omega))
        have HXS : Hid (∀ V, RowKit.Below wr.heap.size wr V → Sl V 1 (.slice xa ss[u].length xc) ss[u].length (ints ss[u])) := Lib.hid (fun V hb => hxs.up hb)
        clear hts hxs
        generalize ss[u] = l at hx0 HXT HBAD HST hll HXS
        go_wp2_with fail
        refine (refIn_any l u _ _ HXT.out hll).mono ?_
        rintro e W1 ⟨rfl, hW⟩
        have hW2 := hW.symm
        subst hW2
        clear hW
        cases hiu : inB l u with
        | false =>
          have HB1 := Lib.hid (HBAD.out (fun h => by have := h.2.1; rw [hiu] at this; cases this))
          go_wp2
          go_ret
          exact ⟨ret_bool HB1.out.symm, D0.out.trans (HT.out.mono D0.out.size)⟩
        | true =>
        have HIU := Lib.hid hiu
        clear hiu
        obtain ⟨wo, hwo⟩ : ∃ wo, wo = wr := ⟨_, rfl⟩
        subst hwo
        go_wp2
        clear hx0 y4
        go_loopw [9] (fun i wr => ∃ k : Nat, i = .int .i64 k ∧ k ≤ l.length ∧ Hid (SetGo S L l u k) ∧ Hid (RowKit.Below W0.heap.size W0 wr) ∧ Hid (RowKit.Below wo.heap.size wo wr)) (fun i _ => l.length - (intOf i).toNat)
        case atStart => exact ⟨0, rfl, Nat.zero_le _, Lib.hid (setGo_zero _ _ _ _), HT, Lib.hid (RowKit.Below.refl _ _)⟩
        case round =>
          clear HT hws
          obtain ⟨k, rfl, hk, HG, HT, HO⟩ := hrel
          have hws := HT.out.size
          have hk4 := setUp_len HG.out.up hk
          by_cases hkl : k < l.length
          · have hki : (k : Int) < l.length := by omega
            obtain ⟨xb, xo, xcap, e1, hxc, hxb, hxx⟩ := (HXS.out _ HO.out).open (by omega)
            cases e1
            have HXX := Lib.hid hxx
            have x0 := hxx k _ (ints_at l k hkl)
            have y3 := bcl HT.out (by show w.heap.size + 1 < _; omega) HY3.out
            have HW := Lib.hid (bad_within (S := S) (L := L) (u := u) hkl)
            have HRI := Lib.hid (bad_rise (S := S) (L := L) (u := u) hkl)
            have HMA := Lib.hid (bad_may (S := S) (L := L) (u := u) hkl)
            have HCD := Lib.hid (fun a => bad_closed (S := S) (L := L) (u := u) (a := a) hkl)
            have HSTP := Lib.hid (HG.out.step hkl)
            clear hxx
            generalize hlk : l[k] = lk at x0 HW HRI HMA HCD HSTP
            clear hlk
            have hwp : IntKind.i64.wrap ((S.parts.length : Int) - 1) = (S.parts.length : Int) - 1 := by simp [IntKind.wrap, IntKind.bits, IntKind.signed]; omega
            cases hA : withinB lk 0 ((S.parts.length : Int) - 1) with
            | false =>
              have HBD := Lib.hid (HBAD.out (HW.out hA))
              clear HW HRI HMA HCD HSTP HBAD HST
              go_upto_region 12 with fail
              refine region_still (S := fun w' => Box w' w.heap.size (.slice pa S.parts.length pc) (.slice ca S.chans.length cc) (.slice sa S.slots.length sc) ∧ w'.cell? ⟨w.heap.size + 1, 0, none⟩ = some (.slice la L.length lc) ∧ w'.cell? ⟨xb, xo + k, none⟩ = some (.int .i64 lk)) 35 (by kernel_rfl) ⟨HB.out.up (HT.out.trans (RowKit.Below.refl _ _).drew), y3, x0⟩ (fun hHeld => ?_)
              refine Still.takeBy (i := 0) [26, 25, 10, 8, 3, 2] (v := ?v1) (by kernel_rfl) (by kernel_rfl) rfl (by kernel_rfl) (by kernel_rfl) (by kernel_rfl) (fun _ _ _ h => h) (Or.inl ⟨by rfl, ?y1⟩) hHeld ?r1
              case y1 => (intro w' hSw; (try dsimp only at hSw); obtain ⟨hbx, q3, q4⟩ := hSw; have q0 := hbx.p; clear hbx; go_simp; try with_reducible rfl)
              simp only [Act.put, List.getElem_toArray, List.getElem_cons_zero, List.getElem_cons_succ, List.setIfInBounds_toArray, List.set_cons_zero, List.set_cons_succ]
              refine Still.takeBy (i := 1) [26, 25, 10, 8, 3, 2] (v := ?v2) (by kernel_rfl) (by kernel_rfl) rfl (by kernel_rfl) (by kernel_rfl) (by kernel_rfl) (fun _ _ _ h => h) (Or.inl ⟨by rfl, ?y2⟩) hHeld ?r2
              case y2 => (intro w' hSw; (try dsimp only at hSw); obtain ⟨hbx, q3, q4⟩ := hSw; have q0 := hbx.p; clear hbx; go_simp; try with_reducible rfl)
              simp only [Act.put, List.getElem_toArray, List.getElem_cons_zero, List.getElem_cons_succ, List.setIfInBounds_toArray, List.set_cons_zero, List.set_cons_succ]
              refine Still.takeBy (i := 2) [26, 25, 10, 8, 3] (v := ?v3) (by kernel_rfl) (by kernel_rfl) rfl (by kernel_rfl) (by kernel_rfl) (by kernel_rfl) (fun _ _ _ h => h) (Or.inl ⟨by rfl, ?y3⟩) hHeld ?r3
              case y3 => (intro w' hSw; (try dsimp only at hSw); obtain ⟨hbx, q3, q4⟩ := hSw; have q0 := hbx.p; clear hbx; go_simp; try with_reducible rfl)
              simp only [Act.put, List.getElem_toArray, List.getElem_cons_zero, List.getElem_cons_succ, List.setIfInBounds_toArray, List.set_cons_zero, List.set_cons_succ]
              refine Still.takeBy (i := 3) [26, 25, 10, 8] (v := ?v4) (by kernel_rfl) (by kernel_rfl) rfl (by kernel_rfl) (by kernel_rfl) (by kernel_rfl) (fun _ _ _ h => h) (Or.inl ⟨by rfl, ?y4⟩) hHeld ?r4
              case y4 => (intro w' hSw; (try dsimp only at hSw); obtain ⟨hbx, q3, q4⟩ := hSw; have q0 := hbx.p; clear hbx; go_simp; try with_reducible rfl)
              simp only [Act.put, List.getElem_toArray, List.getElem_cons_zero, List.getElem_cons_succ, List.setIfInBounds_toArray, List.set_cons_zero, List.set_cons_succ]
              refine Still.takeBy (i := 4) [26, 25, 10, 8, 7, 6, 5] (v := ?v5) (by kernel_rfl) (by kernel_rfl) rfl (by kernel_rfl) (by kernel_rfl) (by kernel_rfl) (fun _ _ _ h => h) (Or.inl ⟨by rfl, ?y5⟩) hHeld ?r5
              case y5 => (intro w' hSw; (try dsimp only at hSw); obtain ⟨hbx, q3, q4⟩ := hSw; have q0 := hbx.p; clear hbx; go_simp; try with_reducible rfl)
              simp only [Act.put, List.getElem_toArray, List.getElem_cons_zero, List.getElem_cons_succ, List.setIfInBounds_toArray, List.set_cons_zero, List.set_cons_succ]
              refine Still.takeBy (i := 5) [26, 25, 10, 8, 7, 6] (v := ?v6) (by kernel_rfl) (by kernel_rfl) rfl (by kernel_rfl) (by kernel_rfl) (by kernel_rfl) (fun _ _ _ h => h) (Or.inl ⟨by rfl, ?y6⟩) hHeld ?r6
              case y6 => (intro w' hSw; (try dsimp only at hSw); obtain ⟨hbx, q3, q4⟩ := hSw; have q0 := hbx.p; clear hbx; go_simp; try with_reducible rfl)
              simp only [Act.put, List.getElem_toArray, List.getElem_cons_zero, List.getElem_cons_succ, List.setIfInBounds_toArray, List.set_cons_zero, List.set_cons_succ]
              refine Still.takeBy (i := 6) [26, 25, 10, 8, 7] (v := ?v7) (by kernel_rfl) (by kernel_rfl) rfl (by kernel_rfl) (by kernel_rfl) (by kernel_rfl) (fun _ _ _ h => h) (Or.inl ⟨by rfl, ?y7⟩) hHeld ?r7
              case y7 => (intro w' hSw; (try dsimp only at hSw); obtain ⟨hbx, q3, q4⟩ := hSw; have q0 := hbx.p; clear hbx; go_simp; try with_reducible rfl)
              simp only [Act.put, List.getElem_toArray, List.getElem_cons_zero, List.getElem_cons_succ, List.setIfInBounds_toArray, List.set_cons_zero, List.set_cons_succ]
              refine Still.takeBy (i := 7) [26, 25, 10, 8] (v := ?v8) (by kernel_rfl) (by kernel_rfl) rfl (by kernel_rfl) (by kernel_rfl) (by kernel_rfl) (fun _ _ _ h => h) (Or.inl ⟨by rfl, ?y8⟩) hHeld ?r8
              case y8 => (intro w' hSw; (try dsimp only at hSw); obtain ⟨hbx, q3, q4⟩ := hSw; have q0 := hbx.p; clear hbx; go_simp; try with_reducible rfl)
              simp only [Act.put, List.getElem_toArray, List.getElem_cons_zero, List.getElem_cons_succ, List.setIfInBounds_toArray, List.set_cons_zero, List.set_cons_succ]
              refine Still.all (rs := [8]) (by kernel_rfl) (by simp) (Still.one (i := 8) rfl rfl (fun K hK => ?_) (by simp))
              refine wp_call 32 _ _ rfl ent_within #[.int .i64 lk, .int .i64 0, .int .i64 ((S.parts.length : Int) - 1)] (by first | rfl | simp [Act.eval, Act.put, hwp]) ((within_any _ _ _ _).mono ?_)
              rintro e V ⟨rfl, rfl⟩
              refine ⟨_, rfl, hK _ _ (fun _ => hHeld) (fun hh => ?_)⟩
              clear hK K hh
              try simp only [Act.put, List.getElem_toArray, List.getElem_cons_zero, List.getElem_cons_succ, List.setIfInBounds_toArray, List.set_cons_zero, List.set_cons_succ]
              rw [hA]
              refine Still.takeBy (i := 9) [26, 25, 10] (v := ?v9) (by kernel_rfl) (by kernel_rfl) rfl (by kernel_rfl) (by kernel_rfl) (by kernel_rfl) (fun _ _ _ h => h) (Or.inl ⟨by rfl, ?y9⟩) hHeld ?r9
              case y9 => (intro w' hSw; (try dsimp only at hSw); obtain ⟨hbx, q3, q4⟩ := hSw; have q0 := hbx.p; clear hbx; go_simp; try with_reducible rfl)
              simp only [Act.put, List.getElem_toArray, List.getElem_cons_zero, List.getElem_cons_succ, List.setIfInBounds_toArray, List.set_cons_zero, List.set_cons_succ]
              refine Still.takeBy (i := 10) [26, 25] (v := ?v10) (by kernel_rfl) (by kernel_rfl) rfl (by kernel_rfl) (by kernel_rfl) (by kernel_rfl) (fun _ _ _ h => h) (Or.inl ⟨by rfl, ?y10⟩) hHeld ?r10
              case y10 => (intro w' hSw; (try dsimp only at hSw); obtain ⟨hbx, q3, q4⟩ := hSw; have q0 := hbx.p; clear hbx; go_simp; try with_reducible rfl)
              simp only [Act.put, List.getElem_toArray, List.getElem_cons_zero, List.getElem_cons_succ, List.setIfInBounds_toArray, List.set_cons_zero, List.set_cons_succ]
              refine Still.takeBy (i := 11) [26, 13, 12] (by kernel_rfl) (by kernel_rfl) rfl (by kernel_rfl) (by kernel_rfl) (by kernel_rfl) (fun _ _ _ h => h) (Or.inr ⟨by rfl, rfl⟩) hHeld ?r11
              simp only [Act.put, List.getElem_toArray, List.getElem_cons_zero, List.getElem_cons_succ, List.setIfInBounds_toArray, List.set_cons_zero, List.set_cons_succ]
              refine Still.takeBy (i := 12) [26, 13] (by kernel_rfl) (by kernel_rfl) rfl (by kernel_rfl) (by kernel_rfl) (by kernel_rfl) (fun _ _ _ h => h) (Or.inr ⟨by rfl, rfl⟩) hHeld ?r12
              simp only [Act.put, List.getElem_toArray, List.getElem_cons_zero, List.getElem_cons_succ, List.setIfInBounds_toArray, List.set_cons_zero, List.set_cons_succ]
              refine Still.takeBy (i := 13) [26] (by kernel_rfl) (by kernel_rfl) rfl (by kernel_rfl) (by kernel_rfl) (by kernel_rfl) (fun _ _ _ h => h) (Or.inr ⟨by rfl, rfl⟩) hHeld ?r13
              simp only [Act.put, List.getElem_toArray, List.getElem_cons_zero, List.getElem_cons_succ, List.setIfInBounds_toArray, List.set_cons_zero, List.set_cons_succ]
              refine Still.takeBy (i := 14) [26, 25, 24, 23, 18, 17] (by kernel_rfl) (by kernel_rfl) rfl (by kernel_rfl) (by kernel_rfl) (by kernel_rfl) (fun _ _ _ h => h) (Or.inr ⟨by rfl, rfl⟩) hHeld ?r14
              simp only [Act.put, List.getElem_toArray, List.getElem_cons_zero, List.getElem_cons_succ, List.setIfInBounds_toArray, List.set_cons_zero, List.set_cons_succ]
              refine Still.takeBy (i := 15) [26, 25, 24, 23, 18, 17, 16] (by kernel_rfl) (by kernel_rfl) rfl (by kernel_rfl) (by kernel_rfl) (by kernel_rfl) (fun _ _ _ h => h) (Or.inr ⟨by rfl, rfl⟩) hHeld ?r15
              simp only [Act.put, List.getElem_toArray, List.getElem_cons_zero, List.getElem_cons_succ, List.setIfInBounds_toArray, List.set_cons_zero, List.set_cons_succ]
              refine Still.takeBy (i := 16) [26, 25, 24, 23, 18, 17] (by kernel_rfl) (by kernel_rfl) rfl (by kernel_rfl) (by kernel_rfl) (by kernel_rfl) (fun _ _ _ h => h) (Or.inr ⟨by rfl, rfl⟩) hHeld ?r16
              simp only [Act.put, List.getElem_toArray, List.getElem_cons_zero, List.getElem_cons_succ, List.setIfInBounds_toArray, List.set_cons_zero, List.set_cons_succ]
              refine Still.takeBy (i := 17) [26, 25, 24, 23, 18] (by kernel_rfl) (by kernel_rfl) rfl (by kernel_rfl) (by kernel_rfl) (by kernel_rfl) (fun _ _ _ h => h) (Or.inr ⟨by rfl, rfl⟩) hHeld ?r17
              simp only [Act.put, List.getElem_toArray, List.getElem_cons_zero, List.getElem_cons_succ, List.setIfInBounds_toArray, List.set_cons_zero, List.set_cons_succ]
              refine Still.takeBy (i := 18) [26, 25, 24, 23] (by kernel_rfl) (by kernel_rfl) rfl (by kernel_rfl) (by kernel_rfl) (by kernel_rfl) (fun _ _ _ h => h) (Or.inr ⟨by rfl, rfl⟩) hHeld ?r18
              simp only [Act.put, List.getElem_toArray, List.getElem_cons_zero, List.getElem_cons_succ, List.setIfInBounds_toArray, List.set_cons_zero, List.set_cons_succ]
              refine Still.takeBy (i := 19) [26, 25, 24, 23, 22, 21] (by kernel_rfl) (by kernel_rfl) rfl (by kernel_rfl) (by kernel_rfl) (by kernel_rfl) (fun _ _ _ h => h) (Or.inr ⟨by rfl, rfl⟩) hHeld ?r19
              simp only [Act.put, List.getElem_toArray, List.getElem_cons_zero, List.getElem_cons_succ, List.setIfInBounds_toArray, List.set_cons_zero, List.set_cons_succ]
              refine Still.takeBy (i := 20) [26, 25, 24, 23, 22, 21] (by kernel_rfl) (by kernel_rfl) rfl (by kernel_rfl) (by kernel_rfl) (by kernel_rfl) (fun _ _ _ h => h) (Or.inr ⟨by rfl, rfl⟩) hHeld ?r20
              simp only [Act.put, List.getElem_toArray, List.getElem_cons_zero, List.getElem_cons_succ, List.setIfInBounds_toArray, List.set_cons_zero, List.set_cons_succ]
              refine Still.takeBy (i := 21) [26, 25, 24, 23, 22] (by kernel_rfl) (by kernel_rfl) rfl (by kernel_rfl) (by kernel_rfl) (by kernel_rfl) (fun _ _ _ h => h) (Or.inr ⟨by rfl, rfl⟩) hHeld ?r21
              simp only [Act.put, List.getElem_toArray, List.getElem_cons_zero, List.getElem_cons_succ, List.setIfInBounds_toArray, List.set_cons_zero, List.set_cons_succ]
              refine Still.takeBy (i := 22) [26, 25, 24, 23] (by kernel_rfl) (by kernel_rfl) rfl (by kernel_rfl) (by kernel_rfl) (by kernel_rfl) (fun _ _ _ h => h) (Or.inr ⟨by rfl, rfl⟩) hHeld ?r22
              simp only [Act.put, List.getElem_toArray, List.getElem_cons_zero, List.getElem_cons_succ, List.setIfInBounds_toArray, List.set_cons_zero, List.set_cons_succ]
              refine Still.takeBy (i := 23) [26, 25, 24] (by kernel_rfl) (by kernel_rfl) rfl (by kernel_rfl) (by kernel_rfl) (by kernel_rfl) (fun _ _ _ h => h) (Or.inr ⟨by rfl, rfl⟩) hHeld ?r23
              simp only [Act.put, List.getElem_toArray, List.getElem_cons_zero, List.getElem_cons_succ, List.setIfInBounds_toArray, List.set_cons_zero, List.set_cons_succ]
              refine Still.takeBy (i := 24) [26, 25] (by kernel_rfl) (by kernel_rfl) rfl (by kernel_rfl) (by kernel_rfl) (by kernel_rfl) (fun _ _ _ h => h) (Or.inr ⟨by rfl, rfl⟩) hHeld ?r24
              simp only [Act.put, List.getElem_toArray, List.getElem_cons_zero, List.getElem_cons_succ, List.setIfInBounds_toArray, List.set_cons_zero, List.set_cons_succ]
              refine Still.takeBy (i := 25) [26] (v := ?v25) (by kernel_rfl) (by kernel_rfl) rfl (by kernel_rfl) (by kernel_rfl) (by kernel_rfl) (fun _ _ _ h => h) (Or.inl ⟨by rfl, ?y25⟩) hHeld ?r25
              case y25 => (intro w' hSw; (try dsimp only at hSw); obtain ⟨hbx, q3, q4⟩ := hSw; have q0 := hbx.p; clear hbx; go_simp; try with_reducible rfl)
              simp only [Act.put, List.getElem_toArray, List.getElem_cons_zero, List.getElem_cons_succ, List.setIfInBounds_toArray, List.set_cons_zero, List.set_cons_succ]
              refine Still.takeBy (i := 26) [] (v := ?v26) (by kernel_rfl) (by kernel_rfl) rfl (by kernel_rfl) (by kernel_rfl) (by kernel_rfl) (fun _ _ _ h => h) (Or.inl ⟨by rfl, ?y26⟩) hHeld ?r26
              case y26 => (intro w' hSw; (try dsimp only at hSw); obtain ⟨hbx, q3, q4⟩ := hSw; have q0 := hbx.p; clear hbx; go_simp; try with_reducible rfl)
              simp only [Act.put, List.getElem_toArray, List.getElem_cons_zero, List.getElem_cons_succ, List.setIfInBounds_toArray, List.set_cons_zero, List.set_cons_succ]
              refine Still.takeBy (i := 27) [34, 33] (by kernel_rfl) (by kernel_rfl) rfl (by kernel_rfl) (by kernel_rfl) (by kernel_rfl) (fun _ _ _ h => h) (Or.inr ⟨by rfl, rfl⟩) hHeld ?r27
              simp only [Act.put, List.getElem_toArray, List.getElem_cons_zero, List.getElem_cons_succ, List.setIfInBounds_toArray, List.set_cons_zero, List.set_cons_succ]
              refine Still.takeBy (i := 28) [34, 33, 31, 30] (by kernel_rfl) (by kernel_rfl) rfl (by kernel_rfl) (by kernel_rfl) (by kernel_rfl) (fun _ _ _ h => h) (Or.inr ⟨by rfl, rfl⟩) hHeld ?r28
              simp only [Act.put, List.getElem_toArray, List.getElem_cons_zero, List.getElem_cons_succ, List.setIfInBounds_toArray, List.set_cons_zero, List.set_cons_succ]
              refine Still.takeBy (i := 29) [34, 33, 31, 30] (by kernel_rfl) (by kernel_rfl) rfl (by kernel_rfl) (by kernel_rfl) (by kernel_rfl) (fun _ _ _ h => h) (Or.inr ⟨by rfl, rfl⟩) hHeld ?r29
              simp only [Act.put, List.getElem_toArray, List.getElem_cons_zero, List.getElem_cons_succ, List.setIfInBounds_toArray, List.set_cons_zero, List.set_cons_succ]
              refine Still.takeBy (i := 30) [34, 33, 31] (by kernel_rfl) (by kernel_rfl) rfl (by kernel_rfl) (by kernel_rfl) (by kernel_rfl) (fun _ _ _ h => h) (Or.inr ⟨by rfl, rfl⟩) hHeld ?r30
              simp only [Act.put, List.getElem_toArray, List.getElem_cons_zero, List.getElem_cons_succ, List.setIfInBounds_toArray, List.set_cons_zero, List.set_cons_succ]
              refine Still.takeBy (i := 31) [34, 33] (by kernel_rfl) (by kernel_rfl) rfl (by kernel_rfl) (by kernel_rfl) (by kernel_rfl) (fun _ _ _ h => h) (Or.inr ⟨by rfl, rfl⟩) hHeld ?r31
              simp only [Act.put, List.getElem_toArray, List.getElem_cons_zero, List.getElem_cons_succ, List.setIfInBounds_toArray, List.set_cons_zero, List.set_cons_succ]
              refine Still.takeBy (i := 32) [34, 33] (by kernel_rfl) (by kernel_rfl) rfl (by kernel_rfl) (by kernel_rfl) (by kernel_rfl) (fun _ _ _ h => h) (Or.inr ⟨by rfl, rfl⟩) hHeld ?r32
              simp only [Act.put, List.getElem_toArray, List.getElem_cons_zero, List.getElem_cons_succ, List.setIfInBounds_toArray, List.set_cons_zero, List.set_cons_succ]
              refine Still.takeBy (i := 33) [34] (by kernel_rfl) (by kernel_rfl) rfl (by kernel_rfl) (by kernel_rfl) (by kernel_rfl) (fun _ _ _ h => h) (Or.inr ⟨by rfl, rfl⟩) hHeld ?r33
              simp only [Act.put, List.getElem_toArray, List.getElem_cons_zero, List.getElem_cons_succ, List.setIfInBounds_toArray, List.set_cons_zero, List.set_cons_succ]
              refine Still.takeBy (i := 34) [] (by kernel_rfl) (by kernel_rfl) rfl (by kernel_rfl) (by kernel_rfl) (by kernel_rfl) (fun _ _ _ h => h) (Or.inr ⟨by rfl, rfl⟩) hHeld ?r34
              simp only [Act.put, List.getElem_toArray, List.getElem_cons_zero, List.getElem_cons_succ, List.setIfInBounds_toArray, List.set_cons_zero, List.set_cons_succ]
              refine Still.all (rs := [35]) (by kernel_rfl) (by simp) (Still.one (i := 35) rfl rfl (fun K hK => ?_) (by simp))
              go_simp
              refine hK _ _ (fun h => absurd rfl h) (fun _ => ?_)
              clear hK K
              refine Still.over (by kernel_rfl) ?_ _
              clear hHeld
              have HV : Hid (RowKit.Below W0.heap.size W0 wr.drew) := Lib.hid (HT.out.trans (RowKit.Below.refl _ _).drew)
              go_wp2
              go_ret
              exact ⟨ret_bool HBD.out.symm, D0.out.trans (HV.out.mono D0.out.size)⟩
            | true =>
              rcases Nat.eq_zero_or_pos k with e0 | h0
              · subst e0
                cases hmy : mayB L lk u with
                | false =>
                  have HBD := Lib.hid (HBAD.out (HMA.out hmy))
                  clear HW HRI HMA HCD HSTP HBAD HST
                  simp only [Nat.add_zero] at x0
                  go_upto_region 12 with fail
                  refine region_still (S := fun w' => Box w' w.heap.size (.slice pa S.parts.length pc) (.slice ca S.chans.length cc) (.slice sa S.slots.length sc) ∧ w'.cell? ⟨w.heap.size + 1, 0, none⟩ = some (.slice la L.length lc) ∧ w'.cell? ⟨xb, xo, none⟩ = some (.int .i64 lk)) 35 (by kernel_rfl) ⟨HB.out.up (HT.out.trans (RowKit.Below.refl _ _).drew), y3, x0⟩ (fun hHeld => ?_)
                  refine Still.takeBy (i := 0) [26, 25, 10, 8, 3, 2] (v := ?v101) (by kernel_rfl) (by kernel_rfl) rfl (by kernel_rfl) (by kernel_rfl) (by kernel_rfl) (fun _ _ _ h => h) (Or.inl ⟨by rfl, ?y101⟩) hHeld ?r101
                  case y101 => (intro w' hSw; (try dsimp only at hSw); obtain ⟨hbx, q3, q4⟩ := hSw; have q0 := hbx.p; clear hbx; go_simp; try with_reducible rfl)
                  simp only [Act.put, List.getElem_toArray, List.getElem_cons_zero, List.getElem_cons_succ, List.setIfInBounds_toArray, List.set_cons_zero, List.set_cons_succ]
                  refine Still.takeBy (i := 1) [26, 25, 10, 8, 3, 2] (v := ?v102) (by kernel_rfl) (by kernel_rfl) rfl (by kernel_rfl) (by kernel_rfl) (by kernel_rfl) (fun _ _ _ h => h) (Or.inl ⟨by rfl, ?y102⟩) hHeld ?r102
                  case y102 => (intro w' hSw; (try dsimp only at hSw); obtain ⟨hbx, q3, q4⟩ := hSw; have q0 := hbx.p; clear hbx; go_simp; try with_reducible rfl)
                  simp only [Act.put, List.getElem_toArray, List.getElem_cons_zero, List.getElem_cons_succ, List.setIfInBounds_toArray, List.set_cons_zero, List.set_cons_succ]
                  refine Still.takeBy (i := 2) [26, 25, 10, 8, 3] (v := ?v103) (by kernel_rfl) (by kernel_rfl) rfl (by kernel_rfl) (by kernel_rfl) (by kernel_rfl) (fun _ _ _ h => h) (Or.inl ⟨by rfl, ?y103⟩) hHeld ?r103
                  case y103 => (intro w' hSw; (try dsimp only at hSw); obtain ⟨hbx, q3, q4⟩ := hSw; have q0 := hbx.p; clear hbx; go_simp; try with_reducible rfl)
                  simp only [Act.put, List.getElem_toArray, List.getElem_cons_zero, List.getElem_cons_succ, List.setIfInBounds_toArray, List.set_cons_zero, List.set_cons_succ]
                  refine Still.takeBy (i := 3) [26, 25, 10, 8] (v := ?v104) (by kernel_rfl) (by kernel_rfl) rfl (by kernel_rfl) (by kernel_rfl) (by kernel_rfl) (fun _ _ _ h => h) (Or.inl ⟨by rfl, ?y104⟩) hHeld ?r104
                  case y104 => (intro w' hSw; (try dsimp only at hSw); obtain ⟨hbx, q3, q4⟩ := hSw; have q0 := hbx.p; clear hbx; go_simp; try with_reducible rfl)
                  simp only [Act.put, List.getElem_toArray, List.getElem_cons_zero, List.getElem_cons_succ, List.setIfInBounds_toArray, List.set_cons_zero, List.set_cons_succ]
                  refine Still.takeBy (i := 4) [26, 25, 10, 8, 7, 6, 5] (v := ?v105) (by kernel_rfl) (by kernel_rfl) rfl (by kernel_rfl) (by kernel_rfl) (by kernel_rfl) (fun _ _ _ h => h) (Or.inl ⟨by rfl, ?y105⟩) hHeld ?r105
                  case y105 => (intro w' hSw; (try dsimp only at hSw); obtain ⟨hbx, q3, q4⟩ := hSw; have q0 := hbx.p; clear hbx; go_simp; try with_reducible rfl)
                  simp only [Act.put, List.getElem_toArray, List.getElem_cons_zero, List.getElem_cons_succ, List.setIfInBounds_toArray, List.set_cons_zero, List.set_cons_succ]
                  refine Still.takeBy (i := 5) [26, 25, 10, 8, 7, 6] (v := ?v106) (by kernel_rfl) (by kernel_rfl) rfl (by kernel_rfl) (by kernel_rfl) (by kernel_rfl) (fun _ _ _ h => h) (Or.inl ⟨by rfl, ?y106⟩) hHeld ?r106
                  case y106 => (intro w' hSw; (try dsimp only at hSw); obtain ⟨hbx, q3, q4⟩ := hSw; have q0 := hbx.p; clear hbx; go_simp; try with_reducible rfl)
                  simp only [Act.put, List.getElem_toArray, List.getElem_cons_zero, List.getElem_cons_succ, List.setIfInBounds_toArray, List.set_cons_zero, List.set_cons_succ]
                  refine Still.takeBy (i := 6) [26, 25, 10, 8, 7] (v := ?v107) (by kernel_rfl) (by kernel_rfl) rfl (by kernel_rfl) (by kernel_rfl) (by kernel_rfl) (fun _ _ _ h => h) (Or.inl ⟨by rfl, ?y107⟩) hHeld ?r107
                  case y107 => (intro w' hSw; (try dsimp only at hSw); obtain ⟨hbx, q3, q4⟩ := hSw; have q0 := hbx.p; clear hbx; go_simp; try with_reducible rfl)
                  simp only [Act.put, List.getElem_toArray, List.getElem_cons_zero, List.getElem_cons_succ, List.setIfInBounds_toArray, List.set_cons_zero, List.set_cons_succ]
                  refine Still.takeBy (i := 7) [26, 25, 10, 8] (v := ?v108) (by kernel_rfl) (by kernel_rfl) rfl (by kernel_rfl) (by kernel_rfl) (by kernel_rfl) (fun _ _ _ h => h) (Or.inl ⟨by rfl, ?y108⟩) hHeld ?r108
                  case y108 => (intro w' hSw; (try dsimp only at hSw); obtain ⟨hbx, q3, q4⟩ := hSw; have q0 := hbx.p; clear hbx; go_simp; try with_reducible rfl)
                  simp only [Act.put, List.getElem_toArray, List.getElem_cons_zero, List.getElem_cons_succ, List.setIfInBounds_toArray, List.set_cons_zero, List.set_cons_succ]
                  refine Still.all (rs := [8]) (by kernel_rfl) (by simp) (Still.one (i := 8) rfl rfl (fun K hK => ?_) (by simp))
                  refine wp_call 32 _ _ rfl ent_within #[.int .i64 lk, .int .i64 0, .int .i64 ((S.parts.length : Int) - 1)] (by first | rfl | simp [Act.eval, Act.put, hwp]) ((within_any _ _ _ _).mono ?_)
                  rintro e V ⟨rfl, rfl⟩
                  refine ⟨_, rfl, hK _ _ (fun _ => hHeld) (fun hh => ?_)⟩
                  clear hK K hh
                  try simp only [Act.put, List.getElem_toArray, List.getElem_cons_zero, List.getElem_cons_succ, List.setIfInBounds_toArray, List.set_cons_zero, List.set_cons_succ]
                  rw [hA]
                  refine Still.takeBy (i := 9) [26, 25, 10] (v := ?v109) (by kernel_rfl) (by kernel_rfl) rfl (by kernel_rfl) (by kernel_rfl) (by kernel_rfl) (fun _ _ _ h => h) (Or.inl ⟨by rfl, ?y109⟩) hHeld ?r109
                  case y109 => (intro w' hSw; (try dsimp only at hSw); obtain ⟨hbx, q3, q4⟩ := hSw; have q0 := hbx.p; clear hbx; go_simp; try with_reducible rfl)
                  simp only [Act.put, List.getElem_toArray, List.getElem_cons_zero, List.getElem_cons_succ, List.setIfInBounds_toArray, List.set_cons_zero, List.set_cons_succ]
                  refine Still.takeBy (i := 10) [26, 25] (v := ?v110) (by kernel_rfl) (by kernel_rfl) rfl (by kernel_rfl) (by kernel_rfl) (by kernel_rfl) (fun _ _ _ h => h) (Or.inl ⟨by rfl, ?y110⟩) hHeld ?r110
                  case y110 => (intro w' hSw; (try dsimp only at hSw); obtain ⟨hbx, q3, q4⟩ := hSw; have q0 := hbx.p; clear hbx; go_simp; try with_reducible rfl)
                  simp only [Act.put, List.getElem_toArray, List.getElem_cons_zero, List.getElem_cons_succ, List.setIfInBounds_toArray, List.set_cons_zero, List.set_cons_succ]
                  refine Still.takeBy (i := 11) [26, 13, 12] (v := ?v111) (by kernel_rfl) (by kernel_rfl) rfl (by kernel_rfl) (by kernel_rfl) (by kernel_rfl) (fun _ _ _ h => h) (Or.inl ⟨by rfl, ?y111⟩) hHeld ?r111
                  case y111 => (intro w' hSw; (try dsimp only at hSw); obtain ⟨hbx, q3, q4⟩ := hSw; have q0 := hbx.p; clear hbx; go_simp; try with_reducible rfl)
                  simp only [Act.put, List.getElem_toArray, List.getElem_cons_zero, List.getElem_cons_succ, List.setIfInBounds_toArray, List.set_cons_zero, List.set_cons_succ]
                  refine Still.takeBy (i := 12) [26, 13] (v := ?v112) (by kernel_rfl) (by kernel_rfl) rfl (by kernel_rfl) (by kernel_rfl) (by kernel_rfl) (fun _ _ _ h => h) (Or.inl ⟨by rfl, ?y112⟩) hHeld ?r112
                  case y112 => (intro w' hSw; (try dsimp only at hSw); obtain ⟨hbx, q3, q4⟩ := hSw; have q0 := hbx.p; clear hbx; go_simp; try with_reducible rfl)
                  simp only [Act.put, List.getElem_toArray, List.getElem_cons_zero, List.getElem_cons_succ, List.setIfInBounds_toArray, List.set_cons_zero, List.set_cons_succ]
                  refine Still.takeBy (i := 13) [26] (v := ?v113) (by kernel_rfl) (by kernel_rfl) rfl (by kernel_rfl) (by kernel_rfl) (by kernel_rfl) (fun _ _ _ h => h) (Or.inl ⟨by rfl, ?y113⟩) hHeld ?r113
                  case y113 => (intro w' hSw; (try dsimp only at hSw); obtain ⟨hbx, q3, q4⟩ := hSw; have q0 := hbx.p; clear hbx; go_simp; try with_reducible rfl)
                  simp only [Act.put, List.getElem_toArray, List.getElem_cons_zero, List.getElem_cons_succ, List.setIfInBounds_toArray, List.set_cons_zero, List.set_cons_succ]
                  refine Still.takeBy (i := 14) [26, 25, 24, 23, 18, 17] (by kernel_rfl) (by kernel_rfl) rfl (by kernel_rfl) (by kernel_rfl) (by kernel_rfl) (fun _ _ _ h => h) (Or.inr ⟨by rfl, rfl⟩) hHeld ?r114
                  simp only [Act.put, List.getElem_toArray, List.getElem_cons_zero, List.getElem_cons_succ, List.setIfInBounds_toArray, List.set_cons_zero, List.set_cons_succ]
                  refine Still.takeBy (i := 15) [26, 25, 24, 23, 18, 17, 16] (by kernel_rfl) (by kernel_rfl) rfl (by kernel_rfl) (by kernel_rfl) (by kernel_rfl) (fun _ _ _ h => h) (Or.inr ⟨by rfl, rfl⟩) hHeld ?r115
                  simp only [Act.put, List.getElem_toArray, List.getElem_cons_zero, List.getElem_cons_succ, List.setIfInBounds_toArray, List.set_cons_zero, List.set_cons_succ]
                  refine Still.takeBy (i := 16) [26, 25, 24, 23, 18, 17] (by kernel_rfl) (by kernel_rfl) rfl (by kernel_rfl) (by kernel_rfl) (by kernel_rfl) (fun _ _ _ h => h) (Or.inr ⟨by rfl, rfl⟩) hHeld ?r116
                  simp only [Act.put, List.getElem_toArray, List.getElem_cons_zero, List.getElem_cons_succ, List.setIfInBounds_toArray, List.set_cons_zero, List.set_cons_succ]
                  refine Still.takeBy (i := 17) [26, 25, 24, 23, 18] (by kernel_rfl) (by kernel_rfl) rfl (by kernel_rfl) (by kernel_rfl) (by kernel_rfl) (fun _ _ _ h => h) (Or.inr ⟨by rfl, rfl⟩) hHeld ?r117
                  simp only [Act.put, List.getElem_toArray, List.getElem_cons_zero, List.getElem_cons_succ, List.setIfInBounds_toArray, List.set_cons_zero, List.set_cons_succ]
                  refine Still.takeBy (i := 18) [26, 25, 24, 23] (by kernel_rfl) (by kernel_rfl) rfl (by kernel_rfl) (by kernel_rfl) (by kernel_rfl) (fun _ _ _ h => h) (Or.inr ⟨by rfl, rfl⟩) hHeld ?r118
                  simp only [Act.put, List.getElem_toArray, List.getElem_cons_zero, List.getElem_cons_succ, List.setIfInBounds_toArray, List.set_cons_zero, List.set_cons_succ]
                  refine Still.takeBy (i := 19) [26, 25, 24, 23, 22, 21] (by kernel_rfl) (by kernel_rfl) rfl (by kernel_rfl) (by kernel_rfl) (by kernel_rfl) (fun _ _ _ h => h) (Or.inr ⟨by rfl, rfl⟩) hHeld ?r119
                  simp only [Act.put, List.getElem_toArray, List.getElem_cons_zero, List.getElem_cons_succ, List.setIfInBounds_toArray, List.set_cons_zero, List.set_cons_succ]
                  refine Still.takeBy (i := 20) [26, 25, 24, 23, 22, 21] (by kernel_rfl) (by kernel_rfl) rfl (by kernel_rfl) (by kernel_rfl) (by kernel_rfl) (fun _ _ _ h => h) (Or.inr ⟨by rfl, rfl⟩) hHeld ?r120
                  simp only [Act.put, List.getElem_toArray, List.getElem_cons_zero, List.getElem_cons_succ, List.setIfInBounds_toArray, List.set_cons_zero, List.set_cons_succ]
                  refine Still.takeBy (i := 21) [26, 25, 24, 23, 22] (by kernel_rfl) (by kernel_rfl) rfl (by kernel_rfl) (by kernel_rfl) (by kernel_rfl) (fun _ _ _ h => h) (Or.inr ⟨by rfl, rfl⟩) hHeld ?r121
                  simp only [Act.put, List.getElem_toArray, List.getElem_cons_zero, List.getElem_cons_succ, List.setIfInBounds_toArray, List.set_cons_zero, List.set_cons_succ]
                  refine Still.takeBy (i := 22) [26, 25, 24, 23] (by kernel_rfl) (by kernel_rfl) rfl (by kernel_rfl) (by kernel_rfl) (by kernel_rfl) (fun _ _ _ h => h) (Or.inr ⟨by rfl, rfl⟩) hHeld ?r122
                  simp only [Act.put, List.getElem_toArray, List.getElem_cons_zero, List.getElem_cons_succ, List.setIfInBounds_toArray, List.set_cons_zero, List.set_cons_succ]
                  refine Still.takeBy (i := 23) [26, 25, 24] (by kernel_rfl) (by kernel_rfl) rfl (by kernel_rfl) (by kernel_rfl) (by kernel_rfl) (fun _ _ _ h => h) (Or.inr ⟨by rfl, rfl⟩) hHeld ?r123
                  simp only [Act.put, List.getElem_toArray, List.getElem_cons_zero, List.getElem_cons_succ, List.setIfInBounds_toArray, List.set_cons_zero, List.set_cons_succ]
                  refine Still.takeBy (i := 24) [26, 25] (v := ?v124) (by kernel_rfl) (by kernel_rfl) rfl (by kernel_rfl) (by kernel_rfl) (by kernel_rfl) (fun _ _ _ h => h) (Or.inl ⟨by rfl, ?y124⟩) hHeld ?r124
                  case y124 => (intro w' hSw; (try dsimp only at hSw); obtain ⟨hbx, q3, q4⟩ := hSw; have q0 := hbx.p; clear hbx; go_simp; try with_reducible rfl)
                  simp only [Act.put, List.getElem_toArray, List.getElem_cons_zero, List.getElem_cons_succ, List.setIfInBounds_toArray, List.set_cons_zero, List.set_cons_succ]
                  refine Still.takeBy (i := 25) [26] (v := ?v125) (by kernel_rfl) (by kernel_rfl) rfl (by kernel_rfl) (by kernel_rfl) (by kernel_rfl) (fun _ _ _ h => h) (Or.inl ⟨by rfl, ?y125⟩) hHeld ?r125
                  case y125 => (intro w' hSw; (try dsimp only at hSw); obtain ⟨hbx, q3, q4⟩ := hSw; have q0 := hbx.p; clear hbx; go_simp; try with_reducible rfl)
                  simp only [Act.put, List.getElem_toArray, List.getElem_cons_zero, List.getElem_cons_succ, List.setIfInBounds_toArray, List.set_cons_zero, List.set_cons_succ]
                  refine Still.takeBy (i := 26) [] (v := ?v126) (by kernel_rfl) (by kernel_rfl) rfl (by kernel_rfl) (by kernel_rfl) (by kernel_rfl) (fun _ _ _ h => h) (Or.inl ⟨by rfl, ?y126⟩) hHeld ?r126
                  case y126 => (intro w' hSw; (try dsimp only at hSw); obtain ⟨hbx, q3, q4⟩ := hSw; have q0 := hbx.p; clear hbx; go_simp; try with_reducible rfl)
                  simp only [Act.put, List.getElem_toArray, List.getElem_cons_zero, List.getElem_cons_succ, List.setIfInBounds_toArray, List.set_cons_zero, List.set_cons_succ]
                  refine Still.takeBy (i := 27) [34, 33] (v := ?v127) (by kernel_rfl) (by kernel_rfl) rfl (by kernel_rfl) (by kernel_rfl) (by kernel_rfl) (fun _ _ _ h => h) (Or.inl ⟨by rfl, ?y127⟩) hHeld ?r127
                  case y127 => (intro w' hSw; (try dsimp only at hSw); obtain ⟨hbx, q3, q4⟩ := hSw; have q0 := hbx.p; clear hbx; go_simp; try with_reducible rfl)
                  simp only [Act.put, List.getElem_toArray, List.getElem_cons_zero, List.getElem_cons_succ, List.setIfInBounds_toArray, List.set_cons_zero, List.set_cons_succ]
                  refine Still.takeBy (i := 28) [34, 33, 31, 30] (v := ?v128) (by kernel_rfl) (by kernel_rfl) rfl (by kernel_rfl) (by kernel_rfl) (by kernel_rfl) (fun _ _ _ h => h) (Or.inl ⟨by rfl, ?y128⟩) hHeld ?r128
                  case y128 => (intro w' hSw; (try dsimp only at hSw); obtain ⟨hbx, q3, q4⟩ := hSw; have q0 := hbx.p; clear hbx; go_simp; try with_reducible rfl)
                  simp only [Act.put, List.getElem_toArray, List.getElem_cons_zero, List.getElem_cons_succ, List.setIfInBounds_toArray, List.set_cons_zero, List.set_cons_succ]
                  refine Still.takeBy (i := 29) [34, 33, 31, 30] (v := ?v129) (by kernel_rfl) (by kernel_rfl) rfl (by kernel_rfl) (by kernel_rfl) (by kernel_rfl) (fun _ _ _ h => h) (Or.inl ⟨by rfl, ?y129⟩) hHeld ?r129
                  case y129 => (intro w' hSw; (try dsimp only at hSw); obtain ⟨hbx, q3, q4⟩ := hSw; have q0 := hbx.p; clear hbx; go_simp; try with_reducible rfl)
                  simp only [Act.put, List.getElem_toArray, List.getElem_cons_zero, List.getElem_cons_succ, List.setIfInBounds_toArray, List.set_cons_zero, List.set_cons_succ]
                  refine Still.takeBy (i := 30) [34, 33, 31] (v := ?v130) (by kernel_rfl) (by kernel_rfl) rfl (by kernel_rfl) (by kernel_rfl) (by kernel_rfl) (fun _ _ _ h => h) (Or.inl ⟨by rfl, ?y130⟩) hHeld ?r130
                  case y130 => (intro w' hSw; (try dsimp only at hSw); obtain ⟨hbx, q3, q4⟩ := hSw; have q0 := hbx.p; clear hbx; go_simp; try with_reducible rfl)
                  simp only [Act.put, List.getElem_toArray, List.getElem_cons_zero, List.getElem_cons_succ, List.setIfInBounds_toArray, List.set_cons_zero, List.set_cons_succ]
                  refine Still.takeBy (i := 31) [34, 33] (v := ?v131) (by kernel_rfl) (by kernel_rfl) rfl (by kernel_rfl) (by kernel_rfl) (by kernel_rfl) (fun _ _ _ h => h) (Or.inl ⟨by rfl, ?y131⟩) hHeld ?r131
                  case y131 => (intro w' hSw; (try dsimp only at hSw); obtain ⟨hbx, q3, q4⟩ := hSw; have q0 := hbx.p; clear hbx; go_simp; try with_reducible rfl)
                  simp only [Act.put, List.getElem_toArray, List.getElem_cons_zero, List.getElem_cons_succ, List.setIfInBounds_toArray, List.set_cons_zero, List.set_cons_succ]
                  refine Still.takeBy (i := 32) [34, 33] (v := ?v132) (by kernel_rfl) (by kernel_rfl) rfl (by kernel_rfl) (by kernel_rfl) (by kernel_rfl) (fun _ _ _ h => h) (Or.inl ⟨by rfl, ?y132⟩) hHeld ?r132
                  case y132 => (intro w' hSw; (try dsimp only at hSw); obtain ⟨hbx, q3, q4⟩ := hSw; have q0 := hbx.p; clear hbx; go_simp; try with_reducible rfl)
                  simp only [Act.put, List.getElem_toArray, List.getElem_cons_zero, List.getElem_cons_succ, List.setIfInBounds_toArray, List.set_cons_zero, List.set_cons_succ]
                  refine Still.all (rs := [33]) (by kernel_rfl) (by simp) (Still.oneG (i := 33) rfl (by rfl) (fun K hK => ?_) (by simp))
                  refine wp_call 47 _ _ rfl ent_may #[.agg #[.slice la L.length lc], .int .i64 lk, .int .i64 (u : Int)] (by first | rfl | simp [Act.eval, Act.put, Edg.v]) ((may_any L hLl lk u _ _ (HL.out.up (HT.out.trans (RowKit.Below.refl _ _).drew))).mono ?_)
                  rintro e V1 ⟨rfl, b5⟩
                  have HV : Hid (RowKit.Below W0.heap.size W0 V1) := Lib.hid ((HT.out.trans (RowKit.Below.refl _ _).drew).trans (b5.mono HT.out.size))
                  refine ⟨_, rfl, hK _ _ (fun _ => ⟨HB.out.up HV.out, bcl b5 (by show w.heap.size + 1 < wr.heap.size; omega) y3, bcl b5 (by show xb < wr.heap.size; omega) x0⟩) (fun hh => ?_)⟩
                  have hHeld := hh (by decide)
                  clear hK K hh b5
                  try simp only [Act.put, List.getElem_toArray, List.getElem_cons_zero, List.getElem_cons_succ, List.setIfInBounds_toArray, List.set_cons_zero, List.set_cons_succ]
                  rw [hmy]
                  refine Still.takeBy (i := 34) [] (v := ?v133) (by kernel_rfl) (by kernel_rfl) rfl (by kernel_rfl) (by kernel_rfl) (by kernel_rfl) (fun _ _ _ h => h) (Or.inl ⟨by rfl, ?y133⟩) hHeld ?r133
                  case y133 => (intro w' hSw; (try dsimp only at hSw); obtain ⟨hbx, q3, q4⟩ := hSw; have q0 := hbx.p; clear hbx; go_simp; try with_reducible rfl)
                  simp only [Act.put, List.getElem_toArray, List.getElem_cons_zero, List.getElem_cons_succ, List.setIfInBounds_toArray, List.set_cons_zero, List.set_cons_succ]
                  refine Still.all (rs := [35]) (by kernel_rfl) (by simp) (Still.one (i := 35) rfl rfl (fun K hK => ?_) (by simp))
                  go_simp
                  refine hK _ _ (fun h => absurd rfl h) (fun _ => ?_)
                  clear hK K
                  refine Still.over (by kernel_rfl) ?_ _
                  clear hHeld
                  go_wp2
                  go_ret
                  exact ⟨ret_bool HBD.out.symm, D0.out.trans (HV.out.mono D0.out.size)⟩
                | true =>
                  have HS2 := Lib.hid (fun h => HSTP.out hA (fun h => by omega) hmy h)
                  have HBC := Lib.hid (fun a h1 h2 h3 => HBAD.out (HCD.out a hA h1 h2 h3))
                  clear HW HRI HMA HCD HSTP
                  simp only [Nat.add_zero] at x0
                  go_upto_region 12 with fail
                  refine region_still (S := fun w' => Box w' w.heap.size (.slice pa S.parts.length pc) (.slice ca S.chans.length cc) (.slice sa S.slots.length sc) ∧ w'.cell? ⟨w.heap.size + 1, 0, none⟩ = some (.slice la L.length lc) ∧ w'.cell? ⟨xb, xo, none⟩ = some (.int .i64 lk)) 35 (by kernel_rfl) ⟨HB.out.up (HT.out.trans (RowKit.Below.refl _ _).drew), y3, x0⟩ (fun hHeld => ?_)
                  refine Still.takeBy (i := 0) [26, 25, 10, 8, 3, 2] (v := ?v201) (by kernel_rfl) (by kernel_rfl) rfl (by kernel_rfl) (by kernel_rfl) (by kernel_rfl) (fun _ _ _ h => h) (Or.inl ⟨by rfl, ?y201⟩) hHeld ?r201
                  case y201 => (intro w' hSw; (try dsimp only at hSw); obtain ⟨hbx, q3, q4⟩ := hSw; have q0 := hbx.p; clear hbx; go_simp; try with_reducible rfl)
                  simp only [Act.put, List.getElem_toArray, List.getElem_cons_zero, List.getElem_cons_succ, List.setIfInBounds_toArray, List.set_cons_zero, List.set_cons_succ]
                  refine Still.takeBy (i := 1) [26, 25, 10, 8, 3, 2] (v := ?v202) (by kernel_rfl) (by kernel_rfl) rfl (by kernel_rfl) (by kernel_rfl) (by kernel_rfl) (fun _ _ _ h => h) (Or.inl ⟨by rfl, ?y202⟩) hHeld ?r202
                  case y202 => (intro w' hSw; (try dsimp only at hSw); obtain ⟨hbx, q3, q4⟩ := hSw; have q0 := hbx.p; clear hbx; go_simp; try with_reducible rfl)
                  simp only [Act.put, List.getElem_toArray, List.getElem_cons_zero, List.getElem_cons_succ, List.setIfInBounds_toArray, List.set_cons_zero, List.set_cons_succ]
                  refine Still.takeBy (i := 2) [26, 25, 10, 8, 3] (v := ?v203) (by kernel_rfl) (by kernel_rfl) rfl (by kernel_rfl) (by kernel_rfl) (by kernel_rfl) (fun _ _ _ h => h) (Or.inl ⟨by rfl, ?y203⟩) hHeld ?r203
                  case y203 => (intro w' hSw; (try dsimp only at hSw); obtain ⟨hbx, q3, q4⟩ := hSw; have q0 := hbx.p; clear hbx; go_simp; try with_reducible rfl)
                  simp only [Act.put, List.getElem_toArray, List.getElem_cons_zero, List.getElem_cons_succ, List.setIfInBounds_toArray, List.set_cons_zero, List.set_cons_succ]
                  refine Still.takeBy (i := 3) [26, 25, 10, 8] (v := ?v204) (by kernel_rfl) (by kernel_rfl) rfl (by kernel_rfl) (by kernel_rfl) (by kernel_rfl) (fun _ _ _ h => h) (Or.inl ⟨by rfl, ?y204⟩) hHeld ?r204
                  case y204 => (intro w' hSw; (try dsimp only at hSw); obtain ⟨hbx, q3, q4⟩ := hSw; have q0 := hbx.p; clear hbx; go_simp; try with_reducible rfl)
                  simp only [Act.put, List.getElem_toArray, List.getElem_cons_zero, List.getElem_cons_succ, List.setIfInBounds_toArray, List.set_cons_zero, List.set_cons_succ]
                  refine Still.takeBy (i := 4) [26, 25, 10, 8, 7, 6, 5] (v := ?v205) (by kernel_rfl) (by kernel_rfl) rfl (by kernel_rfl) (by kernel_rfl) (by kernel_rfl) (fun _ _ _ h => h) (Or.inl ⟨by rfl, ?y205⟩) hHeld ?r205
                  case y205 => (intro w' hSw; (try dsimp only at hSw); obtain ⟨hbx, q3, q4⟩ := hSw; have q0 := hbx.p; clear hbx; go_simp; try with_reducible rfl)
                  simp only [Act.put, List.getElem_toArray, List.getElem_cons_zero, List.getElem_cons_succ, List.setIfInBounds_toArray, List.set_cons_zero, List.set_cons_succ]
                  refine Still.takeBy (i := 5) [26, 25, 10, 8, 7, 6] (v := ?v206) (by kernel_rfl) (by kernel_rfl) rfl (by kernel_rfl) (by kernel_rfl) (by kernel_rfl) (fun _ _ _ h => h) (Or.inl ⟨by rfl, ?y206⟩) hHeld ?r206
                  case y206 => (intro w' hSw; (try dsimp only at hSw); obtain ⟨hbx, q3, q4⟩ := hSw; have q0 := hbx.p; clear hbx; go_simp; try with_reducible rfl)
                  simp only [Act.put, List.getElem_toArray, List.getElem_cons_zero, List.getElem_cons_succ, List.setIfInBounds_toArray, List.set_cons_zero, List.set_cons_succ]
                  refine Still.takeBy (i := 6) [26, 25, 10, 8, 7] (v := ?v207) (by kernel_rfl) (by kernel_rfl) rfl (by kernel_rfl) (by kernel_rfl) (by kernel_rfl) (fun _ _ _ h => h) (Or.inl ⟨by rfl, ?y207⟩) hHeld ?r207
                  case y207 => (intro w' hSw; (try dsimp only at hSw); obtain ⟨hbx, q3, q4⟩ := hSw; have q0 := hbx.p; clear hbx; go_simp; try with_reducible rfl)
                  simp only [Act.put, List.getElem_toArray, List.getElem_cons_zero, List.getElem_cons_succ, List.setIfInBounds_toArray, List.set_cons_zero, List.set_cons_succ]
                  refine Still.takeBy (i := 7) [26, 25, 10, 8] (v := ?v208) (by kernel_rfl) (by kernel_rfl) rfl (by kernel_rfl) (by kernel_rfl) (by kernel_rfl) (fun _ _ _ h => h) (Or.inl ⟨by rfl, ?y208⟩) hHeld ?r208
                  case y208 => (intro w' hSw; (try dsimp only at hSw); obtain ⟨hbx, q3, q4⟩ := hSw; have q0 := hbx.p; clear hbx; go_simp; try with_reducible rfl)
                  simp only [Act.put, List.getElem_toArray, List.getElem_cons_zero, List.getElem_cons_succ, List.setIfInBounds_toArray, List.set_cons_zero, List.set_cons_succ]
                  refine Still.all (rs := [8]) (by kernel_rfl) (by simp) (Still.one (i := 8) rfl rfl (fun K hK => ?_) (by simp))
                  refine wp_call 32 _ _ rfl ent_within #[.int .i64 lk, .int .i64 0, .int .i64 ((S.parts.length : Int) - 1)] (by first | rfl | simp [Act.eval, Act.put, hwp]) ((within_any _ _ _ _).mono ?_)
                  rintro e V ⟨rfl, rfl⟩
                  refine ⟨_, rfl, hK _ _ (fun _ => hHeld) (fun hh => ?_)⟩
                  clear hK K hh
                  try simp only [Act.put, List.getElem_toArray, List.getElem_cons_zero, List.getElem_cons_succ, List.setIfInBounds_toArray, List.set_cons_zero, List.set_cons_succ]
                  rw [hA]
                  refine Still.takeBy (i := 9) [26, 25, 10] (v := ?v209) (by kernel_rfl) (by kernel_rfl) rfl (by kernel_rfl) (by kernel_rfl) (by kernel_rfl) (fun _ _ _ h => h) (Or.inl ⟨by rfl, ?y209⟩) hHeld ?r209
                  case y209 => (intro w' hSw; (try dsimp only at hSw); obtain ⟨hbx, q3, q4⟩ := hSw; have q0 := hbx.p; clear hbx; go_simp; try with_reducible rfl)
                  simp only [Act.put, List.getElem_toArray, List.getElem_cons_zero, List.getElem_cons_succ, List.setIfInBounds_toArray, List.set_cons_zero, List.set_cons_succ]
                  refine Still.takeBy (i := 10) [26, 25] (v := ?v210) (by kernel_rfl) (by kernel_rfl) rfl (by kernel_rfl) (by kernel_rfl) (by kernel_rfl) (fun _ _ _ h => h) (Or.inl ⟨by rfl, ?y210⟩) hHeld ?r210
                  case y210 => (intro w' hSw; (try dsimp only at hSw); obtain ⟨hbx, q3, q4⟩ := hSw; have q0 := hbx.p; clear hbx; go_simp; try with_reducible rfl)
                  simp only [Act.put, List.getElem_toArray, List.getElem_cons_zero, List.getElem_cons_succ, List.setIfInBounds_toArray, List.set_cons_zero, List.set_cons_succ]
                  refine Still.takeBy (i := 11) [26, 13, 12] (v := ?v211) (by kernel_rfl) (by kernel_rfl) rfl (by kernel_rfl) (by kernel_rfl) (by kernel_rfl) (fun _ _ _ h => h) (Or.inl ⟨by rfl, ?y211⟩) hHeld ?r211
                  case y211 => (intro w' hSw; (try dsimp only at hSw); obtain ⟨hbx, q3, q4⟩ := hSw; have q0 := hbx.p; clear hbx; go_simp; try with_reducible rfl)
                  simp only [Act.put, List.getElem_toArray, List.getElem_cons_zero, List.getElem_cons_succ, List.setIfInBounds_toArray, List.set_cons_zero, List.set_cons_succ]
                  refine Still.takeBy (i := 12) [26, 13] (v := ?v212) (by kernel_rfl) (by kernel_rfl) rfl (by kernel_rfl) (by kernel_rfl) (by kernel_rfl) (fun _ _ _ h => h) (Or.inl ⟨by rfl, ?y212⟩) hHeld ?r212
                  case y212 => (intro w' hSw; (try dsimp only at hSw); obtain ⟨hbx, q3, q4⟩ := hSw; have q0 := hbx.p; clear hbx; go_simp; try with_reducible rfl)
                  simp only [Act.put, List.getElem_toArray, List.getElem_cons_zero, List.getElem_cons_succ, List.setIfInBounds_toArray, List.set_cons_zero, List.set_cons_succ]
                  refine Still.takeBy (i := 13) [26] (v := ?v213) (by kernel_rfl) (by kernel_rfl) rfl (by kernel_rfl) (by kernel_rfl) (by kernel_rfl) (fun _ _ _ h => h) (Or.inl ⟨by rfl, ?y213⟩) hHeld ?r213
                  case y213 => (intro w' hSw; (try dsimp only at hSw); obtain ⟨hbx, q3, q4⟩ := hSw; have q0 := hbx.p; clear hbx; go_simp; try with_reducible rfl)
                  simp only [Act.put, List.getElem_toArray, List.getElem_cons_zero, List.getElem_cons_succ, List.setIfInBounds_toArray, List.set_cons_zero, List.set_cons_succ]
                  refine Still.takeBy (i := 14) [26, 25, 24, 23, 18, 17] (by kernel_rfl) (by kernel_rfl) rfl (by kernel_rfl) (by kernel_rfl) (by kernel_rfl) (fun _ _ _ h => h) (Or.inr ⟨by rfl, rfl⟩) hHeld ?r214
                  simp only [Act.put, List.getElem_toArray, List.getElem_cons_zero, List.getElem_cons_succ, List.setIfInBounds_toArray, List.set_cons_zero, List.set_cons_succ]
                  refine Still.takeBy (i := 15) [26, 25, 24, 23, 18, 17, 16] (by kernel_rfl) (by kernel_rfl) rfl (by kernel_rfl) (by kernel_rfl) (by kernel_rfl) (fun _ _ _ h => h) (Or.inr ⟨by rfl, rfl⟩) hHeld ?r215
                  simp only [Act.put, List.getElem_toArray, List.getElem_cons_zero, List.getElem_cons_succ, List.setIfInBounds_toArray, List.set_cons_zero, List.set_cons_succ]
                  refine Still.takeBy (i := 16) [26, 25, 24, 23, 18, 17] (by kernel_rfl) (by kernel_rfl) rfl (by kernel_rfl) (by kernel_rfl) (by kernel_rfl) (fun _ _ _ h => h) (Or.inr ⟨by rfl, rfl⟩) hHeld ?r216
                  simp only [Act.put, List.getElem_toArray, List.getElem_cons_zero, List.getElem_cons_succ, List.setIfInBounds_toArray, List.set_cons_zero, List.set_cons_succ]
                  refine Still.takeBy (i := 17) [26, 25, 24, 23, 18] (by kernel_rfl) (by kernel_rfl) rfl (by kernel_rfl) (by kernel_rfl) (by kernel_rfl) (fun _ _ _ h => h) (Or.inr ⟨by rfl, rfl⟩) hHeld ?r217
                  simp only [Act.put, List.getElem_toArray, List.getElem_cons_zero, List.getElem_cons_succ, List.setIfInBounds_toArray, List.set_cons_zero, List.set_cons_succ]
                  refine Still.takeBy (i := 18) [26, 25, 24, 23] (by kernel_rfl) (by kernel_rfl) rfl (by kernel_rfl) (by kernel_rfl) (by kernel_rfl) (fun _ _ _ h => h) (Or.inr ⟨by rfl, rfl⟩) hHeld ?r218
                  simp only [Act.put, List.getElem_toArray, List.getElem_cons_zero, List.getElem_cons_succ, List.setIfInBounds_toArray, List.set_cons_zero, List.set_cons_succ]
                  refine Still.takeBy (i := 19) [26, 25, 24, 23, 22, 21] (by kernel_rfl) (by kernel_rfl) rfl (by kernel_rfl) (by kernel_rfl) (by kernel_rfl) (fun _ _ _ h => h) (Or.inr ⟨by rfl, rfl⟩) hHeld ?r219
                  simp only [Act.put, List.getElem_toArray, List.getElem_cons_zero, List.getElem_cons_succ, List.setIfInBounds_toArray, List.set_cons_zero, List.set_cons_succ]
                  refine Still.takeBy (i := 20) [26, 25, 24, 23, 22, 21] (by kernel_rfl) (by kernel_rfl) rfl (by kernel_rfl) (by kernel_rfl) (by kernel_rfl) (fun _ _ _ h => h) (Or.inr ⟨by rfl, rfl⟩) hHeld ?r220
                  simp only [Act.put, List.getElem_toArray, List.getElem_cons_zero, List.getElem_cons_succ, List.setIfInBounds_toArray, List.set_cons_zero, List.set_cons_succ]
                  refine Still.takeBy (i := 21) [26, 25, 24, 23, 22] (by kernel_rfl) (by kernel_rfl) rfl (by kernel_rfl) (by kernel_rfl) (by kernel_rfl) (fun _ _ _ h => h) (Or.inr ⟨by rfl, rfl⟩) hHeld ?r221
                  simp only [Act.put, List.getElem_toArray, List.getElem_cons_zero, List.getElem_cons_succ, List.setIfInBounds_toArray, List.set_cons_zero, List.set_cons_succ]
                  refine Still.takeBy (i := 22) [26, 25, 24, 23] (by kernel_rfl) (by kernel_rfl) rfl (by kernel_rfl) (by kernel_rfl) (by kernel_rfl) (fun _ _ _ h => h) (Or.inr ⟨by rfl, rfl⟩) hHeld ?r222
                  simp only [Act.put, List.getElem_toArray, List.getElem_cons_zero, List.getElem_cons_succ, List.setIfInBounds_toArray, List.set_cons_zero, List.set_cons_succ]
                  refine Still.takeBy (i := 23) [26, 25, 24] (by kernel_rfl) (by kernel_rfl) rfl (by kernel_rfl) (by kernel_rfl) (by kernel_rfl) (fun _ _ _ h => h) (Or.inr ⟨by rfl, rfl⟩) hHeld ?r223
                  simp only [Act.put, List.getElem_toArray, List.getElem_cons_zero, List.getElem_cons_succ, List.setIfInBounds_toArray, List.set_cons_zero, List.set_cons_succ]
                  refine Still.takeBy (i := 24) [26, 25] (v := ?v224) (by kernel_rfl) (by kernel_rfl) rfl (by kernel_rfl) (by kernel_rfl) (by kernel_rfl) (fun _ _ _ h => h) (Or.inl ⟨by rfl, ?y224⟩) hHeld ?r224
                  case y224 => (intro w' hSw; (try dsimp only at hSw); obtain ⟨hbx, q3, q4⟩ := hSw; have q0 := hbx.p; clear hbx; go_simp; try with_reducible rfl)
                  simp only [Act.put, List.getElem_toArray, List.getElem_cons_zero, List.getElem_cons_succ, List.setIfInBounds_toArray, List.set_cons_zero, List.set_cons_succ]
                  refine Still.takeBy (i := 25) [26] (v := ?v225) (by kernel_rfl) (by kernel_rfl) rfl (by kernel_rfl) (by kernel_rfl) (by kernel_rfl) (fun _ _ _ h => h) (Or.inl ⟨by rfl, ?y225⟩) hHeld ?r225
                  case y225 => (intro w' hSw; (try dsimp only at hSw); obtain ⟨hbx, q3, q4⟩ := hSw; have q0 := hbx.p; clear hbx; go_simp; try with_reducible rfl)
                  simp only [Act.put, List.getElem_toArray, List.getElem_cons_zero, List.getElem_cons_succ, List.setIfInBounds_toArray, List.set_cons_zero, List.set_cons_succ]
                  refine Still.takeBy (i := 26) [] (v := ?v226) (by kernel_rfl) (by kernel_rfl) rfl (by kernel_rfl) (by kernel_rfl) (by kernel_rfl) (fun _ _ _ h => h) (Or.inl ⟨by rfl, ?y226⟩) hHeld ?r226
                  case y226 => (intro w' hSw; (try dsimp only at hSw); obtain ⟨hbx, q3, q4⟩ := hSw; have q0 := hbx.p; clear hbx; go_simp; try with_reducible rfl)
                  simp only [Act.put, List.getElem_toArray, List.getElem_cons_zero, List.getElem_cons_succ, List.setIfInBounds_toArray, List.set_cons_zero, List.set_cons_succ]
                  refine Still.takeBy (i := 27) [34, 33] (v := ?v227) (by kernel_rfl) (by kernel_rfl) rfl (by kernel_rfl) (by kernel_rfl) (by kernel_rfl) (fun _ _ _ h => h) (Or.inl ⟨by rfl, ?y227⟩) hHeld ?r227
                  case y227 => (intro w' hSw; (try dsimp only at hSw); obtain ⟨hbx, q3, q4⟩ := hSw; have q0 := hbx.p; clear hbx; go_simp; try with_reducible rfl)
                  simp only [Act.put, List.getElem_toArray, List.getElem_cons_zero, List.getElem_cons_succ, List.setIfInBounds_toArray, List.set_cons_zero, List.set_cons_succ]
                  refine Still.takeBy (i := 28) [34, 33, 31, 30] (v := ?v228) (by kernel_rfl) (by kernel_rfl) rfl (by kernel_rfl) (by kernel_rfl) (by kernel_rfl) (fun _ _ _ h => h) (Or.inl ⟨by rfl, ?y228⟩) hHeld ?r228
                  case y228 => (intro w' hSw; (try dsimp only at hSw); obtain ⟨hbx, q3, q4⟩ := hSw; have q0 := hbx.p; clear hbx; go_simp; try with_reducible rfl)
                  simp only [Act.put, List.getElem_toArray, List.getElem_cons_zero, List.getElem_cons_succ, List.setIfInBounds_toArray, List.set_cons_zero, List.set_cons_succ]
                  refine Still.takeBy (i := 29) [34, 33, 31, 30] (v := ?v229) (by kernel_rfl) (by kernel_rfl) rfl (by kernel_rfl) (by kernel_rfl) (by kernel_rfl) (fun _ _ _ h => h) (Or.inl ⟨by rfl, ?y229⟩) hHeld ?r229
                  case y229 => (intro w' hSw; (try dsimp only at hSw); obtain ⟨hbx, q3, q4⟩ := hSw; have q0 := hbx.p; clear hbx; go_simp; try with_reducible rfl)
                  simp only [Act.put, List.getElem_toArray, List.getElem_cons_zero, List.getElem_cons_succ, List.setIfInBounds_toArray, List.set_cons_zero, List.set_cons_succ]
                  refine Still.takeBy (i := 30) [34, 33, 31] (v := ?v230) (by kernel_rfl) (by kernel_rfl) rfl (by kernel_rfl) (by kernel_rfl) (by kernel_rfl) (fun _ _ _ h => h) (Or.inl ⟨by rfl, ?y230⟩) hHeld ?r230
                  case y230 => (intro w' hSw; (try dsimp only at hSw); obtain ⟨hbx, q3, q4⟩ := hSw; have q0 := hbx.p; clear hbx; go_simp; try with_reducible rfl)
                  simp only [Act.put, List.getElem_toArray, List.getElem_cons_zero, List.getElem_cons_succ, List.setIfInBounds_toArray, List.set_cons_zero, List.set_cons_succ]
                  refine Still.takeBy (i := 31) [34, 33] (v := ?v231) (by kernel_rfl) (by kernel_rfl) rfl (by kernel_rfl) (by kernel_rfl) (by kernel_rfl) (fun _ _ _ h => h) (Or.inl ⟨by rfl, ?y231⟩) hHeld ?r231
                  case y231 => (intro w' hSw; (try dsimp only at hSw); obtain ⟨hbx, q3, q4⟩ := hSw; have q0 := hbx.p; clear hbx; go_simp; try with_reducible rfl)
                  simp only [Act.put, List.getElem_toArray, List.getElem_cons_zero, List.getElem_cons_succ, List.setIfInBounds_toArray, List.set_cons_zero, List.set_cons_succ]
                  refine Still.takeBy (i := 32) [34, 33] (v := ?v232) (by kernel_rfl) (by kernel_rfl) rfl (by kernel_rfl) (by kernel_rfl) (by kernel_rfl) (fun _ _ _ h => h) (Or.inl ⟨by rfl, ?y232⟩) hHeld ?r232
                  case y232 => (intro w' hSw; (try dsimp only at hSw); obtain ⟨hbx, q3, q4⟩ := hSw; have q0 := hbx.p; clear hbx; go_simp; try with_reducible rfl)
                  simp only [Act.put, List.getElem_toArray, List.getElem_cons_zero, List.getElem_cons_succ, List.setIfInBounds_toArray, List.set_cons_zero, List.set_cons_succ]
                  refine Still.all (rs := [33]) (by kernel_rfl) (by simp) (Still.oneG (i := 33) rfl (by rfl) (fun K hK => ?_) (by simp))
                  refine wp_call 47 _ _ rfl ent_may #[.agg #[.slice la L.length lc], .int .i64 lk, .int .i64 (u : Int)] (by first | rfl | simp [Act.eval, Act.put, Edg.v]) ((may_any L hLl lk u _ _ (HL.out.up (HT.out.trans (RowKit.Below.refl _ _).drew))).mono ?_)
                  rintro e V1 ⟨rfl, b5⟩
                  have HV : Hid (RowKit.Below W0.heap.size W0 V1) := Lib.hid ((HT.out.trans (RowKit.Below.refl _ _).drew).trans (b5.mono HT.out.size))
                  refine ⟨_, rfl, hK _ _ (fun _ => ⟨HB.out.up HV.out, bcl b5 (by show w.heap.size + 1 < wr.heap.size; omega) y3, bcl b5 (by show xb < wr.heap.size; omega) x0⟩) (fun hh => ?_)⟩
                  have hHeld := hh (by decide)
                  have HB5 := Lib.hid b5
                  clear hK K hh b5
                  try simp only [Act.put, List.getElem_toArray, List.getElem_cons_zero, List.getElem_cons_succ, List.setIfInBounds_toArray, List.set_cons_zero, List.set_cons_succ]
                  rw [hmy]
                  refine Still.takeBy (i := 34) [] (v := ?v233) (by kernel_rfl) (by kernel_rfl) rfl (by kernel_rfl) (by kernel_rfl) (by kernel_rfl) (fun _ _ _ h => h) (Or.inl ⟨by rfl, ?y233⟩) hHeld ?r233
                  case y233 => (intro w' hSw; (try dsimp only at hSw); obtain ⟨hbx, q3, q4⟩ := hSw; have q0 := hbx.p; clear hbx; go_simp; try with_reducible rfl)
                  simp only [Act.put, List.getElem_toArray, List.getElem_cons_zero, List.getElem_cons_succ, List.setIfInBounds_toArray, List.set_cons_zero, List.set_cons_succ]
                  refine Still.all (rs := [35]) (by kernel_rfl) (by simp) (Still.one (i := 35) rfl rfl (fun K hK => ?_) (by simp))
                  go_simp
                  refine hK _ _ (fun h => absurd rfl h) (fun _ => ?_)
                  clear hK K
                  refine Still.over (by kernel_rfl) ?_ _
                  clear hHeld
                  have HVI0 := HB5
                  clear HB5
                  obtain ⟨wi, hwi0⟩ : ∃ wi, wi = V1 := ⟨_, rfl⟩
                  subst hwi0
                  have HVI : Hid (RowKit.Below wi.heap.size wi wi) := Lib.hid (RowKit.Below.refl _ _)
                  have x0 := bcl HVI0.out (by show xb < wr.heap.size; omega) x0
                  have hxb : xb < wi.heap.size := by have h := HVI0.out.size; have h2 : wr.heap.size ≤ wi.heap.size := h; omega
                  have HXS : Hid (Sl wi 1 (.slice (some ⟨xb, xo, none⟩) l.length xc) l.length (ints l)) := Lib.hid (HXS.out _ (HO.out.trans ((RowKit.Below.refl _ _).drew.trans (HVI0.out.mono HO.out.size))))
                  skip
                  go_wp2
                  go_loopw [10] (fun i wr => ∃ a : Nat, i = .int .i64 a ∧ a ≤ S.parts.length ∧ Hid (∀ b : Nat, b < a → leadsB S b lk = true → inB l b = true) ∧ Hid (RowKit.Below W0.heap.size W0 wr) ∧ Hid (RowKit.Below wi.heap.size wi wr)) (fun i _ => S.parts.length - (intOf i).toNat)
                  case atStart => exact ⟨0, rfl, Nat.zero_le _, Lib.hid (fun b h => by omega), HV, HVI⟩
                  case round =>
                    clear HV
                    obtain ⟨a, rfl, ha, HQ, HT, HI⟩ := hrel
                    have hws := HT.out.size
                    have hwi := HI.out.size
                    have x0 := bcl HI.out hxb x0
                    have k0 := (HB.out.up HT.out).p
                    by_cases hal : a < S.parts.length
                    · have hai : (a : Int) < S.parts.length := by omega
                      cases hle : leadsB S a lk with
                      | false =>
                        have HQ2 : Hid (∀ b : Nat, b < a + 1 → leadsB S b lk = true → inB l b = true) := Lib.hid (fun b hb hl => by
                          by_cases e : b = a
                          · subst e; rw [hle] at hl; cases hl
                          · exact HQ.out b (by omega) hl)
                        go_upto_region 17 with fail
                        refine region_still (S := fun w' => Box w' w.heap.size (.slice pa S.parts.length pc) (.slice ca S.chans.length cc) (.slice sa S.slots.length sc) ∧ w'.cell? ⟨xb, xo, none⟩ = some (.int .i64 lk)) 12 (by kernel_rfl) ⟨HB.out.up (HT.out.trans (RowKit.Below.refl _ _).drew), x0⟩ (fun hHeld => ?_)
                        refine Still.takeBy (i := 0) [7, 6] (v := ?v301) (by kernel_rfl) (by kernel_rfl) rfl (by kernel_rfl) (by kernel_rfl) (by kernel_rfl) (fun _ _ _ h => h) (Or.inl ⟨by rfl, ?y301⟩) hHeld ?r301
                        case y301 => (intro w' hSw; (try dsimp only at hSw); obtain ⟨hbx, q4⟩ := hSw; have q0 := hbx.p; have q1 := hbx.c; have q2 := hbx.s; clear hbx; go_simp; try with_reducible rfl)
                        simp only [Act.put, List.getElem_toArray, List.getElem_cons_zero, List.getElem_cons_succ, List.setIfInBounds_toArray, List.set_cons_zero, List.set_cons_succ]
                        refine Still.takeBy (i := 1) [7, 6] (v := ?v302) (by kernel_rfl) (by kernel_rfl) rfl (by kernel_rfl) (by kernel_rfl) (by kernel_rfl) (fun _ _ _ h => h) (Or.inl ⟨by rfl, ?y302⟩) hHeld ?r302
                        case y302 => (intro w' hSw; (try dsimp only at hSw); obtain ⟨hbx, q4⟩ := hSw; have q0 := hbx.p; have q1 := hbx.c; have q2 := hbx.s; clear hbx; go_simp; try with_reducible rfl)
                        simp only [Act.put, List.getElem_toArray, List.getElem_cons_zero, List.getElem_cons_succ, List.setIfInBounds_toArray, List.set_cons_zero, List.set_cons_succ]
                        refine Still.takeBy (i := 2) [7, 6, 5, 4] (v := ?v303) (by kernel_rfl) (by kernel_rfl) rfl (by kernel_rfl) (by kernel_rfl) (by kernel_rfl) (fun _ _ _ h => h) (Or.inl ⟨by rfl, ?y303⟩) hHeld ?r303
                        case y303 => (intro w' hSw; (try dsimp only at hSw); obtain ⟨hbx, q4⟩ := hSw; have q0 := hbx.p; have q1 := hbx.c; have q2 := hbx.s; clear hbx; go_simp; try with_reducible rfl)
                        simp only [Act.put, List.getElem_toArray, List.getElem_cons_zero, List.getElem_cons_succ, List.setIfInBounds_toArray, List.set_cons_zero, List.set_cons_succ]
                        refine Still.takeBy (i := 3) [7, 6, 5, 4] (v := ?v304) (by kernel_rfl) (by kernel_rfl) rfl (by kernel_rfl) (by kernel_rfl) (by kernel_rfl) (fun _ _ _ h => h) (Or.inl ⟨by rfl, ?y304⟩) hHeld ?r304
                        case y304 => (intro w' hSw; (try dsimp only at hSw); obtain ⟨hbx, q4⟩ := hSw; have q0 := hbx.p; have q1 := hbx.c; have q2 := hbx.s; clear hbx; go_simp; try with_reducible rfl)
                        simp only [Act.put, List.getElem_toArray, List.getElem_cons_zero, List.getElem_cons_succ, List.setIfInBounds_toArray, List.set_cons_zero, List.set_cons_succ]
                        refine Still.takeBy (i := 4) [7, 6, 5] (v := ?v305) (by kernel_rfl) (by kernel_rfl) rfl (by kernel_rfl) (by kernel_rfl) (by kernel_rfl) (fun _ _ _ h => h) (Or.inl ⟨by rfl, ?y305⟩) hHeld ?r305
                        case y305 => (intro w' hSw; (try dsimp only at hSw); obtain ⟨hbx, q4⟩ := hSw; have q0 := hbx.p; have q1 := hbx.c; have q2 := hbx.s; clear hbx; go_simp; try with_reducible rfl)
                        simp only [Act.put, List.getElem_toArray, List.getElem_cons_zero, List.getElem_cons_succ, List.setIfInBounds_toArray, List.set_cons_zero, List.set_cons_succ]
                        refine Still.takeBy (i := 5) [7, 6] (v := ?v306) (by kernel_rfl) (by kernel_rfl) rfl (by kernel_rfl) (by kernel_rfl) (by kernel_rfl) (fun _ _ _ h => h) (Or.inl ⟨by rfl, ?y306⟩) hHeld ?r306
                        case y306 => (intro w' hSw; (try dsimp only at hSw); obtain ⟨hbx, q4⟩ := hSw; have q0 := hbx.p; have q1 := hbx.c; have q2 := hbx.s; clear hbx; go_simp; try with_reducible rfl)
                        simp only [Act.put, List.getElem_toArray, List.getElem_cons_zero, List.getElem_cons_succ, List.setIfInBounds_toArray, List.set_cons_zero, List.set_cons_succ]
                        refine Still.all (rs := [6]) (by kernel_rfl) (by simp) (Still.one (i := 6) rfl rfl (fun K hK => ?_) (by simp))
                        refine wp_call 35 _ _ rfl ent_leads #[.agg #[.slice pa S.parts.length pc, .slice ca S.chans.length cc, .slice sa S.slots.length sc], .int .i64 (a : Int), .int .i64 lk] (by first | rfl | simp [Act.eval, Act.put, Edg.v]) ((leads_any S hcl a lk _ _ _ _ (HS.out.up (HT.out.trans (RowKit.Below.refl _ _).drew))).mono ?_)
                        rintro e V1 ⟨rfl, b5⟩
                        have HV : Hid (RowKit.Below W0.heap.size W0 V1) := Lib.hid ((HT.out.trans (RowKit.Below.refl _ _).drew).trans (b5.mono HT.out.size))
                        refine ⟨_, rfl, hK _ _ (fun _ => ⟨HB.out.up HV.out, bcl b5 (by show xb < wr.heap.size; omega) x0⟩) (fun hh => ?_)⟩
                        have hHeld := hh (by decide)
                        have HB5 := Lib.hid b5
                        clear hK K hh b5
                        try simp only [Act.put, List.getElem_toArray, List.getElem_cons_zero, List.getElem_cons_succ, List.setIfInBounds_toArray, List.set_cons_zero, List.set_cons_succ]
                        rw [hle]
                        refine Still.takeBy (i := 7) [] (v := ?v307) (by kernel_rfl) (by kernel_rfl) rfl (by kernel_rfl) (by kernel_rfl) (by kernel_rfl) (fun _ _ _ h => h) (Or.inl ⟨by rfl, ?y307⟩) hHeld ?r307
                        case y307 => (intro w' hSw; (try dsimp only at hSw); obtain ⟨hbx, q4⟩ := hSw; have q0 := hbx.p; have q1 := hbx.c; have q2 := hbx.s; clear hbx; go_simp; try with_reducible rfl)
                        simp only [Act.put, List.getElem_toArray, List.getElem_cons_zero, List.getElem_cons_succ, List.setIfInBounds_toArray, List.set_cons_zero, List.set_cons_succ]
                        refine Still.takeBy (i := 8) [11, 10] (by kernel_rfl) (by kernel_rfl) rfl (by kernel_rfl) (by kernel_rfl) (by kernel_rfl) (fun _ _ _ h => h) (Or.inr ⟨by rfl, rfl⟩) hHeld ?r308
                        simp only [Act.put, List.getElem_toArray, List.getElem_cons_zero, List.getElem_cons_succ, List.setIfInBounds_toArray, List.set_cons_zero, List.set_cons_succ]
                        refine Still.takeBy (i := 9) [11, 10] (by kernel_rfl) (by kernel_rfl) rfl (by kernel_rfl) (by kernel_rfl) (by kernel_rfl) (fun _ _ _ h => h) (Or.inr ⟨by rfl, rfl⟩) hHeld ?r309
                        simp only [Act.put, List.getElem_toArray, List.getElem_cons_zero, List.getElem_cons_succ, List.setIfInBounds_toArray, List.set_cons_zero, List.set_cons_succ]
                        refine Still.takeBy (i := 10) [11] (by kernel_rfl) (by kernel_rfl) rfl (by kernel_rfl) (by kernel_rfl) (by kernel_rfl) (fun _ _ _ h => h) (Or.inr ⟨by rfl, rfl⟩) hHeld ?r310
                        simp only [Act.put, List.getElem_toArray, List.getElem_cons_zero, List.getElem_cons_succ, List.setIfInBounds_toArray, List.set_cons_zero, List.set_cons_succ]
                        refine Still.takeBy (i := 11) [] (by kernel_rfl) (by kernel_rfl) rfl (by kernel_rfl) (by kernel_rfl) (by kernel_rfl) (fun _ _ _ h => h) (Or.inr ⟨by rfl, rfl⟩) hHeld ?r311
                        simp only [Act.put, List.getElem_toArray, List.getElem_cons_zero, List.getElem_cons_succ, List.setIfInBounds_toArray, List.set_cons_zero, List.set_cons_succ]
                        refine Still.all (rs := [12]) (by kernel_rfl) (by simp) (Still.one (i := 12) rfl rfl (fun K hK => ?_) (by simp))
                        go_simp
                        refine hK _ _ (fun h => absurd rfl h) (fun _ => ?_)
                        clear hK K
                        refine Still.over (by kernel_rfl) ?_ _
                        clear hHeld
                        go_wp2
                        go_roundw
                        case rel => exact ⟨a + 1, by go_num, by omega, HQ2, HV, Lib.hid (HI.out.trans ((RowKit.Below.refl _ _).drew.trans (HB5.out.mono HI.out.size)))⟩
                        case measure => simp [intOf]; omega
                      | true =>
                        cases hin : inB l a with
                        | true =>
                          have HQ2 : Hid (∀ b : Nat, b < a + 1 → leadsB S b lk = true → inB l b = true) := Lib.hid (fun b hb hl => by
                            by_cases e : b = a
                            · subst e; exact hin
                            · exact HQ.out b (by omega) hl)
                          go_upto_region 17 with fail
                          refine region_still (S := fun w' => Box w' w.heap.size (.slice pa S.parts.length pc) (.slice ca S.chans.length cc) (.slice sa S.slots.length sc) ∧ w'.cell? ⟨xb, xo, none⟩ = some (.int .i64 lk)) 12 (by kernel_rfl) ⟨HB.out.up (HT.out.trans (RowKit.Below.refl _ _).drew), x0⟩ (fun hHeld => ?_)
                          refine Still.takeBy (i := 0) [7, 6] (v := ?v331) (by kernel_rfl) (by kernel_rfl) rfl (by kernel_rfl) (by kernel_rfl) (by kernel_rfl) (fun _ _ _ h => h) (Or.inl ⟨by rfl, ?y331⟩) hHeld ?r331
                          case y331 => (intro w' hSw; (try dsimp only at hSw); obtain ⟨hbx, q4⟩ := hSw; have q0 := hbx.p; have q1 := hbx.c; have q2 := hbx.s; clear hbx; go_simp; try with_reducible rfl)
                          simp only [Act.put, List.getElem_toArray, List.getElem_cons_zero, List.getElem_cons_succ, List.setIfInBounds_toArray, List.set_cons_zero, List.set_cons_succ]
                          refine Still.takeBy (i := 1) [7, 6] (v := ?v332) (by kernel_rfl) (by kernel_rfl) rfl (by kernel_rfl) (by kernel_rfl) (by kernel_rfl) (fun _ _ _ h => h) (Or.inl ⟨by rfl, ?y332⟩) hHeld ?r332
                          case y332 => (intro w' hSw; (try dsimp only at hSw); obtain ⟨hbx, q4⟩ := hSw; have q0 := hbx.p; have q1 := hbx.c; have q2 := hbx.s; clear hbx; go_simp; try with_reducible rfl)
                          simp only [Act.put, List.getElem_toArray, List.getElem_cons_zero, List.getElem_cons_succ, List.setIfInBounds_toArray, List.set_cons_zero, List.set_cons_succ]
                          refine Still.takeBy (i := 2) [7, 6, 5, 4] (v := ?v333) (by kernel_rfl) (by kernel_rfl) rfl (by kernel_rfl) (by kernel_rfl) (by kernel_rfl) (fun _ _ _ h => h) (Or.inl ⟨by rfl, ?y333⟩) hHeld ?r333
                          case y333 => (intro w' hSw; (try dsimp only at hSw); obtain ⟨hbx, q4⟩ := hSw; have q0 := hbx.p; have q1 := hbx.c; have q2 := hbx.s; clear hbx; go_simp; try with_reducible rfl)
                          simp only [Act.put, List.getElem_toArray, List.getElem_cons_zero, List.getElem_cons_succ, List.setIfInBounds_toArray, List.set_cons_zero, List.set_cons_succ]
                          refine Still.takeBy (i := 3) [7, 6, 5, 4] (v := ?v334) (by kernel_rfl) (by kernel_rfl) rfl (by kernel_rfl) (by kernel_rfl) (by kernel_rfl) (fun _ _ _ h => h) (Or.inl ⟨by rfl, ?y334⟩) hHeld ?r334
                          case y334 => (intro w' hSw; (try dsimp only at hSw); obtain ⟨hbx, q4⟩ := hSw; have q0 := hbx.p; have q1 := hbx.c; have q2 := hbx.s; clear hbx; go_simp; try with_reducible rfl)
                          simp only [Act.put, List.getElem_toArray, List.getElem_cons_zero, List.getElem_cons_succ, List.setIfInBounds_toArray, List.set_cons_zero, List.set_cons_succ]
                          refine Still.takeBy (i := 4) [7, 6, 5] (v := ?v335) (by kernel_rfl) (by kernel_rfl) rfl (by kernel_rfl) (by kernel_rfl) (by kernel_rfl) (fun _ _ _ h => h) (Or.inl ⟨by rfl, ?y335⟩) hHeld ?r335
                          case y335 => (intro w' hSw; (try dsimp only at hSw); obtain ⟨hbx, q4⟩ := hSw; have q0 := hbx.p; have q1 := hbx.c; have q2 := hbx.s; clear hbx; go_simp; try with_reducible rfl)
                          simp only [Act.put, List.getElem_toArray, List.getElem_cons_zero, List.getElem_cons_succ, List.setIfInBounds_toArray, List.set_cons_zero, List.set_cons_succ]
                          refine Still.takeBy (i := 5) [7, 6] (v := ?v336) (by kernel_rfl) (by kernel_rfl) rfl (by kernel_rfl) (by kernel_rfl) (by kernel_rfl) (fun _ _ _ h => h) (Or.inl ⟨by rfl, ?y336⟩) hHeld ?r336
                          case y336 => (intro w' hSw; (try dsimp only at hSw); obtain ⟨hbx, q4⟩ := hSw; have q0 := hbx.p; have q1 := hbx.c; have q2 := hbx.s; clear hbx; go_simp; try with_reducible rfl)
                          simp only [Act.put, List.getElem_toArray, List.getElem_cons_zero, List.getElem_cons_succ, List.setIfInBounds_toArray, List.set_cons_zero, List.set_cons_succ]
                          refine Still.all (rs := [6]) (by kernel_rfl) (by simp) (Still.one (i := 6) rfl rfl (fun K hK => ?_) (by simp))
                          refine wp_call 35 _ _ rfl ent_leads #[.agg #[.slice pa S.parts.length pc, .slice ca S.chans.length cc, .slice sa S.slots.length sc], .int .i64 (a : Int), .int .i64 lk] (by first | rfl | simp [Act.eval, Act.put, Edg.v]) ((leads_any S hcl a lk _ _ _ _ (HS.out.up (HT.out.trans (RowKit.Below.refl _ _).drew))).mono ?_)
                          rintro e V1 ⟨rfl, b5⟩
                          have HV : Hid (RowKit.Below W0.heap.size W0 V1) := Lib.hid ((HT.out.trans (RowKit.Below.refl _ _).drew).trans (b5.mono HT.out.size))
                          refine ⟨_, rfl, hK _ _ (fun _ => ⟨HB.out.up HV.out, bcl b5 (by show xb < wr.heap.size; omega) x0⟩) (fun hh => ?_)⟩
                          have hHeld := hh (by decide)
                          have HB5 := Lib.hid b5
                          clear hK K hh b5
                          try simp only [Act.put, List.getElem_toArray, List.getElem_cons_zero, List.getElem_cons_succ, List.setIfInBounds_toArray, List.set_cons_zero, List.set_cons_succ]
                          rw [hle]
                          refine Still.takeBy (i := 7) [] (v := ?v337) (by kernel_rfl) (by kernel_rfl) rfl (by kernel_rfl) (by kernel_rfl) (by kernel_rfl) (fun _ _ _ h => h) (Or.inl ⟨by rfl, ?y337⟩) hHeld ?r337
                          case y337 => (intro w' hSw; (try dsimp only at hSw); obtain ⟨hbx, q4⟩ := hSw; have q0 := hbx.p; have q1 := hbx.c; have q2 := hbx.s; clear hbx; go_simp; try with_reducible rfl)
                          simp only [Act.put, List.getElem_toArray, List.getElem_cons_zero, List.getElem_cons_succ, List.setIfInBounds_toArray, List.set_cons_zero, List.set_cons_succ]
                          refine Still.takeBy (i := 8) [11, 10] (v := ?v338) (by kernel_rfl) (by kernel_rfl) rfl (by kernel_rfl) (by kernel_rfl) (by kernel_rfl) (fun _ _ _ h => h) (Or.inl ⟨by rfl, ?y338⟩) hHeld ?r338
                          case y338 => (intro w' hSw; (try dsimp only at hSw); obtain ⟨hbx, q4⟩ := hSw; have q0 := hbx.p; have q1 := hbx.c; have q2 := hbx.s; clear hbx; go_simp; try with_reducible rfl)
                          simp only [Act.put, List.getElem_toArray, List.getElem_cons_zero, List.getElem_cons_succ, List.setIfInBounds_toArray, List.set_cons_zero, List.set_cons_succ]
                          refine Still.takeBy (i := 9) [11, 10] (v := ?v339) (by kernel_rfl) (by kernel_rfl) rfl (by kernel_rfl) (by kernel_rfl) (by kernel_rfl) (fun _ _ _ h => h) (Or.inl ⟨by rfl, ?y339⟩) hHeld ?r339
                          case y339 => (intro w' hSw; (try dsimp only at hSw); obtain ⟨hbx, q4⟩ := hSw; have q0 := hbx.p; have q1 := hbx.c; have q2 := hbx.s; clear hbx; go_simp; try with_reducible rfl)
                          simp only [Act.put, List.getElem_toArray, List.getElem_cons_zero, List.getElem_cons_succ, List.setIfInBounds_toArray, List.set_cons_zero, List.set_cons_succ]
                          refine Still.all (rs := [10]) (by kernel_rfl) (by simp) (Still.oneG (i := 10) rfl (by rfl) (fun K hK => ?_) (by simp))
                          refine wp_call 55 _ _ rfl ent_in #[.slice (some ⟨xb, xo, none⟩) l.length xc, .int .i64 (a : Int)] (by first | rfl | simp [Act.eval, Act.put, Edg.v]) ((refIn_any l a _ _ (HXS.out.up (HI.out.trans ((RowKit.Below.refl _ _).drew.trans (HB5.out.mono HI.out.size)))) hll).mono ?_)
                          rintro e V2 ⟨rfl, hW⟩
                          have hW2 := hW.symm
                          subst hW2
                          clear hW
                          refine ⟨_, rfl, hK _ _ (fun _ => hHeld) (fun hh => ?_)⟩
                          clear hK K hh
                          try simp only [Act.put, List.getElem_toArray, List.getElem_cons_zero, List.getElem_cons_succ, List.setIfInBounds_toArray, List.set_cons_zero, List.set_cons_succ]
                          rw [hin]
                          refine Still.takeBy (i := 11) [] (v := ?v340) (by kernel_rfl) (by kernel_rfl) rfl (by kernel_rfl) (by kernel_rfl) (by kernel_rfl) (fun _ _ _ h => h) (Or.inl ⟨by rfl, ?y340⟩) hHeld ?r340
                          case y340 => (intro w' hSw; (try dsimp only at hSw); obtain ⟨hbx, q4⟩ := hSw; have q0 := hbx.p; have q1 := hbx.c; have q2 := hbx.s; clear hbx; go_simp; try with_reducible rfl)
                          simp only [Act.put, List.getElem_toArray, List.getElem_cons_zero, List.getElem_cons_succ, List.setIfInBounds_toArray, List.set_cons_zero, List.set_cons_succ]
                          refine Still.all (rs := [12]) (by kernel_rfl) (by simp) (Still.one (i := 12) rfl rfl (fun K hK => ?_) (by simp))
                          go_simp
                          refine hK _ _ (fun h => absurd rfl h) (fun _ => ?_)
                          clear hK K
                          refine Still.over (by kernel_rfl) ?_ _
                          clear hHeld
                          go_wp2
                          go_roundw
                          case rel => exact ⟨a + 1, by go_num, by omega, HQ2, HV, Lib.hid (HI.out.trans ((RowKit.Below.refl _ _).drew.trans (HB5.out.mono HI.out.size)))⟩
                          case measure => simp [intOf]; omega
                        | false =>
                          have HBD := Lib.hid (HBC.out a hal hle hin)
                          go_upto_region 17 with fail
                          refine region_still (S := fun w' => Box w' w.heap.size (.slice pa S.parts.length pc) (.slice ca S.chans.length cc) (.slice sa S.slots.length sc) ∧ w'.cell? ⟨xb, xo, none⟩ = some (.int .i64 lk)) 12 (by kernel_rfl) ⟨HB.out.up (HT.out.trans (RowKit.Below.refl _ _).drew), x0⟩ (fun hHeld => ?_)
                          refine Still.takeBy (i := 0) [7, 6] (v := ?v361) (by kernel_rfl) (by kernel_rfl) rfl (by kernel_rfl) (by kernel_rfl) (by kernel_rfl) (fun _ _ _ h => h) (Or.inl ⟨by rfl, ?y361⟩) hHeld ?r361
                          case y361 => (intro w' hSw; (try dsimp only at hSw); obtain ⟨hbx, q4⟩ := hSw; have q0 := hbx.p; have q1 := hbx.c; have q2 := hbx.s; clear hbx; go_simp; try with_reducible rfl)
                          simp only [Act.put, List.getElem_toArray, List.getElem_cons_zero, List.getElem_cons_succ, List.setIfInBounds_toArray, List.set_cons_zero, List.set_cons_succ]
                          refine Still.takeBy (i := 1) [7, 6] (v := ?v362) (by kernel_rfl) (by kernel_rfl) rfl (by kernel_rfl) (by kernel_rfl) (by kernel_rfl) (fun _ _ _ h => h) (Or.inl ⟨by rfl, ?y362⟩) hHeld ?r362
                          case y362 => (intro w' hSw; (try dsimp only at hSw); obtain ⟨hbx, q4⟩ := hSw; have q0 := hbx.p; have q1 := hbx.c; have q2 := hbx.s; clear hbx; go_simp; try with_reducible rfl)
                          simp only [Act.put, List.getElem_toArray, List.getElem_cons_zero, List.getElem_cons_succ, List.setIfInBounds_toArray, List.set_cons_zero, List.set_cons_succ]
                          refine Still.takeBy (i := 2) [7, 6, 5, 4] (v := ?v363) (by kernel_rfl) (by kernel_rfl) rfl (by kernel_rfl) (by kernel_rfl) (by kernel_rfl) (fun _ _ _ h => h) (Or.inl ⟨by rfl, ?y363⟩) hHeld ?r363
                          case y363 => (intro w' hSw; (try dsimp only at hSw); obtain ⟨hbx, q4⟩ := hSw; have q0 := hbx.p; have q1 := hbx.c; have q2 := hbx.s; clear hbx; go_simp; try with_reducible rfl)
                          simp only [Act.put, List.getElem_toArray, List.getElem_cons_zero, List.getElem_cons_succ, List.setIfInBounds_toArray, List.set_cons_zero, List.set_cons_succ]
                          refine Still.takeBy (i := 3) [7, 6, 5, 4] (v := ?v364) (by kernel_rfl) (by kernel_rfl) rfl (by kernel_rfl) (by kernel_rfl) (by kernel_rfl) (fun _ _ _ h => h) (Or.inl ⟨by rfl, ?y364⟩) hHeld ?r364
                          case y364 => (intro w' hSw; (try dsimp only at hSw); obtain ⟨hbx, q4⟩ := hSw; have q0 := hbx.p; have q1 := hbx.c; have q2 := hbx.s; clear hbx; go_simp; try with_reducible rfl)
                          simp only [Act.put, List.getElem_toArray, List.getElem_cons_zero, List.getElem_cons_succ, List.setIfInBounds_toArray, List.set_cons_zero, List.set_cons_succ]
                          refine Still.takeBy (i := 4) [7, 6, 5] (v := ?v365) (by kernel_rfl) (by kernel_rfl) rfl (by kernel_rfl) (by kernel_rfl) (by kernel_rfl) (fun _ _ _ h => h) (Or.inl ⟨by rfl, ?y365⟩) hHeld ?r365
                          case y365 => (intro w' hSw; (try dsimp only at hSw); obtain ⟨hbx, q4⟩ := hSw; have q0 := hbx.p; have q1 := hbx.c; have q2 := hbx.s; clear hbx; go_simp; try with_reducible rfl)
                          simp only [Act.put, List.getElem_toArray, List.getElem_cons_zero, List.getElem_cons_succ, List.setIfInBounds_toArray, List.set_cons_zero, List.set_cons_succ]
                          refine Still.takeBy (i := 5) [7, 6] (v := ?v366) (by kernel_rfl) (by kernel_rfl) rfl (by kernel_rfl) (by kernel_rfl) (by kernel_rfl) (fun _ _ _ h => h) (Or.inl ⟨by rfl, ?y366⟩) hHeld ?r366
                          case y366 => (intro w' hSw; (try dsimp only at hSw); obtain ⟨hbx, q4⟩ := hSw; have q0 := hbx.p; have q1 := hbx.c; have q2 := hbx.s; clear hbx; go_simp; try with_reducible rfl)
                          simp only [Act.put, List.getElem_toArray, List.getElem_cons_zero, List.getElem_cons_succ, List.setIfInBounds_toArray, List.set_cons_zero, List.set_cons_succ]
                          refine Still.all (rs := [6]) (by kernel_rfl) (by simp) (Still.one (i := 6) rfl rfl (fun K hK => ?_) (by simp))
                          refine wp_call 35 _ _ rfl ent_leads #[.agg #[.slice pa S.parts.length pc, .slice ca S.chans.length cc, .slice sa S.slots.length sc], .int .i64 (a : Int), .int .i64 lk] (by first | rfl | simp [Act.eval, Act.put, Edg.v]) ((leads_any S hcl a lk _ _ _ _ (HS.out.up (HT.out.trans (RowKit.Below.refl _ _).drew))).mono ?_)
                          rintro e V1 ⟨rfl, b5⟩
                          have HV : Hid (RowKit.Below W0.heap.size W0 V1) := Lib.hid ((HT.out.trans (RowKit.Below.refl _ _).drew).trans (b5.mono HT.out.size))
                          refine ⟨_, rfl, hK _ _ (fun _ => ⟨HB.out.up HV.out, bcl b5 (by show xb < wr.heap.size; omega) x0⟩) (fun hh => ?_)⟩
                          have hHeld := hh (by decide)
                          have HB5 := Lib.hid b5
                          clear hK K hh b5
                          try simp only [Act.put, List.getElem_toArray, List.getElem_cons_zero, List.getElem_cons_succ, List.setIfInBounds_toArray, List.set_cons_zero, List.set_cons_succ]
                          rw [hle]
                          refine Still.takeBy (i := 7) [] (v := ?v367) (by kernel_rfl) (by kernel_rfl) rfl (by kernel_rfl) (by kernel_rfl) (by kernel_rfl) (fun _ _ _ h => h) (Or.inl ⟨by rfl, ?y367⟩) hHeld ?r367
                          case y367 => (intro w' hSw; (try dsimp only at hSw); obtain ⟨hbx, q4⟩ := hSw; have q0 := hbx.p; have q1 := hbx.c; have q2 := hbx.s; clear hbx; go_simp; try with_reducible rfl)
                          simp only [Act.put, List.getElem_toArray, List.getElem_cons_zero, List.getElem_cons_succ, List.setIfInBounds_toArray, List.set_cons_zero, List.set_cons_succ]
                          refine Still.takeBy (i := 8) [11, 10] (v := ?v368) (by kernel_rfl) (by kernel_rfl) rfl (by kernel_rfl) (by kernel_rfl) (by kernel_rfl) (fun _ _ _ h => h) (Or.inl ⟨by rfl, ?y368⟩) hHeld ?r368
                          case y368 => (intro w' hSw; (try dsimp only at hSw); obtain ⟨hbx, q4⟩ := hSw; have q0 := hbx.p; have q1 := hbx.c; have q2 := hbx.s; clear hbx; go_simp; try with_reducible rfl)
                          simp only [Act.put, List.getElem_toArray, List.getElem_cons_zero, List.getElem_cons_succ, List.setIfInBounds_toArray, List.set_cons_zero, List.set_cons_succ]
                          refine Still.takeBy (i := 9) [11, 10] (v := ?v369) (by kernel_rfl) (by kernel_rfl) rfl (by kernel_rfl) (by kernel_rfl) (by kernel_rfl) (fun _ _ _ h => h) (Or.inl ⟨by rfl, ?y369⟩) hHeld ?r369
                          case y369 => (intro w' hSw; (try dsimp only at hSw); obtain ⟨hbx, q4⟩ := hSw; have q0 := hbx.p; have q1 := hbx.c; have q2 := hbx.s; clear hbx; go_simp; try with_reducible rfl)
                          simp only [Act.put, List.getElem_toArray, List.getElem_cons_zero, List.getElem_cons_succ, List.setIfInBounds_toArray, List.set_cons_zero, List.set_cons_succ]
                          refine Still.all (rs := [10]) (by kernel_rfl) (by simp) (Still.oneG (i := 10) rfl (by rfl) (fun K hK => ?_) (by simp))
                          refine wp_call 55 _ _ rfl ent_in #[.slice (some ⟨xb, xo, none⟩) l.length xc, .int .i64 (a : Int)] (by first | rfl | simp [Act.eval, Act.put, Edg.v]) ((refIn_any l a _ _ (HXS.out.up (HI.out.trans ((RowKit.Below.refl _ _).drew.trans (HB5.out.mono HI.out.size)))) hll).mono ?_)
                          rintro e V2 ⟨rfl, hW⟩
                          have hW2 := hW.symm
                          subst hW2
                          clear hW
                          refine ⟨_, rfl, hK _ _ (fun _ => hHeld) (fun hh => ?_)⟩
                          clear hK K hh
                          try simp only [Act.put, List.getElem_toArray, List.getElem_cons_zero, List.getElem_cons_succ, List.setIfInBounds_toArray, List.set_cons_zero, List.set_cons_succ]
                          rw [hin]
                          refine Still.takeBy (i := 11) [] (v := ?v370) (by kernel_rfl) (by kernel_rfl) rfl (by kernel_rfl) (by kernel_rfl) (by kernel_rfl) (fun _ _ _ h => h) (Or.inl ⟨by rfl, ?y370⟩) hHeld ?r370
                          case y370 => (intro w' hSw; (try dsimp only at hSw); obtain ⟨hbx, q4⟩ := hSw; have q0 := hbx.p; have q1 := hbx.c; have q2 := hbx.s; clear hbx; go_simp; try with_reducible rfl)
                          simp only [Act.put, List.getElem_toArray, List.getElem_cons_zero, List.getElem_cons_succ, List.setIfInBounds_toArray, List.set_cons_zero, List.set_cons_succ]
                          refine Still.all (rs := [12]) (by kernel_rfl) (by simp) (Still.one (i := 12) rfl rfl (fun K hK => ?_) (by simp))
                          go_simp
                          refine hK _ _ (fun h => absurd rfl h) (fun _ => ?_)
                          clear hK K
                          refine Still.over (by kernel_rfl) ?_ _
                          clear hHeld
                          go_wp2
                          go_ret
                          exact ⟨ret_bool HBD.out.symm, D0.out.trans (HV.out.mono D0.out.size)⟩
                    · have hai : ¬ (a : Int) < S.parts.length := by omega
                      have HS3 := Lib.hid (HS2.out (fun b hb hl => HQ.out b (by omega) hl))
                      go_wp2
                      go_roundw
                      case rel => exact ⟨1, by go_num, by omega, HS3, HT, Lib.hid (HO.out.trans (((RowKit.Below.refl _ _).drew.trans (HVI0.out.mono (Nat.le_refl _))).mono HO.out.size |>.trans (HI.out.mono (Nat.le_trans HO.out.size HVI0.out.size))))⟩
                      case measure => simp [intOf]; omega
              · have hk0 : (0 : Int) < k := by omega
                have x1 := HXX.out (k - 1) _ (ints_at l (k - 1) (by omega))
                by_cases hls : l[k - 1]'(by omega) < lk
                · cases hmy : mayB L lk u with
                  | false =>
                    have HBD := Lib.hid (HBAD.out (HMA.out hmy))
                    clear HW HRI HMA HCD HSTP HBAD HST
                    generalize (l[k - 1]'(by omega)) = lj at x1 hls
                    have hwr : IntKind.i64.wrap ((k : Int) - 1) = ((k - 1 : Nat) : Int) := by simp [IntKind.wrap, IntKind.bits, IntKind.signed]; omega
                    have hkj : ((k - 1 : Nat) : Int) < l.length := by omega
                    generalize k - 1 = j at x1 hwr hkj
                    have hge : decide (lk ≤ lj) = false := by simpa using hls
                    clear hls
                    go_upto_region 12 with fail
                    refine region_still (S := fun w' => Box w' w.heap.size (.slice pa S.parts.length pc) (.slice ca S.chans.length cc) (.slice sa S.slots.length sc) ∧ w'.cell? ⟨w.heap.size + 1, 0, none⟩ = some (.slice la L.length lc) ∧ w'.cell? ⟨xb, xo + k, none⟩ = some (.int .i64 lk) ∧ w'.cell? ⟨xb, xo + j, none⟩ = some (.int .i64 lj)) 35 (by kernel_rfl) ⟨HB.out.up (HT.out.trans (RowKit.Below.refl _ _).drew), y3, x0, x1⟩ (fun hHeld => ?_)
                    refine Still.takeBy (i := 0) [26, 25, 10, 8, 3, 2] (v := ?v501) (by kernel_rfl) (by kernel_rfl) rfl (by kernel_rfl) (by kernel_rfl) (by kernel_rfl) (fun _ _ _ h => h) (Or.inl ⟨by rfl, ?y501⟩) hHeld ?r501
                    case y501 => (intro w' hSw; (try dsimp only at hSw); obtain ⟨hbx, q3, q4, q5⟩ := hSw; have q0 := hbx.p; clear hbx; go_simp; try with_reducible rfl)
                    simp only [Act.put, List.getElem_toArray, List.getElem_cons_zero, List.getElem_cons_succ, List.setIfInBounds_toArray, List.set_cons_zero, List.set_cons_succ]
                    refine Still.takeBy (i := 1) [26, 25, 10, 8, 3, 2] (v := ?v502) (by kernel_rfl) (by kernel_rfl) rfl (by kernel_rfl) (by kernel_rfl) (by kernel_rfl) (fun _ _ _ h => h) (Or.inl ⟨by rfl, ?y502⟩) hHeld ?r502
                    case y502 => (intro w' hSw; (try dsimp only at hSw); obtain ⟨hbx, q3, q4, q5⟩ := hSw; have q0 := hbx.p; clear hbx; go_simp; try with_reducible rfl)
                    simp only [Act.put, List.getElem_toArray, List.getElem_cons_zero, List.getElem_cons_succ, List.setIfInBounds_toArray, List.set_cons_zero, List.set_cons_succ]
                    refine Still.takeBy (i := 2) [26, 25, 10, 8, 3] (v := ?v503) (by kernel_rfl) (by kernel_rfl) rfl (by kernel_rfl) (by kernel_rfl) (by kernel_rfl) (fun _ _ _ h => h) (Or.inl ⟨by rfl, ?y503⟩) hHeld ?r503
                    case y503 => (intro w' hSw; (try dsimp only at hSw); obtain ⟨hbx, q3, q4, q5⟩ := hSw; have q0 := hbx.p; clear hbx; go_simp; try with_reducible rfl)
                    simp only [Act.put, List.getElem_toArray, List.getElem_cons_zero, List.getElem_cons_succ, List.setIfInBounds_toArray, List.set_cons_zero, List.set_cons_succ]
                    refine Still.takeBy (i := 3) [26, 25, 10, 8] (v := ?v504) (by kernel_rfl) (by kernel_rfl) rfl (by kernel_rfl) (by kernel_rfl) (by kernel_rfl) (fun _ _ _ h => h) (Or.inl ⟨by rfl, ?y504⟩) hHeld ?r504
                    case y504 => (intro w' hSw; (try dsimp only at hSw); obtain ⟨hbx, q3, q4, q5⟩ := hSw; have q0 := hbx.p; clear hbx; go_simp; try with_reducible rfl)
                    simp only [Act.put, List.getElem_toArray, List.getElem_cons_zero, List.getElem_cons_succ, List.setIfInBounds_toArray, List.set_cons_zero, List.set_cons_succ]
                    refine Still.takeBy (i := 4) [26, 25, 10, 8, 7, 6, 5] (v := ?v505) (by kernel_rfl) (by kernel_rfl) rfl (by kernel_rfl) (by kernel_rfl) (by kernel_rfl) (fun _ _ _ h => h) (Or.inl ⟨by rfl, ?y505⟩) hHeld ?r505
                    case y505 => (intro w' hSw; (try dsimp only at hSw); obtain ⟨hbx, q3, q4, q5⟩ := hSw; have q0 := hbx.p; clear hbx; go_simp; try with_reducible rfl)
                    simp only [Act.put, List.getElem_toArray, List.getElem_cons_zero, List.getElem_cons_succ, List.setIfInBounds_toArray, List.set_cons_zero, List.set_cons_succ]
                    refine Still.takeBy (i := 5) [26, 25, 10, 8, 7, 6] (v := ?v506) (by kernel_rfl) (by kernel_rfl) rfl (by kernel_rfl) (by kernel_rfl) (by kernel_rfl) (fun _ _ _ h => h) (Or.inl ⟨by rfl, ?y506⟩) hHeld ?r506
                    case y506 => (intro w' hSw; (try dsimp only at hSw); obtain ⟨hbx, q3, q4, q5⟩ := hSw; have q0 := hbx.p; clear hbx; go_simp; try with_reducible rfl)
                    simp only [Act.put, List.getElem_toArray, List.getElem_cons_zero, List.getElem_cons_succ, List.setIfInBounds_toArray, List.set_cons_zero, List.set_cons_succ]
                    refine Still.takeBy (i := 6) [26, 25, 10, 8, 7] (v := ?v507) (by kernel_rfl) (by kernel_rfl) rfl (by kernel_rfl) (by kernel_rfl) (by kernel_rfl) (fun _ _ _ h => h) (Or.inl ⟨by rfl, ?y507⟩) hHeld ?r507
                    case y507 => (intro w' hSw; (try dsimp only at hSw); obtain ⟨hbx, q3, q4, q5⟩ := hSw; have q0 := hbx.p; clear hbx; go_simp; try with_reducible rfl)
                    simp only [Act.put, List.getElem_toArray, List.getElem_cons_zero, List.getElem_cons_succ, List.setIfInBounds_toArray, List.set_cons_zero, List.set_cons_succ]
                    refine Still.takeBy (i := 7) [26, 25, 10, 8] (v := ?v508) (by kernel_rfl) (by kernel_rfl) rfl (by kernel_rfl) (by kernel_rfl) (by kernel_rfl) (fun _ _ _ h => h) (Or.inl ⟨by rfl, ?y508⟩) hHeld ?r508
                    case y508 => (intro w' hSw; (try dsimp only at hSw); obtain ⟨hbx, q3, q4, q5⟩ := hSw; have q0 := hbx.p; clear hbx; go_simp; try with_reducible rfl)
                    simp only [Act.put, List.getElem_toArray, List.getElem_cons_zero, List.getElem_cons_succ, List.setIfInBounds_toArray, List.set_cons_zero, List.set_cons_succ]
                    refine Still.all (rs := [8]) (by kernel_rfl) (by simp) (Still.one (i := 8) rfl rfl (fun K hK => ?_) (by simp))
                    refine wp_call 32 _ _ rfl ent_within #[.int .i64 lk, .int .i64 0, .int .i64 ((S.parts.length : Int) - 1)] (by first | rfl | simp [Act.eval, Act.put, hwp]) ((within_any _ _ _ _).mono ?_)
                    rintro e V ⟨rfl, rfl⟩
                    refine ⟨_, rfl, hK _ _ (fun _ => hHeld) (fun hh => ?_)⟩
                    clear hK K hh
                    try simp only [Act.put, List.getElem_toArray, List.getElem_cons_zero, List.getElem_cons_succ, List.setIfInBounds_toArray, List.set_cons_zero, List.set_cons_succ]
                    rw [hA]
                    refine Still.takeBy (i := 9) [26, 25, 10] (v := ?v509) (by kernel_rfl) (by kernel_rfl) rfl (by kernel_rfl) (by kernel_rfl) (by kernel_rfl) (fun _ _ _ h => h) (Or.inl ⟨by rfl, ?y509⟩) hHeld ?r509
                    case y509 => (intro w' hSw; (try dsimp only at hSw); obtain ⟨hbx, q3, q4, q5⟩ := hSw; have q0 := hbx.p; clear hbx; go_simp; try with_reducible rfl)
                    simp only [Act.put, List.getElem_toArray, List.getElem_cons_zero, List.getElem_cons_succ, List.setIfInBounds_toArray, List.set_cons_zero, List.set_cons_succ]
                    refine Still.takeBy (i := 10) [26, 25] (v := ?v510) (by kernel_rfl) (by kernel_rfl) rfl (by kernel_rfl) (by kernel_rfl) (by kernel_rfl) (fun _ _ _ h => h) (Or.inl ⟨by rfl, ?y510⟩) hHeld ?r510
                    case y510 => (intro w' hSw; (try dsimp only at hSw); obtain ⟨hbx, q3, q4, q5⟩ := hSw; have q0 := hbx.p; clear hbx; go_simp; try with_reducible rfl)
                    simp only [Act.put, List.getElem_toArray, List.getElem_cons_zero, List.getElem_cons_succ, List.setIfInBounds_toArray, List.set_cons_zero, List.set_cons_succ]
                    refine Still.takeBy (i := 11) [26, 13, 12] (v := ?v511) (by kernel_rfl) (by kernel_rfl) rfl (by kernel_rfl) (by kernel_rfl) (by kernel_rfl) (fun _ _ _ h => h) (Or.inl ⟨by rfl, ?y511⟩) hHeld ?r511
                    case y511 => (intro w' hSw; (try dsimp only at hSw); obtain ⟨hbx, q3, q4, q5⟩ := hSw; have q0 := hbx.p; clear hbx; go_simp; try with_reducible rfl)
                    simp only [Act.put, List.getElem_toArray, List.getElem_cons_zero, List.getElem_cons_succ, List.setIfInBounds_toArray, List.set_cons_zero, List.set_cons_succ]
                    refine Still.takeBy (i := 12) [26, 13] (v := ?v512) (by kernel_rfl) (by kernel_rfl) rfl (by kernel_rfl) (by kernel_rfl) (by kernel_rfl) (fun _ _ _ h => h) (Or.inl ⟨by rfl, ?y512⟩) hHeld ?r512
                    case y512 => (intro w' hSw; (try dsimp only at hSw); obtain ⟨hbx, q3, q4, q5⟩ := hSw; have q0 := hbx.p; clear hbx; go_simp; try with_reducible rfl)
                    simp only [Act.put, List.getElem_toArray, List.getElem_cons_zero, List.getElem_cons_succ, List.setIfInBounds_toArray, List.set_cons_zero, List.set_cons_succ]
                    refine Still.takeBy (i := 13) [26] (v := ?v513) (by kernel_rfl) (by kernel_rfl) rfl (by kernel_rfl) (by kernel_rfl) (by kernel_rfl) (fun _ _ _ h => h) (Or.inl ⟨by rfl, ?y513⟩) hHeld ?r513
                    case y513 => (intro w' hSw; (try dsimp only at hSw); obtain ⟨hbx, q3, q4, q5⟩ := hSw; have q0 := hbx.p; clear hbx; go_simp; try with_reducible rfl)
                    simp only [Act.put, List.getElem_toArray, List.getElem_cons_zero, List.getElem_cons_succ, List.setIfInBounds_toArray, List.set_cons_zero, List.set_cons_succ]
                    refine Still.takeBy (i := 14) [26, 25, 24, 23, 18, 17] (v := ?v514) (by kernel_rfl) (by kernel_rfl) rfl (by kernel_rfl) (by kernel_rfl) (by kernel_rfl) (fun _ _ _ h => h) (Or.inl ⟨by rfl, ?y514⟩) hHeld ?r514
                    case y514 => (intro w' hSw; (try dsimp only at hSw); obtain ⟨hbx, q3, q4, q5⟩ := hSw; have q0 := hbx.p; clear hbx; go_simp; try with_reducible rfl)
                    simp only [Act.put, List.getElem_toArray, List.getElem_cons_zero, List.getElem_cons_succ, List.setIfInBounds_toArray, List.set_cons_zero, List.set_cons_succ]
                    refine Still.takeBy (i := 15) [26, 25, 24, 23, 18, 17, 16] (v := ?v515) (by kernel_rfl) (by kernel_rfl) rfl (by kernel_rfl) (by kernel_rfl) (by kernel_rfl) (fun _ _ _ h => h) (Or.inl ⟨by rfl, ?y515⟩) hHeld ?r515
                    case y515 => (intro w' hSw; (try dsimp only at hSw); obtain ⟨hbx, q3, q4, q5⟩ := hSw; have q0 := hbx.p; clear hbx; go_simp; try with_reducible rfl)
                    simp only [Act.put, List.getElem_toArray, List.getElem_cons_zero, List.getElem_cons_succ, List.setIfInBounds_toArray, List.set_cons_zero, List.set_cons_succ]
                    refine Still.takeBy (i := 16) [26, 25, 24, 23, 18, 17] (v := ?v516) (by kernel_rfl) (by kernel_rfl) rfl (by kernel_rfl) (by kernel_rfl) (by kernel_rfl) (fun _ _ _ h => h) (Or.inl ⟨by rfl, ?y516⟩) hHeld ?r516
                    case y516 => (intro w' hSw; (try dsimp only at hSw); obtain ⟨hbx, q3, q4, q5⟩ := hSw; have q0 := hbx.p; clear hbx; go_simp; try with_reducible rfl)
                    simp only [Act.put, List.getElem_toArray, List.getElem_cons_zero, List.getElem_cons_succ, List.setIfInBounds_toArray, List.set_cons_zero, List.set_cons_succ]
                    refine Still.takeBy (i := 17) [26, 25, 24, 23, 18] (v := ?v517) (by kernel_rfl) (by kernel_rfl) rfl (by kernel_rfl) (by kernel_rfl) (by kernel_rfl) (fun _ _ _ h => h) (Or.inl ⟨by rfl, ?y517⟩) hHeld ?r517
                    case y517 => (intro w' hSw; (try dsimp only at hSw); obtain ⟨hbx, q3, q4, q5⟩ := hSw; have q0 := hbx.p; clear hbx; go_simp; try with_reducible rfl)
                    simp only [Act.put, List.getElem_toArray, List.getElem_cons_zero, List.getElem_cons_succ, List.setIfInBounds_toArray, List.set_cons_zero, List.set_cons_succ]
                    refine Still.takeBy (i := 18) [26, 25, 24, 23] (v := ?v518) (by kernel_rfl) (by kernel_rfl) rfl (by kernel_rfl) (by kernel_rfl) (by kernel_rfl) (fun _ _ _ h => h) (Or.inl ⟨by rfl, ?y518⟩) hHeld ?r518
                    case y518 => (intro w' hSw; (try dsimp only at hSw); obtain ⟨hbx, q3, q4, q5⟩ := hSw; have q0 := hbx.p; clear hbx; go_simp; try with_reducible rfl)
                    simp only [Act.put, List.getElem_toArray, List.getElem_cons_zero, List.getElem_cons_succ, List.setIfInBounds_toArray, List.set_cons_zero, List.set_cons_succ]
                    refine Still.takeBy (i := 19) [26, 25, 24, 23, 22, 21] (v := ?v519) (by kernel_rfl) (by kernel_rfl) rfl (by kernel_rfl) (by kernel_rfl) (by kernel_rfl) (fun _ _ _ h => h) (Or.inl ⟨by rfl, ?y519⟩) hHeld ?r519
                    case y519 => (intro w' hSw; (try dsimp only at hSw); obtain ⟨hbx, q3, q4, q5⟩ := hSw; have q0 := hbx.p; clear hbx; go_simp; try with_reducible rfl)
                    simp only [Act.put, List.getElem_toArray, List.getElem_cons_zero, List.getElem_cons_succ, List.setIfInBounds_toArray, List.set_cons_zero, List.set_cons_succ]
                    refine Still.takeBy (i := 20) [26, 25, 24, 23, 22, 21] (v := ?v520) (by kernel_rfl) (by kernel_rfl) rfl (by kernel_rfl) (by kernel_rfl) (by kernel_rfl) (fun _ _ _ h => h) (Or.inl ⟨by rfl, ?y520⟩) hHeld ?r520
                    case y520 => (intro w' hSw; (try dsimp only at hSw); obtain ⟨hbx, q3, q4, q5⟩ := hSw; have q0 := hbx.p; clear hbx; go_simp; try with_reducible rfl)
                    simp only [Act.put, List.getElem_toArray, List.getElem_cons_zero, List.getElem_cons_succ, List.setIfInBounds_toArray, List.set_cons_zero, List.set_cons_succ]
                    refine Still.takeBy (i := 21) [26, 25, 24, 23, 22] (v := ?v521) (by kernel_rfl) (by kernel_rfl) rfl (by kernel_rfl) (by kernel_rfl) (by kernel_rfl) (fun _ _ _ h => h) (Or.inl ⟨by rfl, ?y521⟩) hHeld ?r521
                    case y521 => (intro w' hSw; (try dsimp only at hSw); obtain ⟨hbx, q3, q4, q5⟩ := hSw; have q0 := hbx.p; clear hbx; go_simp; try with_reducible rfl)
                    simp only [Act.put, List.getElem_toArray, List.getElem_cons_zero, List.getElem_cons_succ, List.setIfInBounds_toArray, List.set_cons_zero, List.set_cons_succ]
                    refine Still.takeBy (i := 22) [26, 25, 24, 23] (v := ?v522) (by kernel_rfl) (by kernel_rfl) rfl (by kernel_rfl) (by kernel_rfl) (by kernel_rfl) (fun _ _ _ h => h) (Or.inl ⟨by rfl, ?y522⟩) hHeld ?r522
                    case y522 => (intro w' hSw; (try dsimp only at hSw); obtain ⟨hbx, q3, q4, q5⟩ := hSw; have q0 := hbx.p; clear hbx; go_simp; try with_reducible rfl)
                    simp only [Act.put, List.getElem_toArray, List.getElem_cons_zero, List.getElem_cons_succ, List.setIfInBounds_toArray, List.set_cons_zero, List.set_cons_succ]
                    refine Still.takeBy (i := 23) [26, 25, 24] (v := ?v523) (by kernel_rfl) (by kernel_rfl) rfl (by kernel_rfl) (by kernel_rfl) (by kernel_rfl) (fun _ _ _ h => h) (Or.inl ⟨by rfl, ?y523⟩) hHeld ?r523
                    case y523 => (intro w' hSw; (try dsimp only at hSw); obtain ⟨hbx, q3, q4, q5⟩ := hSw; have q0 := hbx.p; clear hbx; go_simp; try with_reducible rfl)
                    simp only [Act.put, List.getElem_toArray, List.getElem_cons_zero, List.getElem_cons_succ, List.setIfInBounds_toArray, List.set_cons_zero, List.set_cons_succ]
                    refine Still.takeBy (i := 24) [26, 25] (v := ?v524) (by kernel_rfl) (by kernel_rfl) rfl (by kernel_rfl) (by kernel_rfl) (by kernel_rfl) (fun _ _ _ h => h) (Or.inl ⟨by rfl, ?y524⟩) hHeld ?r524
                    case y524 => (intro w' hSw; (try dsimp only at hSw); obtain ⟨hbx, q3, q4, q5⟩ := hSw; have q0 := hbx.p; clear hbx; go_simp; try with_reducible rfl)
                    simp only [Act.put, List.getElem_toArray, List.getElem_cons_zero, List.getElem_cons_succ, List.setIfInBounds_toArray, List.set_cons_zero, List.set_cons_succ]
                    refine Still.takeBy (i := 25) [26] (v := ?v525) (by kernel_rfl) (by kernel_rfl) rfl (by kernel_rfl) (by kernel_rfl) (by kernel_rfl) (fun _ _ _ h => h) (Or.inl ⟨by rfl, ?y525⟩) hHeld ?r525
                    case y525 => (intro w' hSw; (try dsimp only at hSw); obtain ⟨hbx, q3, q4, q5⟩ := hSw; have q0 := hbx.p; clear hbx; go_simp; try with_reducible rfl)
                    simp only [Act.put, List.getElem_toArray, List.getElem_cons_zero, List.getElem_cons_succ, List.setIfInBounds_toArray, List.set_cons_zero, List.set_cons_succ]
                    refine Still.takeBy (i := 26) [] (v := ?v526) (by kernel_rfl) (by kernel_rfl) rfl (by kernel_rfl) (by kernel_rfl) (by kernel_rfl) (fun _ _ _ h => h) (Or.inl ⟨by rfl, ?y526⟩) hHeld ?r526
                    case y526 => (intro w' hSw; (try dsimp only at hSw); obtain ⟨hbx, q3, q4, q5⟩ := hSw; have q0 := hbx.p; clear hbx; go_simp; try with_reducible rfl)
                    simp only [Act.put, List.getElem_toArray, List.getElem_cons_zero, List.getElem_cons_succ, List.setIfInBounds_toArray, List.set_cons_zero, List.set_cons_succ]
                    refine Still.takeBy (i := 27) [34, 33] (v := ?v527) (by kernel_rfl) (by kernel_rfl) rfl (by kernel_rfl) (by kernel_rfl) (by kernel_rfl) (fun _ _ _ h => h) (Or.inl ⟨by rfl, ?y527⟩) hHeld ?r527
                    case y527 => (intro w' hSw; (try dsimp only at hSw); obtain ⟨hbx, q3, q4, q5⟩ := hSw; have q0 := hbx.p; clear hbx; go_simp; try with_reducible rfl)
                    simp only [Act.put, List.getElem_toArray, List.getElem_cons_zero, List.getElem_cons_succ, List.setIfInBounds_toArray, List.set_cons_zero, List.set_cons_succ]
                    refine Still.takeBy (i := 28) [34, 33, 31, 30] (v := ?v528) (by kernel_rfl) (by kernel_rfl) rfl (by kernel_rfl) (by kernel_rfl) (by kernel_rfl) (fun _ _ _ h => h) (Or.inl ⟨by rfl, ?y528⟩) hHeld ?r528
                    case y528 => (intro w' hSw; (try dsimp only at hSw); obtain ⟨hbx, q3, q4, q5⟩ := hSw; have q0 := hbx.p; clear hbx; go_simp; try with_reducible rfl)
                    simp only [Act.put, List.getElem_toArray, List.getElem_cons_zero, List.getElem_cons_succ, List.setIfInBounds_toArray, List.set_cons_zero, List.set_cons_succ]
                    refine Still.takeBy (i := 29) [34, 33, 31, 30] (v := ?v529) (by kernel_rfl) (by kernel_rfl) rfl (by kernel_rfl) (by kernel_rfl) (by kernel_rfl) (fun _ _ _ h => h) (Or.inl ⟨by rfl, ?y529⟩) hHeld ?r529
                    case y529 => (intro w' hSw; (try dsimp only at hSw); obtain ⟨hbx, q3, q4, q5⟩ := hSw; have q0 := hbx.p; clear hbx; go_simp; try with_reducible rfl)
                    simp only [Act.put, List.getElem_toArray, List.getElem_cons_zero, List.getElem_cons_succ, List.setIfInBounds_toArray, List.set_cons_zero, List.set_cons_succ]
                    refine Still.takeBy (i := 30) [34, 33, 31] (v := ?v530) (by kernel_rfl) (by kernel_rfl) rfl (by kernel_rfl) (by kernel_rfl) (by kernel_rfl) (fun _ _ _ h => h) (Or.inl ⟨by rfl, ?y530⟩) hHeld ?r530
                    case y530 => (intro w' hSw; (try dsimp only at hSw); obtain ⟨hbx, q3, q4, q5⟩ := hSw; have q0 := hbx.p; clear hbx; go_simp; try with_reducible rfl)
                    simp only [Act.put, List.getElem_toArray, List.getElem_cons_zero, List.getElem_cons_succ, List.setIfInBounds_toArray, List.set_cons_zero, List.set_cons_succ]
                    refine Still.takeBy (i := 31) [34, 33] (v := ?v531) (by kernel_rfl) (by kernel_rfl) rfl (by kernel_rfl) (by kernel_rfl) (by kernel_rfl) (fun _ _ _ h => h) (Or.inl ⟨by rfl, ?y531⟩) hHeld ?r531
                    case y531 => (intro w' hSw; (try dsimp only at hSw); obtain ⟨hbx, q3, q4, q5⟩ := hSw; have q0 := hbx.p; clear hbx; go_simp; try with_reducible rfl)
                    simp only [Act.put, List.getElem_toArray, List.getElem_cons_zero, List.getElem_cons_succ, List.setIfInBounds_toArray, List.set_cons_zero, List.set_cons_succ]
                    refine Still.takeBy (i := 32) [34, 33] (v := ?v532) (by kernel_rfl) (by kernel_rfl) rfl (by kernel_rfl) (by kernel_rfl) (by kernel_rfl) (fun _ _ _ h => h) (Or.inl ⟨by rfl, ?y532⟩) hHeld ?r532
                    case y532 => (intro w' hSw; (try dsimp only at hSw); obtain ⟨hbx, q3, q4, q5⟩ := hSw; have q0 := hbx.p; clear hbx; go_simp; try with_reducible rfl)
                    simp only [Act.put, List.getElem_toArray, List.getElem_cons_zero, List.getElem_cons_succ, List.setIfInBounds_toArray, List.set_cons_zero, List.set_cons_succ]
                    refine Still.all (rs := [33]) (by kernel_rfl) (by simp) (Still.oneG (i := 33) rfl (by rfl) (fun K hK => ?_) (by simp))
                    refine wp_call 47 _ _ rfl ent_may #[.agg #[.slice la L.length lc], .int .i64 lk, .int .i64 (u : Int)] (by first | rfl | simp [Act.eval, Act.put, Edg.v]) ((may_any L hLl lk u _ _ (HL.out.up (HT.out.trans (RowKit.Below.refl _ _).drew))).mono ?_)
                    rintro e V1 ⟨rfl, b5⟩
                    have HV : Hid (RowKit.Below W0.heap.size W0 V1) := Lib.hid ((HT.out.trans (RowKit.Below.refl _ _).drew).trans (b5.mono HT.out.size))
                    refine ⟨_, rfl, hK _ _ (fun _ => ⟨HB.out.up HV.out, bcl b5 (by show w.heap.size + 1 < wr.heap.size; omega) y3, bcl b5 (by show xb < wr.heap.size; omega) x0, bcl b5 (by show xb < wr.heap.size; omega) x1⟩) (fun hh => ?_)⟩
                    have hHeld := hh (by decide)
                    clear hK K hh b5
                    try simp only [Act.put, List.getElem_toArray, List.getElem_cons_zero, List.getElem_cons_succ, List.setIfInBounds_toArray, List.set_cons_zero, List.set_cons_succ]
                    rw [hmy]
                    refine Still.takeBy (i := 34) [] (v := ?v533) (by kernel_rfl) (by kernel_rfl) rfl (by kernel_rfl) (by kernel_rfl) (by kernel_rfl) (fun _ _ _ h => h) (Or.inl ⟨by rfl, ?y533⟩) hHeld ?r533
                    case y533 => (intro w' hSw; (try dsimp only at hSw); obtain ⟨hbx, q3, q4, q5⟩ := hSw; have q0 := hbx.p; clear hbx; go_simp; try with_reducible rfl)
                    simp only [Act.put, List.getElem_toArray, List.getElem_cons_zero, List.getElem_cons_succ, List.setIfInBounds_toArray, List.set_cons_zero, List.set_cons_succ]
                    refine Still.all (rs := [35]) (by kernel_rfl) (by simp) (Still.one (i := 35) rfl rfl (fun K hK => ?_) (by simp))
                    go_simp
                    refine hK _ _ (fun h => absurd rfl h) (fun _ => ?_)
                    clear hK K
                    refine Still.over (by kernel_rfl) ?_ _
                    clear hHeld
                    go_wp2
                    go_ret
                    exact ⟨ret_bool HBD.out.symm, D0.out.trans (HV.out.mono D0.out.size)⟩
                  | true =>
                    have HS2 := Lib.hid (fun h => HSTP.out hA (fun _ => hls) hmy h)
                    have HBC := Lib.hid (fun a h1 h2 h3 => HBAD.out (HCD.out a hA h1 h2 h3))
                    clear HW HRI HMA HCD HSTP
                    generalize (l[k - 1]'(by omega)) = lj at x1 hls
                    have hwr : IntKind.i64.wrap ((k : Int) - 1) = ((k - 1 : Nat) : Int) := by simp [IntKind.wrap, IntKind.bits, IntKind.signed]; omega
                    have hkj : ((k - 1 : Nat) : Int) < l.length := by omega
                    generalize k - 1 = j at x1 hwr hkj
                    have hge : decide (lk ≤ lj) = false := by simpa using hls
                    clear hls
                    go_upto_region 12 with fail
                    refine region_still (S := fun w' => Box w' w.heap.size (.slice pa S.parts.length pc) (.slice ca S.chans.length cc) (.slice sa S.slots.length sc) ∧ w'.cell? ⟨w.heap.size + 1, 0, none⟩ = some (.slice la L.length lc) ∧ w'.cell? ⟨xb, xo + k, none⟩ = some (.int .i64 lk) ∧ w'.cell? ⟨xb, xo + j, none⟩ = some (.int .i64 lj)) 35 (by kernel_rfl) ⟨HB.out.up (HT.out.trans (RowKit.Below.refl _ _).drew), y3, x0, x1⟩ (fun hHeld => ?_)
                    refine Still.takeBy (i := 0) [26, 25, 10, 8, 3, 2] (v := ?v601) (by kernel_rfl) (by kernel_rfl) rfl (by kernel_rfl) (by kernel_rfl) (by kernel_rfl) (fun _ _ _ h => h) (Or.inl ⟨by rfl, ?y601⟩) hHeld ?r601
                    case y601 => (intro w' hSw; (try dsimp only at hSw); obtain ⟨hbx, q3, q4, q5⟩ := hSw; have q0 := hbx.p; clear hbx; go_simp; try with_reducible rfl)
                    simp only [Act.put, List.getElem_toArray, List.getElem_cons_zero, List.getElem_cons_succ, List.setIfInBounds_toArray, List.set_cons_zero, List.set_cons_succ]
                    refine Still.takeBy (i := 1) [26, 25, 10, 8, 3, 2] (v := ?v602) (by kernel_rfl) (by kernel_rfl) rfl (by kernel_rfl) (by kernel_rfl) (by kernel_rfl) (fun _ _ _ h => h) (Or.inl ⟨by rfl, ?y602⟩) hHeld ?r602
                    case y602 => (intro w' hSw; (try dsimp only at hSw); obtain ⟨hbx, q3, q4, q5⟩ := hSw; have q0 := hbx.p; clear hbx; go_simp; try with_reducible rfl)
                    simp only [Act.put, List.getElem_toArray, List.getElem_cons_zero, List.getElem_cons_succ, List.setIfInBounds_toArray, List.set_cons_zero, List.set_cons_succ]
                    refine Still.takeBy (i := 2) [26, 25, 10, 8, 3] (v := ?v603) (by kernel_rfl) (by kernel_rfl) rfl (by kernel_rfl) (by kernel_rfl) (by kernel_rfl) (fun _ _ _ h => h) (Or.inl ⟨by rfl, ?y603⟩) hHeld ?r603
                    case y603 => (intro w' hSw; (try dsimp only at hSw); obtain ⟨hbx, q3, q4, q5⟩ := hSw; have q0 := hbx.p; clear hbx; go_simp; try with_reducible rfl)
                    simp only [Act.put, List.getElem_toArray, List.getElem_cons_zero, List.getElem_cons_succ, List.setIfInBounds_toArray, List.set_cons_zero, List.set_cons_succ]
                    refine Still.takeBy (i := 3) [26, 25, 10, 8] (v := ?v604) (by kernel_rfl) (by kernel_rfl) rfl (by kernel_rfl) (by kernel_rfl) (by kernel_rfl) (fun _ _ _ h => h) (Or.inl ⟨by rfl, ?y604⟩) hHeld ?r604
                    case y604 => (intro w' hSw; (try dsimp only at hSw); obtain ⟨hbx, q3, q4, q5⟩ := hSw; have q0 := hbx.p; clear hbx; go_simp; try with_reducible rfl)
                    simp only [Act.put, List.getElem_toArray, List.getElem_cons_zero, List.getElem_cons_succ, List.setIfInBounds_toArray, List.set_cons_zero, List.set_cons_succ]
                    refine Still.takeBy (i := 4) [26, 25, 10, 8, 7, 6, 5] (v := ?v605) (by kernel_rfl) (by kernel_rfl) rfl (by kernel_rfl) (by kernel_rfl) (by kernel_rfl) (fun _ _ _ h => h) (Or.inl ⟨by rfl, ?y605⟩) hHeld ?r605
                    case y605 => (intro w' hSw; (try dsimp only at hSw); obtain ⟨hbx, q3, q4, q5⟩ := hSw; have q0 := hbx.p; clear hbx; go_simp; try with_reducible rfl)
                    simp only [Act.put, List.getElem_toArray, List.getElem_cons_zero, List.getElem_cons_succ, List.setIfInBounds_toArray, List.set_cons_zero, List.set_cons_succ]
                    refine Still.takeBy (i := 5) [26, 25, 10, 8, 7, 6] (v := ?v606) (by kernel_rfl) (by kernel_rfl) rfl (by kernel_rfl) (by kernel_rfl) (by kernel_rfl) (fun _ _ _ h => h) (Or.inl ⟨by rfl, ?y606⟩) hHeld ?r606
                    case y606 => (intro w' hSw; (try dsimp only at hSw); obtain ⟨hbx, q3, q4, q5⟩ := hSw; have q0 := hbx.p; clear hbx; go_simp; try with_reducible rfl)
                    simp only [Act.put, List.getElem_toArray, List.getElem_cons_zero, List.getElem_cons_succ, List.setIfInBounds_toArray, List.set_cons_zero, List.set_cons_succ]
                    refine Still.takeBy (i := 6) [26, 25, 10, 8, 7] (v := ?v607) (by kernel_rfl) (by kernel_rfl) rfl (by kernel_rfl) (by kernel_rfl) (by kernel_rfl) (fun _ _ _ h => h) (Or.inl ⟨by rfl, ?y607⟩) hHeld ?r607
                    case y607 => (intro w' hSw; (try dsimp only at hSw); obtain ⟨hbx, q3, q4, q5⟩ := hSw; have q0 := hbx.p; clear hbx; go_simp; try with_reducible rfl)
                    simp only [Act.put, List.getElem_toArray, List.getElem_cons_zero, List.getElem_cons_succ, List.setIfInBounds_toArray, List.set_cons_zero, List.set_cons_succ]
                    refine Still.takeBy (i := 7) [26, 25, 10, 8] (v := ?v608) (by kernel_rfl) (by kernel_rfl) rfl (by kernel_rfl) (by kernel_rfl) (by kernel_rfl) (fun _ _ _ h => h) (Or.inl ⟨by rfl, ?y608⟩) hHeld ?r608
                    case y608 => (intro w' hSw; (try dsimp only at hSw); obtain ⟨hbx, q3, q4, q5⟩ := hSw; have q0 := hbx.p; clear hbx; go_simp; try with_reducible rfl)
                    simp only [Act.put, List.getElem_toArray, List.getElem_cons_zero, List.getElem_cons_succ, List.setIfInBounds_toArray, List.set_cons_zero, List.set_cons_succ]
                    refine Still.all (rs := [8]) (by kernel_rfl) (by simp) (Still.one (i := 8) rfl rfl (fun K hK => ?_) (by simp))
                    refine wp_call 32 _ _ rfl ent_within #[.int .i64 lk, .int .i64 0, .int .i64 ((S.parts.length : Int) - 1)] (by first | rfl | simp [Act.eval, Act.put, hwp]) ((within_any _ _ _ _).mono ?_)
                    rintro e V ⟨rfl, rfl⟩
                    refine ⟨_, rfl, hK _ _ (fun _ => hHeld) (fun hh => ?_)⟩
                    clear hK K hh
                    try simp only [Act.put, List.getElem_toArray, List.getElem_cons_zero, List.getElem_cons_succ, List.setIfInBounds_toArray, List.set_cons_zero, List.set_cons_succ]
                    rw [hA]
                    refine Still.takeBy (i := 9) [26, 25, 10] (v := ?v609) (by kernel_rfl) (by kernel_rfl) rfl (by kernel_rfl) (by kernel_rfl) (by kernel_rfl) (fun _ _ _ h => h) (Or.inl ⟨by rfl, ?y609⟩) hHeld ?r609
                    case y609 => (intro w' hSw; (try dsimp only at hSw); obtain ⟨hbx, q3, q4, q5⟩ := hSw; have q0 := hbx.p; clear hbx; go_simp; try with_reducible rfl)
                    simp only [Act.put, List.getElem_toArray, List.getElem_cons_zero, List.getElem_cons_succ, List.setIfInBounds_toArray, List.set_cons_zero, List.set_cons_succ]
                    refine Still.takeBy (i := 10) [26, 25] (v := ?v610) (by kernel_rfl) (by kernel_rfl) rfl (by kernel_rfl) (by kernel_rfl) (by kernel_rfl) (fun _ _ _ h => h) (Or.inl ⟨by rfl, ?y610⟩) hHeld ?r610
                    case y610 => (intro w' hSw; (try dsimp only at hSw); obtain ⟨hbx, q3, q4, q5⟩ := hSw; have q0 := hbx.p; clear hbx; go_simp; try with_reducible rfl)
                    simp only [Act.put, List.getElem_toArray, List.getElem_cons_zero, List.getElem_cons_succ, List.setIfInBounds_toArray, List.set_cons_zero, List.set_cons_succ]
                    refine Still.takeBy (i := 11) [26, 13, 12] (v := ?v611) (by kernel_rfl) (by kernel_rfl) rfl (by kernel_rfl) (by kernel_rfl) (by kernel_rfl) (fun _ _ _ h => h) (Or.inl ⟨by rfl, ?y611⟩) hHeld ?r611
                    case y611 => (intro w' hSw; (try dsimp only at hSw); obtain ⟨hbx, q3, q4, q5⟩ := hSw; have q0 := hbx.p; clear hbx; go_simp; try with_reducible rfl)
                    simp only [Act.put, List.getElem_toArray, List.getElem_cons_zero, List.getElem_cons_succ, List.setIfInBounds_toArray, List.set_cons_zero, List.set_cons_succ]
                    refine Still.takeBy (i := 12) [26, 13] (v := ?v612) (by kernel_rfl) (by kernel_rfl) rfl (by kernel_rfl) (by kernel_rfl) (by kernel_rfl) (fun _ _ _ h => h) (Or.inl ⟨by rfl, ?y612⟩) hHeld ?r612
                    case y612 => (intro w' hSw; (try dsimp only at hSw); obtain ⟨hbx, q3, q4, q5⟩ := hSw; have q0 := hbx.p; clear hbx; go_simp; try with_reducible rfl)
                    simp only [Act.put, List.getElem_toArray, List.getElem_cons_zero, List.getElem_cons_succ, List.setIfInBounds_toArray, List.set_cons_zero, List.set_cons_succ]
                    refine Still.takeBy (i := 13) [26] (v := ?v613) (by kernel_rfl) (by kernel_rfl) rfl (by kernel_rfl) (by kernel_rfl) (by kernel_rfl) (fun _ _ _ h => h) (Or.inl ⟨by rfl, ?y613⟩) hHeld ?r613
                    case y613 => (intro w' hSw; (try dsimp only at hSw); obtain ⟨hbx, q3, q4, q5⟩ := hSw; have q0 := hbx.p; clear hbx; go_simp; try with_reducible rfl)
                    simp only [Act.put, List.getElem_toArray, List.getElem_cons_zero, List.getElem_cons_succ, List.setIfInBounds_toArray, List.set_cons_zero, List.set_cons_succ]
                    refine Still.takeBy (i := 14) [26, 25, 24, 23, 18, 17] (v := ?v614) (by kernel_rfl) (by kernel_rfl) rfl (by kernel_rfl) (by kernel_rfl) (by kernel_rfl) (fun _ _ _ h => h) (Or.inl ⟨by rfl, ?y614⟩) hHeld ?r614
                    case y614 => (intro w' hSw; (try dsimp only at hSw); obtain ⟨hbx, q3, q4, q5⟩ := hSw; have q0 := hbx.p; clear hbx; go_simp; try with_reducible rfl)
                    simp only [Act.put, List.getElem_toArray, List.getElem_cons_zero, List.getElem_cons_succ, List.setIfInBounds_toArray, List.set_cons_zero, List.set_cons_succ]
                    refine Still.takeBy (i := 15) [26, 25, 24, 23, 18, 17, 16] (v := ?v615) (by kernel_rfl) (by kernel_rfl) rfl (by kernel_rfl) (by kernel_rfl) (by kernel_rfl) (fun _ _ _ h => h) (Or.inl ⟨by rfl, ?y615⟩) hHeld ?r615
                    case y615 => (intro w' hSw; (try dsimp only at hSw); obtain ⟨hbx, q3, q4, q5⟩ := hSw; have q0 := hbx.p; clear hbx; go_simp; try with_reducible rfl)
                    simp only [Act.put, List.getElem_toArray, List.getElem_cons_zero, List.getElem_cons_succ, List.setIfInBounds_toArray, List.set_cons_zero, List.set_cons_succ]
                    refine Still.takeBy (i := 16) [26, 25, 24, 23, 18, 17] (v := ?v616) (by kernel_rfl) (by kernel_rfl) rfl (by kernel_rfl) (by kernel_rfl) (by kernel_rfl) (fun _ _ _ h => h) (Or.inl ⟨by rfl, ?y616⟩) hHeld ?r616
                    case y616 => (intro w' hSw; (try dsimp only at hSw); obtain ⟨hbx, q3, q4, q5⟩ := hSw; have q0 := hbx.p; clear hbx; go_simp; try with_reducible rfl)
                    simp only [Act.put, List.getElem_toArray, List.getElem_cons_zero, List.getElem_cons_succ, List.setIfInBounds_toArray, List.set_cons_zero, List.set_cons_succ]
                    refine Still.takeBy (i := 17) [26, 25, 24, 23, 18] (v := ?v617) (by kernel_rfl) (by kernel_rfl) rfl (by kernel_rfl) (by kernel_rfl) (by kernel_rfl) (fun _ _ _ h => h) (Or.inl ⟨by rfl, ?y617⟩) hHeld ?r617
                    case y617 => (intro w' hSw; (try dsimp only at hSw); obtain ⟨hbx, q3, q4, q5⟩ := hSw; have q0 := hbx.p; clear hbx; go_simp; try with_reducible rfl)
                    simp only [Act.put, List.getElem_toArray, List.getElem_cons_zero, List.getElem_cons_succ, List.setIfInBounds_toArray, List.set_cons_zero, List.set_cons_succ]
                    refine Still.takeBy (i := 18) [26, 25, 24, 23] (v := ?v618) (by kernel_rfl) (by kernel_rfl) rfl (by kernel_rfl) (by kernel_rfl) (by kernel_rfl) (fun _ _ _ h => h) (Or.inl ⟨by rfl, ?y618⟩) hHeld ?r618
                    case y618 => (intro w' hSw; (try dsimp only at hSw); obtain ⟨hbx, q3, q4, q5⟩ := hSw; have q0 := hbx.p; clear hbx; go_simp; try with_reducible rfl)
                    simp only [Act.put, List.getElem_toArray, List.getElem_cons_zero, List.getElem_cons_succ, List.setIfInBounds_toArray, List.set_cons_zero, List.set_cons_succ]
                    refine Still.takeBy (i := 19) [26, 25, 24, 23, 22, 21] (v := ?v619) (by kernel_rfl) (by kernel_rfl) rfl (by kernel_rfl) (by kernel_rfl) (by kernel_rfl) (fun _ _ _ h => h) (Or.inl ⟨by rfl, ?y619⟩) hHeld ?r619
                    case y619 => (intro w' hSw; (try dsimp only at hSw); obtain ⟨hbx, q3, q4, q5⟩ := hSw; have q0 := hbx.p; clear hbx; go_simp; try with_reducible rfl)
                    simp only [Act.put, List.getElem_toArray, List.getElem_cons_zero, List.getElem_cons_succ, List.setIfInBounds_toArray, List.set_cons_zero, List.set_cons_succ]
                    refine Still.takeBy (i := 20) [26, 25, 24, 23, 22, 21] (v := ?v620) (by kernel_rfl) (by kernel_rfl) rfl (by kernel_rfl) (by kernel_rfl) (by kernel_rfl) (fun _ _ _ h => h) (Or.inl ⟨by rfl, ?y620⟩) hHeld ?r620
                    case y620 => (intro w' hSw; (try dsimp only at hSw); obtain ⟨hbx, q3, q4, q5⟩ := hSw; have q0 := hbx.p; clear hbx; go_simp; try with_reducible rfl)
                    simp only [Act.put, List.getElem_toArray, List.getElem_cons_zero, List.getElem_cons_succ, List.setIfInBounds_toArray, List.set_cons_zero, List.set_cons_succ]
                    refine Still.takeBy (i := 21) [26, 25, 24, 23, 22] (v := ?v621) (by kernel_rfl) (by kernel_rfl) rfl (by kernel_rfl) (by kernel_rfl) (by kernel_rfl) (fun _ _ _ h => h) (Or.inl ⟨by rfl, ?y621⟩) hHeld ?r621
                    case y621 => (intro w' hSw; (try dsimp only at hSw); obtain ⟨hbx, q3, q4, q5⟩ := hSw; have q0 := hbx.p; clear hbx; go_simp; try with_reducible rfl)
                    simp only [Act.put, List.getElem_toArray, List.getElem_cons_zero, List.getElem_cons_succ, List.setIfInBounds_toArray, List.set_cons_zero, List.set_cons_succ]
                    refine Still.takeBy (i := 22) [26, 25, 24, 23] (v := ?v622) (by kernel_rfl) (by kernel_rfl) rfl (by kernel_rfl) (by kernel_rfl) (by kernel_rfl) (fun _ _ _ h => h) (Or.inl ⟨by rfl, ?y622⟩) hHeld ?r622
                    case y622 => (intro w' hSw; (try dsimp only at hSw); obtain ⟨hbx, q3, q4, q5⟩ := hSw; have q0 := hbx.p; clear hbx; go_simp; try with_reducible rfl)
                    simp only [Act.put, List.getElem_toArray, List.getElem_cons_zero, List.getElem_cons_succ, List.setIfInBounds_toArray, List.set_cons_zero, List.set_cons_succ]
                    refine Still.takeBy (i := 23) [26, 25, 24] (v := ?v623) (by kernel_rfl) (by kernel_rfl) rfl (by kernel_rfl) (by kernel_rfl) (by kernel_rfl) (fun _ _ _ h => h) (Or.inl ⟨by rfl, ?y623⟩) hHeld ?r623
                    case y623 => (intro w' hSw; (try dsimp only at hSw); obtain ⟨hbx, q3, q4, q5⟩ := hSw; have q0 := hbx.p; clear hbx; go_simp; try with_reducible rfl)
                    simp only [Act.put, List.getElem_toArray, List.getElem_cons_zero, List.getElem_cons_succ, List.setIfInBounds_toArray, List.set_cons_zero, List.set_cons_succ]
                    refine Still.takeBy (i := 24) [26, 25] (v := ?v624) (by kernel_rfl) (by kernel_rfl) rfl (by kernel_rfl) (by kernel_rfl) (by kernel_rfl) (fun _ _ _ h => h) (Or.inl ⟨by rfl, ?y624⟩) hHeld ?r624
                    case y624 => (intro w' hSw; (try dsimp only at hSw); obtain ⟨hbx, q3, q4, q5⟩ := hSw; have q0 := hbx.p; clear hbx; go_simp; try with_reducible rfl)
                    simp only [Act.put, List.getElem_toArray, List.getElem_cons_zero, List.getElem_cons_succ, List.setIfInBounds_toArray, List.set_cons_zero, List.set_cons_succ]
                    refine Still.takeBy (i := 25) [26] (v := ?v625) (by kernel_rfl) (by kernel_rfl) rfl (by kernel_rfl) (by kernel_rfl) (by kernel_rfl) (fun _ _ _ h => h) (Or.inl ⟨by rfl, ?y625⟩) hHeld ?r625
                    case y625 => (intro w' hSw; (try dsimp only at hSw); obtain ⟨hbx, q3, q4, q5⟩ := hSw; have q0 := hbx.p; clear hbx; go_simp; try with_reducible rfl)
                    simp only [Act.put, List.getElem_toArray, List.getElem_cons_zero, List.getElem_cons_succ, List.setIfInBounds_toArray, List.set_cons_zero, List.set_cons_succ]
                    refine Still.takeBy (i := 26) [] (v := ?v626) (by kernel_rfl) (by kernel_rfl) rfl (by kernel_rfl) (by kernel_rfl) (by kernel_rfl) (fun _ _ _ h => h) (Or.inl ⟨by rfl, ?y626⟩) hHeld ?r626
                    case y626 => (intro w' hSw; (try dsimp only at hSw); obtain ⟨hbx, q3, q4, q5⟩ := hSw; have q0 := hbx.p; clear hbx; go_simp; try with_reducible rfl)
                    simp only [Act.put, List.getElem_toArray, List.getElem_cons_zero, List.getElem_cons_succ, List.setIfInBounds_toArray, List.set_cons_zero, List.set_cons_succ]
                    refine Still.takeBy (i := 27) [34, 33] (v := ?v627) (by kernel_rfl) (by kernel_rfl) rfl (by kernel_rfl) (by kernel_rfl) (by kernel_rfl) (fun _ _ _ h => h) (Or.inl ⟨by rfl, ?y627⟩) hHeld ?r627
                    case y627 => (intro w' hSw; (try dsimp only at hSw); obtain ⟨hbx, q3, q4, q5⟩ := hSw; have q0 := hbx.p; clear hbx; go_simp; try with_reducible rfl)
                    simp only [Act.put, List.getElem_toArray, List.getElem_cons_zero, List.getElem_cons_succ, List.setIfInBounds_toArray, List.set_cons_zero, List.set_cons_succ]
                    refine Still.takeBy (i := 28) [34, 33, 31, 30] (v := ?v628) (by kernel_rfl) (by kernel_rfl) rfl (by kernel_rfl) (by kernel_rfl) (by kernel_rfl) (fun _ _ _ h => h) (Or.inl ⟨by rfl, ?y628⟩) hHeld ?r628
                    case y628 => (intro w' hSw; (try dsimp only at hSw); obtain ⟨hbx, q3, q4, q5⟩ := hSw; have q0 := hbx.p; clear hbx; go_simp; try with_reducible rfl)
                    simp only [Act.put, List.getElem_toArray, List.getElem_cons_zero, List.getElem_cons_succ, List.setIfInBounds_toArray, List.set_cons_zero, List.set_cons_succ]
                    refine Still.takeBy (i := 29) [34, 33, 31, 30] (v := ?v629) (by kernel_rfl) (by kernel_rfl) rfl (by kernel_rfl) (by kernel_rfl) (by kernel_rfl) (fun _ _ _ h => h) (Or.inl ⟨by rfl, ?y629⟩) hHeld ?r629
                    case y629 => (intro w' hSw; (try dsimp only at hSw); obtain ⟨hbx, q3, q4, q5⟩ := hSw; have q0 := hbx.p; clear hbx; go_simp; try with_reducible rfl)
                    simp only [Act.put, List.getElem_toArray, List.getElem_cons_zero, List.getElem_cons_succ, List.setIfInBounds_toArray, List.set_cons_zero, List.set_cons_succ]
                    refine Still.takeBy (i := 30) [34, 33, 31] (v := ?v630) (by kernel_rfl) (by kernel_rfl) rfl (by kernel_rfl) (by kernel_rfl) (by kernel_rfl) (fun _ _ _ h => h) (Or.inl ⟨by rfl, ?y630⟩) hHeld ?r630
                    case y630 => (intro w' hSw; (try dsimp only at hSw); obtain ⟨hbx, q3, q4, q5⟩ := hSw; have q0 := hbx.p; clear hbx; go_simp; try with_reducible rfl)
                    simp only [Act.put, List.getElem_toArray, List.getElem_cons_zero, List.getElem_cons_succ, List.setIfInBounds_toArray, List.set_cons_zero, List.set_cons_succ]
                    refine Still.takeBy (i := 31) [34, 33] (v := ?v631) (by kernel_rfl) (by kernel_rfl) rfl (by kernel_rfl) (by kernel_rfl) (by kernel_rfl) (fun _ _ _ h => h) (Or.inl ⟨by rfl, ?y631⟩) hHeld ?r631
                    case y631 => (intro w' hSw; (try dsimp only at hSw); obtain ⟨hbx, q3, q4, q5⟩ := hSw; have q0 := hbx.p; clear hbx; go_simp; try with_reducible rfl)
                    simp only [Act.put, List.getElem_toArray, List.getElem_cons_zero, List.getElem_cons_succ, List.setIfInBounds_toArray, List.set_cons_zero, List.set_cons_succ]
                    refine Still.takeBy (i := 32) [34, 33] (v := ?v632) (by kernel_rfl) (by kernel_rfl) rfl (by kernel_rfl) (by kernel_rfl) (by kernel_rfl) (fun _ _ _ h => h) (Or.inl ⟨by rfl, ?y632⟩) hHeld ?r632
                    case y632 => (intro w' hSw; (try dsimp only at hSw); obtain ⟨hbx, q3, q4, q5⟩ := hSw; have q0 := hbx.p; clear hbx; go_simp; try with_reducible rfl)
                    simp only [Act.put, List.getElem_toArray, List.getElem_cons_zero, List.getElem_cons_succ, List.setIfInBounds_toArray, List.set_cons_zero, List.set_cons_succ]
                    refine Still.all (rs := [33]) (by kernel_rfl) (by simp) (Still.oneG (i := 33) rfl (by rfl) (fun K hK => ?_) (by simp))
                    refine wp_call 47 _ _ rfl ent_may #[.agg #[.slice la L.length lc], .int .i64 lk, .int .i64 (u : Int)] (by first | rfl | simp [Act.eval, Act.put, Edg.v]) ((may_any L hLl lk u _ _ (HL.out.up (HT.out.trans (RowKit.Below.refl _ _).drew))).mono ?_)
                    rintro e V1 ⟨rfl, b5⟩
                    have HV : Hid (RowKit.Below W0.heap.size W0 V1) := Lib.hid ((HT.out.trans (RowKit.Below.refl _ _).drew).trans (b5.mono HT.out.size))
                    refine ⟨_, rfl, hK _ _ (fun _ => ⟨HB.out.up HV.out, bcl b5 (by show w.heap.size + 1 < wr.heap.size; omega) y3, bcl b5 (by show xb < wr.heap.size; omega) x0, bcl b5 (by show xb < wr.heap.size; omega) x1⟩) (fun hh => ?_)⟩
                    have hHeld := hh (by decide)
                    have HB5 := Lib.hid b5
                    clear hK K hh b5
                    try simp only [Act.put, List.getElem_toArray, List.getElem_cons_zero, List.getElem_cons_succ, List.setIfInBounds_toArray, List.set_cons_zero, List.set_cons_succ]
                    rw [hmy]
                    refine Still.takeBy (i := 34) [] (v := ?v633) (by kernel_rfl) (by kernel_rfl) rfl (by kernel_rfl) (by kernel_rfl) (by kernel_rfl) (fun _ _ _ h => h) (Or.inl ⟨by rfl, ?y633⟩) hHeld ?r633
                    case y633 => (intro w' hSw; (try dsimp only at hSw); obtain ⟨hbx, q3, q4, q5⟩ := hSw; have q0 := hbx.p; clear hbx; go_simp; try with_reducible rfl)
                    simp only [Act.put, List.getElem_toArray, List.getElem_cons_zero, List.getElem_cons_succ, List.setIfInBounds_toArray, List.set_cons_zero, List.set_cons_succ]
                    refine Still.all (rs := [35]) (by kernel_rfl) (by simp) (Still.one (i := 35) rfl rfl (fun K hK => ?_) (by simp))
                    go_simp
                    refine hK _ _ (fun h => absurd rfl h) (fun _ => ?_)
                    clear hK K
                    refine Still.over (by kernel_rfl) ?_ _
                    clear hHeld
                    have HVI0 := HB5
                    clear HB5
                    obtain ⟨wi, hwi0⟩ : ∃ wi, wi = V1 := ⟨_, rfl⟩
                    subst hwi0
                    have HVI : Hid (RowKit.Below wi.heap.size wi wi) := Lib.hid (RowKit.Below.refl _ _)
                    have x0 := bcl HVI0.out (by show xb < wr.heap.size; omega) x0
                    have hxb : xb < wi.heap.size := by have h := HVI0.out.size; have h2 : wr.heap.size ≤ wi.heap.size := h; omega
                    have HXS : Hid (Sl wi 1 (.slice (some ⟨xb, xo, none⟩) l.length xc) l.length (ints l)) := Lib.hid (HXS.out _ (HO.out.trans ((RowKit.Below.refl _ _).drew.trans (HVI0.out.mono HO.out.size))))
                    skip
                    go_wp2
                    go_loopw [10] (fun i wr => ∃ a : Nat, i = .int .i64 a ∧ a ≤ S.parts.length ∧ Hid (∀ b : Nat, b < a → leadsB S b lk = true → inB l b = true) ∧ Hid (RowKit.Below W0.heap.size W0 wr) ∧ Hid (RowKit.Below wi.heap.size wi wr)) (fun i _ => S.parts.length - (intOf i).toNat)
                    case atStart => exact ⟨0, rfl, Nat.zero_le _, Lib.hid (fun b h => by omega), HV, HVI⟩
                    case round =>
                      clear HV
                      obtain ⟨a, rfl, ha, HQ, HT, HI⟩ := hrel
                      have hws := HT.out.size
                      have hwi := HI.out.size
                      have x0 := bcl HI.out hxb x0
                      have k0 := (HB.out.up HT.out).p
                      by_cases hal : a < S.parts.length
                      · have hai : (a : Int) < S.parts.length := by omega
                        cases hle : leadsB S a lk with
                        | false =>
                          have HQ2 : Hid (∀ b : Nat, b < a + 1 → leadsB S b lk = true → inB l b = true) := Lib.hid (fun b hb hl => by
                            by_cases e : b = a
                            · subst e; rw [hle] at hl; cases hl
                            · exact HQ.out b (by omega) hl)
                          go_upto_region 17 with fail
                          refine region_still (S := fun w' => Box w' w.heap.size (.slice pa S.parts.length pc) (.slice ca S.chans.length cc) (.slice sa S.slots.length sc) ∧ w'.cell? ⟨xb, xo + k, none⟩ = some (.int .i64 lk)) 12 (by kernel_rfl) ⟨HB.out.up (HT.out.trans (RowKit.Below.refl _ _).drew), x0⟩ (fun hHeld => ?_)
                          refine Still.takeBy (i := 0) [7, 6] (v := ?v701) (by kernel_rfl) (by kernel_rfl) rfl (by kernel_rfl) (by kernel_rfl) (by kernel_rfl) (fun _ _ _ h => h) (Or.inl ⟨by rfl, ?y701⟩) hHeld ?r701
                          case y701 => (intro w' hSw; (try dsimp only at hSw); obtain ⟨hbx, q4⟩ := hSw; have q0 := hbx.p; have q1 := hbx.c; have q2 := hbx.s; clear hbx; go_simp; try with_reducible rfl)
                          simp only [Act.put, List.getElem_toArray, List.getElem_cons_zero, List.getElem_cons_succ, List.setIfInBounds_toArray, List.set_cons_zero, List.set_cons_succ]
                          refine Still.takeBy (i := 1) [7, 6] (v := ?v702) (by kernel_rfl) (by kernel_rfl) rfl (by kernel_rfl) (by kernel_rfl) (by kernel_rfl) (fun _ _ _ h => h) (Or.inl ⟨by rfl, ?y702⟩) hHeld ?r702
                          case y702 => (intro w' hSw; (try dsimp only at hSw); obtain ⟨hbx, q4⟩ := hSw; have q0 := hbx.p; have q1 := hbx.c; have q2 := hbx.s; clear hbx; go_simp; try with_reducible rfl)
                          simp only [Act.put, List.getElem_toArray, List.getElem_cons_zero, List.getElem_cons_succ, List.setIfInBounds_toArray, List.set_cons_zero, List.set_cons_succ]
                          refine Still.takeBy (i := 2) [7, 6, 5, 4] (v := ?v703) (by kernel_rfl) (by kernel_rfl) rfl (by kernel_rfl) (by kernel_rfl) (by kernel_rfl) (fun _ _ _ h => h) (Or.inl ⟨by rfl, ?y703⟩) hHeld ?r703
                          case y703 => (intro w' hSw; (try dsimp only at hSw); obtain ⟨hbx, q4⟩ := hSw; have q0 := hbx.p; have q1 := hbx.c; have q2 := hbx.s; clear hbx; go_simp; try with_reducible rfl)
                          simp only [Act.put, List.getElem_toArray, List.getElem_cons_zero, List.getElem_cons_succ, List.setIfInBounds_toArray, List.set_cons_zero, List.set_cons_succ]
                          refine Still.takeBy (i := 3) [7, 6, 5, 4] (v := ?v704) (by kernel_rfl) (by kernel_rfl) rfl (by kernel_rfl) (by kernel_rfl) (by kernel_rfl) (fun _ _ _ h => h) (Or.inl ⟨by rfl, ?y704⟩) hHeld ?r704
                          case y704 => (intro w' hSw; (try dsimp only at hSw); obtain ⟨hbx, q4⟩ := hSw; have q0 := hbx.p; have q1 := hbx.c; have q2 := hbx.s; clear hbx; go_simp; try with_reducible rfl)
                          simp only [Act.put, List.getElem_toArray, List.getElem_cons_zero, List.getElem_cons_succ, List.setIfInBounds_toArray, List.set_cons_zero, List.set_cons_succ]
                          refine Still.takeBy (i := 4) [7, 6, 5] (v := ?v705) (by kernel_rfl) (by kernel_rfl) rfl (by kernel_rfl) (by kernel_rfl) (by kernel_rfl) (fun _ _ _ h => h) (Or.inl ⟨by rfl, ?y705⟩) hHeld ?r705
                          case y705 => (intro w' hSw; (try dsimp only at hSw); obtain ⟨hbx, q4⟩ := hSw; have q0 := hbx.p; have q1 := hbx.c; have q2 := hbx.s; clear hbx; go_simp; try with_reducible rfl)
                          simp only [Act.put, List.getElem_toArray, List.getElem_cons_zero, List.getElem_cons_succ, List.setIfInBounds_toArray, List.set_cons_zero, List.set_cons_succ]
                          refine Still.takeBy (i := 5) [7, 6] (v := ?v706) (by kernel_rfl) (by kernel_rfl) rfl (by kernel_rfl) (by kernel_rfl) (by kernel_rfl) (fun _ _ _ h => h) (Or.inl ⟨by rfl, ?y706⟩) hHeld ?r706
                          case y706 => (intro w' hSw; (try dsimp only at hSw); obtain ⟨hbx, q4⟩ := hSw; have q0 := hbx.p; have q1 := hbx.c; have q2 := hbx.s; clear hbx; go_simp; try with_reducible rfl)
                          simp only [Act.put, List.getElem_toArray, List.getElem_cons_zero, List.getElem_cons_succ, List.setIfInBounds_toArray, List.set_cons_zero, List.set_cons_succ]
                          refine Still.all (rs := [6]) (by kernel_rfl) (by simp) (Still.one (i := 6) rfl rfl (fun K hK => ?_) (by simp))
                          refine wp_call 35 _ _ rfl ent_leads #[.agg #[.slice pa S.parts.length pc, .slice ca S.chans.length cc, .slice sa S.slots.length sc], .int .i64 (a : Int), .int .i64 lk] (by first | rfl | simp [Act.eval, Act.put, Edg.v]) ((leads_any S hcl a lk _ _ _ _ (HS.out.up (HT.out.trans (RowKit.Below.refl _ _).drew))).mono ?_)
                          rintro e V1 ⟨rfl, b5⟩
                          have HV : Hid (RowKit.Below W0.heap.size W0 V1) := Lib.hid ((HT.out.trans (RowKit.Below.refl _ _).drew).trans (b5.mono HT.out.size))
                          refine ⟨_, rfl, hK _ _ (fun _ => ⟨HB.out.up HV.out, bcl b5 (by show xb < wr.heap.size; omega) x0⟩) (fun hh => ?_)⟩
                          have hHeld := hh (by decide)
                          have HB5 := Lib.hid b5
                          clear hK K hh b5
                          try simp only [Act.put, List.getElem_toArray, List.getElem_cons_zero, List.getElem_cons_succ, List.setIfInBounds_toArray, List.set_cons_zero, List.set_cons_succ]
                          rw [hle]
                          refine Still.takeBy (i := 7) [] (v := ?v707) (by kernel_rfl) (by kernel_rfl) rfl (by kernel_rfl) (by kernel_rfl) (by kernel_rfl) (fun _ _ _ h => h) (Or.inl ⟨by rfl, ?y707⟩) hHeld ?r707
                          case y707 => (intro w' hSw; (try dsimp only at hSw); obtain ⟨hbx, q4⟩ := hSw; have q0 := hbx.p; have q1 := hbx.c; have q2 := hbx.s; clear hbx; go_simp; try with_reducible rfl)
                          simp only [Act.put, List.getElem_toArray, List.getElem_cons_zero, List.getElem_cons_succ, List.setIfInBounds_toArray, List.set_cons_zero, List.set_cons_succ]
                          refine Still.takeBy (i := 8) [11, 10] (by kernel_rfl) (by kernel_rfl) rfl (by kernel_rfl) (by kernel_rfl) (by kernel_rfl) (fun _ _ _ h => h) (Or.inr ⟨by rfl, rfl⟩) hHeld ?r708
                          simp only [Act.put, List.getElem_toArray, List.getElem_cons_zero, List.getElem_cons_succ, List.setIfInBounds_toArray, List.set_cons_zero, List.set_cons_succ]
                          refine Still.takeBy (i := 9) [11, 10] (by kernel_rfl) (by kernel_rfl) rfl (by kernel_rfl) (by kernel_rfl) (by kernel_rfl) (fun _ _ _ h => h) (Or.inr ⟨by rfl, rfl⟩) hHeld ?r709
                          simp only [Act.put, List.getElem_toArray, List.getElem_cons_zero, List.getElem_cons_succ, List.setIfInBounds_toArray, List.set_cons_zero, List.set_cons_succ]
                          refine Still.takeBy (i := 10) [11] (by kernel_rfl) (by kernel_rfl) rfl (by kernel_rfl) (by kernel_rfl) (by kernel_rfl) (fun _ _ _ h => h) (Or.inr ⟨by rfl, rfl⟩) hHeld ?r710
                          simp only [Act.put, List.getElem_toArray, List.getElem_cons_zero, List.getElem_cons_succ, List.setIfInBounds_toArray, List.set_cons_zero, List.set_cons_succ]
                          refine Still.takeBy (i := 11) [] (by kernel_rfl) (by kernel_rfl) rfl (by kernel_rfl) (by kernel_rfl) (by kernel_rfl) (fun _ _ _ h => h) (Or.inr ⟨by rfl, rfl⟩) hHeld ?r711
                          simp only [Act.put, List.getElem_toArray, List.getElem_cons_zero, List.getElem_cons_succ, List.setIfInBounds_toArray, List.set_cons_zero, List.set_cons_succ]
                          refine Still.all (rs := [12]) (by kernel_rfl) (by simp) (Still.one (i := 12) rfl rfl (fun K hK => ?_) (by simp))
                          go_simp
                          refine hK _ _ (fun h => absurd rfl h) (fun _ => ?_)
                          clear hK K
                          refine Still.over (by kernel_rfl) ?_ _
                          clear hHeld
                          go_wp2
                          go_roundw
                          case rel => exact ⟨a + 1, by go_num, by omega, HQ2, HV, Lib.hid (HI.out.trans ((RowKit.Below.refl _ _).drew.trans (HB5.out.mono HI.out.size)))⟩
                          case measure => simp [intOf]; omega
                        | true =>
                          cases hin : inB l a with
                          | true =>
                            have HQ2 : Hid (∀ b : Nat, b < a + 1 → leadsB S b lk = true → inB l b = true) := Lib.hid (fun b hb hl => by
                              by_cases e : b = a
                              · subst e; exact hin
                              · exact HQ.out b (by omega) hl)
                            go_upto_region 17 with fail
                            refine region_still (S := fun w' => Box w' w.heap.size (.slice pa S.parts.length pc) (.slice ca S.chans.length cc) (.slice sa S.slots.length sc) ∧ w'.cell? ⟨xb, xo + k, none⟩ = some (.int .i64 lk)) 12 (by kernel_rfl) ⟨HB.out.up (HT.out.trans (RowKit.Below.refl _ _).drew), x0⟩ (fun hHeld => ?_)
                            refine Still.takeBy (i := 0) [7, 6] (v := ?v731) (by kernel_rfl) (by kernel_rfl) rfl (by kernel_rfl) (by kernel_rfl) (by kernel_rfl) (fun _ _ _ h => h) (Or.inl ⟨by rfl, ?y731⟩) hHeld ?r731
                            case y731 => (intro w' hSw; (try dsimp only at hSw); obtain ⟨hbx, q4⟩ := hSw; have q0 := hbx.p; have q1 := hbx.c; have q2 := hbx.s; clear hbx; go_simp; try with_reducible rfl)
                            simp only [Act.put, List.getElem_toArray, List.getElem_cons_zero, List.getElem_cons_succ, List.setIfInBounds_toArray, List.set_cons_zero, List.set_cons_succ]
                            refine Still.takeBy (i := 1) [7, 6] (v := ?v732) (by kernel_rfl) (by kernel_rfl) rfl (by kernel_rfl) (by kernel_rfl) (by kernel_rfl) (fun _ _ _ h => h) (Or.inl ⟨by rfl, ?y732⟩) hHeld ?r732
                            case y732 => (intro w' hSw; (try dsimp only at hSw); obtain ⟨hbx, q4⟩ := hSw; have q0 := hbx.p; have q1 := hbx.c; have q2 := hbx.s; clear hbx; go_simp; try with_reducible rfl)
                            simp only [Act.put, List.getElem_toArray, List.getElem_cons_zero, List.getElem_cons_succ, List.setIfInBounds_toArray, List.set_cons_zero, List.set_cons_succ]
                            refine Still.takeBy (i := 2) [7, 6, 5, 4] (v := ?v733) (by kernel_rfl) (by kernel_rfl) rfl (by kernel_rfl) (by kernel_rfl) (by kernel_rfl) (fun _ _ _ h => h) (Or.inl ⟨by rfl, ?y733⟩) hHeld ?r733
                            case y733 => (intro w' hSw; (try dsimp only at hSw); obtain ⟨hbx, q4⟩ := hSw; have q0 := hbx.p; have q1 := hbx.c; have q2 := hbx.s; clear hbx; go_simp; try with_reducible rfl)
                            simp only [Act.put, List.getElem_toArray, List.getElem_cons_zero, List.getElem_cons_succ, List.setIfInBounds_toArray, List.set_cons_zero, List.set_cons_succ]
                            refine Still.takeBy (i := 3) [7, 6, 5, 4] (v := ?v734) (by kernel_rfl) (by kernel_rfl) rfl (by kernel_rfl) (by kernel_rfl) (by kernel_rfl) (fun _ _ _ h => h) (Or.inl ⟨by rfl, ?y734⟩) hHeld ?r734
                            case y734 => (intro w' hSw; (try dsimp only at hSw); obtain ⟨hbx, q4⟩ := hSw; have q0 := hbx.p; have q1 := hbx.c; have q2 := hbx.s; clear hbx; go_simp; try with_reducible rfl)
                            simp only [Act.put, List.getElem_toArray, List.getElem_cons_zero, List.getElem_cons_succ, List.setIfInBounds_toArray, List.set_cons_zero, List.set_cons_succ]
                            refine Still.takeBy (i := 4) [7, 6, 5] (v := ?v735) (by kernel_rfl) (by kernel_rfl) rfl (by kernel_rfl) (by kernel_rfl) (by kernel_rfl) (fun _ _ _ h => h) (Or.inl ⟨by rfl, ?y735⟩) hHeld ?r735
                            case y735 => (intro w' hSw; (try dsimp only at hSw); obtain ⟨hbx, q4⟩ := hSw; have q0 := hbx.p; have q1 := hbx.c; have q2 := hbx.s; clear hbx; go_simp; try with_reducible rfl)
                            simp only [Act.put, List.getElem_toArray, List.getElem_cons_zero, List.getElem_cons_succ, List.setIfInBounds_toArray, List.set_cons_zero, List.set_cons_succ]
                            refine Still.takeBy (i := 5) [7, 6] (v := ?v736) (by kernel_rfl) (by kernel_rfl) rfl (by kernel_rfl) (by kernel_rfl) (by kernel_rfl) (fun _ _ _ h => h) (Or.inl ⟨by rfl, ?y736⟩) hHeld ?r736
                            case y736 => (intro w' hSw; (try dsimp only at hSw); obtain ⟨hbx, q4⟩ := hSw; have q0 := hbx.p; have q1 := hbx.c; have q2 := hbx.s; clear hbx; go_simp; try with_reducible rfl)
                            simp only [Act.put, List.getElem_toArray, List.getElem_cons_zero, List.getElem_cons_succ, List.setIfInBounds_toArray, List.set_cons_zero, List.set_cons_succ]
                            refine Still.all (rs := [6]) (by kernel_rfl) (by simp) (Still.one (i := 6) rfl rfl (fun K hK => ?_) (by simp))
                            refine wp_call 35 _ _ rfl ent_leads #[.agg #[.slice pa S.parts.length pc, .slice ca S.chans.length cc, .slice sa S.slots.length sc], .int .i64 (a : Int), .int .i64 lk] (by first | rfl | simp [Act.eval, Act.put, Edg.v]) ((leads_any S hcl a lk _ _ _ _ (HS.out.up (HT.out.trans (RowKit.Below.refl _ _).drew))).mono ?_)
                            rintro e V1 ⟨rfl, b5⟩
                            have HV : Hid (RowKit.Below W0.heap.size W0 V1) := Lib.hid ((HT.out.trans (RowKit.Below.refl _ _).drew).trans (b5.mono HT.out.size))
                            refine ⟨_, rfl, hK _ _ (fun _ => ⟨HB.out.up HV.out, bcl b5 (by show xb < wr.heap.size; omega) x0⟩) (fun hh => ?_)⟩
                            have hHeld := hh (by decide)
                            have HB5 := Lib.hid b5
                            clear hK K hh b5
                            try simp only [Act.put, List.getElem_toArray, List.getElem_cons_zero, List.getElem_cons_succ, List.setIfInBounds_toArray, List.set_cons_zero, List.set_cons_succ]
                            rw [hle]
                            refine Still.takeBy (i := 7) [] (v := ?v737) (by kernel_rfl) (by kernel_rfl) rfl (by kernel_rfl) (by kernel_rfl) (by kernel_rfl) (fun _ _ _ h => h) (Or.inl ⟨by rfl, ?y737⟩) hHeld ?r737
                            case y737 => (intro w' hSw; (try dsimp only at hSw); obtain ⟨hbx, q4⟩ := hSw; have q0 := hbx.p; have q1 := hbx.c; have q2 := hbx.s; clear hbx; go_simp; try with_reducible rfl)
                            simp only [Act.put, List.getElem_toArray, List.getElem_cons_zero, List.getElem_cons_succ, List.setIfInBounds_toArray, List.set_cons_zero, List.set_cons_succ]
                            refine Still.takeBy (i := 8) [11, 10] (v := ?v738) (by kernel_rfl) (by kernel_rfl) rfl (by kernel_rfl) (by kernel_rfl) (by kernel_rfl) (fun _ _ _ h => h) (Or.inl ⟨by rfl, ?y738⟩) hHeld ?r738
                            case y738 => (intro w' hSw; (try dsimp only at hSw); obtain ⟨hbx, q4⟩ := hSw; have q0 := hbx.p; have q1 := hbx.c; have q2 := hbx.s; clear hbx; go_simp; try with_reducible rfl)
                            simp only [Act.put, List.getElem_toArray, List.getElem_cons_zero, List.getElem_cons_succ, List.setIfInBounds_toArray, List.set_cons_zero, List.set_cons_succ]
                            refine Still.takeBy (i := 9) [11, 10] (v := ?v739) (by kernel_rfl) (by kernel_rfl) rfl (by kernel_rfl) (by kernel_rfl) (by kernel_rfl) (fun _ _ _ h => h) (Or.inl ⟨by rfl, ?y739⟩) hHeld ?r739
                            case y739 => (intro w' hSw; (try dsimp only at hSw); obtain ⟨hbx, q4⟩ := hSw; have q0 := hbx.p; have q1 := hbx.c; have q2 := hbx.s; clear hbx; go_simp; try with_reducible rfl)
                            simp only [Act.put, List.getElem_toArray, List.getElem_cons_zero, List.getElem_cons_succ, List.setIfInBounds_toArray, List.set_cons_zero, List.set_cons_succ]
                            refine Still.all (rs := [10]) (by kernel_rfl) (by simp) (Still.oneG (i := 10) rfl (by rfl) (fun K hK => ?_) (by simp))
                            refine wp_call 55 _ _ rfl ent_in #[.slice (some ⟨xb, xo, none⟩) l.length xc, .int .i64 (a : Int)] (by first | rfl | simp [Act.eval, Act.put, Edg.v]) ((refIn_any l a _ _ (HXS.out.up (HI.out.trans ((RowKit.Below.refl _ _).drew.trans (HB5.out.mono HI.out.size)))) hll).mono ?_)
                            rintro e V2 ⟨rfl, hW⟩
                            have hW2 := hW.symm
                            subst hW2
                            clear hW
                            refine ⟨_, rfl, hK _ _ (fun _ => hHeld) (fun hh => ?_)⟩
                            clear hK K hh
                            try simp only [Act.put, List.getElem_toArray, List.getElem_cons_zero, List.getElem_cons_succ, List.setIfInBounds_toArray, List.set_cons_zero, List.set_cons_succ]
                            rw [hin]
                            refine Still.takeBy (i := 11) [] (v := ?v740) (by kernel_rfl) (by kernel_rfl) rfl (by kernel_rfl) (by kernel_rfl) (by kernel_rfl) (fun _ _ _ h => h) (Or.inl ⟨by rfl, ?y740⟩) hHeld ?r740
                            case y740 => (intro w' hSw; (try dsimp only at hSw); obtain ⟨hbx, q4⟩ := hSw; have q0 := hbx.p; have q1 := hbx.c; have q2 := hbx.s; clear hbx; go_simp; try with_reducible rfl)
                            simp only [Act.put, List.getElem_toArray, List.getElem_cons_zero, List.getElem_cons_succ, List.setIfInBounds_toArray, List.set_cons_zero, List.set_cons_succ]
                            refine Still.all (rs := [12]) (by kernel_rfl) (by simp) (Still.one (i := 12) rfl rfl (fun K hK => ?_) (by simp))
                            go_simp
                            refine hK _ _ (fun h => absurd rfl h) (fun _ => ?_)
                            clear hK K
                            refine Still.over (by kernel_rfl) ?_ _
                            clear hHeld
                            go_wp2
                            go_roundw
                            case rel => exact ⟨a + 1, by go_num, by omega, HQ2, HV, Lib.hid (HI.out.trans ((RowKit.Below.refl _ _).drew.trans (HB5.out.mono HI.out.size)))⟩
                            case measure => simp [intOf]; omega
                          | false =>
                            have HBD := Lib.hid (HBC.out a hal hle hin)
                            go_upto_region 17 with fail
                            refine region_still (S := fun w' => Box w' w.heap.size (.slice pa S.parts.length pc) (.slice ca S.chans.length cc) (.slice sa S.slots.length sc) ∧ w'.cell? ⟨xb, xo + k, none⟩ = some (.int .i64 lk)) 12 (by kernel_rfl) ⟨HB.out.up (HT.out.trans (RowKit.Below.refl _ _).drew), x0⟩ (fun hHeld => ?_)
                            refine Still.takeBy (i := 0) [7, 6] (v := ?v761) (by kernel_rfl) (by kernel_rfl) rfl (by kernel_rfl) (by kernel_rfl) (by kernel_rfl) (fun _ _ _ h => h) (Or.inl ⟨by rfl, ?y761⟩) hHeld ?r761
                            case y761 => (intro w' hSw; (try dsimp only at hSw); obtain ⟨hbx, q4⟩ := hSw; have q0 := hbx.p; have q1 := hbx.c; have q2 := hbx.s; clear hbx; go_simp; try with_reducible rfl)
                            simp only [Act.put, List.getElem_toArray, List.getElem_cons_zero, List.getElem_cons_succ, List.setIfInBounds_toArray, List.set_cons_zero, List.set_cons_succ]
                            refine Still.takeBy (i := 1) [7, 6] (v := ?v762) (by kernel_rfl) (by kernel_rfl) rfl (by kernel_rfl) (by kernel_rfl) (by kernel_rfl) (fun _ _ _ h => h) (Or.inl ⟨by rfl, ?y762⟩) hHeld ?r762
                            case y762 => (intro w' hSw; (try dsimp only at hSw); obtain ⟨hbx, q4⟩ := hSw; have q0 := hbx.p; have q1 := hbx.c; have q2 := hbx.s; clear hbx; go_simp; try with_reducible rfl)
                            simp only [Act.put, List.getElem_toArray, List.getElem_cons_zero, List.getElem_cons_succ, List.setIfInBounds_toArray, List.set_cons_zero, List.set_cons_succ]
                            refine Still.takeBy (i := 2) [7, 6, 5, 4] (v := ?v763) (by kernel_rfl) (by kernel_rfl) rfl (by kernel_rfl) (by kernel_rfl) (by kernel_rfl) (fun _ _ _ h => h) (Or.inl ⟨by rfl, ?y763⟩) hHeld ?r763
                            case y763 => (intro w' hSw; (try dsimp only at hSw); obtain ⟨hbx, q4⟩ := hSw; have q0 := hbx.p; have q1 := hbx.c; have q2 := hbx.s; clear hbx; go_simp; try with_reducible rfl)
                            simp only [Act.put, List.getElem_toArray, List.getElem_cons_zero, List.getElem_cons_succ, List.setIfInBounds_toArray, List.set_cons_zero, List.set_cons_succ]
                            refine Still.takeBy (i := 3) [7, 6, 5, 4] (v := ?v764) (by kernel_rfl) (by kernel_rfl) rfl (by kernel_rfl) (by kernel_rfl) (by kernel_rfl) (fun _ _ _ h => h) (Or.inl ⟨by rfl, ?y764⟩) hHeld ?r764
                            case y764 => (intro w' hSw; (try dsimp only at hSw); obtain ⟨hbx, q4⟩ := hSw; have q0 := hbx.p; have q1 := hbx.c; have q2 := hbx.s; clear hbx; go_simp; try with_reducible rfl)
                            simp only [Act.put, List.getElem_toArray, List.getElem_cons_zero, List.getElem_cons_succ, List.setIfInBounds_toArray, List.set_cons_zero, List.set_cons_succ]
                            refine Still.takeBy (i := 4) [7, 6, 5] (v := ?v765) (by kernel_rfl) (by kernel_rfl) rfl (by kernel_rfl) (by kernel_rfl) (by kernel_rfl) (fun _ _ _ h => h) (Or.inl ⟨by rfl, ?y765⟩) hHeld ?r765
                            case y765 => (intro w' hSw; (try dsimp only at hSw); obtain ⟨hbx, q4⟩ := hSw; have q0 := hbx.p; have q1 := hbx.c; have q2 := hbx.s; clear hbx; go_simp; try with_reducible rfl)
                            simp only [Act.put, List.getElem_toArray, List.getElem_cons_zero, List.getElem_cons_succ, List.setIfInBounds_toArray, List.set_cons_zero, List.set_cons_succ]
                            refine Still.takeBy (i := 5) [7, 6] (v := ?v766) (by kernel_rfl) (by kernel_rfl) rfl (by kernel_rfl) (by kernel_rfl) (by kernel_rfl) (fun _ _ _ h => h) (Or.inl ⟨by rfl, ?y766⟩) hHeld ?r766
                            case y766 => (intro w' hSw; (try dsimp only at hSw); obtain ⟨hbx, q4⟩ := hSw; have q0 := hbx.p; have q1 := hbx.c; have q2 := hbx.s; clear hbx; go_simp; try with_reducible rfl)
                            simp only [Act.put, List.getElem_toArray, List.getElem_cons_zero, List.getElem_cons_succ, List.setIfInBounds_toArray, List.set_cons_zero, List.set_cons_succ]
                            refine Still.all (rs := [6]) (by kernel_rfl) (by simp) (Still.one (i := 6) rfl rfl (fun K hK => ?_) (by simp))
                            refine wp_call 35 _ _ rfl ent_leads #[.agg #[.slice pa S.parts.length pc, .slice ca S.chans.length cc, .slice sa S.slots.length sc], .int .i64 (a : Int), .int .i64 lk] (by first | rfl | simp [Act.eval, Act.put, Edg.v]) ((leads_any S hcl a lk _ _ _ _ (HS.out.up (HT.out.trans (RowKit.Below.refl _ _).drew))).mono ?_)
                            rintro e V1 ⟨rfl, b5⟩
                            have HV : Hid (RowKit.Below W0.heap.size W0 V1) := Lib.hid ((HT.out.trans (RowKit.Below.refl _ _).drew).trans (b5.mono HT.out.size))
                            refine ⟨_, rfl, hK _ _ (fun _ => ⟨HB.out.up HV.out, bcl b5 (by show xb < wr.heap.size; omega) x0⟩) (fun hh => ?_)⟩
                            have hHeld := hh (by decide)
                            have HB5 := Lib.hid b5
                            clear hK K hh b5
                            try simp only [Act.put, List.getElem_toArray, List.getElem_cons_zero, List.getElem_cons_succ, List.setIfInBounds_toArray, List.set_cons_zero, List.set_cons_succ]
                            rw [hle]
                            refine Still.takeBy (i := 7) [] (v := ?v767) (by kernel_rfl) (by kernel_rfl) rfl (by kernel_rfl) (by kernel_rfl) (by kernel_rfl) (fun _ _ _ h => h) (Or.inl ⟨by rfl, ?y767⟩) hHeld ?r767
                            case y767 => (intro w' hSw; (try dsimp only at hSw); obtain ⟨hbx, q4⟩ := hSw; have q0 := hbx.p; have q1 := hbx.c; have q2 := hbx.s; clear hbx; go_simp; try with_reducible rfl)
                            simp only [Act.put, List.getElem_toArray, List.getElem_cons_zero, List.getElem_cons_succ, List.setIfInBounds_toArray, List.set_cons_zero, List.set_cons_succ]
                            refine Still.takeBy (i := 8) [11, 10] (v := ?v768) (by kernel_rfl) (by kernel_rfl) rfl (by kernel_rfl) (by kernel_rfl) (by kernel_rfl) (fun _ _ _ h => h) (Or.inl ⟨by rfl, ?y768⟩) hHeld ?r768
                            case y768 => (intro w' hSw; (try dsimp only at hSw); obtain ⟨hbx, q4⟩ := hSw; have q0 := hbx.p; have q1 := hbx.c; have q2 := hbx.s; clear hbx; go_simp; try with_reducible rfl)
                            simp only [Act.put, List.getElem_toArray, List.getElem_cons_zero, List.getElem_cons_succ, List.setIfInBounds_toArray, List.set_cons_zero, List.set_cons_succ]
                            refine Still.takeBy (i := 9) [11, 10] (v := ?v769) (by kernel_rfl) (by kernel_rfl) rfl (by kernel_rfl) (by kernel_rfl) (by kernel_rfl) (fun _ _ _ h => h) (Or.inl ⟨by rfl, ?y769⟩) hHeld ?r769
                            case y769 => (intro w' hSw; (try dsimp only at hSw); obtain ⟨hbx, q4⟩ := hSw; have q0 := hbx.p; have q1 := hbx.c; have q2 := hbx.s; clear hbx; go_simp; try with_reducible rfl)
                            simp only [Act.put, List.getElem_toArray, List.getElem_cons_zero, List.getElem_cons_succ, List.setIfInBounds_toArray, List.set_cons_zero, List.set_cons_succ]
                            refine Still.all (rs := [10]) (by kernel_rfl) (by simp) (Still.oneG (i := 10) rfl (by rfl) (fun K hK => ?_) (by simp))
                            refine wp_call 55 _ _ rfl ent_in #[.slice (some ⟨xb, xo, none⟩) l.length xc, .int .i64 (a : Int)] (by first | rfl | simp [Act.eval, Act.put, Edg.v]) ((refIn_any l a _ _ (HXS.out.up (HI.out.trans ((RowKit.Below.refl _ _).drew.trans (HB5.out.mono HI.out.size)))) hll).mono ?_)
                            rintro e V2 ⟨rfl, hW⟩
                            have hW2 := hW.symm
                            subst hW2
                            clear hW
                            refine ⟨_, rfl, hK _ _ (fun _ => hHeld) (fun hh => ?_)⟩
                            clear hK K hh
                            try simp only [Act.put, List.getElem_toArray, List.getElem_cons_zero, List.getElem_cons_succ, List.setIfInBounds_toArray, List.set_cons_zero, List.set_cons_succ]
                            rw [hin]
                            refine Still.takeBy (i := 11) [] (v := ?v770) (by kernel_rfl) (by kernel_rfl) rfl (by kernel_rfl) (by kernel_rfl) (by kernel_rfl) (fun _ _ _ h => h) (Or.inl ⟨by rfl, ?y770⟩) hHeld ?r770
                            case y770 => (intro w' hSw; (try dsimp only at hSw); obtain ⟨hbx, q4⟩ := hSw; have q0 := hbx.p; have q1 := hbx.c; have q2 := hbx.s; clear hbx; go_simp; try with_reducible rfl)
                            simp only [Act.put, List.getElem_toArray, List.getElem_cons_zero, List.getElem_cons_succ, List.setIfInBounds_toArray, List.set_cons_zero, List.set_cons_succ]
                            refine Still.all (rs := [12]) (by kernel_rfl) (by simp) (Still.one (i := 12) rfl rfl (fun K hK => ?_) (by simp))
                            go_simp
                            refine hK _ _ (fun h => absurd rfl h) (fun _ => ?_)
                            clear hK K
                            refine Still.over (by kernel_rfl) ?_ _
                            clear hHeld
                            go_wp2
                            go_ret
                            exact ⟨ret_bool HBD.out.symm, D0.out.trans (HV.out.mono D0.out.size)⟩
                      · have hai : ¬ (a : Int) < S.parts.length := by omega
                        have HS3 := Lib.hid (HS2.out (fun b hb hl => HQ.out b (by omega) hl))
                        go_wp2
                        go_roundw
                        case rel => exact ⟨k + 1, by go_num, by omega, HS3, HT, Lib.hid (HO.out.trans (((RowKit.Below.refl _ _).drew.trans (HVI0.out.mono (Nat.le_refl _))).mono HO.out.size |>.trans (HI.out.mono (Nat.le_trans HO.out.size HVI0.out.size))))⟩
                        case measure => simp [intOf]; omega
                · have HBD := Lib.hid (HBAD.out (HRI.out h0 hls))
                  clear HW HRI HMA HCD HSTP HBAD HST
                  generalize (l[k - 1]'(by omega)) = lj at x1 hls
                  have hwr : IntKind.i64.wrap ((k : Int) - 1) = ((k - 1 : Nat) : Int) := by simp [IntKind.wrap, IntKind.bits, IntKind.signed]; omega
                  have hkj : ((k - 1 : Nat) : Int) < l.length := by omega
                  generalize k - 1 = j at x1 hwr hkj
                  have hge : decide (lk ≤ lj) = true := by simpa using hls
                  clear hls
                  go_upto_region 12 with fail
                  refine region_still (S := fun w' => Box w' w.heap.size (.slice pa S.parts.length pc) (.slice ca S.chans.length cc) (.slice sa S.slots.length sc) ∧ w'.cell? ⟨w.heap.size + 1, 0, none⟩ = some (.slice la L.length lc) ∧ w'.cell? ⟨xb, xo + k, none⟩ = some (.int .i64 lk) ∧ w'.cell? ⟨xb, xo + j, none⟩ = some (.int .i64 lj)) 35 (by kernel_rfl) ⟨HB.out.up (HT.out.trans (RowKit.Below.refl _ _).drew), y3, x0, x1⟩ (fun hHeld => ?_)
                  refine Still.takeBy (i := 0) [26, 25, 10, 8, 3, 2] (v := ?v901) (by kernel_rfl) (by kernel_rfl) rfl (by kernel_rfl) (by kernel_rfl) (by kernel_rfl) (fun _ _ _ h => h) (Or.inl ⟨by rfl, ?y901⟩) hHeld ?r901
                  case y901 => (intro w' hSw; (try dsimp only at hSw); obtain ⟨hbx, q3, q4, q5⟩ := hSw; have q0 := hbx.p; clear hbx; go_simp; try with_reducible rfl)
                  simp only [Act.put, List.getElem_toArray, List.getElem_cons_zero, List.getElem_cons_succ, List.setIfInBounds_toArray, List.set_cons_zero, List.set_cons_succ]
                  refine Still.takeBy (i := 1) [26, 25, 10, 8, 3, 2] (v := ?v902) (by kernel_rfl) (by kernel_rfl) rfl (by kernel_rfl) (by kernel_rfl) (by kernel_rfl) (fun _ _ _ h => h) (Or.inl ⟨by rfl, ?y902⟩) hHeld ?r902
                  case y902 => (intro w' hSw; (try dsimp only at hSw); obtain ⟨hbx, q3, q4, q5⟩ := hSw; have q0 := hbx.p; clear hbx; go_simp; try with_reducible rfl)
                  simp only [Act.put, List.getElem_toArray, List.getElem_cons_zero, List.getElem_cons_succ, List.setIfInBounds_toArray, List.set_cons_zero, List.set_cons_succ]
                  refine Still.takeBy (i := 2) [26, 25, 10, 8, 3] (v := ?v903) (by kernel_rfl) (by kernel_rfl) rfl (by kernel_rfl) (by kernel_rfl) (by kernel_rfl) (fun _ _ _ h => h) (Or.inl ⟨by rfl, ?y903⟩) hHeld ?r903
                  case y903 => (intro w' hSw; (try dsimp only at hSw); obtain ⟨hbx, q3, q4, q5⟩ := hSw; have q0 := hbx.p; clear hbx; go_simp; try with_reducible rfl)
                  simp only [Act.put, List.getElem_toArray, List.getElem_cons_zero, List.getElem_cons_succ, List.setIfInBounds_toArray, List.set_cons_zero, List.set_cons_succ]
                  refine Still.takeBy (i := 3) [26, 25, 10, 8] (v := ?v904) (by kernel_rfl) (by kernel_rfl) rfl (by kernel_rfl) (by kernel_rfl) (by kernel_rfl) (fun _ _ _ h => h) (Or.inl ⟨by rfl, ?y904⟩) hHeld ?r904
                  case y904 => (intro w' hSw; (try dsimp only at hSw); obtain ⟨hbx, q3, q4, q5⟩ := hSw; have q0 := hbx.p; clear hbx; go_simp; try with_reducible rfl)
                  simp only [Act.put, List.getElem_toArray, List.getElem_cons_zero, List.getElem_cons_succ, List.setIfInBounds_toArray, List.set_cons_zero, List.set_cons_succ]
                  refine Still.takeBy (i := 4) [26, 25, 10, 8, 7, 6, 5] (v := ?v905) (by kernel_rfl) (by kernel_rfl) rfl (by kernel_rfl) (by kernel_rfl) (by kernel_rfl) (fun _ _ _ h => h) (Or.inl ⟨by rfl, ?y905⟩) hHeld ?r905
                  case y905 => (intro w' hSw; (try dsimp only at hSw); obtain ⟨hbx, q3, q4, q5⟩ := hSw; have q0 := hbx.p; clear hbx; go_simp; try with_reducible rfl)
                  simp only [Act.put, List.getElem_toArray, List.getElem_cons_zero, List.getElem_cons_succ, List.setIfInBounds_toArray, List.set_cons_zero, List.set_cons_succ]
                  refine Still.takeBy (i := 5) [26, 25, 10, 8, 7, 6] (v := ?v906) (by kernel_rfl) (by kernel_rfl) rfl (by kernel_rfl) (by kernel_rfl) (by kernel_rfl) (fun _ _ _ h => h) (Or.inl ⟨by rfl, ?y906⟩) hHeld ?r906
                  case y906 => (intro w' hSw; (try dsimp only at hSw); obtain ⟨hbx, q3, q4, q5⟩ := hSw; have q0 := hbx.p; clear hbx; go_simp; try with_reducible rfl)
                  simp only [Act.put, List.getElem_toArray, List.getElem_cons_zero, List.getElem_cons_succ, List.setIfInBounds_toArray, List.set_cons_zero, List.set_cons_succ]
                  refine Still.takeBy (i := 6) [26, 25, 10, 8, 7] (v := ?v907) (by kernel_rfl) (by kernel_rfl) rfl (by kernel_rfl) (by kernel_rfl) (by kernel_rfl) (fun _ _ _ h => h) (Or.inl ⟨by rfl, ?y907⟩) hHeld ?r907
                  case y907 => (intro w' hSw; (try dsimp only at hSw); obtain ⟨hbx, q3, q4, q5⟩ := hSw; have q0 := hbx.p; clear hbx; go_simp; try with_reducible rfl)
                  simp only [Act.put, List.getElem_toArray, List.getElem_cons_zero, List.getElem_cons_succ, List.setIfInBounds_toArray, List.set_cons_zero, List.set_cons_succ]
                  refine Still.takeBy (i := 7) [26, 25, 10, 8] (v := ?v908) (by kernel_rfl) (by kernel_rfl) rfl (by kernel_rfl) (by kernel_rfl) (by kernel_rfl) (fun _ _ _ h => h) (Or.inl ⟨by rfl, ?y908⟩) hHeld ?r908
                  case y908 => (intro w' hSw; (try dsimp only at hSw); obtain ⟨hbx, q3, q4, q5⟩ := hSw; have q0 := hbx.p; clear hbx; go_simp; try with_reducible rfl)
                  simp only [Act.put, List.getElem_toArray, List.getElem_cons_zero, List.getElem_cons_succ, List.setIfInBounds_toArray, List.set_cons_zero, List.set_cons_succ]
                  refine Still.all (rs := [8]) (by kernel_rfl) (by simp) (Still.one (i := 8) rfl rfl (fun K hK => ?_) (by simp))
                  refine wp_call 32 _ _ rfl ent_within #[.int .i64 lk, .int .i64 0, .int .i64 ((S.parts.length : Int) - 1)] (by first | rfl | simp [Act.eval, Act.put, hwp]) ((within_any _ _ _ _).mono ?_)
                  rintro e V ⟨rfl, rfl⟩
                  refine ⟨_, rfl, hK _ _ (fun _ => hHeld) (fun hh => ?_)⟩
                  clear hK K hh
                  try simp only [Act.put, List.getElem_toArray, List.getElem_cons_zero, List.getElem_cons_succ, List.setIfInBounds_toArray, List.set_cons_zero, List.set_cons_succ]
                  rw [hA]
                  refine Still.takeBy (i := 9) [26, 25, 10] (v := ?v909) (by kernel_rfl) (by kernel_rfl) rfl (by kernel_rfl) (by kernel_rfl) (by kernel_rfl) (fun _ _ _ h => h) (Or.inl ⟨by rfl, ?y909⟩) hHeld ?r909
                  case y909 => (intro w' hSw; (try dsimp only at hSw); obtain ⟨hbx, q3, q4, q5⟩ := hSw; have q0 := hbx.p; clear hbx; go_simp; try with_reducible rfl)
                  simp only [Act.put, List.getElem_toArray, List.getElem_cons_zero, List.getElem_cons_succ, List.setIfInBounds_toArray, List.set_cons_zero, List.set_cons_succ]
                  refine Still.takeBy (i := 10) [26, 25] (v := ?v910) (by kernel_rfl) (by kernel_rfl) rfl (by kernel_rfl) (by kernel_rfl) (by kernel_rfl) (fun _ _ _ h => h) (Or.inl ⟨by rfl, ?y910⟩) hHeld ?r910
                  case y910 => (intro w' hSw; (try dsimp only at hSw); obtain ⟨hbx, q3, q4, q5⟩ := hSw; have q0 := hbx.p; clear hbx; go_simp; try with_reducible rfl)
                  simp only [Act.put, List.getElem_toArray, List.getElem_cons_zero, List.getElem_cons_succ, List.setIfInBounds_toArray, List.set_cons_zero, List.set_cons_succ]
                  refine Still.takeBy (i := 11) [26, 13, 12] (v := ?v911) (by kernel_rfl) (by kernel_rfl) rfl (by kernel_rfl) (by kernel_rfl) (by kernel_rfl) (fun _ _ _ h => h) (Or.inl ⟨by rfl, ?y911⟩) hHeld ?r911
                  case y911 => (intro w' hSw; (try dsimp only at hSw); obtain ⟨hbx, q3, q4, q5⟩ := hSw; have q0 := hbx.p; clear hbx; go_simp; try with_reducible rfl)
                  simp only [Act.put, List.getElem_toArray, List.getElem_cons_zero, List.getElem_cons_succ, List.setIfInBounds_toArray, List.set_cons_zero, List.set_cons_succ]
                  refine Still.takeBy (i := 12) [26, 13] (v := ?v912) (by kernel_rfl) (by kernel_rfl) rfl (by kernel_rfl) (by kernel_rfl) (by kernel_rfl) (fun _ _ _ h => h) (Or.inl ⟨by rfl, ?y912⟩) hHeld ?r912
                  case y912 => (intro w' hSw; (try dsimp only at hSw); obtain ⟨hbx, q3, q4, q5⟩ := hSw; have q0 := hbx.p; clear hbx; go_simp; try with_reducible rfl)
                  simp only [Act.put, List.getElem_toArray, List.getElem_cons_zero, List.getElem_cons_succ, List.setIfInBounds_toArray, List.set_cons_zero, List.set_cons_succ]
                  refine Still.takeBy (i := 13) [26] (v := ?v913) (by kernel_rfl) (by kernel_rfl) rfl (by kernel_rfl) (by kernel_rfl) (by kernel_rfl) (fun _ _ _ h => h) (Or.inl ⟨by rfl, ?y913⟩) hHeld ?r913
                  case y913 => (intro w' hSw; (try dsimp only at hSw); obtain ⟨hbx, q3, q4, q5⟩ := hSw; have q0 := hbx.p; clear hbx; go_simp; try with_reducible rfl)
                  simp only [Act.put, List.getElem_toArray, List.getElem_cons_zero, List.getElem_cons_succ, List.setIfInBounds_toArray, List.set_cons_zero, List.set_cons_succ]
                  refine Still.takeBy (i := 14) [26, 25, 24, 23, 18, 17] (v := ?v914) (by kernel_rfl) (by kernel_rfl) rfl (by kernel_rfl) (by kernel_rfl) (by kernel_rfl) (fun _ _ _ h => h) (Or.inl ⟨by rfl, ?y914⟩) hHeld ?r914
                  case y914 => (intro w' hSw; (try dsimp only at hSw); obtain ⟨hbx, q3, q4, q5⟩ := hSw; have q0 := hbx.p; clear hbx; go_simp; try with_reducible rfl)
                  simp only [Act.put, List.getElem_toArray, List.getElem_cons_zero, List.getElem_cons_succ, List.setIfInBounds_toArray, List.set_cons_zero, List.set_cons_succ]
                  refine Still.takeBy (i := 15) [26, 25, 24, 23, 18, 17, 16] (v := ?v915) (by kernel_rfl) (by kernel_rfl) rfl (by kernel_rfl) (by kernel_rfl) (by kernel_rfl) (fun _ _ _ h => h) (Or.inl ⟨by rfl, ?y915⟩) hHeld ?r915
                  case y915 => (intro w' hSw; (try dsimp only at hSw); obtain ⟨hbx, q3, q4, q5⟩ := hSw; have q0 := hbx.p; clear hbx; go_simp; try with_reducible rfl)
                  simp only [Act.put, List.getElem_toArray, List.getElem_cons_zero, List.getElem_cons_succ, List.setIfInBounds_toArray, List.set_cons_zero, List.set_cons_succ]
                  refine Still.takeBy (i := 16) [26, 25, 24, 23, 18, 17] (v := ?v916) (by kernel_rfl) (by kernel_rfl) rfl (by kernel_rfl) (by kernel_rfl) (by kernel_rfl) (fun _ _ _ h => h) (Or.inl ⟨by rfl, ?y916⟩) hHeld ?r916
                  case y916 => (intro w' hSw; (try dsimp only at hSw); obtain ⟨hbx, q3, q4, q5⟩ := hSw; have q0 := hbx.p; clear hbx; go_simp; try with_reducible rfl)
                  simp only [Act.put, List.getElem_toArray, List.getElem_cons_zero, List.getElem_cons_succ, List.setIfInBounds_toArray, List.set_cons_zero, List.set_cons_succ]
                  refine Still.takeBy (i := 17) [26, 25, 24, 23, 18] (v := ?v917) (by kernel_rfl) (by kernel_rfl) rfl (by kernel_rfl) (by kernel_rfl) (by kernel_rfl) (fun _ _ _ h => h) (Or.inl ⟨by rfl, ?y917⟩) hHeld ?r917
                  case y917 => (intro w' hSw; (try dsimp only at hSw); obtain ⟨hbx, q3, q4, q5⟩ := hSw; have q0 := hbx.p; clear hbx; go_simp; try with_reducible rfl)
                  simp only [Act.put, List.getElem_toArray, List.getElem_cons_zero, List.getElem_cons_succ, List.setIfInBounds_toArray, List.set_cons_zero, List.set_cons_succ]
                  refine Still.takeBy (i := 18) [26, 25, 24, 23] (v := ?v918) (by kernel_rfl) (by kernel_rfl) rfl (by kernel_rfl) (by kernel_rfl) (by kernel_rfl) (fun _ _ _ h => h) (Or.inl ⟨by rfl, ?y918⟩) hHeld ?r918
                  case y918 => (intro w' hSw; (try dsimp only at hSw); obtain ⟨hbx, q3, q4, q5⟩ := hSw; have q0 := hbx.p; clear hbx; go_simp; try with_reducible rfl)
                  simp only [Act.put, List.getElem_toArray, List.getElem_cons_zero, List.getElem_cons_succ, List.setIfInBounds_toArray, List.set_cons_zero, List.set_cons_succ]
                  refine Still.takeBy (i := 19) [26, 25, 24, 23, 22, 21] (v := ?v919) (by kernel_rfl) (by kernel_rfl) rfl (by kernel_rfl) (by kernel_rfl) (by kernel_rfl) (fun _ _ _ h => h) (Or.inl ⟨by rfl, ?y919⟩) hHeld ?r919
                  case y919 => (intro w' hSw; (try dsimp only at hSw); obtain ⟨hbx, q3, q4, q5⟩ := hSw; have q0 := hbx.p; clear hbx; go_simp; try with_reducible rfl)
                  simp only [Act.put, List.getElem_toArray, List.getElem_cons_zero, List.getElem_cons_succ, List.setIfInBounds_toArray, List.set_cons_zero, List.set_cons_succ]
                  refine Still.takeBy (i := 20) [26, 25, 24, 23, 22, 21] (v := ?v920) (by kernel_rfl) (by kernel_rfl) rfl (by kernel_rfl) (by kernel_rfl) (by kernel_rfl) (fun _ _ _ h => h) (Or.inl ⟨by rfl, ?y920⟩) hHeld ?r920
                  case y920 => (intro w' hSw; (try dsimp only at hSw); obtain ⟨hbx, q3, q4, q5⟩ := hSw; have q0 := hbx.p; clear hbx; go_simp; try with_reducible rfl)
                  simp only [Act.put, List.getElem_toArray, List.getElem_cons_zero, List.getElem_cons_succ, List.setIfInBounds_toArray, List.set_cons_zero, List.set_cons_succ]
                  refine Still.takeBy (i := 21) [26, 25, 24, 23, 22] (v := ?v921) (by kernel_rfl) (by kernel_rfl) rfl (by kernel_rfl) (by kernel_rfl) (by kernel_rfl) (fun _ _ _ h => h) (Or.inl ⟨by rfl, ?y921⟩) hHeld ?r921
                  case y921 => (intro w' hSw; (try dsimp only at hSw); obtain ⟨hbx, q3, q4, q5⟩ := hSw; have q0 := hbx.p; clear hbx; go_simp; try with_reducible rfl)
                  simp only [Act.put, List.getElem_toArray, List.getElem_cons_zero, List.getElem_cons_succ, List.setIfInBounds_toArray, List.set_cons_zero, List.set_cons_succ]
                  refine Still.takeBy (i := 22) [26, 25, 24, 23] (v := ?v922) (by kernel_rfl) (by kernel_rfl) rfl (by kernel_rfl) (by kernel_rfl) (by kernel_rfl) (fun _ _ _ h => h) (Or.inl ⟨by rfl, ?y922⟩) hHeld ?r922
                  case y922 => (intro w' hSw; (try dsimp only at hSw); obtain ⟨hbx, q3, q4, q5⟩ := hSw; have q0 := hbx.p; clear hbx; go_simp; try with_reducible rfl)
                  simp only [Act.put, List.getElem_toArray, List.getElem_cons_zero, List.getElem_cons_succ, List.setIfInBounds_toArray, List.set_cons_zero, List.set_cons_succ]
                  refine Still.takeBy (i := 23) [26, 25, 24] (v := ?v923) (by kernel_rfl) (by kernel_rfl) rfl (by kernel_rfl) (by kernel_rfl) (by kernel_rfl) (fun _ _ _ h => h) (Or.inl ⟨by rfl, ?y923⟩) hHeld ?r923
                  case y923 => (intro w' hSw; (try dsimp only at hSw); obtain ⟨hbx, q3, q4, q5⟩ := hSw; have q0 := hbx.p; clear hbx; go_simp; try with_reducible rfl)
                  simp only [Act.put, List.getElem_toArray, List.getElem_cons_zero, List.getElem_cons_succ, List.setIfInBounds_toArray, List.set_cons_zero, List.set_cons_succ]
                  refine Still.takeBy (i := 24) [26, 25] (v := ?v924) (by kernel_rfl) (by kernel_rfl) rfl (by kernel_rfl) (by kernel_rfl) (by kernel_rfl) (fun _ _ _ h => h) (Or.inl ⟨by rfl, ?y924⟩) hHeld ?r924
                  case y924 => (intro w' hSw; (try dsimp only at hSw); obtain ⟨hbx, q3, q4, q5⟩ := hSw; have q0 := hbx.p; clear hbx; go_simp; try with_reducible rfl)
                  simp only [Act.put, List.getElem_toArray, List.getElem_cons_zero, List.getElem_cons_succ, List.setIfInBounds_toArray, List.set_cons_zero, List.set_cons_succ]
                  refine Still.takeBy (i := 25) [26] (v := ?v925) (by kernel_rfl) (by kernel_rfl) rfl (by kernel_rfl) (by kernel_rfl) (by kernel_rfl) (fun _ _ _ h => h) (Or.inl ⟨by rfl, ?y925⟩) hHeld ?r925
                  case y925 => (intro w' hSw; (try dsimp only at hSw); obtain ⟨hbx, q3, q4, q5⟩ := hSw; have q0 := hbx.p; clear hbx; go_simp; try with_reducible rfl)
                  simp only [Act.put, List.getElem_toArray, List.getElem_cons_zero, List.getElem_cons_succ, List.setIfInBounds_toArray, List.set_cons_zero, List.set_cons_succ]
                  refine Still.takeBy (i := 26) [] (v := ?v926) (by kernel_rfl) (by kernel_rfl) rfl (by kernel_rfl) (by kernel_rfl) (by kernel_rfl) (fun _ _ _ h => h) (Or.inl ⟨by rfl, ?y926⟩) hHeld ?r926
                  case y926 => (intro w' hSw; (try dsimp only at hSw); obtain ⟨hbx, q3, q4, q5⟩ := hSw; have q0 := hbx.p; clear hbx; go_simp; try with_reducible rfl)
                  simp only [Act.put, List.getElem_toArray, List.getElem_cons_zero, List.getElem_cons_succ, List.setIfInBounds_toArray, List.set_cons_zero, List.set_cons_succ]
                  refine Still.takeBy (i := 27) [34, 33] (by kernel_rfl) (by kernel_rfl) rfl (by kernel_rfl) (by kernel_rfl) (by kernel_rfl) (fun _ _ _ h => h) (Or.inr ⟨by rfl, rfl⟩) hHeld ?r927
                  simp only [Act.put, List.getElem_toArray, List.getElem_cons_zero, List.getElem_cons_succ, List.setIfInBounds_toArray, List.set_cons_zero, List.set_cons_succ]
                  refine Still.takeBy (i := 28) [34, 33, 31, 30] (by kernel_rfl) (by kernel_rfl) rfl (by kernel_rfl) (by kernel_rfl) (by kernel_rfl) (fun _ _ _ h => h) (Or.inr ⟨by rfl, rfl⟩) hHeld ?r928
                  simp only [Act.put, List.getElem_toArray, List.getElem_cons_zero, List.getElem_cons_succ, List.setIfInBounds_toArray, List.set_cons_zero, List.set_cons_succ]
                  refine Still.takeBy (i := 29) [34, 33, 31, 30] (by kernel_rfl) (by kernel_rfl) rfl (by kernel_rfl) (by kernel_rfl) (by kernel_rfl) (fun _ _ _ h => h) (Or.inr ⟨by rfl, rfl⟩) hHeld ?r929
                  simp only [Act.put, List.getElem_toArray, List.getElem_cons_zero, List.getElem_cons_succ, List.setIfInBounds_toArray, List.set_cons_zero, List.set_cons_succ]
                  refine Still.takeBy (i := 30) [34, 33, 31] (by kernel_rfl) (by kernel_rfl) rfl (by kernel_rfl) (by kernel_rfl) (by kernel_rfl) (fun _ _ _ h => h) (Or.inr ⟨by rfl, rfl⟩) hHeld ?r930
                  simp only [Act.put, List.getElem_toArray, List.getElem_cons_zero, List.getElem_cons_succ, List.setIfInBounds_toArray, List.set_cons_zero, List.set_cons_succ]
                  refine Still.takeBy (i := 31) [34, 33] (by kernel_rfl) (by kernel_rfl) rfl (by kernel_rfl) (by kernel_rfl) (by kernel_rfl) (fun _ _ _ h => h) (Or.inr ⟨by rfl, rfl⟩) hHeld ?r931
                  simp only [Act.put, List.getElem_toArray, List.getElem_cons_zero, List.getElem_cons_succ, List.setIfInBounds_toArray, List.set_cons_zero, List.set_cons_succ]
                  refine Still.takeBy (i := 32) [34, 33] (by kernel_rfl) (by kernel_rfl) rfl (by kernel_rfl) (by kernel_rfl) (by kernel_rfl) (fun _ _ _ h => h) (Or.inr ⟨by rfl, rfl⟩) hHeld ?r932
                  simp only [Act.put, List.getElem_toArray, List.getElem_cons_zero, List.getElem_cons_succ, List.setIfInBounds_toArray, List.set_cons_zero, List.set_cons_succ]
                  refine Still.takeBy (i := 33) [34] (by kernel_rfl) (by kernel_rfl) rfl (by kernel_rfl) (by kernel_rfl) (by kernel_rfl) (fun _ _ _ h => h) (Or.inr ⟨by rfl, rfl⟩) hHeld ?r933
                  simp only [Act.put, List.getElem_toArray, List.getElem_cons_zero, List.getElem_cons_succ, List.setIfInBounds_toArray, List.set_cons_zero, List.set_cons_succ]
                  refine Still.takeBy (i := 34) [] (by kernel_rfl) (by kernel_rfl) rfl (by kernel_rfl) (by kernel_rfl) (by kernel_rfl) (fun _ _ _ h => h) (Or.inr ⟨by rfl, rfl⟩) hHeld ?r934
                  simp only [Act.put, List.getElem_toArray, List.getElem_cons_zero, List.getElem_cons_succ, List.setIfInBounds_toArray, List.set_cons_zero, List.set_cons_succ]
                  refine Still.all (rs := [35]) (by kernel_rfl) (by simp) (Still.one (i := 35) rfl rfl (fun K hK => ?_) (by simp))
                  go_simp
                  refine hK _ _ (fun h => absurd rfl h) (fun _ => ?_)
                  clear hK K
                  refine Still.over (by kernel_rfl) ?_ _
                  clear hHeld
                  have HV : Hid (RowKit.Below W0.heap.size W0 wr.drew) := Lib.hid (HT.out.trans (RowKit.Below.refl _ _).drew)
                  go_wp2
                  go_ret
                  exact ⟨ret_bool HBD.out.symm, D0.out.trans (HV.out.mono D0.out.size)⟩
          · have hki : ¬ (k : Int) < l.length := by omega
            have HRT := Lib.hid (HST.out (HG.out.all hkl HIU.out))
            have y4 := bcl HT.out (by show w.heap.size + 1 + 1 < _; omega) HY4.out
            go_wp2
            go_roundw
            case rel => exact ⟨u + 1, by go_num, by omega, HRT, HT⟩
            case measure => simp [intOf]; omega
      · have hli : ¬ (u : Int) < ss.length := by omega
        have HG := Lib.hid (HV0.out.symm.trans (verB_true ⟨HSL.out, fun v hv => HP.out v hv (by omega)⟩))
        go_wp2
        go_ret
        exact ⟨ret_bool HG.out.symm, D0.out.trans (HT.out.mono D0.out.size)⟩
  · have hsl' : ((ss.length : Int) != (S.parts.length : Int)) = true := by simp; omega
    have HG := Lib.hid (HV0.out.symm.trans (verB_false (fun h => hsl h.1)))
    clear hsl
    go_wp2
    go_ret
    exact ⟨ret_bool HG.out.symm, D0.out⟩
end Go.Proofs.YthpljbbhpbijgaaDoor
