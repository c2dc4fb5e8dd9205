/- What the laws on certificates begin with; the law CertVerifies. -/
import Derived.Test.YthpljbbhpbijgaaDoorCe10
namespace Go.Proofs.YthpljbbhpbijgaaDoor
set_option linter.unusedSimpArgs false
set_option linter.unusedVariables false
open Go.RowKit Go.Sort Go.Shelf Go.Lib Go.Maps

theorem ent_relay : Enters 37 := enters Tryd.func37 (by kernel_rfl) (by kernel_rfl)
theorem ent_wide : Enters 48 := enters Tryd.func48 (by kernel_rfl) (by kernel_rfl)
theorem ent_verify : Enters 26 := enters Tryd.func26 (by kernel_rfl) (by kernel_rfl)
def wideL : List Edg := [⟨0, 1⟩, ⟨0, 2⟩, ⟨1, 0⟩, ⟨1, 2⟩]
def narrowL : List Edg := [⟨0, 1⟩, ⟨1, 0⟩, ⟨1, 2⟩]
def certW : List (List Int) := [[0, 1], [0, 1], [0, 1, 2], [3]]
set_option maxHeartbeats 1000000 in
theorem wide_any (w : World) : Calls Tryd.prog 48 #[] w fun e w' => ∃ v, e = .returned (.agg #[v]) ∧ Sl w' 2 v wideL.length (rowC Edg.cells wideL) ∧ RowKit.Below w.heap.size w w' := by
  go_enter Tryd.func48, Tryd.ntmps48
  go_wp2
  refine bodyPost_ret (v := .agg #[.slice (some ⟨w.heap.size + 1, 0, none⟩) 4 4]) (by simp [results, Tryd.f48, go_sem]) rfl ⟨_, rfl, ?_, (by repeat (first | exact Below.refl _ _ | assumption | refine Below.drew ?_ | refine Below.alloc ?_ (by first | (simp; done) | (simp; omega)) _ | refine Below.setCell ?_ (by first | (simp; done) | (simp; omega)) _))⟩
  first
    | exact lit_sl _ (rowC Edg.cells wideL) _ _ 4 2 (by simp) rfl
    | exact (lit_sl _ (rowC Edg.cells wideL) _ _ 4 2 (by simp) rfl).set _ (by simp [Value.ownBlock])
theorem getD_at {α : Type} {l : List α} {j : Nat} {d : α} (h : j < l.length) : l.getD j d = l[j] := by simp [List.getD, h]
def polC (n : Nat) (L : List Edg) : Bool := (List.range L.length).all fun j => withinB (L.getD j ⟨0, 0⟩).fr 0 ((n : Int) - 1) && withinB (L.getD j ⟨0, 0⟩).tt 0 ((n : Int) - 1) && !((L.getD j ⟨0, 0⟩).fr == (L.getD j ⟨0, 0⟩).tt) && (j == 0 || ltEB (L.getD (j - 1) ⟨0, 0⟩) (L.getD j ⟨0, 0⟩))
theorem polC_up {n : Nat} {L : List Edg} (h : polC n L = true) : PolUp n L L.length := by
  intro j hj _
  have := List.all_eq_true.1 h j (List.mem_range.2 hj)
  simp only [getD_at hj, getD_at (show j - 1 < L.length by omega), Bool.and_eq_true, Bool.not_eq_true', Bool.or_eq_true, beq_iff_eq, beq_eq_false_iff_ne] at this
  exact ⟨⟨this.1.1.1, this.1.1.2, this.1.2⟩, fun h0 => this.2.resolve_left (by omega)⟩
def setC (n : Nat) (l : List Int) : Bool := (List.range l.length).all fun j => withinB (l.getD j 0) 0 ((n : Int) - 1) && (j == 0 || decide (l.getD (j - 1) 0 < l.getD j 0))
theorem setC_up {n : Nat} {l : List Int} (h : setC n l = true) : SetUp n l l.length := by
  intro j hj _
  have := List.all_eq_true.1 h j (List.mem_range.2 hj)
  simp only [getD_at hj, getD_at (show j - 1 < l.length by omega), Bool.and_eq_true, Bool.or_eq_true, beq_iff_eq, decide_eq_true_eq] at this
  exact ⟨this.1, fun h0 => this.2.resolve_left (by omega)⟩
theorem pol_w : polE relayS wideL = 0 := polE_zero relay_chk (polB_true (polC_up (by decide +kernel)))
theorem pol_n : polE relayS narrowL = 0 := polE_zero relay_chk (polB_true (polC_up (by decide +kernel)))
theorem leak_w : leakL relayS wideL = [] := by decide +kernel
theorem leak_n : leakL relayS narrowL = [⟨0, 2⟩] := by decide +kernel
theorem cert_w : certO relayS wideL = ⟨certW, [], true⟩ := by
  unfold certO certG
  rw [if_pos pol_w, leak_w]
  have : certS relayS = certW := by decide +kernel
  show (⟨certS relayS, [], true⟩ : CertOut) = _
  rw [this]
theorem cert_n : certO relayS narrowL = ⟨[], [0, 1, 2], false⟩ := by
  unfold certO certG
  rw [if_pos pol_n, leak_n]
  have : pathL relayS 0 2 = [0, 1, 2] := by decide +kernel
  show (⟨[], pathL relayS 0 2, false⟩ : CertOut) = _
  rw [this]
theorem right_w {l : List Int} {u : Nat} (h1 : setC relayS.parts.length l = true) (h2 : inB l u = true) (h3 : closedB (edgesL relayS) l = true) (h4 : (l.all fun x => mayB wideL x u) = true) : SetRight relayS wideL l u := ⟨setC_up h1, h2, h3, fun x hx => List.all_eq_true.1 h4 x hx⟩
theorem ver_w : verQ relayS wideL certW = true := by
  unfold verQ
  rw [if_pos pol_w]
  have a0 : SetRight relayS wideL [0, 1] 0 := right_w (by decide +kernel) (by decide +kernel) (by decide +kernel) (by decide +kernel)
  have a1 : SetRight relayS wideL [0, 1] 1 := right_w (by decide +kernel) (by decide +kernel) (by decide +kernel) (by decide +kernel)
  have a2 : SetRight relayS wideL [0, 1, 2] 2 := right_w (by decide +kernel) (by decide +kernel) (by decide +kernel) (by decide +kernel)
  have a3 : SetRight relayS wideL [3] 3 := right_w (by decide +kernel) (by decide +kernel) (by decide +kernel) (by decide +kernel)
  refine verB_true ⟨rfl, fun u hu => ?_⟩
  have h4 : u = 0 ∨ u = 1 ∨ u = 2 ∨ u = 3 := by have : u < 4 := hu; omega
  rcases h4 with rfl | rfl | rfl | rfl
  · exact a0
  · exact a1
  · exact a2
  · exact a3
set_option maxRecDepth 100000 in
set_option maxHeartbeats 8000000 in
theorem certBegun_any (w : World) (he : Env w) : Calls Tryd.prog 23 #[] w fun e w' => e = .returned (.bool true) ∧ RowKit.Below w.heap.size w w' := by
  go_enter Tryd.func23, Tryd.ntmps23
  go_wp2_with fail
  refine (relay_any _).mono ?_
  rintro e w1 ⟨vp, vc, vs, rfl, s1, b1⟩
  have S1 := Lib.hid s1.sys
  have D := Lib.hid b1
  clear s1 b1
  go_wp2_with fail
  refine (wide_any _).mono ?_
  rintro e w2 ⟨vw, rfl, s2, b2⟩
  have S2 := Lib.hid (S1.out.up b2)
  have W2 := Lib.hid s2
  have D := Lib.hid (D.out.trans (b2.mono D.out.size))
  clear s2 b2 S1
  go_wp2_with fail
  refine (certify_any relayS wideL _ _ _ _ _ (he.up D.out) S2.out W2.out).mono ?_
  rw [pol_w, cert_w]
  rintro e w3 ⟨vS, vP, rfl, hs, _, b3, _⟩
  obtain ⟨sa1, sc1, rfl⟩ := hs.form
  have HS3 := Lib.hid hs
  have D := Lib.hid (D.out.trans (b3.mono D.out.size))
  clear hs b3 S2 W2
  have A : RowKit.Below w3.heap.size w3 (w3.alloc (.cells #[.slice sa1 certW.length sc1] 55)) := (RowKit.Below.refl _ _).alloc (Nat.le_refl _) _
  have HS3 := Lib.hid (HS3.out.up A)
  have D := Lib.hid (D.out.trans (A.mono D.out.size))
  have c1 : (w3.alloc (.cells #[.slice sa1 certW.length sc1] 55)).cell? ⟨w3.heap.size, 0, none⟩ = some (.slice sa1 certW.length sc1) := by simp
  have hY : w3.heap.size < (w3.alloc (.cells #[.slice sa1 certW.length sc1] 55)).heap.size := by simp
  clear A
  go_upto_region 2 with fail
  generalize w3.alloc (.cells #[.slice sa1 certW.length sc1] 55) = Y at HS3 D c1 hY ⊢
  go_wp2_with fail
  refine (relay_any _).mono ?_
  rintro e w4 ⟨vp, vc, vs, rfl, s1, b1⟩
  have S1 := Lib.hid s1.sys
  have HS3 := Lib.hid (HS3.out.up b1)
  have c1 := bcl b1 hY c1
  have hY : w3.heap.size < w4.heap.size := by have := b1.size; omega
  have D := Lib.hid (D.out.trans (b1.mono D.out.size))
  clear s1 b1
  have A : RowKit.Below w4.heap.size w4 (w4.alloc (.cells (rowC Edg.cells narrowL).toArray 37)) := (RowKit.Below.refl _ _).alloc (Nat.le_refl _) _
  go_wp2_with fail
  refine (certify_any relayS narrowL _ _ _ _ _ (he.up (D.out.trans (A.mono D.out.size))) (S1.out.up A) (lit_sl _ (rowC Edg.cells narrowL) _ _ 3 2 rfl rfl)).mono ?_
  rw [pol_n, cert_n]
  rintro e w5 ⟨vS, vP, rfl, hs5, hp5, b3, _⟩
  obtain ⟨sa5, sc5, rfl⟩ := hs5.form
  obtain ⟨qa, qc, rfl⟩ := hp5.form
  have HP5 := Lib.hid hp5
  have B5 : RowKit.Below w4.heap.size w4 w5 := A.trans (b3.mono A.size)
  have HS3 := Lib.hid (HS3.out.up B5)
  have c1 := bcl B5 hY c1
  have hY : w3.heap.size < w5.heap.size := by have := B5.size; omega
  have D := Lib.hid (D.out.trans (B5.mono D.out.size))
  clear hs5 hp5 b3 S1 A B5
  have A : RowKit.Below w5.heap.size w5 (w5.alloc (.cells #[.slice sa5 0 sc5] 55)) := (RowKit.Below.refl _ _).alloc (Nat.le_refl _) _
  have HSX := Lib.hid (HS3.out.up A)
  have HPX := Lib.hid (HP5.out.up A)
  have DX := Lib.hid (D.out.trans (A.mono D.out.size))
  have c1 := bcl A hY c1
  have hX : w3.heap.size < (w5.alloc (.cells #[.slice sa5 0 sc5] 55)).heap.size := by simp; omega
  clear A HS3 HP5 D hY
  go_upto_region 3 with fail
  generalize w5.alloc (.cells #[.slice sa5 0 sc5] 55) = X at HSX HPX DX c1 hX ⊢
  refine region_still (S := fun w' => w'.cell? ⟨w3.heap.size, 0, none⟩ = some (.slice sa1 certW.length sc1)) 8 (by kernel_rfl) c1 (fun hHeld => ?_)
  refine Still.takeBy (i := 2) [] (v := ?v1) (by kernel_rfl) (by kernel_rfl) rfl (by kernel_rfl) (by kernel_rfl) (by kernel_rfl) (fun _ _ _ h => h) (Or.inl ⟨by rfl, ?y1⟩) hHeld ?r1
  case y1 => (intro w' hSw; (try dsimp only at hSw); go_simp; try with_reducible rfl)
  simp only [Act.put, List.getElem_toArray, List.getElem_cons_zero, List.getElem_cons_succ, List.setIfInBounds_toArray, List.set_cons_zero, List.set_cons_succ]
  refine Still.all (rs := [0]) (by kernel_rfl) (by simp) (Still.one (i := 0) rfl rfl (fun K hK => ?_) (by simp))
  refine wp_call 37 _ _ rfl ent_relay #[] (by first | rfl | simp [Act.eval, Act.put]) ((relay_any _).mono ?_)
  rintro e V1 ⟨vp5, vc5, vs5, rfl, s5, b5⟩
  have HV1 : Hid (RowKit.Below X.heap.size X V1) := Lib.hid (RowKit.Below.trans (RowKit.Below.refl _ _).drew b5)
  have HS5 := Lib.hid s5.sys
  have c1b := bcl HV1.out hX c1
  refine ⟨_, rfl, hK _ _ (fun _ => c1b) (fun hh => ?_)⟩
  have hHeld := hh (by decide)
  clear hK K hh s5 b5
  try simp only [Act.put, List.getElem_toArray, List.getElem_cons_zero, List.getElem_cons_succ, List.setIfInBounds_toArray, List.set_cons_zero, List.set_cons_succ]
  refine Still.all (rs := [1]) (by kernel_rfl) (by simp) (Still.one (i := 1) rfl rfl (fun K hK => ?_) (by simp))
  refine wp_call 48 _ _ rfl ent_wide #[] (by first | rfl | simp [Act.eval, Act.put]) ((wide_any _).mono ?_)
  rintro e V2 ⟨vw5, rfl, s6, b6⟩
  have HV2 : Hid (RowKit.Below X.heap.size X V2) := Lib.hid (HV1.out.trans (b6.mono HV1.out.size))
  have HS6 := Lib.hid (HS5.out.up b6)
  have HW6 := Lib.hid s6
  have c1c := bcl HV2.out hX c1
  refine ⟨_, rfl, hK _ _ (fun _ => c1c) (fun hh => ?_)⟩
  have hHeld := hh (by decide)
  clear hK K hh s6 b6 HS5 c1b
  try simp only [Act.put, List.getElem_toArray, List.getElem_cons_zero, List.getElem_cons_succ, List.setIfInBounds_toArray, List.set_cons_zero, List.set_cons_succ]
  refine Still.all (rs := [3]) (by kernel_rfl) (by simp) (Still.one (i := 3) rfl rfl (fun K hK => ?_) (by simp))
  refine wp_call 26 _ _ rfl ent_verify #[.agg #[vp5, vc5, vs5], .agg #[vw5], .agg #[.slice sa1 certW.length sc1]] (by first | rfl | simp [Act.eval, Act.put]) ((ceVerify_any relayS wideL certW _ _ _ _ _ _ (he.up (DX.out.trans (HV2.out.mono DX.out.size))) HS6.out HW6.out (HSX.out.r.up HV2.out)).mono ?_)
  rw [ver_w, pol_w]
  rintro e V3 ⟨rfl, b7⟩
  have HV3 : Hid (RowKit.Below X.heap.size X V3) := Lib.hid (HV2.out.trans (b7.mono HV2.out.size))
  have c1d := bcl HV3.out hX c1
  refine ⟨_, rfl, hK _ _ (fun _ => c1d) (fun hh => ?_)⟩
  have hHeld := hh (by decide)
  clear hK K hh b7 HS6 HW6 c1c HV1 HV2
  try simp only [Act.put, List.getElem_toArray, List.getElem_cons_zero, List.getElem_cons_succ, List.setIfInBounds_toArray, List.set_cons_zero, List.set_cons_succ]
  refine Still.takeBy (i := 4) [] (v := ?v2) (by kernel_rfl) (by kernel_rfl) rfl (by kernel_rfl) (by kernel_rfl) (by kernel_rfl) (fun _ _ _ h => h) (Or.inl ⟨by rfl, ?y2⟩) hHeld ?r2
  case y2 => (intro w' hSw; (try dsimp only at hSw); go_simp; try with_reducible rfl)
  simp only [Act.put, List.getElem_toArray, List.getElem_cons_zero, List.getElem_cons_succ, List.setIfInBounds_toArray, List.set_cons_zero, List.set_cons_succ]
  refine Still.takeBy (i := 5) [] (v := ?v3) (by kernel_rfl) (by kernel_rfl) rfl (by kernel_rfl) (by kernel_rfl) (by kernel_rfl) (fun _ _ _ h => h) (Or.inl ⟨by rfl, ?y3⟩) hHeld ?r3
  case y3 => (intro w' hSw; (try dsimp only at hSw); go_simp; try with_reducible rfl)
  simp only [Act.put, List.getElem_toArray, List.getElem_cons_zero, List.getElem_cons_succ, List.setIfInBounds_toArray, List.set_cons_zero, List.set_cons_succ]
  refine Still.takeBy (i := 6) [] (v := ?v4) (by kernel_rfl) (by kernel_rfl) rfl (by kernel_rfl) (by kernel_rfl) (by kernel_rfl) (fun _ _ _ h => h) (Or.inl ⟨by rfl, ?y4⟩) hHeld ?r4
  case y4 => (intro w' hSw; (try dsimp only at hSw); go_simp; try with_reducible rfl)
  simp only [Act.put, List.getElem_toArray, List.getElem_cons_zero, List.getElem_cons_succ, List.setIfInBounds_toArray, List.set_cons_zero, List.set_cons_succ]
  refine Still.takeBy (i := 7) [] (v := ?v5) (by kernel_rfl) (by kernel_rfl) rfl (by kernel_rfl) (by kernel_rfl) (by kernel_rfl) (fun _ _ _ h => h) (Or.inl ⟨by rfl, ?y5⟩) hHeld ?r5
  case y5 => (intro w' hSw; (try dsimp only at hSw); go_simp; try with_reducible rfl)
  simp only [Act.put, List.getElem_toArray, List.getElem_cons_zero, List.getElem_cons_succ, List.setIfInBounds_toArray, List.set_cons_zero, List.set_cons_succ]
  refine Still.all (rs := [8]) (by kernel_rfl) (by simp) (Still.one (i := 8) rfl rfl (fun K hK => ?_) (by simp))
  go_simp
  refine hK _ _ (fun h => absurd rfl h) (fun _ => ?_)
  clear hK K
  refine Still.over (by kernel_rfl) ?_ _
  clear hHeld
  have HSX := Lib.hid (HSX.out.up HV3.out)
  have HPX := Lib.hid (HPX.out.up HV3.out)
  have DX := Lib.hid (DX.out.trans (HV3.out.mono DX.out.size))
  have hX : w3.heap.size < V3.heap.size := by have := HV3.out.size; omega
  clear HV3 c1
  have c1 := c1d
  clear c1d
  go_wp2_with fail
  refine (relay_any _).mono ?_
  rintro e w7 ⟨vp, vc, vs, rfl, s1, b1⟩
  have S1 := Lib.hid s1.sys
  have HSX := Lib.hid (HSX.out.up b1)
  have HPX := Lib.hid (HPX.out.up b1)
  have c1 := bcl b1 hX c1
  have hX : w3.heap.size < w7.heap.size := by have := b1.size; omega
  have DX := Lib.hid (DX.out.trans (b1.mono DX.out.size))
  clear s1 b1
  go_wp2_with fail
  refine (wide_any _).mono ?_
  rintro e w8 ⟨vw, rfl, s2, b2⟩
  have S2 := Lib.hid (S1.out.up b2)
  have W2 := Lib.hid s2
  have HSX := Lib.hid (HSX.out.up b2)
  have HPX := Lib.hid (HPX.out.up b2)
  have c1 := bcl b2 hX c1
  have hX : w3.heap.size < w8.heap.size := by have := b2.size; omega
  have DX := Lib.hid (DX.out.trans (b2.mono DX.out.size))
  clear s2 b2 S1
  go_wp2_with fail
  refine (ceCheck_any relayS wideL _ _ _ _ _ (he.up DX.out) S2.out W2.out).mono ?_
  rw [pol_w]
  rintro e w9 ⟨rfl, b3⟩
  have HSX := Lib.hid (HSX.out.up b3)
  have HPX := Lib.hid (HPX.out.up b3)
  have c1 := bcl b3 hX c1
  have hX : w3.heap.size < w9.heap.size := by have := b3.size; omega
  have DX := Lib.hid (DX.out.trans (b3.mono DX.out.size))
  clear b3 S2 W2
  obtain ⟨tb, tof, tcap, e1, htb, hts⟩ := HSX.out.r.open (by decide)
  cases e1
  obtain ⟨xa, xc, x0, hxs⟩ := hts 2 (by decide)
  have x0 : w9.cell? ⟨tb, tof + 2, none⟩ = some (.slice xa 3 xc) := x0
  have HXS : Hid (Sl w9 1 (.slice xa 3 xc) 3 (ints [0, 1, 2])) := Lib.hid hxs
  clear hts hxs
  go_wp2_with fail
  refine (sameInts_any [0, 1, 2] [0, 1, 2] _ _ _ (HXS.out.up ((RowKit.Below.refl _ _).alloc (Nat.le_refl _) _)) (lit_sl _ (ints [0, 1, 2]) _ _ 3 1 rfl rfl) (by decide) true rfl).mono ?_
  rintro e w10 ⟨rfl, bb⟩
  have B10 : RowKit.Below w9.heap.size w9 w10 := RowKit.Below.trans ((RowKit.Below.refl _ _).alloc (Nat.le_refl _) _) (bb.mono (by simp))
  have HPX := Lib.hid (HPX.out.up B10)
  have DX := Lib.hid (DX.out.trans (B10.mono DX.out.size))
  clear bb B10 HXS x0 c1
  go_wp2_with fail
  refine (sameInts_any [0, 1, 2] [0, 1, 2] _ _ _ (HPX.out.up ((RowKit.Below.refl _ _).alloc (Nat.le_refl _) _)) (lit_sl _ (ints [0, 1, 2]) _ _ 3 1 rfl rfl) (by decide) true rfl).mono ?_
  rintro e w11 ⟨rfl, bb⟩
  have DX := Lib.hid ((DX.out.alloc DX.out.size _).trans (bb.mono (by have := DX.out.size; simp; omega)))
  clear bb
  go_wp2
  go_ret
  exact ⟨rfl, DX.out⟩
end Go.Proofs.YthpljbbhpbijgaaDoor

namespace Go.Proofs.YthpljbbhpbijgaaDoor
set_option linter.unusedSimpArgs false
set_option linter.unusedVariables false
open Go.RowKit Go.Sort Go.Shelf Go.Lib Go.Maps

/-- A policy that is right is short. -/
theorem pol_len {S : SysD} {L : List Edg} (h : polE S L = 0) : S.parts.length ≤ 4 ∧ S.chans.length ≤ 6 ∧ L.length ≤ 16 := by
  obtain ⟨hch, hpu⟩ := polE_is h
  obtain ⟨h4, _, hcl, _⟩ := chk_flow hch
  exact ⟨h4, hcl, polUp_len h4 hpu (Nat.le_refl _)⟩
set_option maxRecDepth 100000 in
set_option maxHeartbeats 8000000 in
theorem certVerifies_any (S : SysD) (hok : S.ok) (L : List Edg) (ss : List (List Int)) (hss : ∀ l ∈ ss, l.length ≤ 9223372036854775807) (vp vc vs vL vC : Value) (w : World) (he : Env w) (hS : Sys w vp vc vs S) (hL : Sl w 2 vL L.length (rowC Edg.cells L)) (hC : SetsR w vC ss) :
    Calls Tryd.prog 7 #[.agg #[vp, vc, vs], .agg #[vL], .agg #[vC]] w fun e w' => e = .returned (.bool true) ∧ RowKit.Below w.heap.size w w' := by
  obtain ⟨pa, pc, rfl⟩ := hS.p.form
  obtain ⟨ca, cc, rfl⟩ := hS.c.form
  obtain ⟨sa, sc, rfl⟩ := hS.s.form
  obtain ⟨la, lc, rfl⟩ := hL.form
  obtain ⟨ta, tc, rfl⟩ := hC.form
  have HSS := Lib.hid hss
  clear hss
  go_enter Tryd.func7, Tryd.ntmps7
  go_upto_region 1 with fail
  have HB := Lib.hid ((box_new w (.slice pa S.parts.length pc) (.slice ca S.chans.length cc) (.slice sa S.slots.length sc) 26 _ rfl).up (((RowKit.Below.refl _ _).alloc (Nat.le_refl _) (.cells #[.slice la L.length lc] 52)).alloc (by simp) (.cells #[.slice ta ss.length tc] 55)))
  have y3 : (((w.alloc (.cells #[.slice pa S.parts.length pc, .slice ca S.chans.length cc, .slice sa S.slots.length sc] 26)).alloc (.cells #[.slice la L.length lc] 52)).alloc (.cells #[.slice ta ss.length tc] 55)).cell? ⟨w.heap.size + 1, 0, none⟩ = some (.slice la L.length lc) := bcl ((RowKit.Below.refl _ _).alloc (Nat.le_refl _) _) (by simp) (by simp)
  have y4 : (((w.alloc (.cells #[.slice pa S.parts.length pc, .slice ca S.chans.length cc, .slice sa S.slots.length sc] 26)).alloc (.cells #[.slice la L.length lc] 52)).alloc (.cells #[.slice ta ss.length tc] 55)).cell? ⟨w.heap.size + 1 + 1, 0, none⟩ = some (.slice ta ss.length tc) := (Rw.new _ _ _ (by simp)).cell (j := 0) rfl
  have hw0 : w.heap.size + 2 < (((w.alloc (.cells #[.slice pa S.parts.length pc, .slice ca S.chans.length cc, .slice sa S.slots.length sc] 26)).alloc (.cells #[.slice la L.length lc] 52)).alloc (.cells #[.slice ta ss.length tc] 55)).heap.size := by simp
  have D0 : Hid (RowKit.Below w.heap.size w (((w.alloc (.cells #[.slice pa S.parts.length pc, .slice ca S.chans.length cc, .slice sa S.slots.length sc] 26)).alloc (.cells #[.slice la L.length lc] 52)).alloc (.cells #[.slice ta ss.length tc] 55))) := Lib.hid (by repeat (first | exact Below.refl _ _ | assumption | refine Below.drew ?_ | refine Below.alloc ?_ (by first | (simp; done) | (simp; omega)) _ | refine Below.setCell ?_ (by first | (simp; done) | (simp; omega)) _))
  generalize (((w.alloc (.cells #[.slice pa S.parts.length pc, .slice ca S.chans.length cc, .slice sa S.slots.length sc] 26)).alloc (.cells #[.slice la L.length lc] 52)).alloc (.cells #[.slice ta ss.length tc] 55)) = W0 at HB y3 y4 hw0 D0 ⊢
  have HS := Lib.hid (hS.up D0.out)
  have HL := Lib.hid (hL.up D0.out)
  have HCS := Lib.hid (hC.up D0.out)
  have HY3 := Lib.hid y3
  have HY4 := Lib.hid y4
  clear hS hL hC
  generalize hc : polE S L = c
  generalize hv : verQ S L ss = vq
  have HC := Lib.hid hc
  have HV := Lib.hid hv
  clear hc hv
  have k0 := HB.out.p
  have k1 := HB.out.c
  have k2 := HB.out.s
  go_wp2_with fail
  refine (ceVerify_any S L ss _ _ _ _ _ _ (he.up D0.out) HS.out HL.out HCS.out).mono ?_
  rw [HC.out, HV.out]
  rintro e w1 ⟨rfl, bb⟩
  have HT := Lib.hid bb
  clear bb k0 k1 k2 y3 y4
  have k0 := (HB.out.up HT.out).p
  have k1 := (HB.out.up HT.out).c
  have k2 := (HB.out.up HT.out).s
  have y3 := bcl HT.out (by show w.heap.size + 1 < _; omega) HY3.out
  go_wp2_with fail
  refine (checkPolicy_any S hok L _ _ _ _ _ (HS.out.up HT.out) (HL.out.up HT.out)).mono ?_
  rw [HC.out]
  rintro e w2 ⟨rfl, bb⟩
  have HT2 := Lib.hid (HT.out.trans (bb.mono HT.out.size))
  clear bb k0 k1 k2 y3 HT
  go_wp2_with fail
  refine (certBegun_any _ (he.up (D0.out.trans (HT2.out.mono D0.out.size)))).mono ?_
  rintro e w3 ⟨rfl, bb⟩
  have HT := Lib.hid (HT2.out.trans (bb.mono HT2.out.size))
  clear bb HT2
  by_cases h0 : c = 0
  · subst h0
    have HVB : Hid (verB S L ss = vq) := Lib.hid (by have := HV.out; unfold verQ at this; rwa [if_pos HC.out] at this)
    obtain ⟨h4, hcl, hLl⟩ := pol_len HC.out
    have k0 := (HB.out.up HT.out).p
    have k1 := (HB.out.up HT.out).c
    have k2 := (HB.out.up HT.out).s
    have y3 := bcl HT.out (by show w.heap.size + 1 < _; omega) HY3.out
    have y4 := bcl HT.out (by show w.heap.size + 1 + 1 < _; omega) HY4.out
    go_wp2_with fail
    refine (verifyOf_any S h4 hcl L hLl ss HSS.out _ _ _ _ _ _ (HS.out.up HT.out) (HL.out.up HT.out) (HCS.out.up HT.out)).mono ?_
    rw [HVB.out]
    rintro e w4 ⟨rfl, bb⟩
    have D := Lib.hid (D0.out.trans ((HT.out.trans (bb.mono HT.out.size)).mono D0.out.size))
    clear bb
    go_wp2
    go_ret
    exact ⟨rfl, D.out⟩
  · have HVF : Hid (vq = false) := Lib.hid (by have := HV.out; unfold verQ at this; rw [if_neg (by rw [HC.out]; exact h0)] at this; exact this.symm)
    have hvf := HVF.out
    subst hvf
    have h0' : (c == 0) = false := by simpa using h0
    clear h0
    go_wp2
    go_ret
    exact ⟨rfl, D0.out.trans (HT.out.mono D0.out.size)⟩
end Go.Proofs.YthpljbbhpbijgaaDoor
