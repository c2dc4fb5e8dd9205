/- KernTurn. -/
import Derived.Test.YtjhjaafoikadgaaDoorKn20
import Derived.Test.YtjhjaafoikadgaaDoorKn14
import Derived.Test.YtjhjaafoikadgaaDoorJq
import Derived.Test.YtjhjaafoikadgaaDoorCc3
namespace Go.Proofs.YtjhjaafoikadgaaDoor
set_option linter.unusedSimpArgs false
set_option linter.unusedVariables false
open Go.RowKit Go.Sort

theorem sizeSysT : (Tryd.prog.info? 26).map (·.size) = some 3 := by kernel_rfl
theorem CellsR.formN {w : World} {v : Value} {ds : List CelD} {n : Nat} (h : CellsR w v ds) (hn : ds.length = n) : ∃ ao cap, v = .slice ao n cap := hn ▸ h.form
theorem LinesR.formN {w : World} {v : Value} {ls : List (List Int)} {n : Nat} (h : LinesR w v ls) (hn : ls.length = n) : ∃ ao cap, v = .slice ao n cap := hn ▸ h.form
theorem CellsR.openN {w : World} {ao : Option Addr} {n cap : Nat} {ds : List CelD} (h : CellsR w (.slice ao n cap) ds) (hn : ds.length = n) (h0 : 0 < n) :
    ∃ b off, ao = some ⟨b, off, none⟩ ∧ n ≤ cap ∧ b < w.heap.size ∧ ∀ k (hk : k < ds.length), ∃ oa oc, w.rangeAt b (off + k * 16) (ds[k].c.cs (.slice oa ds[k].out.length oc)).toList ∧ Sl w 1 (.slice oa ds[k].out.length oc) ds[k].out.length (ints ds[k].out) := by
  obtain ⟨b, off, cap', e, h1, h2, h3⟩ := h.open (by omega)
  injection e with e1 e2 e3
  exact ⟨b, off, e1, by omega, h2, h3⟩
theorem LinesR.openN {w : World} {ao : Option Addr} {n cap : Nat} {ls : List (List Int)} (h : LinesR w (.slice ao n cap) ls) (hn : ls.length = n) (h0 : 0 < n) :
    ∃ b off, ao = some ⟨b, off, none⟩ ∧ n ≤ cap ∧ b < w.heap.size ∧ ∀ k (hk : k < ls.length), ∃ oa oc, w.cell? ⟨b, off + k, none⟩ = some (.slice oa ls[k].length oc) ∧ Sl w 1 (.slice oa ls[k].length oc) ls[k].length (ints ls[k]) := by
  obtain ⟨b, off, cap', e, h1, h2, h3⟩ := h.open (by omega)
  injection e with e1 e2 e3
  exact ⟨b, off, e1, by omega, h2, h3⟩
theorem sys_fresh {w : World} {vp vc vs : Value} {S : SysD} (h : Sys w vp vc vs S) (o : Obj) (u : Array Value) : Sys ((w.alloc o).setRow w.heap.size u) vp vc vs S := by
  obtain ⟨⟨vs', h1, h2, h3⟩, h4, h5⟩ := h
  exact ⟨⟨vs', h1, sl_fresh h2 o u, fun k hk hk' => ⟨sl_fresh (h3 k hk hk').code o u, sl_fresh (h3 k hk hk').inn o u⟩⟩, sl_fresh h4 o u, sl_fresh h5 o u⟩
theorem sys_one (a : Option Addr) (n c : Nat) (a1 : Option Addr) (n1 c1 : Nat) (a2 : Option Addr) (n2 c2 : Nat) : (#[.slice a n c, .slice a1 n1 c1, .slice a2 n2 c2] : Array Value).all (·.oneCell') = true := by simp [Value.oneCell']
theorem turn_back {S : SysD} {D X : WldD} {pn : Nat} {d : CelD} (T : Tick S D pn d (nextC S D)) (hX : nextC S D = X) {u : Nat} (hu : u < D.cells.length) (hu' : u < X.cells.length) (hne : u ≠ pn) (hw : whoS S D.tick = pn) : (⟨(nextC (calmS S u) (turnW D u)).tick, setRead (nextC (calmS S u) (turnW D u)).cells u D.cells[u].c.read, (nextC (calmS S u) (turnW D u)).lines⟩ : WldD) = X := by
  rw [turn_next S D u (by rw [hw]; simpa using hne), hX]
  have h := tick_cells T u hu (by rw [hX]; exact hu') hne
  subst hX
  rw [← h]
  show (⟨_, setRead (setRead (nextC S D).cells u 0) u _, _⟩ : WldD) = _
  rw [setRead_back _ _ hu']
  rfl
/-- What KernTurn holds all the way. -/
structure Kt (w A : World) (g7 : Nat) (vp vc vs uc ul xc xl : Value) (S : SysD) (D X : WldD) : Prop where
  d : Below w.heap.size w A
  e : Env A
  s : Sys A vp vc vs S
  wd : Wld A uc ul D
  x : Wld A xc xl X
  r0 : Rw A w.heap.size 26 #[vp, vc, vs]
  r1 : Rw A (w.heap.size + 1) 30 #[.int .i64 D.tick, uc, ul]
  r7 : Rw A g7 30 #[.int .i64 X.tick, xc, xl]
theorem Kt.up {w A A' : World} {g7 : Nat} {vp vc vs uc ul xc xl : Value} {S : SysD} {D X : WldD} (h : Kt w A g7 vp vc vs uc ul xc xl S D X) (hb : Below A.heap.size A A') : Kt w A' g7 vp vc vs uc ul xc xl S D X :=
  ⟨h.d.trans (hb.mono h.d.size), h.e.up hb, h.s.up hb, h.wd.up hb, h.x.up hb, h.r0.up hb h.r0.lt, h.r1.up hb h.r1.lt, h.r7.up hb h.r7.lt⟩
set_option maxRecDepth 100000 in
set_option maxHeartbeats 16000000 in
theorem kernTurn_any (S : SysD) (D : WldD) (part : Int) (hpt : in64 part) (vp vc vs uc ul : Value) (w : World) (he : Env w) (hS : Sys w vp vc vs S) (hW : Wld w uc ul D) :
    Calls Tryd.prog 7 #[.agg #[vp, vc, vs], .agg #[.int .i64 D.tick, uc, ul], .int .i64 part] w fun e w' => e = .returned (.bool true) ∧ Below w.heap.size w w' := by
  obtain ⟨pa, pc, rfl⟩ := hS.p.form
  obtain ⟨ka, kc, rfl⟩ := hS.c.form
  obtain ⟨sa, sc, rfl⟩ := hS.s.form
  by_cases h0 : stepW S D = 0
  · obtain ⟨hk, hR, hlt⟩ := stepW_zero h0
    have hlc := cellsB_len hR.c
    have hll := linesB_len hR.l
    obtain ⟨ua, uc, rfl⟩ := hW.c.formN hlc
    obtain ⟨la, lc, rfl⟩ := hW.l.formN hll
    obtain ⟨X, hX⟩ : ∃ X, nextC S D = X := ⟨_, rfl⟩
    obtain ⟨pn, d, T⟩ := tick_any hk hR hlt
    obtain ⟨hRX, htX⟩ := next_right hk hR hlt
    have hpw := T.w
    have hpp := T.p
    have hxc := cellsB_len hRX.c
    have hxl := linesB_len hRX.l
    have htc := fun j a b c => tick_cells T j a b c
    have htl := fun j a b c e f => tick_lines T j a b c e f
    rw [hX] at hRX hxc hxl
    have hcl := countsS hk
    have hp4 := hcl.1
    have hp6 := hcl.2
    have hp1 : 1 ≤ S.parts.length := by omega
    have HST := Lib.hid fun w he hS hW => kernStep_any S D (.slice pa S.parts.length pc) (.slice ka S.chans.length kc) (.slice sa S.slots.length sc) (.slice ua S.parts.length uc) (.slice la S.chans.length lc) w he hS hW 0 h0 X (by rw [stepR, if_pos h0, hX])
    have HWHO := Lib.hid fun w he hS => who_any S (.slice pa S.parts.length pc) (.slice ka S.chans.length kc) (.slice sa S.slots.length sc) D.tick w he hS 0 (by rw [if_pos hk, if_neg (by have := hR.t0; omega)]) pn (by rw [if_pos rfl]; exact hpw)
    have HCALM := Lib.hid fun (u : Nat) w he hS hu => calm_yes S (.slice pa S.parts.length pc) (.slice ka S.chans.length kc) (.slice sa S.slots.length sc) u w he hS hk hu
    have smD := small_right hk hR
    have HOW := Lib.hid fun w hW => ownWorld_any D (.slice ua S.parts.length uc) (.slice la S.chans.length lc) w (by omega) (by omega) (fun k h => ((fine_iff _ _).1 (celB_is (cellsB_at hR.c k (by omega) h)).1).2.2.2.2.2.2) (fun k h => by have := chkL_zero (linesB_at hR.l k (by omega) h); omega) hW
    have SMX := Lib.hid (small_right hk hRX)
    have SMD := Lib.hid smD
    have HLC := Lib.hid hlc
    have HLL := Lib.hid hll
    have HXC := Lib.hid hxc
    have HXL := Lib.hid hxl
    have HTC := Lib.hid htc
    have HTL := Lib.hid htl
    have HTB := Lib.hid fun (u : Nat) a b c => turn_back T hX (u := u) a b c hpw
    have HXX := Lib.hid hX
    have HKS := Lib.hid hk
    have HRR := Lib.hid hR
    have HPW := Lib.hid hpw
    have HPT := Lib.hid hpt
    have HTI := Lib.hid hlt
    have HE := Lib.hid he
    have HS := Lib.hid hS
    have HW := Lib.hid hW
    have hpe : ((S.parts.length : Int) == 0) = false := beq_eq_false_iff_ne.2 (by omega)
    have n1 : ((S.parts.length : Int) != S.parts.length) = false := by simp
    have n2 : ((S.chans.length : Int) != S.chans.length) = false := by simp
    clear he hS hW hpt hlc hll hxc hxl htc htl hk hR hpw T hRX htX smD hcl h0 hlt hX
    go_enter Tryd.func7, Tryd.ntmps7
    go_wp2_with fail
    refine (HST.out _ (HE.out.up (by repeat (first | exact Below.refl _ _ | assumption | refine Below.drew ?_ | refine Below.alloc ?_ (by first | (simp; done) | (simp; omega)) _ | refine Below.setCell ?_ (by first | (simp; done) | (simp; omega)) _))) (HS.out.up (by repeat (first | exact Below.refl _ _ | assumption | refine Below.drew ?_ | refine Below.alloc ?_ (by first | (simp; done) | (simp; omega)) _ | refine Below.setCell ?_ (by first | (simp; done) | (simp; omega)) _))) (HW.out.up (by repeat (first | exact Below.refl _ _ | assumption | refine Below.drew ?_ | refine Below.alloc ?_ (by first | (simp; done) | (simp; omega)) _ | refine Below.setCell ?_ (by first | (simp; done) | (simp; omega)) _)))).mono ?_
    rintro e w1 ⟨xc, xl, rfl, hN, b1⟩
    obtain ⟨xa, xcc, rfl⟩ := hN.wld.c.formN HXC.out
    obtain ⟨xb, xlc, rfl⟩ := hN.wld.l.formN HXL.out
    have z1 := b1.size
    simp at z1
    have R0 : Hid (Rw w1 w.heap.size 26 #[(.slice pa S.parts.length pc), (.slice ka S.chans.length kc), (.slice sa S.slots.length sc)]) := Rw.up (by repeat (first | exact Rw.new _ _ _ (by first | rfl | (simp; done) | omega | (simp; omega)) | refine Rw.alloc ?_ _)) b1 (by first | omega | (simp; done) | (simp; omega))
    have R1 : Hid (Rw w1 (w.heap.size + 1) 30 #[.int .i64 D.tick, (.slice ua S.parts.length uc), (.slice la S.chans.length lc)]) := Rw.up (by repeat (first | exact Rw.new _ _ _ (by first | rfl | (simp; done) | omega | (simp; omega)) | refine Rw.alloc ?_ _)) b1 (by first | omega | (simp; done) | (simp; omega))
    have HB : Hid (Below w.heap.size w w1) := by
      refine Below.trans ?_ (b1.mono (by first | omega | (simp; done) | (simp; omega)))
      exact (by repeat (first | exact Below.refl _ _ | assumption | refine Below.drew ?_ | refine Below.alloc ?_ (by first | (simp; done) | (simp; omega)) _ | refine Below.setCell ?_ (by first | (simp; done) | (simp; omega)) _))
    have HN := Lib.hid hN
    clear b1 HST hN
    go_wp2_with (refine wpList_store_rowW rfl 30 (.tmp 7) (.tmp 23) rfl w1.heap.size #[.int .i64 X.tick, (.slice xa S.parts.length xcc), (.slice xb S.chans.length xlc)] rfl rfl 30 #[.int .i64 0, .slice none 0 0, .slice none 0 0] (by repeat (first | exact Rw.new _ _ _ (by first | rfl | (simp; done) | omega | (simp; omega)) | refine Rw.alloc ?_ _)) sizeWld rfl (world_one _ _ _ _ _ _ _) ?_)
    intro W2 HW2
    have hK2 : Kt w W2 w1.heap.size (.slice pa S.parts.length pc) (.slice ka S.chans.length kc) (.slice sa S.slots.length sc) (.slice ua S.parts.length uc) (.slice la S.chans.length lc) (.slice xa S.parts.length xcc) (.slice xb S.chans.length xlc) S D X := by
      rw [HW2.out]
      have hb0 : Below w1.heap.size w1 ((w1.alloc (.cells #[.int .i64 0, .slice none 0 0, .slice none 0 0] 30)).setRow w1.heap.size #[.int .i64 X.tick, (.slice xa S.parts.length xcc), (.slice xb S.chans.length xlc)]) := below_row ((Below.refl _ _).alloc (Nat.le_refl _) _) (Nat.le_refl _) _
      have hd := HB.out.trans (hb0.mono (by omega))
      exact ⟨hd, HE.out.up hd, HS.out.up hd, HW.out.up hd, (HN.out.fresh _ _).wld, R0.out.up hb0 (by omega), R1.out.up hb0 (by omega), Rw.row (cs := #[.int .i64 0, .slice none 0 0, .slice none 0 0]) (by repeat (first | exact Rw.new _ _ _ (by first | rfl | (simp; done) | omega | (simp; omega)) | refine Rw.alloc ?_ _)) _⟩
    have K2 := Lib.hid hK2
    clear HW2 hK2 R0 R1 HB HN HE HS HW
    generalize w1.heap.size = g7 at K2 ⊢
    have s0 := K2.out.r0.cell (j := 0) (v := .slice pa S.parts.length pc) rfl
    have s1 := K2.out.r0.cell (j := 1) (v := .slice ka S.chans.length kc) rfl
    have s2 := K2.out.r0.cell (j := 2) (v := .slice sa S.slots.length sc) rfl
    have q0 := K2.out.r1.cell (j := 0) (v := .int .i64 D.tick) rfl
    go_wp2_with fail
    refine (HWHO.out _ K2.out.e K2.out.s).mono ?_
    rintro e w3 ⟨rfl, b3⟩
    have K3 := Lib.hid (K2.out.up b3)
    clear b3 K2 HWHO s0 s1 s2 q0
    have s0 := K3.out.r0.cell (j := 0) (v := .slice pa S.parts.length pc) rfl
    have s1 := K3.out.r0.cell (j := 1) (v := .slice ka S.chans.length kc) rfl
    have q1 := K3.out.r1.cell (j := 1) (v := .slice ua S.parts.length uc) rfl
    have q2 := K3.out.r1.cell (j := 2) (v := .slice la S.chans.length lc) rfl
    have p1 := K3.out.r7.cell (j := 1) (v := .slice xa S.parts.length xcc) rfl
    have p2 := K3.out.r7.cell (j := 2) (v := .slice xb S.chans.length xlc) rfl
    go_wp2
    clear s0 s1 q1 q2 p1 p2
    go_loopw [11] (fun i wr => ∃ k : Nat, i = .int .i64 k ∧ k ≤ S.parts.length ∧ Hid (Kt w wr g7 (.slice pa S.parts.length pc) (.slice ka S.chans.length kc) (.slice sa S.slots.length sc) (.slice ua S.parts.length uc) (.slice la S.chans.length lc) (.slice xa S.parts.length xcc) (.slice xb S.chans.length xlc) S D X)) (fun i _ => S.parts.length - (intOf i).toNat)
    case atStart => exact ⟨0, rfl, Nat.zero_le _, K3⟩
    case round =>
    clear K3
    obtain ⟨k, rfl, hk, K⟩ := hrel
    have q1 := K.out.r1.cell (j := 1) (v := .slice ua S.parts.length uc) rfl
    by_cases hlt : k < S.parts.length
    · have hli : (k : Int) < S.parts.length := by omega
      have h0i : (0 : Int) ≤ k := by omega
      by_cases hkp : k = pn
      · have HBk : Hid (((k : Int) != (pn : Int)) = false) := by
          show _ = _
          simp [hkp]
        clear hkp
        go_wp2
        clear q1
        have KK := K
        clear K
        refine region_still (S := fun w' => Below wr.heap.size wr w') 16 (by kernel_rfl) (Below.refl _ _).drew (fun hHeld => ?_)
        refine Still.takeBy (i := 0) [3, 2] (v := ?v11) (by kernel_rfl) (by kernel_rfl) rfl (by kernel_rfl) (by kernel_rfl) (by kernel_rfl) (fun _ _ _ h => h) (Or.inl ⟨by kernel_rfl, ?y11⟩) hHeld ?r11
        case y11 => (intro w' hSw; (try dsimp only at hSw); go_simp; try with_reducible rfl)
        simp only [Act.put, List.getElem_toArray, List.getElem_cons_zero, List.getElem_cons_succ, List.setIfInBounds_toArray, List.set_cons_zero, List.set_cons_succ]
        refine Still.takeBy (i := 1) [3, 2] (v := ?v12) (by kernel_rfl) (by kernel_rfl) rfl (by kernel_rfl) (by kernel_rfl) (by kernel_rfl) (fun _ _ _ h => h) (Or.inl ⟨by kernel_rfl, ?y12⟩) hHeld ?r12
        case y12 => (intro w' hSw; (try dsimp only at hSw); go_simp; try with_reducible rfl)
        simp only [Act.put, List.getElem_toArray, List.getElem_cons_zero, List.getElem_cons_succ, List.setIfInBounds_toArray, List.set_cons_zero, List.set_cons_succ]
        refine Still.takeBy (i := 2) [3] (v := ?v13) (by kernel_rfl) (by kernel_rfl) rfl (by kernel_rfl) (by kernel_rfl) (by kernel_rfl) (fun _ _ _ h => h) (Or.inl ⟨by kernel_rfl, ?y13⟩) hHeld ?r13
        case y13 => (intro w' hSw; (try dsimp only at hSw); go_simp; (try simp only [HBk.out]); try with_reducible rfl)
        simp only [Act.put, List.getElem_toArray, List.getElem_cons_zero, List.getElem_cons_succ, List.setIfInBounds_toArray, List.set_cons_zero, List.set_cons_succ]
        refine Still.takeBy (i := 3) [] (v := ?v14) (by kernel_rfl) (by kernel_rfl) rfl (by kernel_rfl) (by kernel_rfl) (by kernel_rfl) (fun _ _ _ h => h) (Or.inl ⟨by kernel_rfl, ?y14⟩) hHeld ?r14
        case y14 => (intro w' hSw; (try dsimp only at hSw); go_simp; try with_reducible rfl)
        simp only [Act.put, List.getElem_toArray, List.getElem_cons_zero, List.getElem_cons_succ, List.setIfInBounds_toArray, List.set_cons_zero, List.set_cons_succ]
        refine Still.takeBy (i := 4) [15, 14, 8, 7, 5] (by kernel_rfl) (by kernel_rfl) rfl (by kernel_rfl) (by kernel_rfl) (by kernel_rfl) (fun _ _ _ h => h) (Or.inr ⟨by kernel_rfl, rfl⟩) hHeld ?r15
        simp only [Act.put, List.getElem_toArray, List.getElem_cons_zero, List.getElem_cons_succ, List.setIfInBounds_toArray, List.set_cons_zero, List.set_cons_succ]
        refine Still.takeBy (i := 5) [15, 14, 8, 7] (by kernel_rfl) (by kernel_rfl) rfl (by kernel_rfl) (by kernel_rfl) (by kernel_rfl) (fun _ _ _ h => h) (Or.inr ⟨by kernel_rfl, rfl⟩) hHeld ?r16
        simp only [Act.put, List.getElem_toArray, List.getElem_cons_zero, List.getElem_cons_succ, List.setIfInBounds_toArray, List.set_cons_zero, List.set_cons_succ]
        refine Still.takeBy (i := 6) [15, 14, 8, 7] (by kernel_rfl) (by kernel_rfl) rfl (by kernel_rfl) (by kernel_rfl) (by kernel_rfl) (fun _ _ _ h => h) (Or.inr ⟨by kernel_rfl, rfl⟩) hHeld ?r17
        simp only [Act.put, List.getElem_toArray, List.getElem_cons_zero, List.getElem_cons_succ, List.setIfInBounds_toArray, List.set_cons_zero, List.set_cons_succ]
        refine Still.takeBy (i := 7) [15, 14, 8] (by kernel_rfl) (by kernel_rfl) rfl (by kernel_rfl) (by kernel_rfl) (by kernel_rfl) (fun _ _ _ h => h) (Or.inr ⟨by kernel_rfl, rfl⟩) hHeld ?r18
        simp only [Act.put, List.getElem_toArray, List.getElem_cons_zero, List.getElem_cons_succ, List.setIfInBounds_toArray, List.set_cons_zero, List.set_cons_succ]
        refine Still.takeBy (i := 8) [15, 14] (by kernel_rfl) (by kernel_rfl) rfl (by kernel_rfl) (by kernel_rfl) (by kernel_rfl) (fun _ _ _ h => h) (Or.inr ⟨by kernel_rfl, rfl⟩) hHeld ?r19
        simp only [Act.put, List.getElem_toArray, List.getElem_cons_zero, List.getElem_cons_succ, List.setIfInBounds_toArray, List.set_cons_zero, List.set_cons_succ]
        refine Still.takeBy (i := 9) [15, 14, 13, 12, 10] (by kernel_rfl) (by kernel_rfl) rfl (by kernel_rfl) (by kernel_rfl) (by kernel_rfl) (fun _ _ _ h => h) (Or.inr ⟨by kernel_rfl, rfl⟩) hHeld ?r20
        simp only [Act.put, List.getElem_toArray, List.getElem_cons_zero, List.getElem_cons_succ, List.setIfInBounds_toArray, List.set_cons_zero, List.set_cons_succ]
        refine Still.takeBy (i := 10) [15, 14, 13, 12] (by kernel_rfl) (by kernel_rfl) rfl (by kernel_rfl) (by kernel_rfl) (by kernel_rfl) (fun _ _ _ h => h) (Or.inr ⟨by kernel_rfl, rfl⟩) hHeld ?r21
        simp only [Act.put, List.getElem_toArray, List.getElem_cons_zero, List.getElem_cons_succ, List.setIfInBounds_toArray, List.set_cons_zero, List.set_cons_succ]
        refine Still.takeBy (i := 11) [15, 14, 13, 12] (by kernel_rfl) (by kernel_rfl) rfl (by kernel_rfl) (by kernel_rfl) (by kernel_rfl) (fun _ _ _ h => h) (Or.inr ⟨by kernel_rfl, rfl⟩) hHeld ?r22
        simp only [Act.put, List.getElem_toArray, List.getElem_cons_zero, List.getElem_cons_succ, List.setIfInBounds_toArray, List.set_cons_zero, List.set_cons_succ]
        refine Still.takeBy (i := 12) [15, 14, 13] (by kernel_rfl) (by kernel_rfl) rfl (by kernel_rfl) (by kernel_rfl) (by kernel_rfl) (fun _ _ _ h => h) (Or.inr ⟨by kernel_rfl, rfl⟩) hHeld ?r23
        simp only [Act.put, List.getElem_toArray, List.getElem_cons_zero, List.getElem_cons_succ, List.setIfInBounds_toArray, List.set_cons_zero, List.set_cons_succ]
        refine Still.takeBy (i := 13) [15, 14] (by kernel_rfl) (by kernel_rfl) rfl (by kernel_rfl) (by kernel_rfl) (by kernel_rfl) (fun _ _ _ h => h) (Or.inr ⟨by kernel_rfl, rfl⟩) hHeld ?r24
        simp only [Act.put, List.getElem_toArray, List.getElem_cons_zero, List.getElem_cons_succ, List.setIfInBounds_toArray, List.set_cons_zero, List.set_cons_succ]
        refine Still.takeBy (i := 14) [15] (by kernel_rfl) (by kernel_rfl) rfl (by kernel_rfl) (by kernel_rfl) (by kernel_rfl) (fun _ _ _ h => h) (Or.inr ⟨by kernel_rfl, rfl⟩) hHeld ?r25
        simp only [Act.put, List.getElem_toArray, List.getElem_cons_zero, List.getElem_cons_succ, List.setIfInBounds_toArray, List.set_cons_zero, List.set_cons_succ]
        refine Still.takeBy (i := 15) [] (by kernel_rfl) (by kernel_rfl) rfl (by kernel_rfl) (by kernel_rfl) (by kernel_rfl) (fun _ _ _ h => h) (Or.inr ⟨by kernel_rfl, rfl⟩) hHeld ?r26
        simp only [Act.put, List.getElem_toArray, List.getElem_cons_zero, List.getElem_cons_succ, List.setIfInBounds_toArray, List.set_cons_zero, List.set_cons_succ]
        refine Still.all (rs := [16]) (by kernel_rfl) (by simp) (Still.one (i := 16) rfl rfl (fun K hK => ?_) (by simp))
        go_simp
        refine hK _ _ (fun h => absurd rfl h) (fun _ => ?_)
        clear hK K
        refine Still.over (by kernel_rfl) ?_ _
        have K' := Lib.hid (KK.out.up hHeld)
        clear hHeld
        go_wp2
        go_roundw
        case rel => exact ⟨k + 1, by go_num, by omega, K'⟩
        case measure => simp [intOf]; omega
      · have HBk : Hid (((k : Int) != (pn : Int)) = true) := by
          show _ = _
          simp
          omega
        obtain ⟨b, off, hua, hcap, hb, hc⟩ := K.out.wd.c.openN HLC.out (by omega)
        subst hua
        obtain ⟨ao, oc, hra, hso⟩ := hc k (by have := HLC.out; omega)
        obtain ⟨b2, off2, hxa, hcap2, hb2, hc2⟩ := K.out.x.c.openN HXC.out (by omega)
        subst hxa
        obtain ⟨ao2, oc2, hra2, hso2⟩ := hc2 k (by have := HXC.out; omega)
        have hkx : k < X.cells.length := by have := HXC.out; omega
        have hkd : k < D.cells.length := by have := HLC.out; omega
        have hee : X.cells[k] = D.cells[k] := by
          have h := HXX.out
          subst h
          exact HTC.out k hkd hkx hkp
        rw [hee] at hra2 hso2
        have hnk := SMD.out.o k hkd
        generalize D.cells[k] = dd at hra hso hra2 hso2 hnk
        obtain ⟨c, out⟩ := dd
        simp only at hra hso hra2 hso2 hnk
        have RA := Lib.hid hra
        have RB := Lib.hid hra2
        have SA := Lib.hid hso
        have SB := Lib.hid hso2
        have HCK := Lib.hid fun V hx hy => sameCells_agg c out (.slice ao2 out.length oc2) (.slice ao out.length oc) V hx hy (by omega)
        clear hra hso hc hra2 hso2 hc2 hee hkx hkd hkp
        go_wp2
        clear q1
        have KK := K
        clear K
        refine region_still (S := fun w' => Below wr.heap.size wr w') 16 (by kernel_rfl) (Below.refl _ _).drew (fun hHeld => ?_)
        refine Still.takeBy (i := 0) [3, 2] (v := ?v51) (by kernel_rfl) (by kernel_rfl) rfl (by kernel_rfl) (by kernel_rfl) (by kernel_rfl) (fun _ _ _ h => h) (Or.inl ⟨by kernel_rfl, ?y51⟩) hHeld ?r51
        case y51 => (intro w' hSw; (try dsimp only at hSw); go_simp; try with_reducible rfl)
        simp only [Act.put, List.getElem_toArray, List.getElem_cons_zero, List.getElem_cons_succ, List.setIfInBounds_toArray, List.set_cons_zero, List.set_cons_succ]
        refine Still.takeBy (i := 1) [3, 2] (v := ?v52) (by kernel_rfl) (by kernel_rfl) rfl (by kernel_rfl) (by kernel_rfl) (by kernel_rfl) (fun _ _ _ h => h) (Or.inl ⟨by kernel_rfl, ?y52⟩) hHeld ?r52
        case y52 => (intro w' hSw; (try dsimp only at hSw); go_simp; try with_reducible rfl)
        simp only [Act.put, List.getElem_toArray, List.getElem_cons_zero, List.getElem_cons_succ, List.setIfInBounds_toArray, List.set_cons_zero, List.set_cons_succ]
        refine Still.takeBy (i := 2) [3] (v := ?v53) (by kernel_rfl) (by kernel_rfl) rfl (by kernel_rfl) (by kernel_rfl) (by kernel_rfl) (fun _ _ _ h => h) (Or.inl ⟨by kernel_rfl, ?y53⟩) hHeld ?r53
        case y53 => (intro w' hSw; (try dsimp only at hSw); go_simp; (try simp only [HBk.out]); try with_reducible rfl)
        simp only [Act.put, List.getElem_toArray, List.getElem_cons_zero, List.getElem_cons_succ, List.setIfInBounds_toArray, List.set_cons_zero, List.set_cons_succ]
        refine Still.takeBy (i := 3) [] (v := ?v54) (by kernel_rfl) (by kernel_rfl) rfl (by kernel_rfl) (by kernel_rfl) (by kernel_rfl) (fun _ _ _ h => h) (Or.inl ⟨by kernel_rfl, ?y54⟩) hHeld ?r54
        case y54 => (intro w' hSw; (try dsimp only at hSw); go_simp; try with_reducible rfl)
        simp only [Act.put, List.getElem_toArray, List.getElem_cons_zero, List.getElem_cons_succ, List.setIfInBounds_toArray, List.set_cons_zero, List.set_cons_succ]
        refine Still.takeBy (i := 4) [15, 14, 8, 7, 5] (v := ?v55) (by kernel_rfl) (by kernel_rfl) rfl (by kernel_rfl) (by kernel_rfl) (by kernel_rfl) (fun _ _ _ h => h) (Or.inl ⟨by kernel_rfl, ?y55⟩) hHeld ?r55
        case y55 => (intro w' hSw; (try dsimp only at hSw); have q1 := (KK.out.r7.up hSw KK.out.r7.lt).cell (j := 1) (v := .slice (some ⟨b2, off2, none⟩) S.parts.length xcc) rfl; clear hSw; go_simp; try with_reducible rfl)
        simp only [Act.put, List.getElem_toArray, List.getElem_cons_zero, List.getElem_cons_succ, List.setIfInBounds_toArray, List.set_cons_zero, List.set_cons_succ]
        refine Still.takeBy (i := 5) [15, 14, 8, 7] (v := ?v56) (by kernel_rfl) (by kernel_rfl) rfl (by kernel_rfl) (by kernel_rfl) (by kernel_rfl) (fun _ _ _ h => h) (Or.inl ⟨by kernel_rfl, ?y56⟩) hHeld ?r56
        case y56 => (intro w' hSw; (try dsimp only at hSw); have q1 := (KK.out.r7.up hSw KK.out.r7.lt).cell (j := 1) (v := .slice (some ⟨b2, off2, none⟩) S.parts.length xcc) rfl; clear hSw; go_simp; try with_reducible rfl)
        simp only [Act.put, List.getElem_toArray, List.getElem_cons_zero, List.getElem_cons_succ, List.setIfInBounds_toArray, List.set_cons_zero, List.set_cons_succ]
        refine Still.takeBy (i := 6) [15, 14, 8, 7] (v := ?v57) (by kernel_rfl) (by kernel_rfl) rfl (by kernel_rfl) (by kernel_rfl) (by kernel_rfl) (fun _ _ _ h => h) (Or.inl ⟨by kernel_rfl, ?y57⟩) hHeld ?r57
        case y57 => (intro w' hSw; (try dsimp only at hSw); have q1 := (KK.out.r7.up hSw KK.out.r7.lt).cell (j := 1) (v := .slice (some ⟨b2, off2, none⟩) S.parts.length xcc) rfl; clear hSw; go_simp; try with_reducible rfl)
        simp only [Act.put, List.getElem_toArray, List.getElem_cons_zero, List.getElem_cons_succ, List.setIfInBounds_toArray, List.set_cons_zero, List.set_cons_succ]
        refine Still.takeBy (i := 7) [15, 14, 8] (v := ?v58) (by kernel_rfl) (by kernel_rfl) rfl (by kernel_rfl) (by kernel_rfl) (by kernel_rfl) (fun _ _ _ h => h) (Or.inl ⟨by kernel_rfl, ?y58⟩) hHeld ?r58
        case y58 => (intro w' hSw; (try dsimp only at hSw); have q1 := (KK.out.r7.up hSw KK.out.r7.lt).cell (j := 1) (v := .slice (some ⟨b2, off2, none⟩) S.parts.length xcc) rfl; clear hSw; go_simp; try with_reducible rfl)
        simp only [Act.put, List.getElem_toArray, List.getElem_cons_zero, List.getElem_cons_succ, List.setIfInBounds_toArray, List.set_cons_zero, List.set_cons_succ]
        refine Still.takeBy (i := 8) [15, 14] (by kernel_rfl) (by kernel_rfl) rfl (by kernel_rfl) (by kernel_rfl) (by kernel_rfl) (fun _ _ _ h => h) (yields_load_midA (by kernel_rfl) _ _ rfl b2 (off2 + k * 16) (by first | rfl | simp [Act.eval, Act.put]) (c.cs (.slice ao2 out.length oc2)) _ (fun w' hSw => range_up RB.out hSw hb2) Tryd.underlying54 rfl sizeCell) hHeld ?r59
        simp only [Act.put, List.getElem_toArray, List.getElem_cons_zero, List.getElem_cons_succ, List.setIfInBounds_toArray, List.set_cons_zero, List.set_cons_succ]
        refine Still.takeBy (i := 9) [15, 14, 13, 12, 10] (v := ?v60) (by kernel_rfl) (by kernel_rfl) rfl (by kernel_rfl) (by kernel_rfl) (by kernel_rfl) (fun _ _ _ h => h) (Or.inl ⟨by kernel_rfl, ?y60⟩) hHeld ?r60
        case y60 => (intro w' hSw; (try dsimp only at hSw); have q1 := (KK.out.r1.up hSw KK.out.r1.lt).cell (j := 1) (v := .slice (some ⟨b, off, none⟩) S.parts.length uc) rfl; clear hSw; go_simp; try with_reducible rfl)
        simp only [Act.put, List.getElem_toArray, List.getElem_cons_zero, List.getElem_cons_succ, List.setIfInBounds_toArray, List.set_cons_zero, List.set_cons_succ]
        refine Still.takeBy (i := 10) [15, 14, 13, 12] (v := ?v61) (by kernel_rfl) (by kernel_rfl) rfl (by kernel_rfl) (by kernel_rfl) (by kernel_rfl) (fun _ _ _ h => h) (Or.inl ⟨by kernel_rfl, ?y61⟩) hHeld ?r61
        case y61 => (intro w' hSw; (try dsimp only at hSw); have q1 := (KK.out.r1.up hSw KK.out.r1.lt).cell (j := 1) (v := .slice (some ⟨b, off, none⟩) S.parts.length uc) rfl; clear hSw; go_simp; try with_reducible rfl)
        simp only [Act.put, List.getElem_toArray, List.getElem_cons_zero, List.getElem_cons_succ, List.setIfInBounds_toArray, List.set_cons_zero, List.set_cons_succ]
        refine Still.takeBy (i := 11) [15, 14, 13, 12] (v := ?v62) (by kernel_rfl) (by kernel_rfl) rfl (by kernel_rfl) (by kernel_rfl) (by kernel_rfl) (fun _ _ _ h => h) (Or.inl ⟨by kernel_rfl, ?y62⟩) hHeld ?r62
        case y62 => (intro w' hSw; (try dsimp only at hSw); have q1 := (KK.out.r1.up hSw KK.out.r1.lt).cell (j := 1) (v := .slice (some ⟨b, off, none⟩) S.parts.length uc) rfl; clear hSw; go_simp; try with_reducible rfl)
        simp only [Act.put, List.getElem_toArray, List.getElem_cons_zero, List.getElem_cons_succ, List.setIfInBounds_toArray, List.set_cons_zero, List.set_cons_succ]
        refine Still.takeBy (i := 12) [15, 14, 13] (v := ?v63) (by kernel_rfl) (by kernel_rfl) rfl (by kernel_rfl) (by kernel_rfl) (by kernel_rfl) (fun _ _ _ h => h) (Or.inl ⟨by kernel_rfl, ?y63⟩) hHeld ?r63
        case y63 => (intro w' hSw; (try dsimp only at hSw); have q1 := (KK.out.r1.up hSw KK.out.r1.lt).cell (j := 1) (v := .slice (some ⟨b, off, none⟩) S.parts.length uc) rfl; clear hSw; go_simp; try with_reducible rfl)
        simp only [Act.put, List.getElem_toArray, List.getElem_cons_zero, List.getElem_cons_succ, List.setIfInBounds_toArray, List.set_cons_zero, List.set_cons_succ]
        refine Still.takeBy (i := 13) [15, 14] (by kernel_rfl) (by kernel_rfl) rfl (by kernel_rfl) (by kernel_rfl) (by kernel_rfl) (fun _ _ _ h => h) (yields_load_midA (by kernel_rfl) _ _ rfl b (off + k * 16) (by first | rfl | simp [Act.eval, Act.put]) (c.cs (.slice ao out.length oc)) _ (fun w' hSw => range_up RA.out hSw hb) Tryd.underlying54 rfl sizeCell) hHeld ?r64
        simp only [Act.put, List.getElem_toArray, List.getElem_cons_zero, List.getElem_cons_succ, List.setIfInBounds_toArray, List.set_cons_zero, List.set_cons_succ]
        refine Still.all (rs := [14]) (by kernel_rfl) (by simp) (Still.oneG (i := 14) rfl (by kernel_rfl) (fun K hK => ?_) (by simp))
        refine wp_call 22 _ _ rfl ent_sameCells #[.agg (c.cs (.slice ao2 out.length oc2)), .agg (c.cs (.slice ao out.length oc))] (by first | rfl | simp [Act.eval, Act.put]) ((HCK.out _ (SB.out.up hHeld) (SA.out.up hHeld)).mono ?_)
        rintro e V1 ⟨rfl, bb⟩
        refine ⟨_, rfl, hK _ _ (fun _ => hHeld.trans (bb.mono hHeld.size)) (fun hh => ?_)⟩
        have hHeld := hh (by decide)
        clear hK K hh
        try simp only [Act.put, List.getElem_toArray, List.getElem_cons_zero, List.getElem_cons_succ, List.setIfInBounds_toArray, List.set_cons_zero, List.set_cons_succ]
        clear bb
        refine Still.takeBy (i := 15) [] (v := ?v65) (by kernel_rfl) (by kernel_rfl) rfl (by kernel_rfl) (by kernel_rfl) (by kernel_rfl) (fun _ _ _ h => h) (Or.inl ⟨by kernel_rfl, ?y65⟩) hHeld ?r65
        case y65 => (intro w' hSw; (try dsimp only at hSw); go_simp; try with_reducible rfl)
        simp only [Act.put, List.getElem_toArray, List.getElem_cons_zero, List.getElem_cons_succ, List.setIfInBounds_toArray, List.set_cons_zero, List.set_cons_succ]
        refine Still.all (rs := [16]) (by kernel_rfl) (by simp) (Still.one (i := 16) rfl rfl (fun K hK => ?_) (by simp))
        go_simp
        refine hK _ _ (fun h => absurd rfl h) (fun _ => ?_)
        clear hK K
        refine Still.over (by kernel_rfl) ?_ _
        have K' := Lib.hid (KK.out.up hHeld)
        clear hHeld
        go_wp2
        go_roundw
        case rel => exact ⟨k + 1, by go_num, by omega, K'⟩
        case measure => simp [intOf]; omega
    · have hli : ¬ (k : Int) < S.parts.length := by omega
      go_wp2
      clear q1 hlt hli hk
      go_loopw [12] (fun i wr => ∃ k : Nat, i = .int .i64 k ∧ k ≤ S.chans.length ∧ Hid (Kt w wr g7 (.slice pa S.parts.length pc) (.slice ka S.chans.length kc) (.slice sa S.slots.length sc) (.slice ua S.parts.length uc) (.slice la S.chans.length lc) (.slice xa S.parts.length xcc) (.slice xb S.chans.length xlc) S D X)) (fun i _ => S.chans.length - (intOf i).toNat)
      case atStart => exact ⟨0, rfl, Nat.zero_le _, K⟩
      case round =>
      clear K
      obtain ⟨k, rfl, hk, K⟩ := hrel
      have q2 := K.out.r1.cell (j := 2) (v := .slice la S.chans.length lc) rfl
      by_cases hlt : k < S.chans.length
      · have hli : (k : Int) < S.chans.length := by omega
        have h0i : (0 : Int) ≤ k := by omega
        obtain ⟨kb, ko, kcap, e5, hkcap, hkbw, hkc⟩ := K.out.s.c.open (by omega)
        cases e5
        obtain ⟨hkd, hfr, htt⟩ := chan_cells hkc k hlt
        have KF := Lib.hid hfr
        have KTT := Lib.hid htt
        by_cases hf : S.chans[k].fr = pn
        · have HBf : Hid ((S.chans[k].fr != (pn : Int)) = false) := by
            show _ = _
            simp [hf]
          generalize S.chans[k] = ch at KF KTT HBf
          obtain ⟨kd, fr, tt⟩ := ch
          simp only at KF KTT HBf
          clear hf hkc hkd hfr htt
          go_wp2
          clear q2
          have KK := K
          clear K
          refine region_still (S := fun w' => Below wr.heap.size wr w') 33 (by kernel_rfl) (Below.refl _ _).drew (fun hHeld => ?_)
          refine Still.takeBy (i := 0) [18, 8, 7, 5, 4, 3, 1] (v := ?v101) (by kernel_rfl) (by kernel_rfl) rfl (by kernel_rfl) (by kernel_rfl) (by kernel_rfl) (fun _ _ _ h => h) (Or.inl ⟨by kernel_rfl, ?y101⟩) hHeld ?r101
          case y101 => (intro w' hSw; (try dsimp only at hSw); have q1 := (KK.out.r0.up hSw KK.out.r0.lt).cell (j := 1) (v := .slice (some ⟨kb, ko, none⟩) S.chans.length kc) rfl; have q2 := bcl hSw hkbw KF.out; have q3 := bcl hSw hkbw KTT.out; clear hSw; go_simp; try with_reducible rfl)
          simp only [Act.put, List.getElem_toArray, List.getElem_cons_zero, List.getElem_cons_succ, List.setIfInBounds_toArray, List.set_cons_zero, List.set_cons_succ]
          refine Still.takeBy (i := 1) [18, 8, 7, 5, 4, 3] (v := ?v102) (by kernel_rfl) (by kernel_rfl) rfl (by kernel_rfl) (by kernel_rfl) (by kernel_rfl) (fun _ _ _ h => h) (Or.inl ⟨by kernel_rfl, ?y102⟩) hHeld ?r102
          case y102 => (intro w' hSw; (try dsimp only at hSw); have q1 := (KK.out.r0.up hSw KK.out.r0.lt).cell (j := 1) (v := .slice (some ⟨kb, ko, none⟩) S.chans.length kc) rfl; have q2 := bcl hSw hkbw KF.out; have q3 := bcl hSw hkbw KTT.out; clear hSw; go_simp; try with_reducible rfl)
          simp only [Act.put, List.getElem_toArray, List.getElem_cons_zero, List.getElem_cons_succ, List.setIfInBounds_toArray, List.set_cons_zero, List.set_cons_succ]
          refine Still.takeBy (i := 2) [18, 8, 7, 5, 4, 3] (v := ?v103) (by kernel_rfl) (by kernel_rfl) rfl (by kernel_rfl) (by kernel_rfl) (by kernel_rfl) (fun _ _ _ h => h) (Or.inl ⟨by kernel_rfl, ?y103⟩) hHeld ?r103
          case y103 => (intro w' hSw; (try dsimp only at hSw); have q1 := (KK.out.r0.up hSw KK.out.r0.lt).cell (j := 1) (v := .slice (some ⟨kb, ko, none⟩) S.chans.length kc) rfl; have q2 := bcl hSw hkbw KF.out; have q3 := bcl hSw hkbw KTT.out; clear hSw; go_simp; try with_reducible rfl)
          simp only [Act.put, List.getElem_toArray, List.getElem_cons_zero, List.getElem_cons_succ, List.setIfInBounds_toArray, List.set_cons_zero, List.set_cons_succ]
          refine Still.takeBy (i := 3) [18, 8, 7, 5, 4] (v := ?v104) (by kernel_rfl) (by kernel_rfl) rfl (by kernel_rfl) (by kernel_rfl) (by kernel_rfl) (fun _ _ _ h => h) (Or.inl ⟨by kernel_rfl, ?y104⟩) hHeld ?r104
          case y104 => (intro w' hSw; (try dsimp only at hSw); have q1 := (KK.out.r0.up hSw KK.out.r0.lt).cell (j := 1) (v := .slice (some ⟨kb, ko, none⟩) S.chans.length kc) rfl; have q2 := bcl hSw hkbw KF.out; have q3 := bcl hSw hkbw KTT.out; clear hSw; go_simp; try with_reducible rfl)
          simp only [Act.put, List.getElem_toArray, List.getElem_cons_zero, List.getElem_cons_succ, List.setIfInBounds_toArray, List.set_cons_zero, List.set_cons_succ]
          refine Still.takeBy (i := 4) [18, 8, 7, 5] (v := ?v105) (by kernel_rfl) (by kernel_rfl) rfl (by kernel_rfl) (by kernel_rfl) (by kernel_rfl) (fun _ _ _ h => h) (Or.inl ⟨by kernel_rfl, ?y105⟩) hHeld ?r105
          case y105 => (intro w' hSw; (try dsimp only at hSw); have q1 := (KK.out.r0.up hSw KK.out.r0.lt).cell (j := 1) (v := .slice (some ⟨kb, ko, none⟩) S.chans.length kc) rfl; have q2 := bcl hSw hkbw KF.out; have q3 := bcl hSw hkbw KTT.out; clear hSw; go_simp; try with_reducible rfl)
          simp only [Act.put, List.getElem_toArray, List.getElem_cons_zero, List.getElem_cons_succ, List.setIfInBounds_toArray, List.set_cons_zero, List.set_cons_succ]
          refine Still.takeBy (i := 5) [18, 8, 7] (v := ?v106) (by kernel_rfl) (by kernel_rfl) rfl (by kernel_rfl) (by kernel_rfl) (by kernel_rfl) (fun _ _ _ h => h) (Or.inl ⟨by kernel_rfl, ?y106⟩) hHeld ?r106
          case y106 => (intro w' hSw; (try dsimp only at hSw); have q1 := (KK.out.r0.up hSw KK.out.r0.lt).cell (j := 1) (v := .slice (some ⟨kb, ko, none⟩) S.chans.length kc) rfl; have q2 := bcl hSw hkbw KF.out; have q3 := bcl hSw hkbw KTT.out; clear hSw; go_simp; try with_reducible rfl)
          simp only [Act.put, List.getElem_toArray, List.getElem_cons_zero, List.getElem_cons_succ, List.setIfInBounds_toArray, List.set_cons_zero, List.set_cons_succ]
          refine Still.takeBy (i := 6) [18, 8, 7] (v := ?v107) (by kernel_rfl) (by kernel_rfl) rfl (by kernel_rfl) (by kernel_rfl) (by kernel_rfl) (fun _ _ _ h => h) (Or.inl ⟨by kernel_rfl, ?y107⟩) hHeld ?r107
          case y107 => (intro w' hSw; (try dsimp only at hSw); have q1 := (KK.out.r0.up hSw KK.out.r0.lt).cell (j := 1) (v := .slice (some ⟨kb, ko, none⟩) S.chans.length kc) rfl; have q2 := bcl hSw hkbw KF.out; have q3 := bcl hSw hkbw KTT.out; clear hSw; go_simp; try with_reducible rfl)
          simp only [Act.put, List.getElem_toArray, List.getElem_cons_zero, List.getElem_cons_succ, List.setIfInBounds_toArray, List.set_cons_zero, List.set_cons_succ]
          refine Still.takeBy (i := 7) [18, 8] (v := ?v108) (by kernel_rfl) (by kernel_rfl) rfl (by kernel_rfl) (by kernel_rfl) (by kernel_rfl) (fun _ _ _ h => h) (Or.inl ⟨by kernel_rfl, ?y108⟩) hHeld ?r108
          case y108 => (intro w' hSw; (try dsimp only at hSw); go_simp; (try simp only [HBf.out]); try with_reducible rfl)
          simp only [Act.put, List.getElem_toArray, List.getElem_cons_zero, List.getElem_cons_succ, List.setIfInBounds_toArray, List.set_cons_zero, List.set_cons_succ]
          refine Still.takeBy (i := 8) [18] (v := ?v109) (by kernel_rfl) (by kernel_rfl) rfl (by kernel_rfl) (by kernel_rfl) (by kernel_rfl) (fun _ _ _ h => h) (Or.inl ⟨by kernel_rfl, ?y109⟩) hHeld ?r109
          case y109 => (intro w' hSw; (try dsimp only at hSw); go_simp; try with_reducible rfl)
          simp only [Act.put, List.getElem_toArray, List.getElem_cons_zero, List.getElem_cons_succ, List.setIfInBounds_toArray, List.set_cons_zero, List.set_cons_succ]
          refine Still.takeBy (i := 9) [18, 17, 16, 14, 13, 12, 10] (by kernel_rfl) (by kernel_rfl) rfl (by kernel_rfl) (by kernel_rfl) (by kernel_rfl) (fun _ _ _ h => h) (Or.inr ⟨by kernel_rfl, rfl⟩) hHeld ?r110
          simp only [Act.put, List.getElem_toArray, List.getElem_cons_zero, List.getElem_cons_succ, List.setIfInBounds_toArray, List.set_cons_zero, List.set_cons_succ]
          refine Still.takeBy (i := 10) [18, 17, 16, 14, 13, 12] (by kernel_rfl) (by kernel_rfl) rfl (by kernel_rfl) (by kernel_rfl) (by kernel_rfl) (fun _ _ _ h => h) (Or.inr ⟨by kernel_rfl, rfl⟩) hHeld ?r111
          simp only [Act.put, List.getElem_toArray, List.getElem_cons_zero, List.getElem_cons_succ, List.setIfInBounds_toArray, List.set_cons_zero, List.set_cons_succ]
          refine Still.takeBy (i := 11) [18, 17, 16, 14, 13, 12] (by kernel_rfl) (by kernel_rfl) rfl (by kernel_rfl) (by kernel_rfl) (by kernel_rfl) (fun _ _ _ h => h) (Or.inr ⟨by kernel_rfl, rfl⟩) hHeld ?r112
          simp only [Act.put, List.getElem_toArray, List.getElem_cons_zero, List.getElem_cons_succ, List.setIfInBounds_toArray, List.set_cons_zero, List.set_cons_succ]
          refine Still.takeBy (i := 12) [18, 17, 16, 14, 13] (by kernel_rfl) (by kernel_rfl) rfl (by kernel_rfl) (by kernel_rfl) (by kernel_rfl) (fun _ _ _ h => h) (Or.inr ⟨by kernel_rfl, rfl⟩) hHeld ?r113
          simp only [Act.put, List.getElem_toArray, List.getElem_cons_zero, List.getElem_cons_succ, List.setIfInBounds_toArray, List.set_cons_zero, List.set_cons_succ]
          refine Still.takeBy (i := 13) [18, 17, 16, 14] (by kernel_rfl) (by kernel_rfl) rfl (by kernel_rfl) (by kernel_rfl) (by kernel_rfl) (fun _ _ _ h => h) (Or.inr ⟨by kernel_rfl, rfl⟩) hHeld ?r114
          simp only [Act.put, List.getElem_toArray, List.getElem_cons_zero, List.getElem_cons_succ, List.setIfInBounds_toArray, List.set_cons_zero, List.set_cons_succ]
          refine Still.takeBy (i := 14) [18, 17, 16] (by kernel_rfl) (by kernel_rfl) rfl (by kernel_rfl) (by kernel_rfl) (by kernel_rfl) (fun _ _ _ h => h) (Or.inr ⟨by kernel_rfl, rfl⟩) hHeld ?r115
          simp only [Act.put, List.getElem_toArray, List.getElem_cons_zero, List.getElem_cons_succ, List.setIfInBounds_toArray, List.set_cons_zero, List.set_cons_succ]
          refine Still.takeBy (i := 15) [18, 17, 16] (by kernel_rfl) (by kernel_rfl) rfl (by kernel_rfl) (by kernel_rfl) (by kernel_rfl) (fun _ _ _ h => h) (Or.inr ⟨by kernel_rfl, rfl⟩) hHeld ?r116
          simp only [Act.put, List.getElem_toArray, List.getElem_cons_zero, List.getElem_cons_succ, List.setIfInBounds_toArray, List.set_cons_zero, List.set_cons_succ]
          refine Still.takeBy (i := 16) [18, 17] (by kernel_rfl) (by kernel_rfl) rfl (by kernel_rfl) (by kernel_rfl) (by kernel_rfl) (fun _ _ _ h => h) (Or.inr ⟨by kernel_rfl, rfl⟩) hHeld ?r117
          simp only [Act.put, List.getElem_toArray, List.getElem_cons_zero, List.getElem_cons_succ, List.setIfInBounds_toArray, List.set_cons_zero, List.set_cons_succ]
          refine Still.takeBy (i := 17) [18] (v := ?v118) (by kernel_rfl) (by kernel_rfl) rfl (by kernel_rfl) (by kernel_rfl) (by kernel_rfl) (fun _ _ _ h => h) (Or.inl ⟨by kernel_rfl, ?y118⟩) hHeld ?r118
          case y118 => (intro w' hSw; (try dsimp only at hSw); go_simp; try with_reducible rfl)
          simp only [Act.put, List.getElem_toArray, List.getElem_cons_zero, List.getElem_cons_succ, List.setIfInBounds_toArray, List.set_cons_zero, List.set_cons_succ]
          refine Still.takeBy (i := 18) [] (v := ?v119) (by kernel_rfl) (by kernel_rfl) rfl (by kernel_rfl) (by kernel_rfl) (by kernel_rfl) (fun _ _ _ h => h) (Or.inl ⟨by kernel_rfl, ?y119⟩) hHeld ?r119
          case y119 => (intro w' hSw; (try dsimp only at hSw); go_simp; try with_reducible rfl)
          simp only [Act.put, List.getElem_toArray, List.getElem_cons_zero, List.getElem_cons_succ, List.setIfInBounds_toArray, List.set_cons_zero, List.set_cons_succ]
          refine Still.takeBy (i := 19) [32, 31, 24, 23, 22, 20] (by kernel_rfl) (by kernel_rfl) rfl (by kernel_rfl) (by kernel_rfl) (by kernel_rfl) (fun _ _ _ h => h) (Or.inr ⟨by kernel_rfl, rfl⟩) hHeld ?r120
          simp only [Act.put, List.getElem_toArray, List.getElem_cons_zero, List.getElem_cons_succ, List.setIfInBounds_toArray, List.set_cons_zero, List.set_cons_succ]
          refine Still.takeBy (i := 20) [32, 31, 24, 23, 22] (by kernel_rfl) (by kernel_rfl) rfl (by kernel_rfl) (by kernel_rfl) (by kernel_rfl) (fun _ _ _ h => h) (Or.inr ⟨by kernel_rfl, rfl⟩) hHeld ?r121
          simp only [Act.put, List.getElem_toArray, List.getElem_cons_zero, List.getElem_cons_succ, List.setIfInBounds_toArray, List.set_cons_zero, List.set_cons_succ]
          refine Still.takeBy (i := 21) [32, 31, 24, 23, 22] (by kernel_rfl) (by kernel_rfl) rfl (by kernel_rfl) (by kernel_rfl) (by kernel_rfl) (fun _ _ _ h => h) (Or.inr ⟨by kernel_rfl, rfl⟩) hHeld ?r122
          simp only [Act.put, List.getElem_toArray, List.getElem_cons_zero, List.getElem_cons_succ, List.setIfInBounds_toArray, List.set_cons_zero, List.set_cons_succ]
          refine Still.takeBy (i := 22) [32, 31, 24, 23] (by kernel_rfl) (by kernel_rfl) rfl (by kernel_rfl) (by kernel_rfl) (by kernel_rfl) (fun _ _ _ h => h) (Or.inr ⟨by kernel_rfl, rfl⟩) hHeld ?r123
          simp only [Act.put, List.getElem_toArray, List.getElem_cons_zero, List.getElem_cons_succ, List.setIfInBounds_toArray, List.set_cons_zero, List.set_cons_succ]
          refine Still.takeBy (i := 23) [32, 31, 24] (by kernel_rfl) (by kernel_rfl) rfl (by kernel_rfl) (by kernel_rfl) (by kernel_rfl) (fun _ _ _ h => h) (Or.inr ⟨by kernel_rfl, rfl⟩) hHeld ?r124
          simp only [Act.put, List.getElem_toArray, List.getElem_cons_zero, List.getElem_cons_succ, List.setIfInBounds_toArray, List.set_cons_zero, List.set_cons_succ]
          refine Still.takeBy (i := 24) [32, 31] (by kernel_rfl) (by kernel_rfl) rfl (by kernel_rfl) (by kernel_rfl) (by kernel_rfl) (fun _ _ _ h => h) (Or.inr ⟨by kernel_rfl, rfl⟩) hHeld ?r125
          simp only [Act.put, List.getElem_toArray, List.getElem_cons_zero, List.getElem_cons_succ, List.setIfInBounds_toArray, List.set_cons_zero, List.set_cons_succ]
          refine Still.takeBy (i := 25) [32, 31, 30, 29, 28, 26] (by kernel_rfl) (by kernel_rfl) rfl (by kernel_rfl) (by kernel_rfl) (by kernel_rfl) (fun _ _ _ h => h) (Or.inr ⟨by kernel_rfl, rfl⟩) hHeld ?r126
          simp only [Act.put, List.getElem_toArray, List.getElem_cons_zero, List.getElem_cons_succ, List.setIfInBounds_toArray, List.set_cons_zero, List.set_cons_succ]
          refine Still.takeBy (i := 26) [32, 31, 30, 29, 28] (by kernel_rfl) (by kernel_rfl) rfl (by kernel_rfl) (by kernel_rfl) (by kernel_rfl) (fun _ _ _ h => h) (Or.inr ⟨by kernel_rfl, rfl⟩) hHeld ?r127
          simp only [Act.put, List.getElem_toArray, List.getElem_cons_zero, List.getElem_cons_succ, List.setIfInBounds_toArray, List.set_cons_zero, List.set_cons_succ]
          refine Still.takeBy (i := 27) [32, 31, 30, 29, 28] (by kernel_rfl) (by kernel_rfl) rfl (by kernel_rfl) (by kernel_rfl) (by kernel_rfl) (fun _ _ _ h => h) (Or.inr ⟨by kernel_rfl, rfl⟩) hHeld ?r128
          simp only [Act.put, List.getElem_toArray, List.getElem_cons_zero, List.getElem_cons_succ, List.setIfInBounds_toArray, List.set_cons_zero, List.set_cons_succ]
          refine Still.takeBy (i := 28) [32, 31, 30, 29] (by kernel_rfl) (by kernel_rfl) rfl (by kernel_rfl) (by kernel_rfl) (by kernel_rfl) (fun _ _ _ h => h) (Or.inr ⟨by kernel_rfl, rfl⟩) hHeld ?r129
          simp only [Act.put, List.getElem_toArray, List.getElem_cons_zero, List.getElem_cons_succ, List.setIfInBounds_toArray, List.set_cons_zero, List.set_cons_succ]
          refine Still.takeBy (i := 29) [32, 31, 30] (by kernel_rfl) (by kernel_rfl) rfl (by kernel_rfl) (by kernel_rfl) (by kernel_rfl) (fun _ _ _ h => h) (Or.inr ⟨by kernel_rfl, rfl⟩) hHeld ?r130
          simp only [Act.put, List.getElem_toArray, List.getElem_cons_zero, List.getElem_cons_succ, List.setIfInBounds_toArray, List.set_cons_zero, List.set_cons_succ]
          refine Still.takeBy (i := 30) [32, 31] (by kernel_rfl) (by kernel_rfl) rfl (by kernel_rfl) (by kernel_rfl) (by kernel_rfl) (fun _ _ _ h => h) (Or.inr ⟨by kernel_rfl, rfl⟩) hHeld ?r131
          simp only [Act.put, List.getElem_toArray, List.getElem_cons_zero, List.getElem_cons_succ, List.setIfInBounds_toArray, List.set_cons_zero, List.set_cons_succ]
          refine Still.takeBy (i := 31) [32] (by kernel_rfl) (by kernel_rfl) rfl (by kernel_rfl) (by kernel_rfl) (by kernel_rfl) (fun _ _ _ h => h) (Or.inr ⟨by kernel_rfl, rfl⟩) hHeld ?r132
          simp only [Act.put, List.getElem_toArray, List.getElem_cons_zero, List.getElem_cons_succ, List.setIfInBounds_toArray, List.set_cons_zero, List.set_cons_succ]
          refine Still.takeBy (i := 32) [] (by kernel_rfl) (by kernel_rfl) rfl (by kernel_rfl) (by kernel_rfl) (by kernel_rfl) (fun _ _ _ h => h) (Or.inr ⟨by kernel_rfl, rfl⟩) hHeld ?r133
          simp only [Act.put, List.getElem_toArray, List.getElem_cons_zero, List.getElem_cons_succ, List.setIfInBounds_toArray, List.set_cons_zero, List.set_cons_succ]
          refine Still.all (rs := [33]) (by kernel_rfl) (by simp) (Still.one (i := 33) rfl rfl (fun K hK => ?_) (by simp))
          go_simp
          refine hK _ _ (fun h => absurd rfl h) (fun _ => ?_)
          clear hK K
          refine Still.over (by kernel_rfl) ?_ _
          have K' := Lib.hid (KK.out.up hHeld)
          clear hHeld
          go_wp2
          go_roundw
          case rel => exact ⟨k + 1, by go_num, by omega, K'⟩
          case measure => simp [intOf]; omega
        · have HBf : Hid ((S.chans[k].fr != (pn : Int)) = true) := by
            show _ = _
            simpa using hf
          by_cases hg : S.chans[k].tt = pn
          · have HBt : Hid ((S.chans[k].tt != (pn : Int)) = false) := by
              show _ = _
              simp [hg]
            generalize S.chans[k] = ch at KF KTT HBf HBt
            obtain ⟨kd, fr, tt⟩ := ch
            simp only at KF KTT HBf HBt
            clear hf hg hkc hkd hfr htt
            go_wp2
            clear q2
            have KK := K
            clear K
            refine region_still (S := fun w' => Below wr.heap.size wr w') 33 (by kernel_rfl) (Below.refl _ _).drew (fun hHeld => ?_)
            refine Still.takeBy (i := 0) [18, 8, 7, 5, 4, 3, 1] (v := ?v201) (by kernel_rfl) (by kernel_rfl) rfl (by kernel_rfl) (by kernel_rfl) (by kernel_rfl) (fun _ _ _ h => h) (Or.inl ⟨by kernel_rfl, ?y201⟩) hHeld ?r201
            case y201 => (intro w' hSw; (try dsimp only at hSw); have q1 := (KK.out.r0.up hSw KK.out.r0.lt).cell (j := 1) (v := .slice (some ⟨kb, ko, none⟩) S.chans.length kc) rfl; have q2 := bcl hSw hkbw KF.out; have q3 := bcl hSw hkbw KTT.out; clear hSw; go_simp; try with_reducible rfl)
            simp only [Act.put, List.getElem_toArray, List.getElem_cons_zero, List.getElem_cons_succ, List.setIfInBounds_toArray, List.set_cons_zero, List.set_cons_succ]
            refine Still.takeBy (i := 1) [18, 8, 7, 5, 4, 3] (v := ?v202) (by kernel_rfl) (by kernel_rfl) rfl (by kernel_rfl) (by kernel_rfl) (by kernel_rfl) (fun _ _ _ h => h) (Or.inl ⟨by kernel_rfl, ?y202⟩) hHeld ?r202
            case y202 => (intro w' hSw; (try dsimp only at hSw); have q1 := (KK.out.r0.up hSw KK.out.r0.lt).cell (j := 1) (v := .slice (some ⟨kb, ko, none⟩) S.chans.length kc) rfl; have q2 := bcl hSw hkbw KF.out; have q3 := bcl hSw hkbw KTT.out; clear hSw; go_simp; try with_reducible rfl)
            simp only [Act.put, List.getElem_toArray, List.getElem_cons_zero, List.getElem_cons_succ, List.setIfInBounds_toArray, List.set_cons_zero, List.set_cons_succ]
            refine Still.takeBy (i := 2) [18, 8, 7, 5, 4, 3] (v := ?v203) (by kernel_rfl) (by kernel_rfl) rfl (by kernel_rfl) (by kernel_rfl) (by kernel_rfl) (fun _ _ _ h => h) (Or.inl ⟨by kernel_rfl, ?y203⟩) hHeld ?r203
            case y203 => (intro w' hSw; (try dsimp only at hSw); have q1 := (KK.out.r0.up hSw KK.out.r0.lt).cell (j := 1) (v := .slice (some ⟨kb, ko, none⟩) S.chans.length kc) rfl; have q2 := bcl hSw hkbw KF.out; have q3 := bcl hSw hkbw KTT.out; clear hSw; go_simp; try with_reducible rfl)
            simp only [Act.put, List.getElem_toArray, List.getElem_cons_zero, List.getElem_cons_succ, List.setIfInBounds_toArray, List.set_cons_zero, List.set_cons_succ]
            refine Still.takeBy (i := 3) [18, 8, 7, 5, 4] (v := ?v204) (by kernel_rfl) (by kernel_rfl) rfl (by kernel_rfl) (by kernel_rfl) (by kernel_rfl) (fun _ _ _ h => h) (Or.inl ⟨by kernel_rfl, ?y204⟩) hHeld ?r204
            case y204 => (intro w' hSw; (try dsimp only at hSw); have q1 := (KK.out.r0.up hSw KK.out.r0.lt).cell (j := 1) (v := .slice (some ⟨kb, ko, none⟩) S.chans.length kc) rfl; have q2 := bcl hSw hkbw KF.out; have q3 := bcl hSw hkbw KTT.out; clear hSw; go_simp; try with_reducible rfl)
            simp only [Act.put, List.getElem_toArray, List.getElem_cons_zero, List.getElem_cons_succ, List.setIfInBounds_toArray, List.set_cons_zero, List.set_cons_succ]
            refine Still.takeBy (i := 4) [18, 8, 7, 5] (v := ?v205) (by kernel_rfl) (by kernel_rfl) rfl (by kernel_rfl) (by kernel_rfl) (by kernel_rfl) (fun _ _ _ h => h) (Or.inl ⟨by kernel_rfl, ?y205⟩) hHeld ?r205
            case y205 => (intro w' hSw; (try dsimp only at hSw); have q1 := (KK.out.r0.up hSw KK.out.r0.lt).cell (j := 1) (v := .slice (some ⟨kb, ko, none⟩) S.chans.length kc) rfl; have q2 := bcl hSw hkbw KF.out; have q3 := bcl hSw hkbw KTT.out; clear hSw; go_simp; try with_reducible rfl)
            simp only [Act.put, List.getElem_toArray, List.getElem_cons_zero, List.getElem_cons_succ, List.setIfInBounds_toArray, List.set_cons_zero, List.set_cons_succ]
            refine Still.takeBy (i := 5) [18, 8, 7] (v := ?v206) (by kernel_rfl) (by kernel_rfl) rfl (by kernel_rfl) (by kernel_rfl) (by kernel_rfl) (fun _ _ _ h => h) (Or.inl ⟨by kernel_rfl, ?y206⟩) hHeld ?r206
            case y206 => (intro w' hSw; (try dsimp only at hSw); have q1 := (KK.out.r0.up hSw KK.out.r0.lt).cell (j := 1) (v := .slice (some ⟨kb, ko, none⟩) S.chans.length kc) rfl; have q2 := bcl hSw hkbw KF.out; have q3 := bcl hSw hkbw KTT.out; clear hSw; go_simp; try with_reducible rfl)
            simp only [Act.put, List.getElem_toArray, List.getElem_cons_zero, List.getElem_cons_succ, List.setIfInBounds_toArray, List.set_cons_zero, List.set_cons_succ]
            refine Still.takeBy (i := 6) [18, 8, 7] (v := ?v207) (by kernel_rfl) (by kernel_rfl) rfl (by kernel_rfl) (by kernel_rfl) (by kernel_rfl) (fun _ _ _ h => h) (Or.inl ⟨by kernel_rfl, ?y207⟩) hHeld ?r207
            case y207 => (intro w' hSw; (try dsimp only at hSw); have q1 := (KK.out.r0.up hSw KK.out.r0.lt).cell (j := 1) (v := .slice (some ⟨kb, ko, none⟩) S.chans.length kc) rfl; have q2 := bcl hSw hkbw KF.out; have q3 := bcl hSw hkbw KTT.out; clear hSw; go_simp; try with_reducible rfl)
            simp only [Act.put, List.getElem_toArray, List.getElem_cons_zero, List.getElem_cons_succ, List.setIfInBounds_toArray, List.set_cons_zero, List.set_cons_succ]
            refine Still.takeBy (i := 7) [18, 8] (v := ?v208) (by kernel_rfl) (by kernel_rfl) rfl (by kernel_rfl) (by kernel_rfl) (by kernel_rfl) (fun _ _ _ h => h) (Or.inl ⟨by kernel_rfl, ?y208⟩) hHeld ?r208
            case y208 => (intro w' hSw; (try dsimp only at hSw); go_simp; (try simp only [HBf.out]); try with_reducible rfl)
            simp only [Act.put, List.getElem_toArray, List.getElem_cons_zero, List.getElem_cons_succ, List.setIfInBounds_toArray, List.set_cons_zero, List.set_cons_succ]
            refine Still.takeBy (i := 8) [18] (v := ?v209) (by kernel_rfl) (by kernel_rfl) rfl (by kernel_rfl) (by kernel_rfl) (by kernel_rfl) (fun _ _ _ h => h) (Or.inl ⟨by kernel_rfl, ?y209⟩) hHeld ?r209
            case y209 => (intro w' hSw; (try dsimp only at hSw); go_simp; try with_reducible rfl)
            simp only [Act.put, List.getElem_toArray, List.getElem_cons_zero, List.getElem_cons_succ, List.setIfInBounds_toArray, List.set_cons_zero, List.set_cons_succ]
            refine Still.takeBy (i := 9) [18, 17, 16, 14, 13, 12, 10] (v := ?v210) (by kernel_rfl) (by kernel_rfl) rfl (by kernel_rfl) (by kernel_rfl) (by kernel_rfl) (fun _ _ _ h => h) (Or.inl ⟨by kernel_rfl, ?y210⟩) hHeld ?r210
            case y210 => (intro w' hSw; (try dsimp only at hSw); have q1 := (KK.out.r0.up hSw KK.out.r0.lt).cell (j := 1) (v := .slice (some ⟨kb, ko, none⟩) S.chans.length kc) rfl; have q2 := bcl hSw hkbw KF.out; have q3 := bcl hSw hkbw KTT.out; clear hSw; go_simp; try with_reducible rfl)
            simp only [Act.put, List.getElem_toArray, List.getElem_cons_zero, List.getElem_cons_succ, List.setIfInBounds_toArray, List.set_cons_zero, List.set_cons_succ]
            refine Still.takeBy (i := 10) [18, 17, 16, 14, 13, 12] (v := ?v211) (by kernel_rfl) (by kernel_rfl) rfl (by kernel_rfl) (by kernel_rfl) (by kernel_rfl) (fun _ _ _ h => h) (Or.inl ⟨by kernel_rfl, ?y211⟩) hHeld ?r211
            case y211 => (intro w' hSw; (try dsimp only at hSw); have q1 := (KK.out.r0.up hSw KK.out.r0.lt).cell (j := 1) (v := .slice (some ⟨kb, ko, none⟩) S.chans.length kc) rfl; have q2 := bcl hSw hkbw KF.out; have q3 := bcl hSw hkbw KTT.out; clear hSw; go_simp; try with_reducible rfl)
            simp only [Act.put, List.getElem_toArray, List.getElem_cons_zero, List.getElem_cons_succ, List.setIfInBounds_toArray, List.set_cons_zero, List.set_cons_succ]
            refine Still.takeBy (i := 11) [18, 17, 16, 14, 13, 12] (v := ?v212) (by kernel_rfl) (by kernel_rfl) rfl (by kernel_rfl) (by kernel_rfl) (by kernel_rfl) (fun _ _ _ h => h) (Or.inl ⟨by kernel_rfl, ?y212⟩) hHeld ?r212
            case y212 => (intro w' hSw; (try dsimp only at hSw); have q1 := (KK.out.r0.up hSw KK.out.r0.lt).cell (j := 1) (v := .slice (some ⟨kb, ko, none⟩) S.chans.length kc) rfl; have q2 := bcl hSw hkbw KF.out; have q3 := bcl hSw hkbw KTT.out; clear hSw; go_simp; try with_reducible rfl)
            simp only [Act.put, List.getElem_toArray, List.getElem_cons_zero, List.getElem_cons_succ, List.setIfInBounds_toArray, List.set_cons_zero, List.set_cons_succ]
            refine Still.takeBy (i := 12) [18, 17, 16, 14, 13] (v := ?v213) (by kernel_rfl) (by kernel_rfl) rfl (by kernel_rfl) (by kernel_rfl) (by kernel_rfl) (fun _ _ _ h => h) (Or.inl ⟨by kernel_rfl, ?y213⟩) hHeld ?r213
            case y213 => (intro w' hSw; (try dsimp only at hSw); have q1 := (KK.out.r0.up hSw KK.out.r0.lt).cell (j := 1) (v := .slice (some ⟨kb, ko, none⟩) S.chans.length kc) rfl; have q2 := bcl hSw hkbw KF.out; have q3 := bcl hSw hkbw KTT.out; clear hSw; go_simp; try with_reducible rfl)
            simp only [Act.put, List.getElem_toArray, List.getElem_cons_zero, List.getElem_cons_succ, List.setIfInBounds_toArray, List.set_cons_zero, List.set_cons_succ]
            refine Still.takeBy (i := 13) [18, 17, 16, 14] (v := ?v214) (by kernel_rfl) (by kernel_rfl) rfl (by kernel_rfl) (by kernel_rfl) (by kernel_rfl) (fun _ _ _ h => h) (Or.inl ⟨by kernel_rfl, ?y214⟩) hHeld ?r214
            case y214 => (intro w' hSw; (try dsimp only at hSw); have q1 := (KK.out.r0.up hSw KK.out.r0.lt).cell (j := 1) (v := .slice (some ⟨kb, ko, none⟩) S.chans.length kc) rfl; have q2 := bcl hSw hkbw KF.out; have q3 := bcl hSw hkbw KTT.out; clear hSw; go_simp; try with_reducible rfl)
            simp only [Act.put, List.getElem_toArray, List.getElem_cons_zero, List.getElem_cons_succ, List.setIfInBounds_toArray, List.set_cons_zero, List.set_cons_succ]
            refine Still.takeBy (i := 14) [18, 17, 16] (v := ?v215) (by kernel_rfl) (by kernel_rfl) rfl (by kernel_rfl) (by kernel_rfl) (by kernel_rfl) (fun _ _ _ h => h) (Or.inl ⟨by kernel_rfl, ?y215⟩) hHeld ?r215
            case y215 => (intro w' hSw; (try dsimp only at hSw); have q1 := (KK.out.r0.up hSw KK.out.r0.lt).cell (j := 1) (v := .slice (some ⟨kb, ko, none⟩) S.chans.length kc) rfl; have q2 := bcl hSw hkbw KF.out; have q3 := bcl hSw hkbw KTT.out; clear hSw; go_simp; try with_reducible rfl)
            simp only [Act.put, List.getElem_toArray, List.getElem_cons_zero, List.getElem_cons_succ, List.setIfInBounds_toArray, List.set_cons_zero, List.set_cons_succ]
            refine Still.takeBy (i := 15) [18, 17, 16] (v := ?v216) (by kernel_rfl) (by kernel_rfl) rfl (by kernel_rfl) (by kernel_rfl) (by kernel_rfl) (fun _ _ _ h => h) (Or.inl ⟨by kernel_rfl, ?y216⟩) hHeld ?r216
            case y216 => (intro w' hSw; (try dsimp only at hSw); have q1 := (KK.out.r0.up hSw KK.out.r0.lt).cell (j := 1) (v := .slice (some ⟨kb, ko, none⟩) S.chans.length kc) rfl; have q2 := bcl hSw hkbw KF.out; have q3 := bcl hSw hkbw KTT.out; clear hSw; go_simp; try with_reducible rfl)
            simp only [Act.put, List.getElem_toArray, List.getElem_cons_zero, List.getElem_cons_succ, List.setIfInBounds_toArray, List.set_cons_zero, List.set_cons_succ]
            refine Still.takeBy (i := 16) [18, 17] (v := ?v217) (by kernel_rfl) (by kernel_rfl) rfl (by kernel_rfl) (by kernel_rfl) (by kernel_rfl) (fun _ _ _ h => h) (Or.inl ⟨by kernel_rfl, ?y217⟩) hHeld ?r217
            case y217 => (intro w' hSw; (try dsimp only at hSw); go_simp; (try simp only [HBt.out]); try with_reducible rfl)
            simp only [Act.put, List.getElem_toArray, List.getElem_cons_zero, List.getElem_cons_succ, List.setIfInBounds_toArray, List.set_cons_zero, List.set_cons_succ]
            refine Still.takeBy (i := 17) [18] (v := ?v218) (by kernel_rfl) (by kernel_rfl) rfl (by kernel_rfl) (by kernel_rfl) (by kernel_rfl) (fun _ _ _ h => h) (Or.inl ⟨by kernel_rfl, ?y218⟩) hHeld ?r218
            case y218 => (intro w' hSw; (try dsimp only at hSw); go_simp; try with_reducible rfl)
            simp only [Act.put, List.getElem_toArray, List.getElem_cons_zero, List.getElem_cons_succ, List.setIfInBounds_toArray, List.set_cons_zero, List.set_cons_succ]
            refine Still.takeBy (i := 18) [] (v := ?v219) (by kernel_rfl) (by kernel_rfl) rfl (by kernel_rfl) (by kernel_rfl) (by kernel_rfl) (fun _ _ _ h => h) (Or.inl ⟨by kernel_rfl, ?y219⟩) hHeld ?r219
            case y219 => (intro w' hSw; (try dsimp only at hSw); go_simp; try with_reducible rfl)
            simp only [Act.put, List.getElem_toArray, List.getElem_cons_zero, List.getElem_cons_succ, List.setIfInBounds_toArray, List.set_cons_zero, List.set_cons_succ]
            refine Still.takeBy (i := 19) [32, 31, 24, 23, 22, 20] (by kernel_rfl) (by kernel_rfl) rfl (by kernel_rfl) (by kernel_rfl) (by kernel_rfl) (fun _ _ _ h => h) (Or.inr ⟨by kernel_rfl, rfl⟩) hHeld ?r220
            simp only [Act.put, List.getElem_toArray, List.getElem_cons_zero, List.getElem_cons_succ, List.setIfInBounds_toArray, List.set_cons_zero, List.set_cons_succ]
            refine Still.takeBy (i := 20) [32, 31, 24, 23, 22] (by kernel_rfl) (by kernel_rfl) rfl (by kernel_rfl) (by kernel_rfl) (by kernel_rfl) (fun _ _ _ h => h) (Or.inr ⟨by kernel_rfl, rfl⟩) hHeld ?r221
            simp only [Act.put, List.getElem_toArray, List.getElem_cons_zero, List.getElem_cons_succ, List.setIfInBounds_toArray, List.set_cons_zero, List.set_cons_succ]
            refine Still.takeBy (i := 21) [32, 31, 24, 23, 22] (by kernel_rfl) (by kernel_rfl) rfl (by kernel_rfl) (by kernel_rfl) (by kernel_rfl) (fun _ _ _ h => h) (Or.inr ⟨by kernel_rfl, rfl⟩) hHeld ?r222
            simp only [Act.put, List.getElem_toArray, List.getElem_cons_zero, List.getElem_cons_succ, List.setIfInBounds_toArray, List.set_cons_zero, List.set_cons_succ]
            refine Still.takeBy (i := 22) [32, 31, 24, 23] (by kernel_rfl) (by kernel_rfl) rfl (by kernel_rfl) (by kernel_rfl) (by kernel_rfl) (fun _ _ _ h => h) (Or.inr ⟨by kernel_rfl, rfl⟩) hHeld ?r223
            simp only [Act.put, List.getElem_toArray, List.getElem_cons_zero, List.getElem_cons_succ, List.setIfInBounds_toArray, List.set_cons_zero, List.set_cons_succ]
            refine Still.takeBy (i := 23) [32, 31, 24] (by kernel_rfl) (by kernel_rfl) rfl (by kernel_rfl) (by kernel_rfl) (by kernel_rfl) (fun _ _ _ h => h) (Or.inr ⟨by kernel_rfl, rfl⟩) hHeld ?r224
            simp only [Act.put, List.getElem_toArray, List.getElem_cons_zero, List.getElem_cons_succ, List.setIfInBounds_toArray, List.set_cons_zero, List.set_cons_succ]
            refine Still.takeBy (i := 24) [32, 31] (by kernel_rfl) (by kernel_rfl) rfl (by kernel_rfl) (by kernel_rfl) (by kernel_rfl) (fun _ _ _ h => h) (Or.inr ⟨by kernel_rfl, rfl⟩) hHeld ?r225
            simp only [Act.put, List.getElem_toArray, List.getElem_cons_zero, List.getElem_cons_succ, List.setIfInBounds_toArray, List.set_cons_zero, List.set_cons_succ]
            refine Still.takeBy (i := 25) [32, 31, 30, 29, 28, 26] (by kernel_rfl) (by kernel_rfl) rfl (by kernel_rfl) (by kernel_rfl) (by kernel_rfl) (fun _ _ _ h => h) (Or.inr ⟨by kernel_rfl, rfl⟩) hHeld ?r226
            simp only [Act.put, List.getElem_toArray, List.getElem_cons_zero, List.getElem_cons_succ, List.setIfInBounds_toArray, List.set_cons_zero, List.set_cons_succ]
            refine Still.takeBy (i := 26) [32, 31, 30, 29, 28] (by kernel_rfl) (by kernel_rfl) rfl (by kernel_rfl) (by kernel_rfl) (by kernel_rfl) (fun _ _ _ h => h) (Or.inr ⟨by kernel_rfl, rfl⟩) hHeld ?r227
            simp only [Act.put, List.getElem_toArray, List.getElem_cons_zero, List.getElem_cons_succ, List.setIfInBounds_toArray, List.set_cons_zero, List.set_cons_succ]
            refine Still.takeBy (i := 27) [32, 31, 30, 29, 28] (by kernel_rfl) (by kernel_rfl) rfl (by kernel_rfl) (by kernel_rfl) (by kernel_rfl) (fun _ _ _ h => h) (Or.inr ⟨by kernel_rfl, rfl⟩) hHeld ?r228
            simp only [Act.put, List.getElem_toArray, List.getElem_cons_zero, List.getElem_cons_succ, List.setIfInBounds_toArray, List.set_cons_zero, List.set_cons_succ]
            refine Still.takeBy (i := 28) [32, 31, 30, 29] (by kernel_rfl) (by kernel_rfl) rfl (by kernel_rfl) (by kernel_rfl) (by kernel_rfl) (fun _ _ _ h => h) (Or.inr ⟨by kernel_rfl, rfl⟩) hHeld ?r229
            simp only [Act.put, List.getElem_toArray, List.getElem_cons_zero, List.getElem_cons_succ, List.setIfInBounds_toArray, List.set_cons_zero, List.set_cons_succ]
            refine Still.takeBy (i := 29) [32, 31, 30] (by kernel_rfl) (by kernel_rfl) rfl (by kernel_rfl) (by kernel_rfl) (by kernel_rfl) (fun _ _ _ h => h) (Or.inr ⟨by kernel_rfl, rfl⟩) hHeld ?r230
            simp only [Act.put, List.getElem_toArray, List.getElem_cons_zero, List.getElem_cons_succ, List.setIfInBounds_toArray, List.set_cons_zero, List.set_cons_succ]
            refine Still.takeBy (i := 30) [32, 31] (by kernel_rfl) (by kernel_rfl) rfl (by kernel_rfl) (by kernel_rfl) (by kernel_rfl) (fun _ _ _ h => h) (Or.inr ⟨by kernel_rfl, rfl⟩) hHeld ?r231
            simp only [Act.put, List.getElem_toArray, List.getElem_cons_zero, List.getElem_cons_succ, List.setIfInBounds_toArray, List.set_cons_zero, List.set_cons_succ]
            refine Still.takeBy (i := 31) [32] (by kernel_rfl) (by kernel_rfl) rfl (by kernel_rfl) (by kernel_rfl) (by kernel_rfl) (fun _ _ _ h => h) (Or.inr ⟨by kernel_rfl, rfl⟩) hHeld ?r232
            simp only [Act.put, List.getElem_toArray, List.getElem_cons_zero, List.getElem_cons_succ, List.setIfInBounds_toArray, List.set_cons_zero, List.set_cons_succ]
            refine Still.takeBy (i := 32) [] (by kernel_rfl) (by kernel_rfl) rfl (by kernel_rfl) (by kernel_rfl) (by kernel_rfl) (fun _ _ _ h => h) (Or.inr ⟨by kernel_rfl, rfl⟩) hHeld ?r233
            simp only [Act.put, List.getElem_toArray, List.getElem_cons_zero, List.getElem_cons_succ, List.setIfInBounds_toArray, List.set_cons_zero, List.set_cons_succ]
            refine Still.all (rs := [33]) (by kernel_rfl) (by simp) (Still.one (i := 33) rfl rfl (fun K hK => ?_) (by simp))
            go_simp
            refine hK _ _ (fun h => absurd rfl h) (fun _ => ?_)
            clear hK K
            refine Still.over (by kernel_rfl) ?_ _
            have K' := Lib.hid (KK.out.up hHeld)
            clear hHeld
            go_wp2
            go_roundw
            case rel => exact ⟨k + 1, by go_num, by omega, K'⟩
            case measure => simp [intOf]; omega
          · have HBt : Hid ((S.chans[k].tt != (pn : Int)) = true) := by
              show _ = _
              simpa using hg
            obtain ⟨b, off, hua, hcap, hb, hc⟩ := K.out.wd.l.openN HLL.out (by omega)
            subst hua
            obtain ⟨ao, oc, hra, hso⟩ := hc k (by have := HLL.out; omega)
            obtain ⟨b2, off2, hxa, hcap2, hb2, hc2⟩ := K.out.x.l.openN HXL.out (by omega)
            subst hxa
            obtain ⟨ao2, oc2, hra2, hso2⟩ := hc2 k (by have := HXL.out; omega)
            have hkx : k < X.lines.length := by have := HXL.out; omega
            have hkd2 : k < D.lines.length := by have := HLL.out; omega
            have hee : X.lines[k] = D.lines[k] := by
              have h := HXX.out
              subst h
              exact HTL.out k hkd2 hkx hlt hf hg
            rw [hee] at hra2 hso2
            have hnk := SMD.out.n k hkd2
            generalize D.lines[k] = l at hra hso hra2 hso2 hnk
            generalize S.chans[k] = ch at KF KTT HBf HBt
            obtain ⟨kd, fr, tt⟩ := ch
            simp only at KF KTT HBf HBt
            have RA := Lib.hid hra
            have RB := Lib.hid hra2
            have SA := Lib.hid hso
            have SB := Lib.hid hso2
            have HCK := Lib.hid fun V hx hy => sameInts_yes l (.slice ao2 l.length oc2) (.slice ao l.length oc) V hx hy (by omega)
            clear hra hso hc hra2 hso2 hc2 hee hkx hkd2 hf hg hkc hkd hfr htt
            go_wp2
            clear q2
            have KK := K
            clear K
            refine region_still (S := fun w' => Below wr.heap.size wr w') 33 (by kernel_rfl) (Below.refl _ _).drew (fun hHeld => ?_)
            refine Still.takeBy (i := 0) [18, 8, 7, 5, 4, 3, 1] (v := ?v301) (by kernel_rfl) (by kernel_rfl) rfl (by kernel_rfl) (by kernel_rfl) (by kernel_rfl) (fun _ _ _ h => h) (Or.inl ⟨by kernel_rfl, ?y301⟩) hHeld ?r301
            case y301 => (intro w' hSw; (try dsimp only at hSw); have q1 := (KK.out.r0.up hSw KK.out.r0.lt).cell (j := 1) (v := .slice (some ⟨kb, ko, none⟩) S.chans.length kc) rfl; have q2 := bcl hSw hkbw KF.out; have q3 := bcl hSw hkbw KTT.out; clear hSw; go_simp; try with_reducible rfl)
            simp only [Act.put, List.getElem_toArray, List.getElem_cons_zero, List.getElem_cons_succ, List.setIfInBounds_toArray, List.set_cons_zero, List.set_cons_succ]
            refine Still.takeBy (i := 1) [18, 8, 7, 5, 4, 3] (v := ?v302) (by kernel_rfl) (by kernel_rfl) rfl (by kernel_rfl) (by kernel_rfl) (by kernel_rfl) (fun _ _ _ h => h) (Or.inl ⟨by kernel_rfl, ?y302⟩) hHeld ?r302
            case y302 => (intro w' hSw; (try dsimp only at hSw); have q1 := (KK.out.r0.up hSw KK.out.r0.lt).cell (j := 1) (v := .slice (some ⟨kb, ko, none⟩) S.chans.length kc) rfl; have q2 := bcl hSw hkbw KF.out; have q3 := bcl hSw hkbw KTT.out; clear hSw; go_simp; try with_reducible rfl)
            simp only [Act.put, List.getElem_toArray, List.getElem_cons_zero, List.getElem_cons_succ, List.setIfInBounds_toArray, List.set_cons_zero, List.set_cons_succ]
            refine Still.takeBy (i := 2) [18, 8, 7, 5, 4, 3] (v := ?v303) (by kernel_rfl) (by kernel_rfl) rfl (by kernel_rfl) (by kernel_rfl) (by kernel_rfl) (fun _ _ _ h => h) (Or.inl ⟨by kernel_rfl, ?y303⟩) hHeld ?r303
            case y303 => (intro w' hSw; (try dsimp only at hSw); have q1 := (KK.out.r0.up hSw KK.out.r0.lt).cell (j := 1) (v := .slice (some ⟨kb, ko, none⟩) S.chans.length kc) rfl; have q2 := bcl hSw hkbw KF.out; have q3 := bcl hSw hkbw KTT.out; clear hSw; go_simp; try with_reducible rfl)
            simp only [Act.put, List.getElem_toArray, List.getElem_cons_zero, List.getElem_cons_succ, List.setIfInBounds_toArray, List.set_cons_zero, List.set_cons_succ]
            refine Still.takeBy (i := 3) [18, 8, 7, 5, 4] (v := ?v304) (by kernel_rfl) (by kernel_rfl) rfl (by kernel_rfl) (by kernel_rfl) (by kernel_rfl) (fun _ _ _ h => h) (Or.inl ⟨by kernel_rfl, ?y304⟩) hHeld ?r304
            case y304 => (intro w' hSw; (try dsimp only at hSw); have q1 := (KK.out.r0.up hSw KK.out.r0.lt).cell (j := 1) (v := .slice (some ⟨kb, ko, none⟩) S.chans.length kc) rfl; have q2 := bcl hSw hkbw KF.out; have q3 := bcl hSw hkbw KTT.out; clear hSw; go_simp; try with_reducible rfl)
            simp only [Act.put, List.getElem_toArray, List.getElem_cons_zero, List.getElem_cons_succ, List.setIfInBounds_toArray, List.set_cons_zero, List.set_cons_succ]
            refine Still.takeBy (i := 4) [18, 8, 7, 5] (v := ?v305) (by kernel_rfl) (by kernel_rfl) rfl (by kernel_rfl) (by kernel_rfl) (by kernel_rfl) (fun _ _ _ h => h) (Or.inl ⟨by kernel_rfl, ?y305⟩) hHeld ?r305
            case y305 => (intro w' hSw; (try dsimp only at hSw); have q1 := (KK.out.r0.up hSw KK.out.r0.lt).cell (j := 1) (v := .slice (some ⟨kb, ko, none⟩) S.chans.length kc) rfl; have q2 := bcl hSw hkbw KF.out; have q3 := bcl hSw hkbw KTT.out; clear hSw; go_simp; try with_reducible rfl)
            simp only [Act.put, List.getElem_toArray, List.getElem_cons_zero, List.getElem_cons_succ, List.setIfInBounds_toArray, List.set_cons_zero, List.set_cons_succ]
            refine Still.takeBy (i := 5) [18, 8, 7] (v := ?v306) (by kernel_rfl) (by kernel_rfl) rfl (by kernel_rfl) (by kernel_rfl) (by kernel_rfl) (fun _ _ _ h => h) (Or.inl ⟨by kernel_rfl, ?y306⟩) hHeld ?r306
            case y306 => (intro w' hSw; (try dsimp only at hSw); have q1 := (KK.out.r0.up hSw KK.out.r0.lt).cell (j := 1) (v := .slice (some ⟨kb, ko, none⟩) S.chans.length kc) rfl; have q2 := bcl hSw hkbw KF.out; have q3 := bcl hSw hkbw KTT.out; clear hSw; go_simp; try with_reducible rfl)
            simp only [Act.put, List.getElem_toArray, List.getElem_cons_zero, List.getElem_cons_succ, List.setIfInBounds_toArray, List.set_cons_zero, List.set_cons_succ]
            refine Still.takeBy (i := 6) [18, 8, 7] (v := ?v307) (by kernel_rfl) (by kernel_rfl) rfl (by kernel_rfl) (by kernel_rfl) (by kernel_rfl) (fun _ _ _ h => h) (Or.inl ⟨by kernel_rfl, ?y307⟩) hHeld ?r307
            case y307 => (intro w' hSw; (try dsimp only at hSw); have q1 := (KK.out.r0.up hSw KK.out.r0.lt).cell (j := 1) (v := .slice (some ⟨kb, ko, none⟩) S.chans.length kc) rfl; have q2 := bcl hSw hkbw KF.out; have q3 := bcl hSw hkbw KTT.out; clear hSw; go_simp; try with_reducible rfl)
            simp only [Act.put, List.getElem_toArray, List.getElem_cons_zero, List.getElem_cons_succ, List.setIfInBounds_toArray, List.set_cons_zero, List.set_cons_succ]
            refine Still.takeBy (i := 7) [18, 8] (v := ?v308) (by kernel_rfl) (by kernel_rfl) rfl (by kernel_rfl) (by kernel_rfl) (by kernel_rfl) (fun _ _ _ h => h) (Or.inl ⟨by kernel_rfl, ?y308⟩) hHeld ?r308
            case y308 => (intro w' hSw; (try dsimp only at hSw); go_simp; (try simp only [HBf.out]); try with_reducible rfl)
            simp only [Act.put, List.getElem_toArray, List.getElem_cons_zero, List.getElem_cons_succ, List.setIfInBounds_toArray, List.set_cons_zero, List.set_cons_succ]
            refine Still.takeBy (i := 8) [18] (v := ?v309) (by kernel_rfl) (by kernel_rfl) rfl (by kernel_rfl) (by kernel_rfl) (by kernel_rfl) (fun _ _ _ h => h) (Or.inl ⟨by kernel_rfl, ?y309⟩) hHeld ?r309
            case y309 => (intro w' hSw; (try dsimp only at hSw); go_simp; try with_reducible rfl)
            simp only [Act.put, List.getElem_toArray, List.getElem_cons_zero, List.getElem_cons_succ, List.setIfInBounds_toArray, List.set_cons_zero, List.set_cons_succ]
            refine Still.takeBy (i := 9) [18, 17, 16, 14, 13, 12, 10] (v := ?v310) (by kernel_rfl) (by kernel_rfl) rfl (by kernel_rfl) (by kernel_rfl) (by kernel_rfl) (fun _ _ _ h => h) (Or.inl ⟨by kernel_rfl, ?y310⟩) hHeld ?r310
            case y310 => (intro w' hSw; (try dsimp only at hSw); have q1 := (KK.out.r0.up hSw KK.out.r0.lt).cell (j := 1) (v := .slice (some ⟨kb, ko, none⟩) S.chans.length kc) rfl; have q2 := bcl hSw hkbw KF.out; have q3 := bcl hSw hkbw KTT.out; clear hSw; go_simp; try with_reducible rfl)
            simp only [Act.put, List.getElem_toArray, List.getElem_cons_zero, List.getElem_cons_succ, List.setIfInBounds_toArray, List.set_cons_zero, List.set_cons_succ]
            refine Still.takeBy (i := 10) [18, 17, 16, 14, 13, 12] (v := ?v311) (by kernel_rfl) (by kernel_rfl) rfl (by kernel_rfl) (by kernel_rfl) (by kernel_rfl) (fun _ _ _ h => h) (Or.inl ⟨by kernel_rfl, ?y311⟩) hHeld ?r311
            case y311 => (intro w' hSw; (try dsimp only at hSw); have q1 := (KK.out.r0.up hSw KK.out.r0.lt).cell (j := 1) (v := .slice (some ⟨kb, ko, none⟩) S.chans.length kc) rfl; have q2 := bcl hSw hkbw KF.out; have q3 := bcl hSw hkbw KTT.out; clear hSw; go_simp; try with_reducible rfl)
            simp only [Act.put, List.getElem_toArray, List.getElem_cons_zero, List.getElem_cons_succ, List.setIfInBounds_toArray, List.set_cons_zero, List.set_cons_succ]
            refine Still.takeBy (i := 11) [18, 17, 16, 14, 13, 12] (v := ?v312) (by kernel_rfl) (by kernel_rfl) rfl (by kernel_rfl) (by kernel_rfl) (by kernel_rfl) (fun _ _ _ h => h) (Or.inl ⟨by kernel_rfl, ?y312⟩) hHeld ?r312
            case y312 => (intro w' hSw; (try dsimp only at hSw); have q1 := (KK.out.r0.up hSw KK.out.r0.lt).cell (j := 1) (v := .slice (some ⟨kb, ko, none⟩) S.chans.length kc) rfl; have q2 := bcl hSw hkbw KF.out; have q3 := bcl hSw hkbw KTT.out; clear hSw; go_simp; try with_reducible rfl)
            simp only [Act.put, List.getElem_toArray, List.getElem_cons_zero, List.getElem_cons_succ, List.setIfInBounds_toArray, List.set_cons_zero, List.set_cons_succ]
            refine Still.takeBy (i := 12) [18, 17, 16, 14, 13] (v := ?v313) (by kernel_rfl) (by kernel_rfl) rfl (by kernel_rfl) (by kernel_rfl) (by kernel_rfl) (fun _ _ _ h => h) (Or.inl ⟨by kernel_rfl, ?y313⟩) hHeld ?r313
            case y313 => (intro w' hSw; (try dsimp only at hSw); have q1 := (KK.out.r0.up hSw KK.out.r0.lt).cell (j := 1) (v := .slice (some ⟨kb, ko, none⟩) S.chans.length kc) rfl; have q2 := bcl hSw hkbw KF.out; have q3 := bcl hSw hkbw KTT.out; clear hSw; go_simp; try with_reducible rfl)
            simp only [Act.put, List.getElem_toArray, List.getElem_cons_zero, List.getElem_cons_succ, List.setIfInBounds_toArray, List.set_cons_zero, List.set_cons_succ]
            refine Still.takeBy (i := 13) [18, 17, 16, 14] (v := ?v314) (by kernel_rfl) (by kernel_rfl) rfl (by kernel_rfl) (by kernel_rfl) (by kernel_rfl) (fun _ _ _ h => h) (Or.inl ⟨by kernel_rfl, ?y314⟩) hHeld ?r314
            case y314 => (intro w' hSw; (try dsimp only at hSw); have q1 := (KK.out.r0.up hSw KK.out.r0.lt).cell (j := 1) (v := .slice (some ⟨kb, ko, none⟩) S.chans.length kc) rfl; have q2 := bcl hSw hkbw KF.out; have q3 := bcl hSw hkbw KTT.out; clear hSw; go_simp; try with_reducible rfl)
            simp only [Act.put, List.getElem_toArray, List.getElem_cons_zero, List.getElem_cons_succ, List.setIfInBounds_toArray, List.set_cons_zero, List.set_cons_succ]
            refine Still.takeBy (i := 14) [18, 17, 16] (v := ?v315) (by kernel_rfl) (by kernel_rfl) rfl (by kernel_rfl) (by kernel_rfl) (by kernel_rfl) (fun _ _ _ h => h) (Or.inl ⟨by kernel_rfl, ?y315⟩) hHeld ?r315
            case y315 => (intro w' hSw; (try dsimp only at hSw); have q1 := (KK.out.r0.up hSw KK.out.r0.lt).cell (j := 1) (v := .slice (some ⟨kb, ko, none⟩) S.chans.length kc) rfl; have q2 := bcl hSw hkbw KF.out; have q3 := bcl hSw hkbw KTT.out; clear hSw; go_simp; try with_reducible rfl)
            simp only [Act.put, List.getElem_toArray, List.getElem_cons_zero, List.getElem_cons_succ, List.setIfInBounds_toArray, List.set_cons_zero, List.set_cons_succ]
            refine Still.takeBy (i := 15) [18, 17, 16] (v := ?v316) (by kernel_rfl) (by kernel_rfl) rfl (by kernel_rfl) (by kernel_rfl) (by kernel_rfl) (fun _ _ _ h => h) (Or.inl ⟨by kernel_rfl, ?y316⟩) hHeld ?r316
            case y316 => (intro w' hSw; (try dsimp only at hSw); have q1 := (KK.out.r0.up hSw KK.out.r0.lt).cell (j := 1) (v := .slice (some ⟨kb, ko, none⟩) S.chans.length kc) rfl; have q2 := bcl hSw hkbw KF.out; have q3 := bcl hSw hkbw KTT.out; clear hSw; go_simp; try with_reducible rfl)
            simp only [Act.put, List.getElem_toArray, List.getElem_cons_zero, List.getElem_cons_succ, List.setIfInBounds_toArray, List.set_cons_zero, List.set_cons_succ]
            refine Still.takeBy (i := 16) [18, 17] (v := ?v317) (by kernel_rfl) (by kernel_rfl) rfl (by kernel_rfl) (by kernel_rfl) (by kernel_rfl) (fun _ _ _ h => h) (Or.inl ⟨by kernel_rfl, ?y317⟩) hHeld ?r317
            case y317 => (intro w' hSw; (try dsimp only at hSw); go_simp; (try simp only [HBt.out]); try with_reducible rfl)
            simp only [Act.put, List.getElem_toArray, List.getElem_cons_zero, List.getElem_cons_succ, List.setIfInBounds_toArray, List.set_cons_zero, List.set_cons_succ]
            refine Still.takeBy (i := 17) [18] (v := ?v318) (by kernel_rfl) (by kernel_rfl) rfl (by kernel_rfl) (by kernel_rfl) (by kernel_rfl) (fun _ _ _ h => h) (Or.inl ⟨by kernel_rfl, ?y318⟩) hHeld ?r318
            case y318 => (intro w' hSw; (try dsimp only at hSw); go_simp; try with_reducible rfl)
            simp only [Act.put, List.getElem_toArray, List.getElem_cons_zero, List.getElem_cons_succ, List.setIfInBounds_toArray, List.set_cons_zero, List.set_cons_succ]
            refine Still.takeBy (i := 18) [] (v := ?v319) (by kernel_rfl) (by kernel_rfl) rfl (by kernel_rfl) (by kernel_rfl) (by kernel_rfl) (fun _ _ _ h => h) (Or.inl ⟨by kernel_rfl, ?y319⟩) hHeld ?r319
            case y319 => (intro w' hSw; (try dsimp only at hSw); go_simp; try with_reducible rfl)
            simp only [Act.put, List.getElem_toArray, List.getElem_cons_zero, List.getElem_cons_succ, List.setIfInBounds_toArray, List.set_cons_zero, List.set_cons_succ]
            refine Still.takeBy (i := 19) [32, 31, 24, 23, 22, 20] (v := ?v320) (by kernel_rfl) (by kernel_rfl) rfl (by kernel_rfl) (by kernel_rfl) (by kernel_rfl) (fun _ _ _ h => h) (Or.inl ⟨by kernel_rfl, ?y320⟩) hHeld ?r320
            case y320 => (intro w' hSw; (try dsimp only at hSw); have q1 := (KK.out.r7.up hSw KK.out.r7.lt).cell (j := 2) (v := .slice (some ⟨b2, off2, none⟩) S.chans.length xlc) rfl; have q2 := bcl hSw hb2 RB.out; clear hSw; go_simp; try with_reducible rfl)
            simp only [Act.put, List.getElem_toArray, List.getElem_cons_zero, List.getElem_cons_succ, List.setIfInBounds_toArray, List.set_cons_zero, List.set_cons_succ]
            refine Still.takeBy (i := 20) [32, 31, 24, 23, 22] (v := ?v321) (by kernel_rfl) (by kernel_rfl) rfl (by kernel_rfl) (by kernel_rfl) (by kernel_rfl) (fun _ _ _ h => h) (Or.inl ⟨by kernel_rfl, ?y321⟩) hHeld ?r321
            case y321 => (intro w' hSw; (try dsimp only at hSw); have q1 := (KK.out.r7.up hSw KK.out.r7.lt).cell (j := 2) (v := .slice (some ⟨b2, off2, none⟩) S.chans.length xlc) rfl; have q2 := bcl hSw hb2 RB.out; clear hSw; go_simp; try with_reducible rfl)
            simp only [Act.put, List.getElem_toArray, List.getElem_cons_zero, List.getElem_cons_succ, List.setIfInBounds_toArray, List.set_cons_zero, List.set_cons_succ]
            refine Still.takeBy (i := 21) [32, 31, 24, 23, 22] (v := ?v322) (by kernel_rfl) (by kernel_rfl) rfl (by kernel_rfl) (by kernel_rfl) (by kernel_rfl) (fun _ _ _ h => h) (Or.inl ⟨by kernel_rfl, ?y322⟩) hHeld ?r322
            case y322 => (intro w' hSw; (try dsimp only at hSw); have q1 := (KK.out.r7.up hSw KK.out.r7.lt).cell (j := 2) (v := .slice (some ⟨b2, off2, none⟩) S.chans.length xlc) rfl; have q2 := bcl hSw hb2 RB.out; clear hSw; go_simp; try with_reducible rfl)
            simp only [Act.put, List.getElem_toArray, List.getElem_cons_zero, List.getElem_cons_succ, List.setIfInBounds_toArray, List.set_cons_zero, List.set_cons_succ]
            refine Still.takeBy (i := 22) [32, 31, 24, 23] (v := ?v323) (by kernel_rfl) (by kernel_rfl) rfl (by kernel_rfl) (by kernel_rfl) (by kernel_rfl) (fun _ _ _ h => h) (Or.inl ⟨by kernel_rfl, ?y323⟩) hHeld ?r323
            case y323 => (intro w' hSw; (try dsimp only at hSw); have q1 := (KK.out.r7.up hSw KK.out.r7.lt).cell (j := 2) (v := .slice (some ⟨b2, off2, none⟩) S.chans.length xlc) rfl; have q2 := bcl hSw hb2 RB.out; clear hSw; go_simp; try with_reducible rfl)
            simp only [Act.put, List.getElem_toArray, List.getElem_cons_zero, List.getElem_cons_succ, List.setIfInBounds_toArray, List.set_cons_zero, List.set_cons_succ]
            refine Still.takeBy (i := 23) [32, 31, 24] (v := ?v324) (by kernel_rfl) (by kernel_rfl) rfl (by kernel_rfl) (by kernel_rfl) (by kernel_rfl) (fun _ _ _ h => h) (Or.inl ⟨by kernel_rfl, ?y324⟩) hHeld ?r324
            case y324 => (intro w' hSw; (try dsimp only at hSw); have q1 := (KK.out.r7.up hSw KK.out.r7.lt).cell (j := 2) (v := .slice (some ⟨b2, off2, none⟩) S.chans.length xlc) rfl; have q2 := bcl hSw hb2 RB.out; clear hSw; go_simp; try with_reducible rfl)
            simp only [Act.put, List.getElem_toArray, List.getElem_cons_zero, List.getElem_cons_succ, List.setIfInBounds_toArray, List.set_cons_zero, List.set_cons_succ]
            refine Still.takeBy (i := 24) [32, 31] (v := ?v325) (by kernel_rfl) (by kernel_rfl) rfl (by kernel_rfl) (by kernel_rfl) (by kernel_rfl) (fun _ _ _ h => h) (Or.inl ⟨by kernel_rfl, ?y325⟩) hHeld ?r325
            case y325 => (intro w' hSw; (try dsimp only at hSw); have q1 := (KK.out.r7.up hSw KK.out.r7.lt).cell (j := 2) (v := .slice (some ⟨b2, off2, none⟩) S.chans.length xlc) rfl; have q2 := bcl hSw hb2 RB.out; clear hSw; go_simp; try with_reducible rfl)
            simp only [Act.put, List.getElem_toArray, List.getElem_cons_zero, List.getElem_cons_succ, List.setIfInBounds_toArray, List.set_cons_zero, List.set_cons_succ]
            refine Still.takeBy (i := 25) [32, 31, 30, 29, 28, 26] (v := ?v326) (by kernel_rfl) (by kernel_rfl) rfl (by kernel_rfl) (by kernel_rfl) (by kernel_rfl) (fun _ _ _ h => h) (Or.inl ⟨by kernel_rfl, ?y326⟩) hHeld ?r326
            case y326 => (intro w' hSw; (try dsimp only at hSw); have q1 := (KK.out.r1.up hSw KK.out.r1.lt).cell (j := 2) (v := .slice (some ⟨b, off, none⟩) S.chans.length lc) rfl; have q2 := bcl hSw hb RA.out; clear hSw; go_simp; try with_reducible rfl)
            simp only [Act.put, List.getElem_toArray, List.getElem_cons_zero, List.getElem_cons_succ, List.setIfInBounds_toArray, List.set_cons_zero, List.set_cons_succ]
            refine Still.takeBy (i := 26) [32, 31, 30, 29, 28] (v := ?v327) (by kernel_rfl) (by kernel_rfl) rfl (by kernel_rfl) (by kernel_rfl) (by kernel_rfl) (fun _ _ _ h => h) (Or.inl ⟨by kernel_rfl, ?y327⟩) hHeld ?r327
            case y327 => (intro w' hSw; (try dsimp only at hSw); have q1 := (KK.out.r1.up hSw KK.out.r1.lt).cell (j := 2) (v := .slice (some ⟨b, off, none⟩) S.chans.length lc) rfl; have q2 := bcl hSw hb RA.out; clear hSw; go_simp; try with_reducible rfl)
            simp only [Act.put, List.getElem_toArray, List.getElem_cons_zero, List.getElem_cons_succ, List.setIfInBounds_toArray, List.set_cons_zero, List.set_cons_succ]
            refine Still.takeBy (i := 27) [32, 31, 30, 29, 28] (v := ?v328) (by kernel_rfl) (by kernel_rfl) rfl (by kernel_rfl) (by kernel_rfl) (by kernel_rfl) (fun _ _ _ h => h) (Or.inl ⟨by kernel_rfl, ?y328⟩) hHeld ?r328
            case y328 => (intro w' hSw; (try dsimp only at hSw); have q1 := (KK.out.r1.up hSw KK.out.r1.lt).cell (j := 2) (v := .slice (some ⟨b, off, none⟩) S.chans.length lc) rfl; have q2 := bcl hSw hb RA.out; clear hSw; go_simp; try with_reducible rfl)
            simp only [Act.put, List.getElem_toArray, List.getElem_cons_zero, List.getElem_cons_succ, List.setIfInBounds_toArray, List.set_cons_zero, List.set_cons_succ]
            refine Still.takeBy (i := 28) [32, 31, 30, 29] (v := ?v329) (by kernel_rfl) (by kernel_rfl) rfl (by kernel_rfl) (by kernel_rfl) (by kernel_rfl) (fun _ _ _ h => h) (Or.inl ⟨by kernel_rfl, ?y329⟩) hHeld ?r329
            case y329 => (intro w' hSw; (try dsimp only at hSw); have q1 := (KK.out.r1.up hSw KK.out.r1.lt).cell (j := 2) (v := .slice (some ⟨b, off, none⟩) S.chans.length lc) rfl; have q2 := bcl hSw hb RA.out; clear hSw; go_simp; try with_reducible rfl)
            simp only [Act.put, List.getElem_toArray, List.getElem_cons_zero, List.getElem_cons_succ, List.setIfInBounds_toArray, List.set_cons_zero, List.set_cons_succ]
            refine Still.takeBy (i := 29) [32, 31, 30] (v := ?v330) (by kernel_rfl) (by kernel_rfl) rfl (by kernel_rfl) (by kernel_rfl) (by kernel_rfl) (fun _ _ _ h => h) (Or.inl ⟨by kernel_rfl, ?y330⟩) hHeld ?r330
            case y330 => (intro w' hSw; (try dsimp only at hSw); have q1 := (KK.out.r1.up hSw KK.out.r1.lt).cell (j := 2) (v := .slice (some ⟨b, off, none⟩) S.chans.length lc) rfl; have q2 := bcl hSw hb RA.out; clear hSw; go_simp; try with_reducible rfl)
            simp only [Act.put, List.getElem_toArray, List.getElem_cons_zero, List.getElem_cons_succ, List.setIfInBounds_toArray, List.set_cons_zero, List.set_cons_succ]
            refine Still.takeBy (i := 30) [32, 31] (v := ?v331) (by kernel_rfl) (by kernel_rfl) rfl (by kernel_rfl) (by kernel_rfl) (by kernel_rfl) (fun _ _ _ h => h) (Or.inl ⟨by kernel_rfl, ?y331⟩) hHeld ?r331
            case y331 => (intro w' hSw; (try dsimp only at hSw); have q1 := (KK.out.r1.up hSw KK.out.r1.lt).cell (j := 2) (v := .slice (some ⟨b, off, none⟩) S.chans.length lc) rfl; have q2 := bcl hSw hb RA.out; clear hSw; go_simp; try with_reducible rfl)
            simp only [Act.put, List.getElem_toArray, List.getElem_cons_zero, List.getElem_cons_succ, List.setIfInBounds_toArray, List.set_cons_zero, List.set_cons_succ]
            refine Still.all (rs := [31]) (by kernel_rfl) (by simp) (Still.oneG (i := 31) rfl (by kernel_rfl) (fun K hK => ?_) (by simp))
            refine wp_call 23 _ _ rfl ent_sameInts #[.slice ao2 l.length oc2, .slice ao l.length oc] (by first | rfl | simp [Act.eval, Act.put]) ((HCK.out _ (SB.out.up hHeld) (SA.out.up hHeld)).mono ?_)
            rintro e V1 ⟨rfl, bb⟩
            refine ⟨_, rfl, hK _ _ (fun _ => hHeld.trans (bb.mono hHeld.size)) (fun hh => ?_)⟩
            have hHeld := hh (by decide)
            clear hK K hh
            try simp only [Act.put, List.getElem_toArray, List.getElem_cons_zero, List.getElem_cons_succ, List.setIfInBounds_toArray, List.set_cons_zero, List.set_cons_succ]
            clear bb
            refine Still.takeBy (i := 32) [] (v := ?v332) (by kernel_rfl) (by kernel_rfl) rfl (by kernel_rfl) (by kernel_rfl) (by kernel_rfl) (fun _ _ _ h => h) (Or.inl ⟨by kernel_rfl, ?y332⟩) hHeld ?r332
            case y332 => (intro w' hSw; (try dsimp only at hSw); go_simp; try with_reducible rfl)
            simp only [Act.put, List.getElem_toArray, List.getElem_cons_zero, List.getElem_cons_succ, List.setIfInBounds_toArray, List.set_cons_zero, List.set_cons_succ]
            refine Still.all (rs := [33]) (by kernel_rfl) (by simp) (Still.one (i := 33) rfl rfl (fun K hK => ?_) (by simp))
            go_simp
            refine hK _ _ (fun h => absurd rfl h) (fun _ => ?_)
            clear hK K
            refine Still.over (by kernel_rfl) ?_ _
            have K' := Lib.hid (KK.out.up hHeld)
            clear hHeld
            go_wp2
            go_roundw
            case rel => exact ⟨k + 1, by go_num, by omega, K'⟩
            case measure => simp [intOf]; omega
      · have hli : ¬ (k : Int) < S.chans.length := by omega
        have s0 := K.out.r0.cell (j := 0) (v := .slice pa S.parts.length pc) rfl
        go_wp2_with fail
        refine (chooseN_any part HPT.out S.parts.length hp1 (by omega) _).mono ?_
        rintro e w4 ⟨u, rfl, hu, rfl⟩
        clear q2 hlt hli hk s0
        have s0 := K.out.r0.cell (j := 0) (v := .slice pa S.parts.length pc) rfl
        have s1 := K.out.r0.cell (j := 1) (v := .slice ka S.chans.length kc) rfl
        have s2 := K.out.r0.cell (j := 2) (v := .slice sa S.slots.length sc) rfl
        go_wp2_with fail
        refine (HCALM.out u _ K.out.e K.out.s hu).mono ?_
        rintro e w5 ⟨yp, yc, ys, rfl, hC, b5⟩
        obtain ⟨pa5, pc5, rfl⟩ := hC.sys.p.form
        obtain ⟨ka5, kc5, rfl⟩ := hC.sys.c.form
        obtain ⟨sa5, sc5, rfl⟩ := hC.sys.s.form
        have K5 := Lib.hid (K.out.up b5)
        have C5 := Lib.hid hC.sys
        clear b5 hC K s0 s1 s2 HCALM
        go_wp2_with (refine wpList_store_rowW rfl 26 (.tmp 14) (.tmp 153) rfl w5.heap.size #[.slice pa5 (calmS S u).parts.length pc5, .slice ka5 (calmS S u).chans.length kc5, .slice sa5 (calmS S u).slots.length sc5] rfl rfl 26 #[.slice none 0 0, .slice none 0 0, .slice none 0 0] (by repeat (first | exact Rw.new _ _ _ (by first | rfl | (simp; done) | omega | (simp; omega)) | refine Rw.alloc ?_ _)) sizeSysT rfl (sys_one _ _ _ _ _ _ _ _ _) ?_)
        intro W6 HW6
        have b6 : Below w5.heap.size w5 W6 := by rw [HW6.out]; exact below_row ((Below.refl _ _).alloc (Nat.le_refl _) _) (Nat.le_refl _) _
        have K6 := Lib.hid (K5.out.up b6)
        have R14 : Hid (Rw W6 w5.heap.size 26 #[.slice pa5 (calmS S u).parts.length pc5, .slice ka5 (calmS S u).chans.length kc5, .slice sa5 (calmS S u).slots.length sc5]) := by
          show Rw _ _ _ _
          rw [HW6.out]
          exact Rw.row (cs := #[.slice none 0 0, .slice none 0 0, .slice none 0 0]) (by repeat (first | exact Rw.new _ _ _ (by first | rfl | (simp; done) | omega | (simp; omega)) | refine Rw.alloc ?_ _)) _
        have C6 : Hid (Sys W6 (.slice pa5 (calmS S u).parts.length pc5) (.slice ka5 (calmS S u).chans.length kc5) (.slice sa5 (calmS S u).slots.length sc5) (calmS S u)) := by
          show Sys _ _ _ _ _
          rw [HW6.out]
          exact sys_fresh C5.out _ _
        have l14 := R14.out.lt
        clear HW6 b6 K5 C5
        have q0 := K6.out.r1.cell (j := 0) (v := .int .i64 D.tick) rfl
        have q1 := K6.out.r1.cell (j := 1) (v := .slice ua S.parts.length uc) rfl
        have q2 := K6.out.r1.cell (j := 2) (v := .slice la S.chans.length lc) rfl
        go_wp2_with fail
        refine (HOW.out _ K6.out.wd).mono ?_
        rintro e w7 ⟨vc7, vl7, rfl, hN, b7⟩
        have hF := NewV.f (D := D) hN
        obtain ⟨a7, c7, rfl⟩ := hF.wld.c.formN HLC.out
        obtain ⟨a8, c8, rfl⟩ := hF.wld.l.formN HLL.out
        obtain ⟨gb, goff, hga, hgcap, hgb, -⟩ := hF.wld.c.openN HLC.out (by omega)
        subst hga
        have B7 := Lib.hid b7
        have F7 := Lib.hid hF
        have z7 := b7.size
        clear b7 hN hF HOW q0 q1 q2
        go_wp2_with (refine wpList_store_rowW rfl 30 (.tmp 16) (.tmp 156) rfl w7.heap.size #[.int .i64 D.tick, .slice (some ⟨gb, goff, none⟩) S.parts.length c7, .slice a8 S.chans.length c8] rfl rfl 30 #[.int .i64 0, .slice none 0 0, .slice none 0 0] (by repeat (first | exact Rw.new _ _ _ (by first | rfl | (simp; done) | omega | (simp; omega)) | refine Rw.alloc ?_ _)) sizeWld rfl (world_one _ _ _ _ _ _ _) ?_)
        intro W8 HW8
        have b8 : Below w7.heap.size w7 W8 := by rw [HW8.out]; exact below_row ((Below.refl _ _).alloc (Nat.le_refl _) _) (Nat.le_refl _) _
        have R16 : Hid (Rw W8 w7.heap.size 30 #[.int .i64 D.tick, .slice (some ⟨gb, goff, none⟩) S.parts.length c7, .slice a8 S.chans.length c8]) := by
          show Rw _ _ _ _
          rw [HW8.out]
          exact Rw.row (cs := #[.int .i64 0, .slice none 0 0, .slice none 0 0]) (by repeat (first | exact Rw.new _ _ _ (by first | rfl | (simp; done) | omega | (simp; omega)) | refine Rw.alloc ?_ _)) _
        have F8 : WldF W6.heap.size W8 (.slice (some ⟨gb, goff, none⟩) S.parts.length c7) (.slice a8 S.chans.length c8) D := by
          rw [HW8.out]
          exact F7.out.fresh _ _
        have hud : u < D.cells.length := by have := HLC.out; omega
        obtain ⟨g, off, cap, e8, hBg, hg8, hcap8, hcell, hfz, hset⟩ := F8.setRead hud
        injection e8 with e81 e8a e8b
        clear e8a e8b
        injection e81 with e82
        injection e82 with e83 e84
        subst e83 e84
        have hui : (u : Int) < S.parts.length := by omega
        have h0u : (0 : Int) ≤ u := by omega
        have B8 := Lib.hid (B7.out.trans (b8.mono z7))
        have z8 := b8.size
        have HSET := Lib.hid hset
        have q1 := R16.out.cell (j := 1) (v := .slice (some ⟨gb, goff, none⟩) S.parts.length c7) rfl
        clear HW8 b8 B7 F7 F8 hset
        go_upto_region 21 with fail
        generalize hW9 : World.setCell _ _ _ = W9
        have b9 : Below W6.heap.size W6 W9 := by
          rw [← hW9]
          exact B8.out.setCell (p := ⟨gb, goff + u * 16 + 13, none⟩) hBg _
        have K9 := Lib.hid (K6.out.up b9)
        have R14 := Lib.hid (R14.out.up b9 l14)
        have C9 := Lib.hid (C6.out.up b9)
        have R16 : Hid (Rw W9 w7.heap.size 30 #[.int .i64 D.tick, .slice (some ⟨gb, goff, none⟩) S.parts.length c7, .slice a8 S.chans.length c8]) := by
          show Rw _ _ _ _
          rw [← hW9]
          exact R16.out.set_other _ (by simp; omega)
        have V9 : Hid (Wld W9 (.slice (some ⟨gb, goff, none⟩) S.parts.length c7) (.slice a8 S.chans.length c8) (turnW D u)) := by
          show Wld _ _ _ _
          rw [← hW9]
          exact (HSET.out 0).wld
        have hR2 := turn_right HRR.out u
        have hk2 := calm_right HKS.out u
        have hs2 := stepW_right hk2 hR2 HTI.out
        obtain ⟨Y, hY⟩ : ∃ Y, nextC (calmS S u) (turnW D u) = Y := ⟨_, rfl⟩
        have hYc : Y.cells.length = S.parts.length := by rw [← hY, cellsB_len (next_right hk2 hR2 HTI.out).1.c]; exact calm_len S u
        have hYl : Y.lines.length = S.chans.length := by rw [← hY, linesB_len (next_right hk2 hR2 HTI.out).1.l]; rfl
        have HYC := Lib.hid hYc
        have HYL := Lib.hid hYl
        have HY := Lib.hid hY
        have HS2 := Lib.hid fun w he hS hW => kernStep_any (calmS S u) (turnW D u) (.slice pa5 (calmS S u).parts.length pc5) (.slice ka5 (calmS S u).chans.length kc5) (.slice sa5 (calmS S u).slots.length sc5) (.slice (some ⟨gb, goff, none⟩) S.parts.length c7) (.slice a8 S.chans.length c8) w he hS hW 0 hs2 Y (by rw [stepR, if_pos hs2, hY])
        rw [show (turnW D u).tick = D.tick from rfl] at HS2
        have q0 := R16.out.cell (j := 0) (v := .int .i64 D.tick) rfl
        have q1 := R16.out.cell (j := 1) (v := .slice (some ⟨gb, goff, none⟩) S.parts.length c7) rfl
        have q2 := R16.out.cell (j := 2) (v := .slice a8 S.chans.length c8) rfl
        have s0 := R14.out.cell (j := 0) (v := .slice pa5 (calmS S u).parts.length pc5) rfl
        have s1 := R14.out.cell (j := 1) (v := .slice ka5 (calmS S u).chans.length kc5) rfl
        have s2 := R14.out.cell (j := 2) (v := .slice sa5 (calmS S u).slots.length sc5) rfl
        clear hW9 b9 hcell hfz HSET B8 K6 C6 hR2 hk2 hs2 hYc hYl hY
        go_wp2_with fail
        refine (HS2.out _ K9.out.e C9.out V9.out).mono ?_
        rintro e w10 ⟨yc, yl, rfl, hN, b10⟩
        obtain ⟨a9, c9, rfl⟩ := hN.wld.c.formN HYC.out
        obtain ⟨a10, c10, rfl⟩ := hN.wld.l.formN HYL.out
        obtain ⟨hb, hoff, hha, hhcap, hhb, -⟩ := hN.wld.c.openN HYC.out (by omega)
        subst hha
        have B10 := Lib.hid b10
        have z10 := b10.size
        have F10 := Lib.hid hN
        clear b10 hN q0 q1 q2 s0 s1 s2 HS2 V9 R14 R16 C9
        go_wp2_with (refine wpList_store_rowW rfl 30 (.tmp 17) (.tmp 166) rfl w10.heap.size #[.int .i64 Y.tick, .slice (some ⟨hb, hoff, none⟩) S.parts.length c9, .slice a10 S.chans.length c10] rfl rfl 30 #[.int .i64 0, .slice none 0 0, .slice none 0 0] (by repeat (first | exact Rw.new _ _ _ (by first | rfl | (simp; done) | omega | (simp; omega)) | refine Rw.alloc ?_ _)) sizeWld rfl (world_one _ _ _ _ _ _ _) ?_)
        intro W11 HW11
        have b11 : Below w10.heap.size w10 W11 := by rw [HW11.out]; exact below_row ((Below.refl _ _).alloc (Nat.le_refl _) _) (Nat.le_refl _) _
        have z11 := b11.size
        have B11 := Lib.hid (B10.out.trans (b11.mono z10))
        have K11 := Lib.hid (K9.out.up B11.out)
        have R17 : Hid (Rw W11 w10.heap.size 30 #[.int .i64 Y.tick, .slice (some ⟨hb, hoff, none⟩) S.parts.length c9, .slice a10 S.chans.length c10]) := by
          show Rw _ _ _ _
          rw [HW11.out]
          exact Rw.row (cs := #[.int .i64 0, .slice none 0 0, .slice none 0 0]) (by repeat (first | exact Rw.new _ _ _ (by first | rfl | (simp; done) | omega | (simp; omega)) | refine Rw.alloc ?_ _)) _
        have F11 : WldF W9.heap.size W11 (.slice (some ⟨hb, hoff, none⟩) S.parts.length c9) (.slice a10 S.chans.length c10) Y := by
          rw [HW11.out]
          exact F10.out.fresh _ _
        have huy : u < Y.cells.length := by have := HYC.out; omega
        have hux : u < X.cells.length := by have := HXC.out; omega
        obtain ⟨g, off, cap, e8, hBh, hg11, hcap11, hcell, hfz, hset⟩ := F11.setRead huy
        injection e8 with e81 e8a e8b
        clear e8a e8b
        injection e81 with e82
        injection e82 with e83 e84
        subst e83 e84
        have HCELL := Lib.hid hcell
        have HFZ := Lib.hid hfz
        have HSET := Lib.hid hset
        have q1 := R17.out.cell (j := 1) (v := .slice (some ⟨hb, hoff, none⟩) S.parts.length c9) rfl
        have q2 := K11.out.r1.cell (j := 1) (v := .slice ua S.parts.length uc) rfl
        have l17 := R17.out.lt
        clear HW11 b11 B10 F10 F11 hset hcell hfz
        by_cases hup : u = pn
        · have hup' : ((u : Int) == (pn : Int)) = true := by simp [hup]
          clear hup
          go_wp2_with fail
          refine (kernBegun_any _ K11.out.e).mono ?_
          rintro e wk ⟨rfl, bk⟩
          have HZ := Lib.hid (K11.out.up bk).d
          clear bk
          go_wp2
          go_ret
          exact ⟨rfl, HZ.out⟩
        · have hup' : ((u : Int) == (pn : Int)) = false := by simpa using (show ¬ (u : Int) = pn by omega)
          have HEQ := Lib.hid (HTB.out u hud hux hup)
          rw [HY.out] at HEQ
          obtain ⟨db, doff, hda, hdcap, hdb, hdc⟩ := K11.out.wd.c.openN HLC.out (by omega)
          subst hda
          obtain ⟨oa, oc, hdr, -⟩ := hdc u hud
          have HDR := Lib.hid (hdr 13 (.int .i64 D.cells[u].c.read) rfl)
          clear hup hdc hdr
          go_upto_region 26 with fail
          clear q1 q2
          have z911 := B11.out.size
          refine region_still (S := fun w' => Below W11.heap.size W11 w') 11 (by kernel_rfl) (Below.refl _ _).drew (fun hHeld => ?_)
          refine Still.takeBy (i := 0) [] (v := ?v901) (by kernel_rfl) (by kernel_rfl) rfl (by kernel_rfl) (by kernel_rfl) (by kernel_rfl) (fun _ _ _ h => h) (Or.inl ⟨by kernel_rfl, ?y901⟩) hHeld ?r901
          case y901 => (intro w' hSw; (try dsimp only at hSw); have q1 := (R17.out.up hSw l17).cell (j := 1) (v := .slice (some ⟨hb, hoff, none⟩) S.parts.length c9) rfl; have q2 := (K11.out.r1.up hSw K11.out.r1.lt).cell (j := 1) (v := .slice (some ⟨db, doff, none⟩) S.parts.length uc) rfl; have q3 := bcl hSw hdb HDR.out; clear hSw; go_simp; try with_reducible rfl)
          simp only [Act.put, List.getElem_toArray, List.getElem_cons_zero, List.getElem_cons_succ, List.setIfInBounds_toArray, List.set_cons_zero, List.set_cons_succ]
          refine Still.takeBy (i := 1) [] (v := ?v902) (by kernel_rfl) (by kernel_rfl) rfl (by kernel_rfl) (by kernel_rfl) (by kernel_rfl) (fun _ _ _ h => h) (Or.inl ⟨by kernel_rfl, ?y902⟩) hHeld ?r902
          case y902 => (intro w' hSw; (try dsimp only at hSw); have q1 := (R17.out.up hSw l17).cell (j := 1) (v := .slice (some ⟨hb, hoff, none⟩) S.parts.length c9) rfl; have q2 := (K11.out.r1.up hSw K11.out.r1.lt).cell (j := 1) (v := .slice (some ⟨db, doff, none⟩) S.parts.length uc) rfl; have q3 := bcl hSw hdb HDR.out; clear hSw; go_simp; try with_reducible rfl)
          simp only [Act.put, List.getElem_toArray, List.getElem_cons_zero, List.getElem_cons_succ, List.setIfInBounds_toArray, List.set_cons_zero, List.set_cons_succ]
          refine Still.takeBy (i := 2) [] (v := ?v903) (by kernel_rfl) (by kernel_rfl) rfl (by kernel_rfl) (by kernel_rfl) (by kernel_rfl) (fun _ _ _ h => h) (Or.inl ⟨by kernel_rfl, ?y903⟩) hHeld ?r903
          case y903 => (intro w' hSw; (try dsimp only at hSw); have q1 := (R17.out.up hSw l17).cell (j := 1) (v := .slice (some ⟨hb, hoff, none⟩) S.parts.length c9) rfl; have q2 := (K11.out.r1.up hSw K11.out.r1.lt).cell (j := 1) (v := .slice (some ⟨db, doff, none⟩) S.parts.length uc) rfl; have q3 := bcl hSw hdb HDR.out; clear hSw; go_simp; try with_reducible rfl)
          simp only [Act.put, List.getElem_toArray, List.getElem_cons_zero, List.getElem_cons_succ, List.setIfInBounds_toArray, List.set_cons_zero, List.set_cons_succ]
          refine Still.takeBy (i := 3) [] (v := ?v904) (by kernel_rfl) (by kernel_rfl) rfl (by kernel_rfl) (by kernel_rfl) (by kernel_rfl) (fun _ _ _ h => h) (Or.inl ⟨by kernel_rfl, ?y904⟩) hHeld ?r904
          case y904 => (intro w' hSw; (try dsimp only at hSw); have q1 := (R17.out.up hSw l17).cell (j := 1) (v := .slice (some ⟨hb, hoff, none⟩) S.parts.length c9) rfl; have q2 := (K11.out.r1.up hSw K11.out.r1.lt).cell (j := 1) (v := .slice (some ⟨db, doff, none⟩) S.parts.length uc) rfl; have q3 := bcl hSw hdb HDR.out; clear hSw; go_simp; try with_reducible rfl)
          simp only [Act.put, List.getElem_toArray, List.getElem_cons_zero, List.getElem_cons_succ, List.setIfInBounds_toArray, List.set_cons_zero, List.set_cons_succ]
          refine Still.takeBy (i := 4) [] (v := ?v905) (by kernel_rfl) (by kernel_rfl) rfl (by kernel_rfl) (by kernel_rfl) (by kernel_rfl) (fun _ _ _ h => h) (Or.inl ⟨by kernel_rfl, ?y905⟩) hHeld ?r905
          case y905 => (intro w' hSw; (try dsimp only at hSw); have q1 := (R17.out.up hSw l17).cell (j := 1) (v := .slice (some ⟨hb, hoff, none⟩) S.parts.length c9) rfl; have q2 := (K11.out.r1.up hSw K11.out.r1.lt).cell (j := 1) (v := .slice (some ⟨db, doff, none⟩) S.parts.length uc) rfl; have q3 := bcl hSw hdb HDR.out; clear hSw; go_simp; try with_reducible rfl)
          simp only [Act.put, List.getElem_toArray, List.getElem_cons_zero, List.getElem_cons_succ, List.setIfInBounds_toArray, List.set_cons_zero, List.set_cons_succ]
          refine Still.takeBy (i := 5) [] (v := ?v906) (by kernel_rfl) (by kernel_rfl) rfl (by kernel_rfl) (by kernel_rfl) (by kernel_rfl) (fun _ _ _ h => h) (Or.inl ⟨by kernel_rfl, ?y906⟩) hHeld ?r906
          case y906 => (intro w' hSw; (try dsimp only at hSw); have q1 := (R17.out.up hSw l17).cell (j := 1) (v := .slice (some ⟨hb, hoff, none⟩) S.parts.length c9) rfl; have q2 := (K11.out.r1.up hSw K11.out.r1.lt).cell (j := 1) (v := .slice (some ⟨db, doff, none⟩) S.parts.length uc) rfl; have q3 := bcl hSw hdb HDR.out; clear hSw; go_simp; try with_reducible rfl)
          simp only [Act.put, List.getElem_toArray, List.getElem_cons_zero, List.getElem_cons_succ, List.setIfInBounds_toArray, List.set_cons_zero, List.set_cons_succ]
          refine Still.takeBy (i := 6) [] (v := ?v907) (by kernel_rfl) (by kernel_rfl) rfl (by kernel_rfl) (by kernel_rfl) (by kernel_rfl) (fun _ _ _ h => h) (Or.inl ⟨by kernel_rfl, ?y907⟩) hHeld ?r907
          case y907 => (intro w' hSw; (try dsimp only at hSw); have q1 := (R17.out.up hSw l17).cell (j := 1) (v := .slice (some ⟨hb, hoff, none⟩) S.parts.length c9) rfl; have q2 := (K11.out.r1.up hSw K11.out.r1.lt).cell (j := 1) (v := .slice (some ⟨db, doff, none⟩) S.parts.length uc) rfl; have q3 := bcl hSw hdb HDR.out; clear hSw; go_simp; try with_reducible rfl)
          simp only [Act.put, List.getElem_toArray, List.getElem_cons_zero, List.getElem_cons_succ, List.setIfInBounds_toArray, List.set_cons_zero, List.set_cons_succ]
          refine Still.takeBy (i := 7) [] (v := ?v908) (by kernel_rfl) (by kernel_rfl) rfl (by kernel_rfl) (by kernel_rfl) (by kernel_rfl) (fun _ _ _ h => h) (Or.inl ⟨by kernel_rfl, ?y908⟩) hHeld ?r908
          case y908 => (intro w' hSw; (try dsimp only at hSw); have q1 := (R17.out.up hSw l17).cell (j := 1) (v := .slice (some ⟨hb, hoff, none⟩) S.parts.length c9) rfl; have q2 := (K11.out.r1.up hSw K11.out.r1.lt).cell (j := 1) (v := .slice (some ⟨db, doff, none⟩) S.parts.length uc) rfl; have q3 := bcl hSw hdb HDR.out; clear hSw; go_simp; try with_reducible rfl)
          simp only [Act.put, List.getElem_toArray, List.getElem_cons_zero, List.getElem_cons_succ, List.setIfInBounds_toArray, List.set_cons_zero, List.set_cons_succ]
          refine Still.takeBy (i := 8) [] (v := ?v909) (by kernel_rfl) (by kernel_rfl) rfl (by kernel_rfl) (by kernel_rfl) (by kernel_rfl) (fun _ _ _ h => h) (Or.inl ⟨by kernel_rfl, ?y909⟩) hHeld ?r909
          case y909 => (intro w' hSw; (try dsimp only at hSw); have q1 := (R17.out.up hSw l17).cell (j := 1) (v := .slice (some ⟨hb, hoff, none⟩) S.parts.length c9) rfl; have q2 := (K11.out.r1.up hSw K11.out.r1.lt).cell (j := 1) (v := .slice (some ⟨db, doff, none⟩) S.parts.length uc) rfl; have q3 := bcl hSw hdb HDR.out; clear hSw; go_simp; try with_reducible rfl)
          simp only [Act.put, List.getElem_toArray, List.getElem_cons_zero, List.getElem_cons_succ, List.setIfInBounds_toArray, List.set_cons_zero, List.set_cons_succ]
          refine Still.takeBy (i := 9) [10] (v := ?v910) (by kernel_rfl) (by kernel_rfl) rfl (by kernel_rfl) (by kernel_rfl) (by kernel_rfl) (fun _ _ _ h => h) (Or.inl ⟨by kernel_rfl, ?y910⟩) hHeld ?r910
          case y910 => (intro w' hSw; (try dsimp only at hSw); have q1 := (R17.out.up hSw l17).cell (j := 1) (v := .slice (some ⟨hb, hoff, none⟩) S.parts.length c9) rfl; have q2 := (K11.out.r1.up hSw K11.out.r1.lt).cell (j := 1) (v := .slice (some ⟨db, doff, none⟩) S.parts.length uc) rfl; have q3 := bcl hSw hdb HDR.out; clear hSw; go_simp; try with_reducible rfl)
          simp only [Act.put, List.getElem_toArray, List.getElem_cons_zero, List.getElem_cons_succ, List.setIfInBounds_toArray, List.set_cons_zero, List.set_cons_succ]
          refine Still.takeBy (i := 10) [] (v := ?v911) (by kernel_rfl) (by kernel_rfl) rfl (by kernel_rfl) (by kernel_rfl) (by kernel_rfl) (fun _ _ _ h => h) (Or.inl ⟨by kernel_rfl, ?y911⟩) hHeld ?r911
          case y911 => (intro w' hSw; (try dsimp only at hSw); have q1 := (R17.out.up hSw l17).cell (j := 1) (v := .slice (some ⟨hb, hoff, none⟩) S.parts.length c9) rfl; have q2 := (K11.out.r1.up hSw K11.out.r1.lt).cell (j := 1) (v := .slice (some ⟨db, doff, none⟩) S.parts.length uc) rfl; have q3 := bcl hSw hdb HDR.out; clear hSw; go_simp; try with_reducible rfl)
          simp only [Act.put, List.getElem_toArray, List.getElem_cons_zero, List.getElem_cons_succ, List.setIfInBounds_toArray, List.set_cons_zero, List.set_cons_succ]
          have hcell := bcl hHeld hg11 HCELL.out
          have hfz := HFZ.out
          refine Still.all (rs := [11]) (by kernel_rfl) (by simp) (Still.one (i := 11) rfl rfl (fun K hK => ?_) (by simp))
          go_simp
          refine hK _ _ (fun h => absurd rfl h) (fun _ => ?_)
          clear hK K
          refine Still.over (by kernel_rfl) ?_ _
          clear hHeld hcell hfz
          skip
          generalize hW12 : World.drew _ = W12
          have b12 : Below W9.heap.size W9 W12 := by
            rw [← hW12]
            exact (B11.out.setCell (p := ⟨hb, hoff + u * 16 + 13, none⟩) hBh _).drew
          have K12 := Lib.hid (K9.out.up b12)
          have R17 : Hid (Rw W12 w10.heap.size 30 #[.int .i64 Y.tick, .slice (some ⟨hb, hoff, none⟩) S.parts.length c9, .slice a10 S.chans.length c10]) := by
            show Rw _ _ _ _
            rw [← hW12]
            exact (R17.out.set_other _ (by simp; omega)).drew
          have V12 : Hid (Wld W12 (.slice (some ⟨hb, hoff, none⟩) S.parts.length c9) (.slice a10 S.chans.length c10) X) := by
            show Wld _ _ _ _
            rw [← hW12, ← HEQ.out]
            exact (HSET.out D.cells[u].c.read).wld.up (Below.refl _ _).drew
          have HTX : Hid (Y.tick = X.tick) := by
            show _ = _
            rw [← HEQ.out]
          rw [HTX.out] at R17
          clear hW12 b12 HCELL HFZ HSET B11 K11 K9 HEQ
          go_wp2_with fail
          refine (kernBegun_any _ K12.out.e).mono ?_
          rintro e wk ⟨rfl, bk⟩
          have K13 := Lib.hid (K12.out.up bk)
          have r17 := R17.out.up bk R17.out.lt
          have v17 := Lib.hid (V12.out.up bk)
          have p0 := K13.out.r7.cell (j := 0) (v := .int .i64 X.tick) rfl
          have p1 := K13.out.r7.cell (j := 1) (v := .slice xa S.parts.length xcc) rfl
          have p2 := K13.out.r7.cell (j := 2) (v := .slice xb S.chans.length xlc) rfl
          have q0 := r17.cell (j := 0) (v := .int .i64 X.tick) rfl
          have q1 := r17.cell (j := 1) (v := .slice (some ⟨hb, hoff, none⟩) S.parts.length c9) rfl
          have q2 := r17.cell (j := 2) (v := .slice a10 S.chans.length c10) rfl
          clear bk K12 R17 V12 r17
          go_wp2_with fail
          refine (sameWorlds_yes X SMX.out _ _ _ _ _ K13.out.x v17.out).mono ?_
          rintro e wz ⟨rfl, bz⟩
          have HZ := Lib.hid (K13.out.up bz).d
          clear bz v17
          go_wp2
          go_ret
          exact ⟨rfl, HZ.out⟩
  · have h0' : (stepW S D != 0) = true := by simpa using h0
    obtain ⟨ua, uc, rfl⟩ := hW.c.form
    obtain ⟨la, lc, rfl⟩ := hW.l.form
    have HST := Lib.hid fun w he hS hW => kernStep_any S D (.slice pa S.parts.length pc) (.slice ka S.chans.length kc) (.slice sa S.slots.length sc) (.slice ua D.cells.length uc) (.slice la D.lines.length lc) w he hS hW (stepW S D) rfl wldZ (by rw [stepR, if_neg h0])
    have HE := Lib.hid he
    have HS := Lib.hid hS
    have HW := Lib.hid hW
    clear he hS hW h0
    generalize stepW S D = v0 at HST h0'
    go_enter Tryd.func7, Tryd.ntmps7
    go_wp2_with fail
    refine (HST.out _ (HE.out.up (by repeat (first | exact Below.refl _ _ | assumption | refine Below.drew ?_ | refine Below.alloc ?_ (by first | (simp; done) | (simp; omega)) _ | refine Below.setCell ?_ (by first | (simp; done) | (simp; omega)) _))) (HS.out.up (by repeat (first | exact Below.refl _ _ | assumption | refine Below.drew ?_ | refine Below.alloc ?_ (by first | (simp; done) | (simp; omega)) _ | refine Below.setCell ?_ (by first | (simp; done) | (simp; omega)) _))) (HW.out.up (by repeat (first | exact Below.refl _ _ | assumption | refine Below.drew ?_ | refine Below.alloc ?_ (by first | (simp; done) | (simp; omega)) _ | refine Below.setCell ?_ (by first | (simp; done) | (simp; omega)) _)))).mono ?_
    rintro e w1 ⟨xc, xl, rfl, hN, b1⟩
    obtain ⟨xa, xcc, rfl⟩ := hN.wld.c.form
    obtain ⟨xb, xlc, rfl⟩ := hN.wld.l.form
    have z1 := b1.size
    simp at z1
    have HB : Hid (Below w.heap.size w w1) := by
      refine Below.trans ?_ (b1.mono (by first | omega | (simp; done) | (simp; omega)))
      exact (by repeat (first | exact Below.refl _ _ | assumption | refine Below.drew ?_ | refine Below.alloc ?_ (by first | (simp; done) | (simp; omega)) _ | refine Below.setCell ?_ (by first | (simp; done) | (simp; omega)) _))
    clear b1 HST hN
    go_wp2_with (refine wpList_store_rowW rfl 30 (.tmp 7) (.tmp 23) rfl w1.heap.size #[.int .i64 wldZ.tick, .slice xa wldZ.cells.length xcc, .slice xb wldZ.lines.length xlc] rfl rfl 30 #[.int .i64 0, .slice none 0 0, .slice none 0 0] (by repeat (first | exact Rw.new _ _ _ (by first | rfl | (simp; done) | omega | (simp; omega)) | refine Rw.alloc ?_ _)) sizeWld rfl (world_one _ _ _ _ _ _ _) ?_)
    intro W2 HW2
    have b2 : Below w1.heap.size w1 W2 := by rw [HW2.out]; exact below_row ((Below.refl _ _).alloc (Nat.le_refl _) _) (Nat.le_refl _) _
    have HD2 := Lib.hid (HB.out.trans (b2.mono (by omega)))
    clear HW2 b2 HB
    go_wp2_with fail
    refine (kernBegun_any _ (HE.out.up HD2.out)).mono ?_
    rintro e wk ⟨rfl, bk⟩
    have zk := HD2.out.size
    have HZ := Lib.hid (HD2.out.trans (bk.mono zk))
    clear bk
    go_wp2
    go_ret
    exact ⟨rfl, HZ.out⟩
end Go.Proofs.YtjhjaafoikadgaaDoor
