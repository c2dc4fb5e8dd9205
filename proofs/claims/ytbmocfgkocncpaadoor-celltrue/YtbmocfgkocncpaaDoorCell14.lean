/- cellBegun: what must be in any case. -/
import Derived.Test.YtbmocfgkocncpaaDoorCell12
import Derived.Test.YtbmocfgkocncpaaDoorTel
namespace Go.Proofs.YtbmocfgkocncpaaDoor
set_option linter.unusedSimpArgs false
set_option linter.unusedVariables false
open Go.RowKit Go.Sort

theorem cellStep_to (l : List Ins) (inn xs : List Int) (c c' : Cel) (xs' : List Int) (x' : Wnt) (hst : stepC l inn xs c = (c', xs', x')) (v iv ov : Value) (hl : chkC l = 0) (hi : inn.length ≤ 12) (hf : c.fine xs.length = true) (hr : c.read ≤ inn.length) (w : World) (he : Env w) (hC : Sl w 4 v l.length (codeC l)) (hI : Sl w 1 iv inn.length (ints inn)) (hO : Sl w 1 ov xs.length (ints xs)) :
    Calls Tryd.prog 6 #[.agg #[v, iv], .agg (c.cs ov)] w fun e w' => ∃ ao cap, e = .returned (.tuple #[.agg (c'.cs (.slice ao xs'.length cap)), .agg x'.cs, .int .i64 0]) ∧ w'.ownsRow w.heap.size 3 1 (.slice ao xs'.length cap) xs'.length (ints xs') ∧ Below w.heap.size w w' := by
  have h := cellStep_ok l inn xs v iv ov c hl hi hf hr w he hC hI hO
  rw [hst] at h
  refine h.mono ?_
  rintro e w' ⟨o', rfl, h1, h2⟩
  obtain ⟨ao, cap, rfl⟩ := own_form h1
  exact ⟨ao, cap, rfl, h1, h2⟩
def celA : Cel := ⟨1, 0, 0, 0, 0, 0, 0, 0, 0, 0, 0, 0, 0, 0, 0⟩
def celB : Cel := ⟨1, 7, 1, 0, 0, 0, 0, 0, 0, 0, 0, 0, 0, 0, 0⟩
def celC : Cel := ⟨0, 0, 8, 0, 0, 0, 0, 0, 0, 0, 0, 0, 0, 0, 0⟩
def celD : Cel := ⟨0, 0, 8, 0, 0, 0, 0, 0, 0, 0, 0, 0, 0, 0, 2⟩
def celF : Cel := ⟨1, 0, 0, 5, 0, 0, 0, 0, 0, 0, 0, 0, 0, 1, 0⟩
theorem lit4 (w : World) (op a b n : Int) (g : Nat) (hg : g = w.heap.size) : Sl (w.alloc (.cells #[.int .i64 op, .int .i64 a, .int .i64 b, .int .i64 n] 56)) 4 (.slice (some ⟨g, 0, none⟩) 1 1) 1 (codeC [⟨op, a, b, n⟩]) := by
  subst hg
  refine ⟨rfl, _, _, rfl, Nat.le_refl _, fun _ => ⟨_, 0, rfl, by simp, fun j u hj => ?_⟩⟩
  rw [Nat.zero_add, World.cell?_alloc_new, ← Array.getElem?_toList]
  exact hj
set_option maxRecDepth 100000 in
set_option maxHeartbeats 8000000 in
theorem cellBegun_any (w : World) (he : Env w) : Calls Tryd.prog 9 #[] w fun e w' => e = .returned (.bool true) ∧ Below w.heap.size w w' := by
  have HE := Lib.hid he
  clear he
  go_enter Tryd.func9, Tryd.ntmps9
  go_wp2_with fail
  refine (teller_any _).mono ?_
  rintro e w1 ⟨v, rfl, hT, b1⟩
  obtain ⟨ta, tc, rfl⟩ := hT.form
  have HT := Lib.hid hT
  have HE1 := Lib.hid (HE.out.up b1)
  have z1 := b1.size
  have HD1 := Lib.hid b1
  clear hT b1 HE
  go_wp2_with fail
  refine (cellStep_to tellerL [] [] celZ celA [] ⟨13, 0, 0, 1, 0⟩ rfl (.slice ta 5 tc) (.slice none 0 0) (.slice none 0 0) teller_chk (by simp) (by decide) (by decide) _ HE1.out HT.out (Sl.nil _ _) (Sl.nil _ _)).mono ?_
  rintro e w2 ⟨ao1, cp1, rfl, o1, b2⟩
  have z2 := b2.size
  have HD2 := Lib.hid (HD1.out.trans (b2.mono z1))
  have HE2 := Lib.hid (HE1.out.up b2)
  have O1 := Lib.hid (own_sl o1)
  clear b2 o1 HT HD1 HE1
  go_wp2_with (first | (refine wpList_store_row rfl 29 (.tmp 1) (.tmp 17) rfl w2.heap.size (celA.cs (.slice ao1 0 cp1)) rfl rfl 29 (celZ.cs (.slice none 0 0)) (by repeat (first | exact Rw.new _ _ _ (by first | rfl | (simp; done) | omega | (simp; omega)) | refine Rw.alloc ?_ _)) sizeCell rfl (Cel.cs_one _ _ (by first | rfl | assumption)) ?_) | (refine wpList_store_rowW rfl 31 (.tmp 2) (.tmp 18) rfl (w2.heap.size + 1) (Wnt.cs ⟨13, 0, 0, 1, 0⟩) rfl rfl 31 #[.int .i64 0, .int .i64 0, .int .i64 0, .int .i64 0, .int .i64 0] (Rw.row_other (by repeat (first | exact Rw.new _ _ _ (by first | rfl | (simp; done) | omega | (simp; omega)) | refine Rw.alloc ?_ _)) _ (by omega)) sizeWant rfl (Wnt.cs_one _) ?_))
  intro W3 HW
  have D3 : Below w2.heap.size w2 W3 := by rw [HW.out]; exact below_row (below_row (((Below.refl _ _).alloc (Nat.le_refl _) _).alloc (by simp) _) (Nat.le_refl _) _) (by omega) _
  have r1 : Rw W3 w2.heap.size 29 (celA.cs (.slice ao1 0 cp1)) := by rw [HW.out]; exact Rw.row_other (Rw.row (cs := celZ.cs (.slice none 0 0)) (by repeat (first | exact Rw.new _ _ _ (by first | rfl | (simp; done) | omega | (simp; omega)) | refine Rw.alloc ?_ _)) _) _ (by omega)
  have r2 : Rw W3 (w2.heap.size + 1) 31 (Wnt.cs ⟨13, 0, 0, 1, 0⟩) := by rw [HW.out]; exact Rw.row (cs := #[.int .i64 0, .int .i64 0, .int .i64 0, .int .i64 0, .int .i64 0]) (Rw.row_other (by repeat (first | exact Rw.new _ _ _ (by first | rfl | (simp; done) | omega | (simp; omega)) | refine Rw.alloc ?_ _)) _ (by omega)) _
  have hzW3 : W3.heap.size = w2.heap.size + 2 := by rw [HW.out]; simp
  clear HW
  have HE3 := Lib.hid (HE2.out.up D3)
  have O3 := Lib.hid (O1.out.up D3)
  have HD3 := Lib.hid (HD2.out.trans (D3.mono (by omega)))
  have R1 := Lib.hid r1
  have R2 := Lib.hid r2
  clear D3 r1 r2 HE2 O1 HD2
  go_wp2_with (first | (refine wpList_load_row rfl 29 (.tmp 1) rfl w2.heap.size rfl 29 (celA.cs (.slice ao1 0 cp1)) (0, 0) _ R1.out Tryd.underlying29 rfl sizeCell ?_) | (refine wpList_load_row rfl 31 (.tmp 2) rfl (w2.heap.size + 1) rfl 31 (Wnt.cs ⟨13, 0, 0, 1, 0⟩) (0, 0) _ R2.out Tryd.underlying31 rfl sizeWant ?_))
  refine (reply_ok celA [] (.slice ao1 0 cp1) 13 0 0 1 0 2 7 true (by decide) (by decide) _ O3.out).mono ?_
  rintro e w4 ⟨v4, rfl, o4, b4⟩
  obtain ⟨ao4, cp4, rfl⟩ := own_form o4
  have z4 := b4.size
  have HE4 := Lib.hid (HE3.out.up b4)
  have HD4 := Lib.hid (HD3.out.trans (b4.mono (by omega)))
  have R14 := Lib.hid (R1.out.up b4 (by omega))
  have R24 := Lib.hid (R2.out.up b4 (by omega))
  clear b4 o4 R1 R2 HE3 O3 HD3
  go_wp2_with (refine wpList_store_rowW rfl 29 (.tmp 4) (.tmp 24) rfl w4.heap.size (celB.cs (.slice ao4 0 cp4)) rfl rfl 29 (celZ.cs (.slice none 0 0)) (by repeat (first | exact Rw.new _ _ _ (by first | rfl | (simp; done) | omega | (simp; omega)) | refine Rw.alloc ?_ _)) sizeCell rfl (Cel.cs_one _ _ (by first | rfl | assumption)) ?_)
  intro W5 HW
  have D5 : Below w4.heap.size w4 W5 := by rw [HW.out]; exact below_row ((Below.refl _ _).alloc (Nat.le_refl _) _) (Nat.le_refl _) _
  have r4 : Rw W5 w4.heap.size 29 (celB.cs (.slice ao4 0 cp4)) := by rw [HW.out]; exact Rw.row (cs := celZ.cs (.slice none 0 0)) (by repeat (first | exact Rw.new _ _ _ (by first | rfl | (simp; done) | omega | (simp; omega)) | refine Rw.alloc ?_ _)) _
  have hzW5 : W5.heap.size = w4.heap.size + 1 := by rw [HW.out]; simp
  clear HW
  have HE5 := Lib.hid (HE4.out.up D5)
  have HD5 := Lib.hid (HD4.out.trans (D5.mono (by omega)))
  have R15 := Lib.hid (R14.out.up D5 (by omega))
  have R25 := Lib.hid (R24.out.up D5 (by omega))
  have R45 := Lib.hid r4
  clear D5 r4 HE4 HD4 R14 R24
  go_wp2_with fail
  refine (cellStep_to [⟨6, 0, 1, 0⟩] [] [] celC celD [] wntZ rfl (.slice (some ⟨w4.heap.size + 1, 0, none⟩) 1 1) (.slice none 0 0) (.slice none 0 0) (by decide +kernel) (by simp) (by decide) (by decide) _ (HE5.out.up (by repeat (first | exact Below.refl _ _ | assumption | refine Below.drew ?_ | refine Below.alloc ?_ (by first | (simp; done) | (simp; omega)) _ | refine Below.setCell ?_ (by first | (simp; done) | (simp; omega)) _))) (lit4 _ _ _ _ _ _ (by omega)) (Sl.nil _ _) (Sl.nil _ _)).mono ?_
  rintro e w6 ⟨ao6, cp6, rfl, o6, b6⟩
  have z6 := b6.size
  simp at z6
  have b6' : Below W5.heap.size W5 w6 := Below.trans ((Below.refl _ _).alloc (Nat.le_refl _) _) (b6.mono (by simp))
  have HE6 := Lib.hid (HE5.out.up b6')
  have HD6 := Lib.hid (HD5.out.trans (b6'.mono (by omega)))
  have R16 := Lib.hid (R15.out.up b6' (by omega))
  have R26 := Lib.hid (R25.out.up b6' (by omega))
  have R46 := Lib.hid (R45.out.up b6' (by omega))
  clear b6 b6' o6 HE5 HD5 R15 R25 R45
  go_wp2_with (first | (refine wpList_store_row rfl 29 (.tmp 6) (.tmp 33) rfl w6.heap.size (celD.cs (.slice ao6 0 cp6)) rfl rfl 29 (celZ.cs (.slice none 0 0)) (by repeat (first | exact Rw.new _ _ _ (by first | rfl | (simp; done) | omega | (simp; omega)) | refine Rw.alloc ?_ _)) sizeCell rfl (Cel.cs_one _ _ (by first | rfl | assumption)) ?_) | (refine wpList_store_rowW rfl 31 (.tmp 7) (.tmp 34) rfl (w6.heap.size + 1) wntZ.cs rfl rfl 31 #[.int .i64 0, .int .i64 0, .int .i64 0, .int .i64 0, .int .i64 0] (Rw.row_other (by repeat (first | exact Rw.new _ _ _ (by first | rfl | (simp; done) | omega | (simp; omega)) | refine Rw.alloc ?_ _)) _ (by omega)) sizeWant rfl (Wnt.cs_one _) ?_))
  intro W7 HW
  have D7 : Below w6.heap.size w6 W7 := by rw [HW.out]; exact below_row (below_row (((Below.refl _ _).alloc (Nat.le_refl _) _).alloc (by simp) _) (Nat.le_refl _) _) (by omega) _
  have r6 : Rw W7 w6.heap.size 29 (celD.cs (.slice ao6 0 cp6)) := by rw [HW.out]; exact Rw.row_other (Rw.row (cs := celZ.cs (.slice none 0 0)) (by repeat (first | exact Rw.new _ _ _ (by first | rfl | (simp; done) | omega | (simp; omega)) | refine Rw.alloc ?_ _)) _) _ (by omega)
  have r7 : Rw W7 (w6.heap.size + 1) 31 wntZ.cs := by rw [HW.out]; exact Rw.row (cs := #[.int .i64 0, .int .i64 0, .int .i64 0, .int .i64 0, .int .i64 0]) (Rw.row_other (by repeat (first | exact Rw.new _ _ _ (by first | rfl | (simp; done) | omega | (simp; omega)) | refine Rw.alloc ?_ _)) _ (by omega)) _
  have hzW7 : W7.heap.size = w6.heap.size + 2 := by rw [HW.out]; simp
  clear HW
  have HE7 := Lib.hid (HE6.out.up D7)
  have HD7 := Lib.hid (HD6.out.trans (D7.mono (by omega)))
  have R17 := Lib.hid (R16.out.up D7 (by omega))
  have R27 := Lib.hid (R26.out.up D7 (by omega))
  have R47 := Lib.hid (R46.out.up D7 (by omega))
  have R67 := Lib.hid r6
  clear D7 r6 r7 HE6 HD6 R16 R26 R46
  go_wp2_with fail
  refine (cellStep_to [⟨10, 2, 0, 0⟩] [5] [] celZ celF [] wntZ rfl (.slice (some ⟨w6.heap.size + 2, 0, none⟩) 1 1) (.slice (some ⟨w6.heap.size + 3, 0, none⟩) 1 1) (.slice none 0 0) (by decide +kernel) (by simp) (by decide) (by decide) _ (HE7.out.up (by repeat (first | exact Below.refl _ _ | assumption | refine Below.drew ?_ | refine Below.alloc ?_ (by first | (simp; done) | (simp; omega)) _ | refine Below.setCell ?_ (by first | (simp; done) | (simp; omega)) _))) ((lit4 W7 10 2 0 0 _ (by omega)).up ((Below.refl _ _).alloc (Nat.le_refl _) _)) (sl_one_at _ 5 3 1 _ (by simp; omega) (Nat.le_refl _)) (Sl.nil _ _)).mono ?_
  rintro e w8 ⟨ao8, cp8, rfl, o8, b8⟩
  have z8 := b8.size
  simp at z8
  have b8' : Below W7.heap.size W7 w8 := Below.trans (((Below.refl _ _).alloc (Nat.le_refl _) _).alloc (by simp) _) (b8.mono (by simp; omega))
  have HE8 := Lib.hid (HE7.out.up b8')
  have HD8 := Lib.hid (HD7.out.trans (b8'.mono (by omega)))
  have R18 := Lib.hid (R17.out.up b8' (by omega))
  have R28 := Lib.hid (R27.out.up b8' (by omega))
  have R48 := Lib.hid (R47.out.up b8' (by omega))
  have R68 := Lib.hid (R67.out.up b8' (by omega))
  clear b8 b8' o8 HE7 HD7 R17 R27 R47 R67
  go_wp2_with (first | (refine wpList_store_row rfl 29 (.tmp 9) (.tmp 43) rfl w8.heap.size (celF.cs (.slice ao8 0 cp8)) rfl rfl 29 (celZ.cs (.slice none 0 0)) (by repeat (first | exact Rw.new _ _ _ (by first | rfl | (simp; done) | omega | (simp; omega)) | refine Rw.alloc ?_ _)) sizeCell rfl (Cel.cs_one _ _ (by first | rfl | assumption)) ?_) | (refine wpList_store_rowW rfl 31 (.tmp 10) (.tmp 44) rfl (w8.heap.size + 1) wntZ.cs rfl rfl 31 #[.int .i64 0, .int .i64 0, .int .i64 0, .int .i64 0, .int .i64 0] (Rw.row_other (by repeat (first | exact Rw.new _ _ _ (by first | rfl | (simp; done) | omega | (simp; omega)) | refine Rw.alloc ?_ _)) _ (by omega)) sizeWant rfl (Wnt.cs_one _) ?_))
  intro W9 HW
  have D9 : Below w8.heap.size w8 W9 := by rw [HW.out]; exact below_row (below_row (((Below.refl _ _).alloc (Nat.le_refl _) _).alloc (by simp) _) (Nat.le_refl _) _) (by omega) _
  have r8 : Rw W9 w8.heap.size 29 (celF.cs (.slice ao8 0 cp8)) := by rw [HW.out]; exact Rw.row_other (Rw.row (cs := celZ.cs (.slice none 0 0)) (by repeat (first | exact Rw.new _ _ _ (by first | rfl | (simp; done) | omega | (simp; omega)) | refine Rw.alloc ?_ _)) _) _ (by omega)
  have r9 : Rw W9 (w8.heap.size + 1) 31 wntZ.cs := by rw [HW.out]; exact Rw.row (cs := #[.int .i64 0, .int .i64 0, .int .i64 0, .int .i64 0, .int .i64 0]) (Rw.row_other (by repeat (first | exact Rw.new _ _ _ (by first | rfl | (simp; done) | omega | (simp; omega)) | refine Rw.alloc ?_ _)) _ (by omega)) _
  have hzW9 : W9.heap.size = w8.heap.size + 2 := by rw [HW.out]; simp
  clear HW
  have HD9 := Lib.hid (HD8.out.trans (D9.mono (by omega)))
  have a1 := (R18.out.up D9 (by omega)).cell (j := 0) (v := .int .i64 1) rfl
  have R29 := Lib.hid (R28.out.up D9 (by omega))
  have a20 := R29.out.cell (j := 0) (v := .int .i64 13) rfl
  have a21 := R29.out.cell (j := 1) (v := .int .i64 0) rfl
  have a22 := R29.out.cell (j := 2) (v := .int .i64 0) rfl
  have a23 := R29.out.cell (j := 3) (v := .int .i64 1) rfl
  have a24 := R29.out.cell (j := 4) (v := .int .i64 0) rfl
  have a41 := (R48.out.up D9 (by omega)).cell (j := 1) (v := .int .i64 7) rfl
  have a42 := (R48.out.up D9 (by omega)).cell (j := 2) (v := .int .i64 1) rfl
  have a43 := (R48.out.up D9 (by omega)).cell (j := 3) (v := .int .i64 0) rfl
  have a44 := (R48.out.up D9 (by omega)).cell (j := 4) (v := .int .i64 0) rfl
  have a60 := (R68.out.up D9 (by omega)).cell (j := 0) (v := .int .i64 0) rfl
  have a65 := (R68.out.up D9 (by omega)).cell (j := 15) (v := .int .i64 2) rfl
  have a83 := r8.cell (j := 3) (v := .int .i64 5) rfl
  have a8d := r8.cell (j := 13) (v := .int .i64 1) rfl
  have q26 := eq26 7 1 0 0
  clear r8 r9 D9 R18 R28 R48 R68 R29 HE8 HD8
  go_wp2_with (go_at_call 10; refine (cellCheck_any ⟨0, 0, 0, 0, 0, 0, 0, 0, 0, 0, 0, 0, 0, 0, 3⟩ none 0 0 _).mono ?_; rintro e w10 ⟨rfl, b10⟩)
  go_ret
  exact ⟨rfl, HD9.out.trans (b10.mono (by have := HD9.out.size; omega))⟩
end Go.Proofs.YtbmocfgkocncpaaDoor
