/- A part of the proofs over this seat's laws: what a function of the program, or of the reference, answers and leaves, told by its theorems below. -/
import Derived.Test.YtiadjglkjcmkpaaDoorCode10
namespace Go.Proofs.YtiadjglkjcmkpaaDoor
set_option linter.unusedSimpArgs false
set_option linter.unusedVariables false
open Go.RowKit Go.Sort

theorem text_inj {l m : List Ins} (hl : AllR l) (hm : AllR m) (h : textC l = textC m) : l = m := by
  obtain ⟨r, e, hr⟩ := text_prefix l m [] hl hm (by rw [List.append_nil, h])
  rw [textC_nil hr, List.append_nil] at e
  exact e.symm
theorem showC_txt' (l : List Ins) (hok : ∀ j (hj : j < l.length), l[j].ok) (T : List UInt8) (hT : textC l = T) (v : Value) (w : World) (he : Env w) (hS : Sl w 4 v l.length (codeC l)) (hc0 : chkC l = 0) :
    Calls Tryd.prog 23 #[v] w fun e w' => e = .returned (.tuple #[.string ⟨T.toArray⟩, .int .i64 0]) ∧ Below w.heap.size w w' := hT ▸ showC_yes l hok v w he hS hc0

set_option maxRecDepth 100000 in
set_option maxHeartbeats 4000000 in
/-- The law CodeShows answers true. -/
theorem codeShows_any (l : List Ins) (hl : ∀ j (hj : j < l.length), l[j].ok) (v : Value) (s : List UInt8) (w : World) (he : Env w) (hS : Sl w 4 v l.length (codeC l)) (hs : s.length < 4294967281) :
    Calls Tryd.prog 7 #[v, .string ⟨s.toArray⟩] w fun e w' => e = .returned (.bool true) ∧ Below w.heap.size w w' := by
  by_cases h0 : chkC l = 0
  · have hl20 := (chkC_zero h0).2.1
    have HL := Lib.hid hl
    have HC := Lib.hid h0
    have S0 := Lib.hid hS
    clear hS h0 hl
    obtain ⟨T, hT⟩ : ∃ T, textC l = T := ⟨_, rfl⟩
    have HT := Lib.hid hT
    clear hT
    go_enter Tryd.func7, Tryd.ntmps7
    go_wp2_with fail
    refine (showC_txt' l HL.out T HT.out _ _ he S0.out HC.out).mono ?_
    rintro e w1 ⟨rfl, b1⟩
    have e1 := he.up b1
    have S1 := Lib.hid (S0.out.up b1)
    clear S0
    go_wp2_with fail
    refine (chk_ref l HL.out v _ S1.out 0 HC.out).mono ?_
    rintro e w2 ⟨rfl, b2⟩
    have e2 := e1.up b2
    have u2 := b1.trans (b2.mono b1.size)
    have S2 := Lib.hid (S1.out.up b2)
    clear b1 b2 e1 S1
    go_wp2_with fail
    refine (codeText_any l (fun j hj => ⟨HL.out j hj, (chkC_zero HC.out).2.2 j hj⟩) hl20 v _ S2.out T HT.out).mono ?_
    rintro e w3 ⟨rfl, b3⟩
    have e3 := e2.up b3
    have u3 := u2.trans (b3.mono u2.size)
    clear b3 e2 u2 S2
    go_wp2_with fail
    refine (readC_any s _ e3 hs).mono ?_
    rintro e wa ⟨hcase, ba⟩
    have ea := e3.up ba
    have ua := u3.trans (ba.mono u3.size)
    rcases hcase with ⟨va, z, rfl, oa, hz, hz1', hz20, hzt⟩ | ⟨rfl, hno⟩
    · have SA := Lib.hid (own_sl oa)
      have HZ := Lib.hid hz
      have HT' := Lib.hid hzt
      clear oa hz hzt ba
      go_wp2_with fail
      refine (codeFrom_any s hs _).mono ?_
      rintro e wb ⟨hcase, bb⟩
      have eb := ea.up bb
      have ub := ua.trans (bb.mono ua.size)
      rcases hcase with ⟨vb, y, rfl, sb, hy, _, _, hyt⟩ | ⟨rfl, hno⟩
      · have hzy : y = z := text_inj hy HZ.out (by rw [hyt, HT'.out])
        subst hzy
        have SB := Lib.hid sb
        have SA2 := Lib.hid (SA.out.up bb)
        clear sb hy hyt bb SA
        go_wp2_with fail
        refine (codeBegun_any _ eb).mono ?_
        rintro e wc ⟨rfl, bc⟩
        have uc := ub.trans (bc.mono ub.size)
        have SB2 := Lib.hid (SB.out.up bc)
        have SA3 := Lib.hid (SA2.out.up bc)
        clear bc SB SA2
        go_wp2_with fail
        refine (sameCode_any y _ _ _ SA3.out SB2.out (by omega)).mono ?_
        rintro e wd ⟨rfl, bd⟩
        have ud := uc.trans (bd.mono uc.size)
        go_wp2
        go_ret
        exact ⟨by simp, ud⟩
      · exact absurd HT'.out (hno z HZ.out hz1' hz20)
    · go_wp2_with fail
      refine (codeFrom_any s hs _).mono ?_
      rintro e wb ⟨hcase, bb⟩
      have eb := ea.up bb
      have ub := ua.trans (bb.mono ua.size)
      rcases hcase with ⟨vb, y, rfl, sb, hy, h1, h2, hyt⟩ | ⟨rfl, _⟩
      · exact absurd hyt (hno y hy h1 h2)
      · clear bb ba hno
        go_wp2_with fail
        refine (codeBegun_any _ eb).mono ?_
        rintro e wc ⟨rfl, bc⟩
        have uc := ub.trans (bc.mono ub.size)
        clear bc
        go_wp2_with fail
        refine (sameCode_any [] _ _ _ (Sl.nil _ 4) (Sl.nil _ 4) (by decide)).mono ?_
        rintro e wd ⟨rfl, bd⟩
        have ud := uc.trans (bd.mono uc.size)
        go_wp2
        go_ret
        exact ⟨by simp, ud⟩
  · obtain ⟨d, hd⟩ : ∃ d, chkC l = d := ⟨_, rfl⟩
    have hd' : (d == 0) = false := by rw [← hd]; simpa using h0
    have h0 : d ≠ 0 := hd ▸ h0
    have HN := Lib.hid h0
    have HD := Lib.hid hd
    have S0 := Lib.hid hS
    have HL := Lib.hid hl
    clear h0 hd hS hl
    go_enter Tryd.func7, Tryd.ntmps7
    go_wp2_with fail
    refine (showC_no l v _ he S0.out d HD.out HN.out).mono ?_
    rintro e w1 ⟨rfl, b1⟩
    have e1 := he.up b1
    have S1 := Lib.hid (S0.out.up b1)
    clear S0
    go_wp2_with fail
    refine (chk_ref l HL.out v _ S1.out d HD.out).mono ?_
    rintro e w2 ⟨rfl, b2⟩
    have e3 := e1.up b2
    have u3 := b1.trans (b2.mono b1.size)
    clear b1 b2 e1 S1
    go_wp2_with fail
    refine (readC_any s _ e3 hs).mono ?_
    rintro e wa ⟨hcase, ba⟩
    have ea := e3.up ba
    have ua := u3.trans (ba.mono u3.size)
    rcases hcase with ⟨va, z, rfl, oa, hz, hz1', hz20, hzt⟩ | ⟨rfl, hno⟩
    · have SA := Lib.hid (own_sl oa)
      have HZ := Lib.hid hz
      have HT' := Lib.hid hzt
      clear oa hz hzt ba
      go_wp2_with fail
      refine (codeFrom_any s hs _).mono ?_
      rintro e wb ⟨hcase, bb⟩
      have eb := ea.up bb
      have ub := ua.trans (bb.mono ua.size)
      rcases hcase with ⟨vb, y, rfl, sb, hy, _, _, hyt⟩ | ⟨rfl, hno⟩
      · have hzy : y = z := text_inj hy HZ.out (by rw [hyt, HT'.out])
        subst hzy
        have SB := Lib.hid sb
        have SA2 := Lib.hid (SA.out.up bb)
        clear sb hy hyt bb SA
        go_wp2_with fail
        refine (codeBegun_any _ eb).mono ?_
        rintro e wc ⟨rfl, bc⟩
        have uc := ub.trans (bc.mono ub.size)
        have SB2 := Lib.hid (SB.out.up bc)
        have SA3 := Lib.hid (SA2.out.up bc)
        clear bc SB SA2
        go_wp2_with fail
        refine (sameCode_any y _ _ _ SA3.out SB2.out (by omega)).mono ?_
        rintro e wd ⟨rfl, bd⟩
        have ud := uc.trans (bd.mono uc.size)
        go_wp2
        go_ret
        exact ⟨by simp, ud⟩
      · exact absurd HT'.out (hno z HZ.out hz1' hz20)
    · go_wp2_with fail
      refine (codeFrom_any s hs _).mono ?_
      rintro e wb ⟨hcase, bb⟩
      have eb := ea.up bb
      have ub := ua.trans (bb.mono ua.size)
      rcases hcase with ⟨vb, y, rfl, sb, hy, h1, h2, hyt⟩ | ⟨rfl, _⟩
      · exact absurd hyt (hno y hy h1 h2)
      · clear bb ba hno
        go_wp2_with fail
        refine (codeBegun_any _ eb).mono ?_
        rintro e wc ⟨rfl, bc⟩
        have uc := ub.trans (bc.mono ub.size)
        clear bc
        go_wp2_with fail
        refine (sameCode_any [] _ _ _ (Sl.nil _ 4) (Sl.nil _ 4) (by decide)).mono ?_
        rintro e wd ⟨rfl, bd⟩
        have ud := uc.trans (bd.mono uc.size)
        go_wp2
        go_ret
        exact ⟨by simp, ud⟩
end Go.Proofs.YtiadjglkjcmkpaaDoor
