/- A part of the proofs over this seat's laws: what a function of the program, or of the reference, answers and leaves, told by its theorems below. -/
import Derived.Test.YtiadjglkjcmkpaaDoorCode6
namespace Go.Proofs.YtiadjglkjcmkpaaDoor
set_option linter.unusedSimpArgs false
set_option linter.unusedVariables false
open Go.RowKit Go.Sort

theorem chk_code (l : List Ins) (v : Value) (w : World) (he : Env w) (hS : Sl w 4 v l.length (codeC l)) (c : Int) (hc : chkC l = c) :
    Calls Tryd.prog 21 #[v] w fun e w' => e = .returned (.int .i64 c) ∧ Below w.heap.size w w' := hc ▸ codeCheck_any l v w he hS
theorem chk_ref (l : List Ins) (hok : ∀ j (hj : j < l.length), l[j].ok) (v : Value) (w : World) (hS : Sl w 4 v l.length (codeC l)) (c : Int) (hc : chkC l = c) :
    Calls Tryd.prog 18 #[v] w fun e w' => e = .returned (.int .i64 c) ∧ Below w.heap.size w w' := hc ▸ codeRef_any l hok v w hS
theorem chan6 (l : List Ins) (op : Int) : (chanL l op 6).length < 4294967281 := Nat.lt_of_le_of_lt (chanL_len l op 6) (by decide)

set_option maxRecDepth 100000 in
set_option maxHeartbeats 1000000 in
/-- The law CodeTells answers true, whatever the program. -/
theorem codeTells_any (l : List Ins) (hok : ∀ j (hj : j < l.length), l[j].ok) (v : Value) (w : World) (he : Env w) (hS : Sl w 4 v l.length (codeC l)) :
    Calls Tryd.prog 6 #[v] w fun e w' => e = .returned (.bool true) ∧ Below w.heap.size w w' := by
  by_cases h0 : chkC l = 0
  · have hm : l.length < 4294967281 := by have := (chkC_zero h0).2.1; omega
    have HC := Lib.hid h0
    have HS := Lib.hid hS
    clear h0 hS
    go_enter Tryd.func6, Tryd.ntmps6
    go_wp2_with fail
    refine (puts_yes l v _ he HS.out HC.out).mono ?_
    rintro e w1 ⟨v1, rfl, s1, b1⟩
    have e1 := he.up b1
    have S1 := Lib.hid (HS.out.up b1)
    go_wp2_with fail
    refine (gets_yes l v _ e1 S1.out HC.out).mono ?_
    rintro e w2 ⟨v2, rfl, s2, b2⟩
    have e2 := e1.up b2
    have u2 := b1.trans (b2.mono b1.size)
    have S2 := Lib.hid (S1.out.up b2)
    have s1 := s1.up b2
    clear b1 b2 e1 HS S1
    go_wp2_with fail
    refine (chk_ref l hok v _ S2.out 0 HC.out).mono ?_
    rintro e w3 ⟨rfl, b3⟩
    have e3 := e2.up b3
    have u3 := u2.trans (b3.mono u2.size)
    have S3 := Lib.hid (S2.out.up b3)
    have s1 := s1.up b3
    have s2 := s2.up b3
    clear b3 u2 e2 S2
    go_wp2_with fail
    refine (named_ref l 12 v _ S3.out hm).mono ?_
    rintro e w4 ⟨v4, rfl, o4, b4⟩
    have s4 := own_sl o4
    have e4 := e3.up b4
    have u4 := u3.trans (b4.mono u3.size)
    have S4 := Lib.hid (S3.out.up b4)
    have s1 := s1.up b4
    have s2 := s2.up b4
    clear b4 u3 e3 S3 o4
    go_wp2_with fail
    refine (named_ref l 13 v _ S4.out hm).mono ?_
    rintro e w5 ⟨v5, rfl, o5, b5⟩
    have s5 := own_sl o5
    have e5 := e4.up b5
    have u5 := u4.trans (b5.mono u4.size)
    have S5 := Lib.hid (S4.out.up b5)
    have s1 := s1.up b5
    have s2 := s2.up b5
    have s4 := s4.up b5
    clear b5 u4 e4 S4 o5
    go_wp2_with fail
    refine (codeBegun_any _ e5).mono ?_
    rintro e w6 ⟨rfl, b6⟩
    have e6 := e5.up b6
    have u6 := u5.trans (b6.mono u5.size)
    have S6 := Lib.hid (S5.out.up b6)
    have s1 := s1.up b6
    have s2 := s2.up b6
    have s4 := s4.up b6
    have s5 := s5.up b6
    clear b6 u5 e5 S5
    go_wp2_with fail
    refine (chk_code l v _ e6 S6.out 0 HC.out).mono ?_
    rintro e w7 ⟨rfl, b7⟩
    have u7 := u6.trans (b7.mono u6.size)
    have s1 := s1.up b7
    have s2 := s2.up b7
    have s4 := s4.up b7
    have s5 := s5.up b7
    clear b7 u6 e6 S6
    go_wp2_with fail
    refine (sameInts_any _ _ v1 v4 _ s1 s4 (chan6 l 12) true (by simp)).mono ?_
    rintro e w8 ⟨rfl, b8⟩
    have u8 := u7.trans (b8.mono u7.size)
    have s2 := s2.up b8
    have s5 := s5.up b8
    clear b8 u7 s1 s4
    go_wp2_with fail
    refine (sameInts_any _ _ v2 v5 _ s2 s5 (chan6 l 13) true (by simp)).mono ?_
    rintro e w9 ⟨rfl, b9⟩
    have u9 := u8.trans (b9.mono u8.size)
    go_wp2
    go_ret
    exact ⟨rfl, u9⟩
  · obtain ⟨c, hc⟩ : ∃ c, chkC l = c := ⟨_, rfl⟩
    have hc' : (c == 0) = false := by rw [← hc]; simpa using h0
    have hcc : (c == c) = true := by simp
    have h0 : c ≠ 0 := hc ▸ h0
    have HN := Lib.hid h0
    have HC := Lib.hid hc
    have HS := Lib.hid hS
    clear h0 hc hS
    go_enter Tryd.func6, Tryd.ntmps6
    go_wp2_with fail
    refine (puts_no l v _ he HS.out c HC.out HN.out).mono ?_
    rintro e w1 ⟨rfl, b1⟩
    have e1 := he.up b1
    have S1 := Lib.hid (HS.out.up b1)
    go_wp2_with fail
    refine (gets_no l v _ e1 S1.out c HC.out HN.out).mono ?_
    rintro e w2 ⟨rfl, b2⟩
    have e2 := e1.up b2
    have u2 := b1.trans (b2.mono b1.size)
    have S2 := Lib.hid (S1.out.up b2)
    clear b1 b2 e1 HS S1
    go_wp2_with fail
    refine (chk_ref l hok v _ S2.out c HC.out).mono ?_
    rintro e w3 ⟨rfl, b3⟩
    have e3 := e2.up b3
    have u3 := u2.trans (b3.mono u2.size)
    have S3 := Lib.hid (S2.out.up b3)
    clear b3 u2 e2 S2
    go_wp2_with fail
    refine (codeBegun_any _ e3).mono ?_
    rintro e w6 ⟨rfl, b6⟩
    have e6 := e3.up b6
    have u6 := u3.trans (b6.mono u3.size)
    have S6 := Lib.hid (S3.out.up b6)
    clear b6 u3 e3 S3
    go_wp2_with fail
    refine (chk_code l v _ e6 S6.out c HC.out).mono ?_
    rintro e w7 ⟨rfl, b7⟩
    have u7 := u6.trans (b7.mono u6.size)
    clear b7 u6 e6 S6
    go_wp2_with fail
    refine (sameInts_any [] [] _ _ _ (Sl.nil _ 1) (Sl.nil _ 1) (by decide) true (by simp)).mono ?_
    rintro e w8 ⟨rfl, b8⟩
    have u8 := u7.trans (b8.mono u7.size)
    clear b8 u7
    go_wp2_with fail
    refine (sameInts_any [] [] _ _ _ (Sl.nil _ 1) (Sl.nil _ 1) (by decide) true (by simp)).mono ?_
    rintro e w9 ⟨rfl, b9⟩
    have u9 := u8.trans (b9.mono u8.size)
    go_wp2
    go_ret
    exact ⟨rfl, u9⟩
end Go.Proofs.YtiadjglkjcmkpaaDoor
