/- A part of the proofs over this seat's laws: what a function of the program, or of the reference, answers and leaves, told by its theorems below. -/
import Derived.Test.YtclnedeodmlfeaaDoorJ6
namespace Go.Proofs.YtclnedeodmlfeaaDoor
set_option linter.unusedSimpArgs false
set_option linter.unusedVariables false
open Go.RowKit Go.Sort
theorem allR_of {l : List Ins} (hok : ∀ j (hj : j < l.length), l[j].ok) (hc : chkC l = 0) : AllR l := fun j hj => ⟨hok j hj, (chkC_zero hc).2.2 j hj⟩
theorem allR_app {l m : List Ins} (hl : AllR l) (hm : AllR m) : AllR (l ++ m) := by
  intro j hj
  by_cases h : j < l.length
  · rw [List.getElem_append_left h]; exact hl j h
  · rw [List.getElem_append_right (by omega)]; exact hm _ _
theorem textC_app : ∀ l m : List Ins, textC (l ++ m) = textC l ++ textC m
  | [], m => rfl
  | i :: r, m => by rw [List.cons_append, textC, textC, textC_app r m]; simp
theorem codeC_app : ∀ l m : List Ins, codeC (l ++ m) = codeC l ++ codeC m
  | [], m => rfl
  | i :: r, m => by rw [List.cons_append, codeC, codeC, codeC_app r m]; simp
theorem code_cell : ∀ (l : List Ins), ∀ u ∈ codeC l, u.oneCell' = true
  | [], u, h => by cases h
  | i :: r, u, h => by
    rw [codeC] at h
    rcases List.mem_append.1 h with h | h
    · exact four_cell i u h
    · exact code_cell r u h
theorem showC_txt (l : List Ins) (hl : AllR l) (T : List UInt8) (hT : textC l = T) (v : Value) (w : World) (he : Env w) (hS : Sl w 4 v l.length (codeC l)) (hc0 : chkC l = 0) :
    Calls Tryd.prog 23 #[v] w fun e w' => e = .returned (.tuple #[.string ⟨T.toArray⟩, .int .i64 0]) ∧ Below w.heap.size w w' := hT ▸ showC_yes l (fun j hj => (hl j hj).1) v w he hS hc0
theorem chkC_of {l : List Ins} (hl : AllR l) (h1 : 1 ≤ l.length) (h2 : l.length ≤ 20) : chkC l = 0 := by
  unfold chkC
  rw [if_neg (by omega)]
  exact firstE_all l fun j hj => (hl j hj).2
theorem wpList_append_wanted {P : Program} (w : World) {ops : Array Oper} {rest : List Oper} {o : Oper} {a : Act} {Q : Exit → Act → World → Prop} (hw : Region.wanted o (yielded ops a.tmps) = true) (s x : Operand) (t : TypeId)
    (ho : o.op = .call { callee := .builtin .append, args := #[s, x], argTypes := #[t, t] })
    (base : Nat) (e : TypeId) (i : TypeInfo) (z : Value) (size bytes : Nat) (ht : P.underlying t = some (.slice e)) (hi : P.info? e = some i) (hz : i.zero = some z)
    (hsize : i.size = size) (hby : i.bytes = bytes) (hzs : z.cells.size = size) (hsz : 0 < size)
    (v : Value) (n : Nat) (xs : List Value) (hs : a.eval s = v) (hown : w.ownsRow base e size v n xs)
    (ad : Addr) (m c : Nat) (news : List Value) (hx : a.eval x = .slice (some ad) m c) (hl : news.length = m * size) (hnews : ∀ j u, news[j]? = some u → w.cell? (ad.add j) = some u) (h1 : ∀ u ∈ news, u.oneCell' = true)
    (hm : 0 < m) (h63 : n + m ≤ maxLen) (hbytes : (n + m) * bytes ≤ 140737488355328) (hbase : base ≤ w.heap.size) (H : Nat) (hH : w.heap.size = H)
    (h : ∀ g cap w', w'.ownsRow base e size (.slice (some ⟨g, 0, none⟩) (n + m) cap) (n + m) (xs ++ news) → w.grownBy w' v.ownBlock → (v.ownBlock = some g ∨ g = H) → g < w'.heap.size → wpList P ops Q rest (a.put o.dst (.slice (some ⟨g, 0, none⟩) (n + m) cap)) w') : wpList P ops Q (o :: rest) a w :=
  wpList_step fun K hK => by
    rw [if_pos hw]
    exact wp_append_lies w s x t ho base e i z size bytes ht hi hz hsize hby hzs hsz v n xs hs hown ad m c news hx hl hnews h1 hm h63 hbytes hbase H hH fun g cap w' h2 h3 h4 h5 => hK _ _ (h g cap w' h2 h3 h4 h5)
theorem empty_own {base : Nat} (w : World) (t : TypeId) (hb : base ≤ w.heap.size) : (w.alloc (.cells #[] t)).ownsRow base t 4 (.slice (some ⟨w.heap.size, 0, none⟩) 0 0) 0 (codeC []) :=
  ⟨rfl, Or.inr ⟨w.heap.size, 0, #[], rfl, hb, heap_alloc_new w _, Nat.le_refl _, by decide, by simp, rfl⟩⟩
theorem own_app {w : World} {base : Nat} {v : Value} {l m : List Ins} (h : w.ownsRow base 23 4 v (l.length + m.length) (codeC l ++ codeC m)) : w.ownsRow base 23 4 v (l ++ m).length (codeC (l ++ m)) := by
  rw [codeC_app, List.length_append]; exact h
theorem sl_src {w : World} {b off : Nat} {l : List Ins} (hc : ∀ j u, (codeC l)[j]? = some u → w.cell? ⟨b, off + j, none⟩ = some u) : ∀ j u, (codeC l)[j]? = some u → w.cell? ((⟨b, off, none⟩ : Addr).add j) = some u := fun j u hj => by
  have : (⟨b, off, none⟩ : Addr).add j = ⟨b, off + j, none⟩ := by
    unfold Addr.add
    by_cases h0 : j = 0 <;> simp [h0]
  rw [this]; exact hc j u hj
set_option maxRecDepth 100000 in
set_option maxHeartbeats 4000000 in
theorem codeBack_any (l m : List Ins) (hl : ∀ j (hj : j < l.length), l[j].ok) (hm : ∀ j (hj : j < m.length), m[j].ok) (v u : Value) (s : List UInt8) (w : World) (he : Env w) (hS : Sl w 4 v l.length (codeC l)) (hU : Sl w 4 u m.length (codeC m)) (hs : s.length < 281474976710657) :
    Calls Tryd.prog 8 #[v, u, .string ⟨s.toArray⟩] w fun e w' => e = .returned (.bool true) ∧ Below w.heap.size w w' := by
  obtain ⟨i0, hi, hz0, hz1, hz2⟩ := info_parts info23
  by_cases h0 : chkC l = 0
  · have hl20 := (chkC_zero h0).2.1
    have hl1 := (chkC_zero h0).1
    have HL := Lib.hid (allR_of hl h0)
    have HC := Lib.hid h0
    obtain ⟨b, off, cap, rfl, hcap, hbw, hc⟩ := hS.open (by omega)
    have S0 := Lib.hid hS
    have HCL := Lib.hid hc
    clear hS hc h0
    obtain ⟨T, hT⟩ : ∃ T, textC l = T := ⟨_, rfl⟩
    have HT := Lib.hid hT
    clear hT
    go_enter Tryd.func8, Tryd.ntmps8
    go_wp2_with fail
    refine (showC_txt l HL.out T HT.out _ _ he S0.out HC.out).mono ?_
    rintro e w1 ⟨rfl, b1⟩
    have e1 := he.up b1
    have S1 := Lib.hid (S0.out.up b1)
    have U1 := Lib.hid (hU.up b1)
    clear S0
    go_wp2_with fail
    refine (readC_text l HL.out hl1 hl20 T HT.out _ e1).mono ?_
    rintro e w2 ⟨v2, rfl, s2, b2⟩
    have e2 := e1.up b2
    have u2 := b1.trans (b2.mono b1.size)
    have S2 := Lib.hid (S1.out.up b2)
    have U2 := Lib.hid (U1.out.up b2)
    clear b1 b2 e1 S1 U1
    go_wp2_with fail
    refine (sameCode_any l v2 _ _ s2 S2.out (by omega)).mono ?_
    rintro e w3 ⟨rfl, b3⟩
    have e3 := e2.up b3
    have u3 := u2.trans (b3.mono u2.size)
    have U3 := Lib.hid (U2.out.up b3)
    clear b3 e2 u2 S2 U2 s2
    by_cases h1 : chkC m = 0
    · have hm20 := (chkC_zero h1).2.1
      have hm1 := (chkC_zero h1).1
      have HM := Lib.hid (allR_of hm h1)
      have HD := Lib.hid h1
      obtain ⟨b', off', cap', rfl, hcap', hbw', hc'⟩ := hU.open (by omega)
      have HCM := Lib.hid hc'
      clear hU hc' h1
      obtain ⟨V, hV⟩ : ∃ V, textC m = V := ⟨_, rfl⟩
      have HV := Lib.hid hV
      clear hV
      go_wp2_with fail
      refine (showC_txt m HM.out V HV.out _ _ e3 U3.out HD.out).mono ?_
      rintro e w4 ⟨rfl, b4⟩
      have e4 := e3.up b4
      have u4 := u3.trans (b4.mono u3.size)
      clear b4 e3 u3 U3
      by_cases h2 : l.length + m.length ≤ 20
      · have h2' : (l.length : Int) + m.length ≤ 20 := by omega
        have HTV : Hid (textC (l ++ m) = T ++ V) := by show _ = _; rw [textC_app, HT.out, HV.out]
        have HLM := Lib.hid (allR_app HL.out HM.out)
        have hTV : ¬ 9223372036854775807 < T.length + V.length := by
          have h1 := textC_len l HL.out
          have h2 := textC_len m HM.out
          rw [HT.out] at h1
          rw [HV.out] at h2
          omega
        go_wp2_with fail
        rw [ba_app]
        refine (readC_text (l ++ m) HLM.out (by simp; omega) (by simp; omega) (T ++ V) HTV.out _ e4).mono ?_
        rintro e w5 ⟨v5, rfl, s5, b5⟩
        have e5 := e4.up b5
        have u5 := u4.trans (b5.mono u4.size)
        clear b5 e4 u4 hTV
        have o6 := empty_own w5 23 (Nat.le_refl _)
        have hcl := sl_src (w := w5.alloc (.cells #[] 23)) (fun j x hj => cl_alloc _ (Nat.lt_of_lt_of_le hbw u5.size) (bcl u5 hbw (HCL.out j x hj)))
        have hsz5 := u5.size
        go_wp2_with (first
          | (at_builtin; refine wpList_append_wanted _ rfl (.tmp 65) (.tmp 66) 37 rfl w5.heap.size 23 i0 (.agg #[.int .i64 0, .int .i64 0, .int .i64 0, .int .i64 0]) 4 32 Tryd.underlying37 hi hz0 hz1 hz2 rfl (by decide) _ 0 (codeC []) rfl o6 ⟨b, off, none⟩ l.length cap (codeC l) rfl (codeC_len l) hcl (code_cell l) (by omega) (by unfold maxLen; omega) (by omega) (by simp) _ rfl ?_; intro g cap1 w6 o7 hg7 hat hglt)
          | (at_builtin; have o8 : w6.ownsRow w5.heap.size 23 4 (.slice (some ⟨g, 0, none⟩) l.length cap1) l.length (codeC l) := (by simpa [codeC] using o7); have u6 := ((Below.refl w5.heap.size w5).alloc (Nat.le_refl _) (.cells #[] 23)).grown hg7 (by simp) (own_block o6); refine wpList_append_wanted _ rfl (.tmp 67) (.tmp 68) 37 rfl w5.heap.size 23 i0 (.agg #[.int .i64 0, .int .i64 0, .int .i64 0, .int .i64 0]) 4 32 Tryd.underlying37 hi hz0 hz1 hz2 rfl (by decide) _ l.length (codeC l) rfl o8 ⟨b', off', none⟩ m.length cap' (codeC m) rfl (codeC_len m) (sl_src fun j x hj => bcl (u5.trans (u6.mono u5.size)) hbw' (HCM.out j x hj)) (code_cell m) (by omega) (by unfold maxLen; omega) (by omega) u6.size _ rfl ?_; intro g2 cap2 w7 o9 hg9 hat2 hglt2))
        have u7 := u6.grown hg9 u6.size (own_block o8)
        have u8 := u5.trans (u7.mono u5.size)
        have e8 := e5.up u7
        have s7 := s5.up u7
        refine (sameCode_any (l ++ m) v5 _ _ s7 (by have := own_sl (own_app o9); rw [List.length_append] at this ⊢; exact this) (by simp; omega)).mono ?_
        rintro e w9 ⟨rfl, b9⟩
        have e9 := e8.up b9
        have u9 := u8.trans (b9.mono u8.size)
        clear b9 u8 s7 s5 o6 o7 o8 o9 hg7 hg9 hat hat2 hcl u6 u7 e8 u5 e5 hglt hglt2 hsz5
        go_wp2_with fail
        refine (readC_any s _ e9 hs).mono ?_
        rintro e wa ⟨hcase, ba⟩
        have ea := e9.up ba
        have ua := u9.trans (ba.mono u9.size)
        rcases hcase with ⟨va, z, rfl, oa, hz, hz1', hz20, hzt⟩ | ⟨rfl, _⟩
        · have sa := own_sl oa
          have SA := Lib.hid sa
          have HZ := Lib.hid hz
          have HC := Lib.hid (chkC_of hz hz1' hz20)
          have HT := Lib.hid hzt
          clear sa oa hz hzt ba
          go_wp2_with fail
          refine (showC_txt z HZ.out s HT.out va _ ea SA.out HC.out).mono ?_
          rintro e wb ⟨rfl, bb⟩
          have eb := ea.up bb
          have ub := ua.trans (bb.mono ua.size)
          clear bb
          go_wp2_with fail
          refine (codeBegun_any _ eb).mono ?_
          rintro e wc ⟨rfl, bc⟩
          have uc := ub.trans (bc.mono ub.size)
          go_wp2
          go_ret
          exact ⟨by simp, uc⟩
        · go_wp2_with fail
          refine (codeBegun_any _ ea).mono ?_
          rintro e wc ⟨rfl, bc⟩
          have uc := ua.trans (bc.mono ua.size)
          go_wp2
          go_ret
          exact ⟨rfl, uc⟩
      · have h2' : ¬ (l.length : Int) + m.length ≤ 20 := by omega
        clear h2
        go_wp2_with fail
        refine (readC_any s _ e4 hs).mono ?_
        rintro e wa ⟨hcase, ba⟩
        have ea := e4.up ba
        have ua := u4.trans (ba.mono u4.size)
        rcases hcase with ⟨va, z, rfl, oa, hz, hz1', hz20, hzt⟩ | ⟨rfl, _⟩
        · have sa := own_sl oa
          have SA := Lib.hid sa
          have HZ := Lib.hid hz
          have HC := Lib.hid (chkC_of hz hz1' hz20)
          have HT := Lib.hid hzt
          clear sa oa hz hzt ba
          go_wp2_with fail
          refine (showC_txt z HZ.out s HT.out va _ ea SA.out HC.out).mono ?_
          rintro e wb ⟨rfl, bb⟩
          have eb := ea.up bb
          have ub := ua.trans (bb.mono ua.size)
          clear bb
          go_wp2_with fail
          refine (codeBegun_any _ eb).mono ?_
          rintro e wc ⟨rfl, bc⟩
          have uc := ub.trans (bc.mono ub.size)
          go_wp2
          go_ret
          exact ⟨by simp, uc⟩
        · go_wp2_with fail
          refine (codeBegun_any _ ea).mono ?_
          rintro e wc ⟨rfl, bc⟩
          have uc := ua.trans (bc.mono ua.size)
          go_wp2
          go_ret
          exact ⟨rfl, uc⟩
    · obtain ⟨d, hd⟩ : ∃ d, chkC m = d := ⟨_, rfl⟩
      have hd' : (d == 0) = false := by rw [← hd]; simpa using h1
      have h1 : d ≠ 0 := hd ▸ h1
      have HN := Lib.hid h1
      have HD := Lib.hid hd
      clear h1 hd
      go_wp2_with fail
      refine (showC_no m u _ e3 U3.out d HD.out HN.out).mono ?_
      rintro e w4 ⟨rfl, b4⟩
      have e4 := e3.up b4
      have u4 := u3.trans (b4.mono u3.size)
      clear b4 e3 u3 U3
      go_wp2_with fail
      refine (readC_any s _ e4 hs).mono ?_
      rintro e wa ⟨hcase, ba⟩
      have ea := e4.up ba
      have ua := u4.trans (ba.mono u4.size)
      rcases hcase with ⟨va, z, rfl, oa, hz, hz1', hz20, hzt⟩ | ⟨rfl, _⟩
      · have sa := own_sl oa
        have SA := Lib.hid sa
        have HZ := Lib.hid hz
        have HC := Lib.hid (chkC_of hz hz1' hz20)
        have HT := Lib.hid hzt
        clear sa oa hz hzt ba
        go_wp2_with fail
        refine (showC_txt z HZ.out s HT.out va _ ea SA.out HC.out).mono ?_
        rintro e wb ⟨rfl, bb⟩
        have eb := ea.up bb
        have ub := ua.trans (bb.mono ua.size)
        clear bb
        go_wp2_with fail
        refine (codeBegun_any _ eb).mono ?_
        rintro e wc ⟨rfl, bc⟩
        have uc := ub.trans (bc.mono ub.size)
        go_wp2
        go_ret
        exact ⟨by simp, uc⟩
      · go_wp2_with fail
        refine (codeBegun_any _ ea).mono ?_
        rintro e wc ⟨rfl, bc⟩
        have uc := ua.trans (bc.mono ua.size)
        go_wp2
        go_ret
        exact ⟨rfl, uc⟩
  · obtain ⟨d, hd⟩ : ∃ d, chkC l = d := ⟨_, rfl⟩
    have hd' : (d == 0) = false := by rw [← hd]; simpa using h0
    have h0 : d ≠ 0 := hd ▸ h0
    have HN := Lib.hid h0
    have HD := Lib.hid hd
    have S0 := Lib.hid hS
    clear h0 hd hS
    go_enter Tryd.func8, Tryd.ntmps8
    go_wp2_with fail
    refine (showC_no l v _ he S0.out d HD.out HN.out).mono ?_
    rintro e w4 ⟨rfl, b4⟩
    have e4 := he.up b4
    have u4 := b4
    clear b4 S0
    go_wp2_with fail
    refine (readC_any s _ e4 hs).mono ?_
    rintro e wa ⟨hcase, ba⟩
    have ea := e4.up ba
    have ua := u4.trans (ba.mono u4.size)
    rcases hcase with ⟨va, z, rfl, oa, hz, hz1', hz20, hzt⟩ | ⟨rfl, _⟩
    · have sa := own_sl oa
      have SA := Lib.hid sa
      have HZ := Lib.hid hz
      have HC := Lib.hid (chkC_of hz hz1' hz20)
      have HT := Lib.hid hzt
      clear sa oa hz hzt ba
      go_wp2_with fail
      refine (showC_txt z HZ.out s HT.out va _ ea SA.out HC.out).mono ?_
      rintro e wb ⟨rfl, bb⟩
      have eb := ea.up bb
      have ub := ua.trans (bb.mono ua.size)
      clear bb
      go_wp2_with fail
      refine (codeBegun_any _ eb).mono ?_
      rintro e wc ⟨rfl, bc⟩
      have uc := ub.trans (bc.mono ub.size)
      go_wp2
      go_ret
      exact ⟨by simp, uc⟩
    · go_wp2_with fail
      refine (codeBegun_any _ ea).mono ?_
      rintro e wc ⟨rfl, bc⟩
      have uc := ua.trans (bc.mono ua.size)
      go_wp2
      go_ret
      exact ⟨rfl, uc⟩
end Go.Proofs.YtclnedeodmlfeaaDoor
