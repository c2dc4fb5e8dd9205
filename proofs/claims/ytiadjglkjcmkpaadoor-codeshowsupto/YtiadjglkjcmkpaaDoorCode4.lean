/- A part of the proofs over this seat's laws: what a function of the program, or of the reference, answers and leaves, told by its theorems below. -/
import Derived.Test.YtiadjglkjcmkpaaDoorCode3
namespace Go.Proofs.YtiadjglkjcmkpaaDoor
set_option linter.unusedSimpArgs false
set_option linter.unusedVariables false
open Go.RowKit Go.Sort

theorem index_appc (c : UInt8) (x y : List UInt8) (h : ∀ d ∈ x, d ≠ c) : Lib.index (x ++ c :: y) [c] = x.length := by
  induction x with
  | nil => simp [Lib.index]
  | cons d x ih =>
    have hc : d ≠ c := h d (by simp)
    have hi := ih (fun e he => h e (by simp [he]))
    rw [List.cons_append, Lib.index]
    rw [if_neg (by simp; exact fun e => hc e.symm), hi, if_neg (by simp)]
    simp
theorem cut_appc (c : UInt8) (x y : List UInt8) (h : ∀ d ∈ x, d ≠ c) : Lib.cut (x ++ c :: y) [c] = (x, y, true) := by
  unfold Lib.cut
  rw [index_appc c x y h, if_pos (by omega)]
  simp
/-- Where a text is cut, it is what stands ahead, the letter, and what stands behind. -/
theorem index_found : ∀ (c : UInt8) (s : List UInt8), 0 ≤ Lib.index s [c] → s = s.take (Lib.index s [c]).toNat ++ c :: s.drop ((Lib.index s [c]).toNat + 1)
  | c, [], h => by simp [Lib.index] at h
  | c, d :: s, h => by
    rw [Lib.index] at h ⊢
    by_cases hd : ([c].isPrefixOf (d :: s)) = true
    · have hd' : c = d := by simpa using hd
      subst hd'
      simp
    · rw [if_neg hd] at h ⊢
      by_cases hn : (Lib.index s [c] == -1) = true
      · rw [if_pos hn] at h; omega
      · rw [if_neg hn] at h ⊢
        have hge := Lib.index_ge s [c]
        have h0 : 0 ≤ Lib.index s [c] := by
          have : Lib.index s [c] ≠ -1 := by simpa using hn
          omega
        have ih := index_found c s h0
        have e : (Lib.index s [c] + 1).toNat = (Lib.index s [c]).toNat + 1 := by omega
        rw [e, List.take_succ_cons, List.drop_succ_cons, List.cons_append]
        exact congrArg (d :: ·) ih
theorem cut_split (c : UInt8) (s : List UInt8) (h : (Lib.cut s [c]).2.2 = true) : s = (Lib.cut s [c]).1 ++ c :: (Lib.cut s [c]).2.1 := by
  unfold Lib.cut at h ⊢
  by_cases h0 : 0 ≤ Lib.index s [c]
  · rw [if_pos h0]; exact index_found c s h0
  · rw [if_neg h0] at h; cases h

theorem txt_no10 {i : Ins} (hc : i.chk = 0) : ∀ c ∈ i.txt, c ≠ 10 := by
  obtain ⟨k, e, _, hk, _⟩ := right_of hc
  have itoa_no : ∀ n, ∀ c ∈ Lib.itoa n, c ≠ 10 := by
    intro n c hc e
    subst e
    unfold Lib.itoa at hc
    split at hc
    · rcases List.mem_cons.1 hc with h | h
      · revert h; decide
      · have := dec_digits _ _ h; revert this; decide
    · have := dec_digits _ _ hc; revert this; decide
  have roww : ∀ c ∈ rowW k, c ≠ 10 := by
    have : ∀ k, k < 16 → (rowW k).all (fun c => c != 10) = true := by decide
    intro c hc
    have := List.all_eq_true.1 (this k hk) c hc
    simpa using this
  have opt : ∀ (q : Bool) (n : Int), ∀ c ∈ (if q then 32 :: Lib.itoa n else []), c ≠ 10 := by
    intro q n c hc
    cases q
    · simp at hc
    · rw [if_pos rfl] at hc
      rcases List.mem_cons.1 hc with h | h
      · rw [h]; decide
      · exact itoa_no n c h
  intro c hcm
  unfold Ins.txt YtiadjglkjcmkpaaDoor.txt at hcm
  rw [e, Int.toNat_natCast] at hcm
  rcases List.mem_append.1 hcm with h | h
  · rcases List.mem_append.1 h with h | h
    · rcases List.mem_append.1 h with h | h
      · exact roww c h
      · exact opt _ _ c h
    · exact opt _ _ c h
  · exact opt _ _ c h

theorem ins_guess {i : Ins} (h : i.ok) (hc : i.chk = 0) : (gK i.txt : Int) = i.op ∧ gA i.txt = i.a ∧ gB i.txt = i.b ∧ gN i.txt = i.n := by
  obtain ⟨k, e, _, hk, _⟩ := right_of hc
  have hc' : chkI k i.a i.b i.n = 0 := by rw [← e]; exact hc
  have := guess_txt k i.a i.b i.n h.2.1 h.2.2.1 h.2.2.2 hc'
  unfold Ins.txt
  rw [e, Int.toNat_natCast]
  exact ⟨by rw [this.1], this.2⟩
def gI (s : List UInt8) : Ins := ⟨gK s, gA s, gB s, gN s⟩
theorem ins_back {i : Ins} (h : i.ok) (hc : i.chk = 0) : gI i.txt = i := by
  obtain ⟨e1, e2, e3, e4⟩ := ins_guess h hc
  unfold gI
  rw [e1, e2, e3, e4]
theorem ins_readOk {i : Ins} (h : i.ok) (hc : i.chk = 0) : readOk i.txt := by
  obtain ⟨k, e, _, hk, _⟩ := right_of hc
  have hc' : chkI k i.a i.b i.n = 0 := by rw [← e]; exact hc
  unfold Ins.txt
  rw [e, Int.toNat_natCast]
  exact readOk_txt k i.a i.b i.n h.2.1 h.2.2.1 h.2.2.2 hc'
theorem small_in64 (k : Nat) (h : k < 16) : in64 k := ⟨by omega, by omega⟩
theorem gI_ok (s : List UInt8) : (gI s).ok := ⟨small_in64 _ (namedF_lt _), gA_in64 s, gB_in64 s, gN_in64 s⟩
theorem gI_right {s : List UInt8} (h : readOk s) : (gI s).chk = 0 ∧ (gI s).txt = s := by
  refine ⟨h.1, ?_⟩
  unfold Ins.txt gI
  rw [Int.toNat_natCast]; exact h.2

/-- Right instructions. -/
def AllR (l : List Ins) : Prop := ∀ j (hj : j < l.length), l[j].ok ∧ l[j].chk = 0
theorem AllR.nil : AllR [] := fun j hj => by simp at hj
theorem AllR.snoc {l : List Ins} {i : Ins} (h : AllR l) (h1 : i.ok) (h2 : i.chk = 0) : AllR (l ++ [i]) := by
  intro j hj
  by_cases e : j < l.length
  · rw [List.getElem_append_left e]; exact h j e
  · have : j = l.length := by simp at hj; omega
    subst this
    simp; exact ⟨h1, h2⟩
theorem AllR.tail {l : List Ins} {i : Ins} (h : AllR (i :: l)) : AllR l := fun j hj => h (j + 1) (by simpa using hj)
theorem AllR.head {l : List Ins} {i : Ins} (h : AllR (i :: l)) : i.ok ∧ i.chk = 0 := h 0 (by simp)
theorem AllR.chkC {l : List Ins} (h : AllR l) (h1 : 1 ≤ l.length) (h2 : l.length ≤ 20) : YtiadjglkjcmkpaaDoor.chkC l = 0 := by
  unfold YtiadjglkjcmkpaaDoor.chkC
  rw [if_neg (by omega)]
  exact firstE_all l (fun j hj => (h j hj).2)

/-- Lines are told apart: what begins with the text of right instructions begins with those. -/
theorem text_prefix : ∀ (acc l : List Ins) (s : List UInt8), AllR acc → AllR l → textC l = textC acc ++ s → ∃ l', l = acc ++ l' ∧ textC l' = s
  | [], l, s, _, _, h => ⟨l, rfl, by simpa [textC] using h⟩
  | i :: acc, [], s, _, _, h => by simp [textC] at h
  | i :: acc, j :: l, s, ha, hl, h => by
    simp only [textC, List.append_assoc, List.cons_append, List.nil_append] at h
    have c1 := cut_appc 10 j.txt (textC l) (txt_no10 hl.head.2)
    have c2 := cut_appc 10 i.txt (textC acc ++ s) (txt_no10 ha.head.2)
    rw [h, c2] at c1
    simp only [Prod.mk.injEq, and_true] at c1
    obtain ⟨e1, e2⟩ := c1
    have hij : j = i := by rw [← ins_back hl.head.1 hl.head.2, ← ins_back ha.head.1 ha.head.2, e1]
    obtain ⟨l', e, hs⟩ := text_prefix acc l s ha.tail hl.tail e2.symm
    exact ⟨l', by rw [hij, e]; rfl, hs⟩

/-- What code.Read may answer. -/
theorem read_more {acc l : List Ins} {s s0 : List UInt8} (ha : AllR acc) (hl : AllR l) (hle : l.length ≤ 20) (h0 : s0 = textC acc ++ s) (ht : textC l = s0) (hs : s ≠ []) :
    (Lib.cut s [10]).2.2 = true ∧ acc.length ≠ 20 ∧ readOk (Lib.cut s [10]).1 := by
  rw [h0] at ht
  obtain ⟨l', e, hs'⟩ := text_prefix acc l s ha hl ht
  cases l' with
  | nil => rw [textC] at hs'; exact absurd hs'.symm hs
  | cons i r =>
    have hi : i.ok ∧ i.chk = 0 := by
      have := hl acc.length (by rw [e]; simp)
      simpa [e] using this
    simp only [textC, List.append_assoc, List.cons_append, List.nil_append] at hs'
    have c1 := cut_appc 10 i.txt (textC r) (txt_no10 hi.2)
    rw [hs'] at c1
    rw [c1]
    refine ⟨rfl, ?_, ins_readOk hi.1 hi.2⟩
    have : l.length = acc.length + (r.length + 1) := by rw [e]; simp
    omega

theorem info23 : (Tryd.prog.info? 23).map (fun i => (i.zero, i.size, i.bytes)) = some (some (.agg #[.int .i64 0, .int .i64 0, .int .i64 0, .int .i64 0]), 4, 32) := by kernel_rfl
def strLen : Value → Nat
  | .string b => b.size
  | _ => 0
theorem codeC_snoc : ∀ (l : List Ins) (i : Ins), codeC (l ++ [i]) = codeC l ++ i.cells
  | [], i => by simp [codeC]
  | j :: r, i => by rw [List.cons_append, codeC, codeC, codeC_snoc r i, List.append_assoc]
theorem four_new (w : World) (i : Ins) (t : TypeId) (H : Nat) (hH : w.heap.size = H) : ∀ j u, i.cells[j]? = some u → (w.alloc (.cells #[.int .i64 i.op, .int .i64 i.a, .int .i64 i.b, .int .i64 i.n] t)).cell? ((⟨H, 0, none⟩ : Addr).add j) = some u := by
  subst hH
  intro j u hj
  have hadd : (⟨w.heap.size, 0, none⟩ : Addr).add j = ⟨w.heap.size, j, none⟩ := by unfold Addr.add; split <;> simp_all
  rw [hadd, World.cell?_alloc_new]
  simpa [Ins.cells] using hj
theorem four_cell (i : Ins) : ∀ u ∈ i.cells, u.oneCell' = true := by
  intro u hu
  simp [Ins.cells] at hu
  rcases hu with rfl | rfl | rfl | rfl <;> rfl
theorem code_step {w wr w1 : World} {v v' : Value} {l : List Ins} {i : Ins} {o : Obj} (hbel : Below w.heap.size w wr) (hown0 : wr.ownsRow w.heap.size 23 4 v l.length (codeC l))
    (hown1 : w1.ownsRow w.heap.size 23 4 v' (l.length + 1) (codeC l ++ i.cells)) (hgrow : (wr.alloc o).grownBy w1 v.ownBlock) :
    w1.ownsRow w.heap.size 23 4 v' (l ++ [i]).length (codeC (l ++ [i])) ∧ Below w.heap.size w w1 := by
  refine ⟨by rw [codeC_snoc]; simpa using hown1, ?_⟩
  exact (hbel.alloc hbel.size o).grown hgrow (by have := hbel.size; simp; omega) (own_block hown0)

set_option maxRecDepth 100000 in
set_option maxHeartbeats 2000000 in
theorem readC_any (s0 : List UInt8) (w : World) (he : Env w) (hm : s0.length < 4294967281) :
    Calls Tryd.prog 25 #[.string ⟨s0.toArray⟩] w fun e w' => ((∃ v l, e = .returned (.tuple #[v, .int .i64 0]) ∧ w'.ownsRow w.heap.size 23 4 v l.length (codeC l) ∧ AllR l ∧ 1 ≤ l.length ∧ l.length ≤ 20 ∧ textC l = s0) ∨
      (e = .returned (.tuple #[.slice none 0 0, .int .i64 1]) ∧ ∀ l, AllR l → 1 ≤ l.length → l.length ≤ 20 → textC l ≠ s0)) ∧ Below w.heap.size w w' := by
  obtain ⟨i0, hi, hz0, hz1, hz2⟩ := info_parts info23
  go_enter Tryd.func25, Tryd.ntmps25
  go_wp2
  go_loopw [0, 4] (fun sv o wr => ∃ (s : List UInt8) (acc : List Ins), sv = .string ⟨s.toArray⟩ ∧ s.length ≤ s0.length ∧ Hid (s0 = textC acc ++ s) ∧ Hid (AllR acc) ∧ acc.length ≤ 20 ∧ wr.ownsRow w.heap.size 23 4 o acc.length (codeC acc) ∧ Below w.heap.size w wr) (fun sv _ _ => strLen sv)
  case atStart => exact ⟨s0, [], rfl, Nat.le_refl _, (show s0 = textC [] ++ s0 from rfl), AllR.nil, Nat.zero_le _, World.ownsRow_nil _ _ _ _, Below.refl _ _⟩
  case round =>
    obtain ⟨s, acc, rfl, hsl, HS, HA, hacc, hown, hbel⟩ := hrel
    obtain ⟨ao, cap, rfl⟩ := own_form hown
    have her := he.up hbel
    have hbs := hbel.size
    by_cases hse : s = []
    · subst hse
      have hs' : (([] : List UInt8) != []) = false := by decide
      by_cases ha0 : acc.length = 0
      · have ha' : ((acc.length : Int) == 0) = true := beq_iff_eq.2 (by omega)
        have HN : Hid (∀ l, AllR l → 1 ≤ l.length → l.length ≤ 20 → textC l ≠ s0) := by
          intro l hl h1 h2 ht
          have hs := HS.out
          have : acc = [] := List.length_eq_zero_iff.1 ha0
          subst this
          rw [hs] at ht
          cases l with
          | nil => simp at h1
          | cons i r => simp [textC] at ht
        clear ha0
        go_wp2
        go_ret2
        exact ⟨Or.inr ⟨rfl, HN.out⟩, hbel⟩
      · have ha' : ((acc.length : Int) == 0) = false := beq_eq_false_iff_ne.2 (by omega)
        have HE : Hid (textC acc = s0) := by show _ = _; rw [HS.out, List.append_nil]
        have H1 : Hid (1 ≤ acc.length) := by show _ ≤ _; omega
        clear ha0
        go_wp2
        go_ret2
        exact ⟨Or.inl ⟨_, acc, rfl, hown, HA.out, H1.out, hacc, HE.out⟩, hbel⟩
    · have hs' : s.isEmpty = false := by simpa using hse
      have HM : Hid (∀ l, AllR l → 1 ≤ l.length → l.length ≤ 20 → textC l = s0 → (Lib.cut s [10]).2.2 = true ∧ acc.length ≠ 20 ∧ readOk (Lib.cut s [10]).1) :=
        fun l hl h1 h2 ht => read_more HA.out hl h2 HS.out ht hse
      have HCS := Lib.hid (cut_split 10 s)
      have hcl := cut_len s [10]
      clear hse
      go_wp2_with fail
      refine (cutL s [10] _ her (by omega)).mono ?_
      rintro e w1 ⟨rfl, hb1⟩
      have hbel1 : Below w.heap.size w w1 := hbel.trans (hb1.mono hbel.size)
      have hown1 := own_up hown hb1
      have he1 := he.up hbel1
      have hbs1 := hbel1.size
      generalize hcut : Lib.cut s [10] = cq at *
      obtain ⟨line, rst, ended⟩ := cq
      have HCUT := Lib.hid hcut
      clear hcut hb1 hbel hown her
      simp only at hcl
      cases ended
      · have HN : Hid (∀ l, AllR l → 1 ≤ l.length → l.length ≤ 20 → textC l ≠ s0) := fun l hl h1 h2 ht => by
          have := (HM.out l hl h1 h2 ht).1; cases this
        clear HM HCS
        go_wp2
        go_ret2
        exact ⟨Or.inr ⟨rfl, HN.out⟩, hbel1⟩
      · by_cases h20 : acc.length = 20
        · have h20' : ((acc.length : Int) == 20) = true := beq_iff_eq.2 (by omega)
          have HN : Hid (∀ l, AllR l → 1 ≤ l.length → l.length ≤ 20 → textC l ≠ s0) := fun l hl h1 h2 ht => (HM.out l hl h1 h2 ht).2.1 h20
          clear HM HCS h20
          go_wp2
          go_ret2
          exact ⟨Or.inr ⟨rfl, HN.out⟩, hbel1⟩
        · have h20' : ((acc.length : Int) == 20) = false := beq_eq_false_iff_ne.2 (by omega)
          by_cases hro : readOk line
          · have hsp := HCS.out rfl
            simp only at hsp
            have hrl : rst.length < s.length := by rw [hsp]; simp; omega
            have HS2 : Hid (s0 = textC (acc ++ [gI line]) ++ rst) := by
              show _ = _
              rw [HS.out, textC_snoc, (gI_right hro).2, hsp]; simp
            have HA2 : Hid (AllR (acc ++ [gI line])) := HA.out.snoc (gI_ok line) (gI_right hro).1
            have HRO := Lib.hid hro
            clear HM HCS hro hsp HA HS
            go_wp2_with fail
            refine (read_good line _ he1 (by omega) HRO.out).mono ?_
            rintro e w2 ⟨rfl, hb2⟩
            have hbel2 : Below w.heap.size w w2 := hbel1.trans (hb2.mono hbel1.size)
            have hown2 := own_up hown1 hb2
            have hbs2 := hbel2.size
            clear hb2 hown1 hbel1 he1
            have hown3 := hown2.alloc (.cells #[.int .i64 (gK line), .int .i64 (gA line), .int .i64 (gB line), .int .i64 (gN line)] 23)
            go_wp2_with (at_builtin; refine wpList_append_lies _ rfl (.tmp 32) (.tmp 34) 37 rfl w.heap.size 23 i0 (.agg #[.int .i64 0, .int .i64 0, .int .i64 0, .int .i64 0]) 4 32 Tryd.underlying37 hi hz0 hz1 hz2 rfl (by decide) (.slice ao acc.length cap) acc.length (codeC acc) rfl (hown3.alloc _) ⟨w2.heap.size + 1, 0, none⟩ 1 1 (gI line).cells rfl rfl (four_new _ (gI line) 23 _ (by simp)) (four_cell _) (by decide) (by unfold maxLen; omega) (by omega) (by simp; omega) _ rfl ?_; intro g cap1 w3 hown4 hgrow hat hglt)
            have R := code_step (hbel2.alloc hbel2.size _) hown3 hown4 hgrow
            clear hown4 hgrow hown3 hown2 hat
            go_wp2
            go_roundw
            case rel => exact ⟨rst, acc ++ [gI line], rfl, by omega, HS2, HA2, by simp; omega, R.1, R.2⟩
            case measure => simp [strLen, ByteArray.size]; omega
          · have HN : Hid (∀ l, AllR l → 1 ≤ l.length → l.length ≤ 20 → textC l ≠ s0) := fun l hl h1 h2 ht => hro (HM.out l hl h1 h2 ht).2.2
            have HRO := Lib.hid hro
            clear HM HCS hro
            go_wp2_with fail
            refine (read_bad line _ he1 (by omega) HRO.out).mono ?_
            rintro e w2 ⟨rfl, hb2⟩
            have hbel2 : Below w.heap.size w w2 := hbel1.trans (hb2.mono hbel1.size)
            clear hb2
            go_wp2
            go_ret2
            exact ⟨Or.inr ⟨rfl, HN.out⟩, hbel2.alloc hbel2.size _⟩
