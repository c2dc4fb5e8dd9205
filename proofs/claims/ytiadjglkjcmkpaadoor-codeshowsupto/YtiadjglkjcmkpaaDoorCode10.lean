/- A part of the proofs over this seat's laws: what a function of the program, or of the reference, answers and leaves, told by its theorems below. -/
import Derived.Test.YtiadjglkjcmkpaaDoorCode9
namespace Go.Proofs.YtiadjglkjcmkpaaDoor
set_option linter.unusedSimpArgs false
set_option linter.unusedVariables false
open Go.RowKit Go.Sort

theorem split_app10 (m : Nat) (h : 0 < m) : ∀ (x cur y : List UInt8), (∀ c ∈ x, c ≠ 10) → splitG 10 m cur (x ++ 10 :: y) = (cur ++ x) :: splitG 10 (m - 1) [] y
  | [], cur, y, _ => by rw [List.nil_append, splitG_hit 10 m cur y h, List.append_nil]
  | c :: x, cur, y, hx => by
    rw [List.cons_append, splitG_miss 10 c m cur _ h (hx c (by simp)), split_app10 m h x (cur ++ [c]) y (fun d hd => hx d (by simp [hd]))]
    simp
theorem split_text : ∀ (l : List Ins) (m : Nat), AllR l → l.length < m → splitG 10 m [] (textC l) = l.map Ins.txt ++ [[]]
  | [], m, _, h => by rw [textC, splitG_end 10 m [] h]; rfl
  | i :: r, m, hl, h => by
    rw [textC, List.append_assoc, List.cons_append, List.nil_append, split_app10 m (by omega) i.txt [] (textC r) (txt_no10 hl.head.2), split_text r (m - 1) hl.tail (by simp at h; omega)]
    simp
theorem split_piece (c : UInt8) : ∀ (l cur : List UInt8) (m : Nat), ∀ p ∈ splitG c m cur l, p.length ≤ cur.length + l.length
  | [], cur, m, p, hp => by
    by_cases hm : 0 < m
    · rw [splitG_end c m cur hm] at hp; simp at hp; subst hp; simp
    · have : m = 0 := by omega
      subst this; rw [splitG_zero] at hp; cases hp
  | x :: r, cur, m, p, hp => by
    by_cases hm : 0 < m
    · by_cases hx : x = c
      · subst hx
        rw [splitG_hit x m cur r hm] at hp
        rcases List.mem_cons.1 hp with e | e
        · subst e; simp
        · have := split_piece x r [] (m - 1) p e; simp at this ⊢; omega
      · rw [splitG_miss c x m cur r hm hx] at hp
        have := split_piece c r (cur ++ [x]) m p hp; simp at this ⊢; omega
    · have : m = 0 := by omega
      subst this; rw [splitG_zero] at hp; cases hp
theorem strs_at (ps : List (List UInt8)) (k : Nat) (h : k < ps.length) : (strs ps)[k]? = some (.string ⟨ps[k].toArray⟩) := by simp [strs, h]

/-- What the lines must be. -/
theorem lines_of {s : List UInt8} {l : List Ins} {ws : List (List UInt8)} (hws : ws = splitF 10 22 s) (hl : AllR l) (h20 : l.length ≤ 20) (ht : textC l = s) : ws = l.map Ins.txt ++ [[]] := by
  rw [hws, ← ht]; exact split_text l 22 hl (by omega)
theorem lines_len {l : List Ins} {ws : List (List UInt8)} (h : ws = l.map Ins.txt ++ [[]]) : ws.length = l.length + 1 := by rw [h]; simp
theorem lines_read {l : List Ins} {ws : List (List UInt8)} (h : ws = l.map Ins.txt ++ [[]]) (hl : AllR l) (k : Nat) (hk : k + 1 < ws.length) (hk' : k < ws.length) : readOk ws[k] := by
  have h1 := lines_len h
  have hkl : k < l.length := by omega
  have h2 : ws[k]? = some l[k].txt := by
    have h3 : (l.map Ins.txt ++ [[]])[k]? = some l[k].txt := by rw [List.getElem?_append_left (by simp; omega)]; simp [hkl]
    rw [← h3, ← h]
  rw [List.getElem?_eq_getElem hk'] at h2
  rw [Option.some.inj h2]
  exact ins_readOk (hl k hkl).1 (hl k hkl).2
theorem lines_acc {l acc : List Ins} {ws : List (List UInt8)} {k : Nat} (h : ws = l.map Ins.txt ++ [[]]) (hl : AllR l) (ha : acc = (ws.take k).map gI) (hk : ¬ k + 1 < ws.length) (hk2 : k + 1 ≤ ws.length) : l = acc := by
  have h1 := lines_len h
  have hk3 : k = (l.map Ins.txt).length := by simp; omega
  rw [ha, h, hk3, List.take_left, List.map_map]
  apply List.ext_getElem (by simp)
  intro j h1 h2
  simp only [List.getElem_map, Function.comp]
  exact (ins_back (hl j h1).1 (hl j h1).2).symm

def FromEnd (s : List UInt8) (w w' : World) (e : Ending) : Prop :=
  ((∃ v l, e = .returned (.tuple #[v, .bool true]) ∧ Sl w' 4 v l.length (codeC l) ∧ AllR l ∧ 1 ≤ l.length ∧ l.length ≤ 20 ∧ textC l = s) ∨
    (e = .returned (.tuple #[.slice none 0 0, .bool false]) ∧ ∀ l, AllR l → 1 ≤ l.length → l.length ≤ 20 → textC l ≠ s)) ∧ Below w.heap.size w w'

set_option maxRecDepth 100000 in
set_option maxHeartbeats 2000000 in
theorem codeFrom_any (s : List UInt8) (hs : s.length < 4294967281) (w : World) :
    Calls Tryd.prog 26 #[.string ⟨s.toArray⟩] w fun e w' => FromEnd s w w' e := by
  obtain ⟨i0, hi, hz0, hz1, hz2⟩ := info_parts info23
  go_enter Tryd.func26, Tryd.ntmps26
  go_wp2_with fail
  refine (split_any s 10 22 (by decide) hs _).mono ?_
  rintro e w1 ⟨v1, rfl, o1, b1⟩
  have hl22 : (splitF 10 22 s).length ≤ 22 := splitG_len 10 22 s []
  have hne : splitF 10 22 s ≠ [] := splitG_ne 10 22 (by decide) s []
  have hpc : ∀ p ∈ splitF 10 22 s, p.length ≤ s.length := fun p hp => by simpa using split_piece 10 s [] 22 p hp
  obtain ⟨ws, hws⟩ : ∃ ws, ws = splitF 10 22 s := ⟨_, rfl⟩
  rw [← hws] at o1 hl22 hne hpc
  have hpos : 0 < ws.length := List.length_pos_iff.2 hne
  obtain ⟨b, off, cap, rfl, hcap, hbw, hc⟩ := (own_sl o1).open hpos
  have HW := Lib.hid hws
  have HPC := Lib.hid hpc
  have HCC := Lib.hid hc
  have hb1 := b1.size
  clear hws hpc hc hne o1
  go_wp2
  go_loopw [5, 6] (fun o i wr => ∃ (k : Nat) (acc : List Ins), i = .int .i64 k ∧ k + 1 ≤ ws.length ∧ Hid (acc.length = k) ∧ Hid (AllR acc) ∧ Hid (acc = (ws.take k).map gI) ∧ wr.ownsRow w1.heap.size 23 4 o acc.length (codeC acc) ∧ Below w1.heap.size w1 wr) (fun _ i _ => ws.length - (intOf i).toNat)
  case atStart => exact ⟨0, [], rfl, by omega, (show ([] : List Ins).length = 0 from rfl), AllR.nil, (show [] = (ws.take 0).map gI from rfl), World.ownsRow_nil _ _ _ _, Below.refl _ _⟩
  case round =>
    obtain ⟨k, acc, rfl, hk, HAK, HA, HG, hown, hbel⟩ := hrel
    obtain ⟨ao, cap1, rfl⟩ := own_form hown
    have hbs := hbel.size
    have ha22 : acc.length ≤ 22 := by rw [HAK.out]; omega
    by_cases hlt : k + 1 < ws.length
    · have hkw : k < ws.length := by omega
      have c0 := bcl hbel hbw (HCC.out k _ (strs_at ws k hkw))
      have hp := HPC.out ws[k] (List.getElem_mem hkw)
      have hkc : (k : Int) + 1 < ws.length := by omega
      have hkc2 : (k : Int) < ws.length := by omega
      have i1 : (0 : Int) ≤ k := by omega
      obtain ⟨line, hline⟩ : ∃ line, line = ws[k] := ⟨_, rfl⟩
      rw [← hline] at c0 hp
      have HLN := Lib.hid hline
      clear hline
      by_cases hro : readOk line
      · have HRO := Lib.hid hro
        have HA2 : Hid (AllR (acc ++ [gI line])) := HA.out.snoc (gI_ok line) (gI_right hro).1
        have HG2 : Hid (acc ++ [gI line] = (ws.take (k + 1)).map gI) := by
          show _ = _
          rw [take_snoc' ws k hkw, List.map_append, ← HG.out, HLN.out]; rfl
        clear hro
        go_wp2_with fail
        refine (from_good line (by omega) HRO.out _).mono ?_
        rintro e w2 ⟨rfl, b2⟩
        have hbel2 : Below w1.heap.size w1 w2 := hbel.trans (b2.mono hbel.size)
        have hown2 := own_up hown b2
        have hbs2 := hbel2.size
        clear b2 hown hbel
        have hown3 := hown2.alloc (.cells #[.int .i64 (gK line), .int .i64 (gA line), .int .i64 (gB line), .int .i64 (gN line)] 23)
        go_wp2_with (at_builtin; refine wpList_append_lies _ rfl (.tmp 28) (.tmp 30) 37 rfl w1.heap.size 23 i0 (.agg #[.int .i64 0, .int .i64 0, .int .i64 0, .int .i64 0]) 4 32 Tryd.underlying37 hi hz0 hz1 hz2 rfl (by decide) (.slice ao acc.length cap1) acc.length (codeC acc) rfl (hown3.alloc _) ⟨w2.heap.size + 1, 0, none⟩ 1 1 (gI line).cells rfl rfl (four_new _ (gI line) 23 _ (by simp)) (four_cell _) (by decide) (by unfold maxLen; omega) (by omega) (by simp; omega) _ rfl ?_; intro g cap2 w3 hown4 hgrow hat hglt)
        have R := code_step (hbel2.alloc hbel2.size _) hown3 hown4 hgrow
        clear hown4 hgrow hown3 hown2 hat
        go_wp2
        go_roundw
        case rel => exact ⟨k + 1, acc ++ [gI line], by go_num, by omega, (show (acc ++ [gI line]).length = k + 1 by simp [HAK.out]), HA2, HG2, R.1, R.2⟩
        case measure => simp [intOf]; omega
      · have HN : Hid (∀ l, AllR l → 1 ≤ l.length → l.length ≤ 20 → textC l ≠ s) := fun l hl h1 h2 ht => by
          have h := lines_read (lines_of HW.out hl h2 ht) hl k hlt hkw
          rw [← HLN.out] at h
          exact hro h
        have HRO := Lib.hid hro
        clear hro
        go_wp2_with fail
        refine (from_bad line (by omega) HRO.out _).mono ?_
        rintro e w2 ⟨rfl, b2⟩
        have u2 := b1.trans ((hbel.trans (b2.mono hbel.size)).mono hb1)
        go_wp2
        go_ret2
        exact ⟨Or.inr ⟨rfl, HN.out⟩, u2.alloc u2.size _⟩
    · have HM : Hid (∀ l, AllR l → 1 ≤ l.length → l.length ≤ 20 → textC l = s → l = acc) := fun l hl h1 h2 ht => lines_acc (lines_of HW.out hl h2 ht) hl HG.out hlt hk
      have hkc : ¬ (k : Int) + 1 < ws.length := by omega
      have sA := own_sl hown
      have SA := Lib.hid sA
      have u0 := b1.trans (hbel.mono hb1)
      clear sA
      obtain ⟨c, hcc⟩ : ∃ c, chkC acc = c := ⟨_, rfl⟩
      by_cases h0 : c = 0
      · subst h0
        have hc1 := (chkC_zero hcc).1
        have hc20 := (chkC_zero hcc).2.1
        have HC := Lib.hid hcc
        clear hcc
        obtain ⟨T, hT⟩ : ∃ T, textC acc = T := ⟨_, rfl⟩
        have HT := Lib.hid hT
        by_cases hTs : T = s
        · subst hTs
          go_wp2_with fail
          refine (chk_ref acc (fun j hj => (HA.out j hj).1) _ _ SA.out 0 HC.out).mono ?_
          rintro e w2 ⟨rfl, b2⟩
          have S2 := Lib.hid (SA.out.up b2)
          have u2 := u0.trans (b2.mono u0.size)
          clear b2
          go_wp2_with fail
          refine (codeText_any acc HA.out hc20 _ _ S2.out T HT.out).mono ?_
          rintro e w3 ⟨rfl, b3⟩
          have s3 := S2.out.up b3
          have u3 := u2.trans (b3.mono u2.size)
          clear b3
          go_wp2
          go_ret2
          exact ⟨Or.inl ⟨_, acc, rfl, s3, HA.out, hc1, hc20, HT.out⟩, u3⟩
        · have HN : Hid (∀ l, AllR l → 1 ≤ l.length → l.length ≤ 20 → textC l ≠ s) := fun l hl h1 h2 ht => by
            have h := HM.out l hl h1 h2 ht
            rw [h, HT.out] at ht
            exact hTs ht
          go_wp2_with fail
          refine (chk_ref acc (fun j hj => (HA.out j hj).1) _ _ SA.out 0 HC.out).mono ?_
          rintro e w2 ⟨rfl, b2⟩
          have S2 := Lib.hid (SA.out.up b2)
          have u2 := u0.trans (b2.mono u0.size)
          clear b2
          go_wp2_with fail
          refine (codeText_any acc HA.out hc20 _ _ S2.out T HT.out).mono ?_
          rintro e w3 ⟨rfl, b3⟩
          have u3 := u2.trans (b3.mono u2.size)
          have hne : (T != s) = true := by simpa using hTs
          have hne2 : (T == s) = false := by simpa using hTs
          clear b3
          go_wp2
          go_ret2
          exact ⟨Or.inr ⟨rfl, HN.out⟩, u3⟩
      · have hc' : (c != 0) = true := by simpa using h0
        have HN : Hid (∀ l, AllR l → 1 ≤ l.length → l.length ≤ 20 → textC l ≠ s) := fun l hl h1 h2 ht => by
          have h := HM.out l hl h1 h2 ht
          subst h
          exact h0 (hcc ▸ hl.chkC h1 h2)
        have HC := Lib.hid hcc
        clear hcc h0
        go_wp2_with fail
        refine (chk_ref acc (fun j hj => (HA.out j hj).1) _ _ SA.out c HC.out).mono ?_
        rintro e w2 ⟨rfl, b2⟩
        have u2 := u0.trans (b2.mono u0.size)
        clear b2
        go_wp2
        go_ret2
        exact ⟨Or.inr ⟨rfl, HN.out⟩, u2⟩
end Go.Proofs.YtiadjglkjcmkpaaDoor
