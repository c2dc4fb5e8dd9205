/- A part of the proofs over this seat's laws: what a function of the program, or of the reference, answers and leaves, told by its theorems below. -/
import Derived.Test.YtclnedeodmlfeaaDoorJ5
import Derived.Test.YtclnedeodmlfeaaDoorJ4
import Derived.Deep.Slices
namespace Go.Proofs.YtclnedeodmlfeaaDoor
set_option linter.unusedSimpArgs false
set_option linter.unusedVariables false
open Go.RowKit Go.Sort
theorem teller_showed (v : Value) (w : World) (he : Env w) (hS : Sl w 4 v 5 (codeC tellerL)) :
    Calls Tryd.prog 23 #[v] w fun e w' => e = .returned (.tuple #[.string ⟨#[103, 101, 116, 32, 48, 32, 49, 32, 48, 10, 122, 101, 114, 111, 32, 49, 32, 48, 10, 111, 117, 116, 32, 48, 10, 112, 117, 116, 32, 48, 32, 49, 10, 106, 117, 109, 112, 32, 48, 10]⟩, .int .i64 0]) ∧ Below w.heap.size w w' := by
  have h := showC_yes tellerL teller_ok v w he hS teller_chk
  rw [teller_text] at h
  exact h
theorem teller_read (w : World) (he : Env w) :
    Calls Tryd.prog 25 #[.string ⟨#[103, 101, 116, 32, 48, 32, 49, 32, 48, 10, 122, 101, 114, 111, 32, 49, 32, 48, 10, 111, 117, 116, 32, 48, 10, 112, 117, 116, 32, 48, 32, 49, 10, 106, 117, 109, 112, 32, 48, 10]⟩] w fun e w' => ∃ v, e = .returned (.tuple #[v, .int .i64 0]) ∧ Sl w' 4 v 5 (codeC tellerL) ∧ Below w.heap.size w w' :=
  readC_text tellerL teller_all (by decide) (by decide) _ teller_text w he
theorem teller_putsd (v : Value) (w : World) (he : Env w) (hS : Sl w 4 v 5 (codeC tellerL)) :
    Calls Tryd.prog 16 #[v] w fun e w' => ∃ v', e = .returned (.tuple #[v', .int .i64 0]) ∧ Sl w' 1 v' 1 (ints [1]) ∧ Below w.heap.size w w' := by
  have h := puts_yes tellerL v w he hS teller_chk
  rw [teller_puts] at h
  exact h
theorem teller_getsd (v : Value) (w : World) (he : Env w) (hS : Sl w 4 v 5 (codeC tellerL)) :
    Calls Tryd.prog 17 #[v] w fun e w' => ∃ v', e = .returned (.tuple #[v', .int .i64 0]) ∧ Sl w' 1 v' 1 (ints [0]) ∧ Below w.heap.size w w' := by
  have h := gets_yes tellerL v w he hS teller_chk
  rw [teller_gets] at h
  exact h
theorem teller_checked (v : Value) (w : World) (he : Env w) (hS : Sl w 4 v 5 (codeC tellerL)) :
    Calls Tryd.prog 21 #[v] w fun e w' => e = .returned (.int .i64 0) ∧ Below w.heap.size w w' := by
  have h := codeCheck_any tellerL v w he hS
  rw [teller_chk] at h
  exact h
theorem nil_checked (w : World) (he : Env w) :
    Calls Tryd.prog 21 #[.slice none 0 0] w fun e w' => e = .returned (.int .i64 2) ∧ Below w.heap.size w w' := codeCheck_any [] _ w he (Sl.nil w 4)
theorem int1_sl {w : World} {x : Int} {b cap : Nat} (hb : b < w.heap.size) (hc : 1 ≤ cap) (h : w.cell? ⟨b, 0, none⟩ = some (.int .i64 x)) : Sl w 1 (.slice (some ⟨b, 0, none⟩) 1 cap) 1 (ints [x]) :=
  ⟨rfl, _, _, rfl, hc, fun _ => ⟨b, 0, rfl, hb, fun j u hj => by
    match j with
    | 0 => simp [ints] at hj; subst hj; exact h
    | j + 1 => simp [ints] at hj⟩⟩
set_option maxRecDepth 100000 in
set_option maxHeartbeats 1000000 in
theorem codeBegun_any (w : World) (he : Env w) : Calls Tryd.prog 20 #[] w fun e w' => e = .returned (.bool true) ∧ Below w.heap.size w w' := by
  go_enter Tryd.func20, Tryd.ntmps20
  go_wp2_with fail
  refine (teller_any _).mono ?_
  rintro e w1 ⟨v1, rfl, s1, b1⟩
  have e1 := he.up b1
  go_wp2_with fail
  refine (teller_showed v1 _ e1 s1).mono ?_
  rintro e w2 ⟨rfl, b2⟩
  have e2 := e1.up b2
  have u2 := b1.trans (b2.mono b1.size)
  clear s1 b1 b2 e1
  go_wp2_with fail
  refine (teller_read _ e2).mono ?_
  rintro e w3 ⟨v3, rfl, s3, b3⟩
  have e3 := e2.up b3
  have u3 := u2.trans (b3.mono u2.size)
  clear b3 u2 e2
  go_wp2_with fail
  refine (teller_any _).mono ?_
  rintro e w4 ⟨v4, rfl, s4, b4⟩
  have e4 := e3.up b4
  have u4 := u3.trans (b4.mono u3.size)
  have s3 := s3.up b4
  clear b4 u3 e3
  go_wp2_with fail
  refine (teller_putsd v4 _ e4 s4).mono ?_
  rintro e w5 ⟨v5, rfl, s5, b5⟩
  have e5 := e4.up b5
  have u5 := u4.trans (b5.mono u4.size)
  have s3 := s3.up b5
  clear b5 u4 e4 s4
  go_wp2_with fail
  refine (teller_any _).mono ?_
  rintro e w6 ⟨v6, rfl, s6, b6⟩
  have e6 := e5.up b6
  have u6 := u5.trans (b6.mono u5.size)
  have s3 := s3.up b6
  have s5 := s5.up b6
  clear b6 u5 e5
  go_wp2_with fail
  refine (teller_getsd v6 _ e6 s6).mono ?_
  rintro e w7 ⟨v7, rfl, s7, b7⟩
  have e7 := e6.up b7
  have u7 := u6.trans (b7.mono u6.size)
  have s3 := s3.up b7
  have s5 := s5.up b7
  clear b7 u6 e6 s6
  go_wp2_with fail
  refine (teller_any _).mono ?_
  rintro e w8 ⟨v8, rfl, s8, b8⟩
  have e8 := e7.up b8
  have u8 := u7.trans (b8.mono u7.size)
  have s3 := s3.up b8
  have s5 := s5.up b8
  have s7 := s7.up b8
  clear b8 u7 e7
  go_wp2_with fail
  refine (teller_checked v8 _ e8 s8).mono ?_
  rintro e w9 ⟨rfl, b9⟩
  have e9 := e8.up b9
  have u9 := u8.trans (b9.mono u8.size)
  have s3 := s3.up b9
  have s5 := s5.up b9
  have s7 := s7.up b9
  clear b9 u8 e8 s8
  go_wp2_with fail
  refine (nil_checked _ e9).mono ?_
  rintro e w10 ⟨rfl, b10⟩
  have e10 := e9.up b10
  have u10 := u9.trans (b10.mono u9.size)
  have s3 := s3.up b10
  have s5 := s5.up b10
  have s7 := s7.up b10
  clear b10 u9 e9
  go_wp2_with fail
  refine (teller_any _).mono ?_
  rintro e w11 ⟨v11, rfl, s11, b11⟩
  have e11 := e10.up b11
  have u11 := u10.trans (b11.mono u10.size)
  have s3 := s3.up b11
  have s5 := s5.up b11
  have s7 := s7.up b11
  clear b11 u10 e10
  go_wp2_with fail
  refine (sameCode_any tellerL v3 v11 _ s3 s11 (by decide)).mono ?_
  rintro e w12 ⟨rfl, b12⟩
  have u12 := u11.trans (b12.mono u11.size)
  have s5 := s5.up b12
  have s7 := s7.up b12
  clear b12 u11 s3 s11
  go_wp2_with fail
  refine (sameInts_any [1] [1] v5 _ _ (s5.up (by repeat (first | exact Below.refl _ _ | assumption | refine Below.drew ?_ | refine Below.alloc ?_ (by first | (simp; done) | (simp; omega)) _ | refine Below.setCell ?_ (by first | (simp; done) | (simp; omega)) _))) (int1_sl (by simp) (by decide) (by simp)) (by decide) true (by decide)).mono ?_
  rintro e w13 ⟨rfl, b13⟩
  have u13 := (u12.alloc u12.size _).trans (b13.mono (by have := u12.size; simp; omega))
  have s7 := (s7.up (by repeat (first | exact Below.refl _ _ | assumption | refine Below.drew ?_ | refine Below.alloc ?_ (by first | (simp; done) | (simp; omega)) _ | refine Below.setCell ?_ (by first | (simp; done) | (simp; omega)) _))).up b13
  clear b13 u12 s5
  go_wp2_with fail
  refine (sameInts_any [0] [0] v7 _ _ (s7.up (by repeat (first | exact Below.refl _ _ | assumption | refine Below.drew ?_ | refine Below.alloc ?_ (by first | (simp; done) | (simp; omega)) _ | refine Below.setCell ?_ (by first | (simp; done) | (simp; omega)) _))) (int1_sl (by simp) (by decide) (by simp)) (by decide) true (by decide)).mono ?_
  rintro e w14 ⟨rfl, b14⟩
  have u14 := (u13.alloc u13.size _).trans (b14.mono (by have := u13.size; simp; omega))
  go_wp2
  go_ret
  exact ⟨rfl, u14⟩
end Go.Proofs.YtclnedeodmlfeaaDoor

namespace Go.Proofs.YtclnedeodmlfeaaDoor
set_option linter.unusedSimpArgs false
set_option linter.unusedVariables false
open Go.RowKit Go.Sort
theorem chk_ref (l : List Ins) (hok : ∀ j (hj : j < l.length), l[j].ok) (v : Value) (w : World) (hS : Sl w 4 v l.length (codeC l)) (c : Int) (hc : chkC l = c) :
    Calls Tryd.prog 18 #[v] w fun e w' => e = .returned (.int .i64 c) ∧ Below w.heap.size w w' := hc ▸ codeRef_any l hok v w hS
end Go.Proofs.YtclnedeodmlfeaaDoor

namespace Go.Proofs.YtclnedeodmlfeaaDoor
set_option linter.unusedSimpArgs false
set_option linter.unusedVariables false
open Go.RowKit Go.Sort
theorem text_ins (i : Ins) (h : i.ok) (hc : i.chk = 0) (T : List UInt8) (hT : i.txt = T) (w : World) :
    Calls Tryd.prog 11 #[.agg #[.int .i64 i.op, .int .i64 i.a, .int .i64 i.b, .int .i64 i.n]] w fun e w' => e = .returned (.string ⟨T.toArray⟩) ∧ Below w.heap.size w w' := by
  obtain ⟨k, e, h1, h2, _⟩ := right_of hc
  subst hT
  unfold Ins.txt
  rw [e, Int.toNat_natCast]
  exact text_any k h1 h2 i.a i.b i.n h.2.1 h.2.2.1 h.2.2.2 w
set_option maxRecDepth 100000 in
set_option maxHeartbeats 1000000 in
theorem codeText_any (l : List Ins) (hl : AllR l) (h20 : l.length ≤ 20) (v : Value) (w : World) (hS : Sl w 4 v l.length (codeC l)) (res : List UInt8) (hres : textC l = res) :
    Calls Tryd.prog 24 #[v] w fun e w' => e = .returned (.string ⟨res.toArray⟩) ∧ Below w.heap.size w w' := by
  obtain ⟨ao, cap, rfl⟩ := hS.form
  have HS := Lib.hid hS
  have HL := Lib.hid hl
  have HRES := Lib.hid hres
  clear hS hl hres
  go_enter Tryd.func24, Tryd.ntmps24
  go_wp2
  go_loopw [3, 4] (fun sv i wr => ∃ (k : Nat) (t : List UInt8), sv = .string ⟨t.toArray⟩ ∧ i = .int .i64 k ∧ k ≤ l.length ∧ Hid (t = textC (l.take k)) ∧ t.length ≤ 71 * k ∧ Below w.heap.size w wr) (fun _ i _ => l.length - (intOf i).toNat)
  case atStart => exact ⟨0, [], rfl, rfl, Nat.zero_le _, (show [] = textC (l.take 0) from rfl), by simp, Below.refl _ _⟩
  case round =>
    obtain ⟨k, t, rfl, rfl, hk, HT, htl, hbel⟩ := hrel
    by_cases hlt : k < l.length
    · obtain ⟨b, off, cap', e1, hcap, hbw, hc⟩ := HS.out.open (by omega)
      cases e1
      obtain ⟨c0, c1, c2, c3⟩ := code_cells hc k hlt
      have c0 := bcl hbel hbw c0
      have c1 := bcl hbel hbw c1
      have c2 := bcl hbel hbw c2
      have c3 := bcl hbel hbw c3
      have hkc : (k : Int) < l.length := by omega
      have i1 : (0 : Int) ≤ k := by omega
      have hT1 := ins_len (HL.out k hlt).1 (HL.out k hlt).2
      obtain ⟨T, hT⟩ : ∃ T, l[k].txt = T := ⟨_, rfl⟩
      rw [hT] at hT1
      have HT2 := Lib.hid hT
      have HN : Hid (t ++ T ++ [10] = textC (l.take (k + 1))) := by
        show _ = _
        rw [take_snoc' l k hlt, textC_snoc, ← HT.out, hT]
      clear hT hc
      go_wp2_with fail
      refine (text_ins l[k] (HL.out k hlt).1 (HL.out k hlt).2 T HT2.out _).mono ?_
      rintro e w1 ⟨rfl, b1⟩
      have u1 := hbel.trans (b1.mono hbel.size)
      clear b1
      go_wp2
      go_roundw
      case rel => exact ⟨k + 1, t ++ T ++ [10], by simp [ba_app, ba_app2], by go_num, by omega, HN, by simp; omega, u1⟩
      case measure => simp [intOf]; omega
    · have hkc : ¬ (k : Int) < l.length := by omega
      have HE : Hid (t = res) := by
        show _ = _
        rw [HT.out, List.take_of_length_le (by omega), HRES.out]
      go_wp2
      go_ret
      exact ⟨by rw [HE.out]; rfl, hbel⟩
end Go.Proofs.YtclnedeodmlfeaaDoor

namespace Go.Proofs.YtclnedeodmlfeaaDoor
set_option linter.unusedSimpArgs false
set_option linter.unusedVariables false
open Go.RowKit Go.Sort
theorem split_app10 (m : Nat) (h : 0 < m) : ∀ (x cur y : List UInt8), (∀ c ∈ x, c ≠ 10) → splitG 10 m cur (x ++ 10 :: y) = (cur ++ x) :: splitG 10 (m - 1) [] y
  | [], cur, y, _ => by rw [List.nil_append, splitG_hit 10 m cur y h, List.append_nil]
  | c :: x, cur, y, hx => by
    rw [List.cons_append, splitG_miss 10 c m cur _ h (hx c (by simp)), split_app10 m h x (cur ++ [c]) y (fun d hd => hx d (by simp [hd]))]
    simp
theorem split_text : ∀ (l : List Ins) (m : Nat), AllR l → l.length < m → splitG 10 m [] (textC l) = l.map Ins.txt ++ [[]]
  | [], m, _, h => by rw [textC, splitG_end 10 m [] h]; rfl
  | i :: r, m, hl, h => by
    rw [textC, List.append_assoc, List.cons_append, List.nil_append, split_app10 m (by omega) i.txt [] (textC r) (txt_no10 hl.head.2), split_text r (m - 1) hl.tail (by simp at h; omega)]
    simp
theorem split_piece (c : UInt8) : ∀ (l cur : List UInt8) (m : Nat), ∀ p ∈ splitG c m cur l, p.length ≤ cur.length + l.length
  | [], cur, m, p, hp => by
    by_cases hm : 0 < m
    · rw [splitG_end c m cur hm] at hp; simp at hp; subst hp; simp
    · have : m = 0 := by omega
      subst this; rw [splitG_zero] at hp; cases hp
  | x :: r, cur, m, p, hp => by
    by_cases hm : 0 < m
    · by_cases hx : x = c
      · subst hx
        rw [splitG_hit x m cur r hm] at hp
        rcases List.mem_cons.1 hp with e | e
        · subst e; simp
        · have := split_piece x r [] (m - 1) p e; simp at this ⊢; omega
      · rw [splitG_miss c x m cur r hm hx] at hp
        have := split_piece c r (cur ++ [x]) m p hp; simp at this ⊢; omega
    · have : m = 0 := by omega
      subst this; rw [splitG_zero] at hp; cases hp
theorem strs_at (ps : List (List UInt8)) (k : Nat) (h : k < ps.length) : (strs ps)[k]? = some (.string ⟨ps[k].toArray⟩) := by simp [strs, h]
theorem lines_of {s : List UInt8} {l : List Ins} {ws : List (List UInt8)} (hws : ws = splitF 10 22 s) (hl : AllR l) (h20 : l.length ≤ 20) (ht : textC l = s) : ws = l.map Ins.txt ++ [[]] := by
  rw [hws, ← ht]; exact split_text l 22 hl (by omega)
theorem lines_len {l : List Ins} {ws : List (List UInt8)} (h : ws = l.map Ins.txt ++ [[]]) : ws.length = l.length + 1 := by rw [h]; simp
theorem lines_read {l : List Ins} {ws : List (List UInt8)} (h : ws = l.map Ins.txt ++ [[]]) (hl : AllR l) (k : Nat) (hk : k + 1 < ws.length) (hk' : k < ws.length) : readOk ws[k] := by
  have h1 := lines_len h
  have hkl : k < l.length := by omega
  have h2 : ws[k]? = some l[k].txt := by
    have h3 : (l.map Ins.txt ++ [[]])[k]? = some l[k].txt := by rw [List.getElem?_append_left (by simp; omega)]; simp [hkl]
    rw [← h3, ← h]
  rw [List.getElem?_eq_getElem hk'] at h2
  rw [Option.some.inj h2]
  exact ins_readOk (hl k hkl).1 (hl k hkl).2
theorem lines_acc {l acc : List Ins} {ws : List (List UInt8)} {k : Nat} (h : ws = l.map Ins.txt ++ [[]]) (hl : AllR l) (ha : acc = (ws.take k).map gI) (hk : ¬ k + 1 < ws.length) (hk2 : k + 1 ≤ ws.length) : l = acc := by
  have h1 := lines_len h
  have hk3 : k = (l.map Ins.txt).length := by simp; omega
  rw [ha, h, hk3, List.take_left, List.map_map]
  apply List.ext_getElem (by simp)
  intro j h1 h2
  simp only [List.getElem_map, Function.comp]
  exact (ins_back (hl j h1).1 (hl j h1).2).symm
def FromEnd (s : List UInt8) (w w' : World) (e : Ending) : Prop :=
  ((∃ v l, e = .returned (.tuple #[v, .bool true]) ∧ Sl w' 4 v l.length (codeC l) ∧ AllR l ∧ 1 ≤ l.length ∧ l.length ≤ 20 ∧ textC l = s) ∨
    (e = .returned (.tuple #[.slice none 0 0, .bool false]) ∧ ∀ l, AllR l → 1 ≤ l.length → l.length ≤ 20 → textC l ≠ s)) ∧ Below w.heap.size w w'
set_option maxRecDepth 100000 in
set_option maxHeartbeats 2000000 in
theorem codeFrom_any (s : List UInt8) (hs : s.length < 281474976710657) (w : World) :
    Calls Tryd.prog 26 #[.string ⟨s.toArray⟩] w fun e w' => FromEnd s w w' e := by
  obtain ⟨i0, hi, hz0, hz1, hz2⟩ := info_parts info23
  go_enter Tryd.func26, Tryd.ntmps26
  go_wp2_with fail
  refine (split_any s 10 22 (by decide) hs _).mono ?_
  rintro e w1 ⟨v1, rfl, o1, b1⟩
  have hl22 : (splitF 10 22 s).length ≤ 22 := splitG_len 10 22 s []
  have hne : splitF 10 22 s ≠ [] := splitG_ne 10 22 (by decide) s []
  have hpc : ∀ p ∈ splitF 10 22 s, p.length ≤ s.length := fun p hp => by simpa using split_piece 10 s [] 22 p hp
  obtain ⟨ws, hws⟩ : ∃ ws, ws = splitF 10 22 s := ⟨_, rfl⟩
  rw [← hws] at o1 hl22 hne hpc
  have hpos : 0 < ws.length := List.length_pos_iff.2 hne
  obtain ⟨b, off, cap, rfl, hcap, hbw, hc⟩ := (own_sl o1).open hpos
  have HW := Lib.hid hws
  have HPC := Lib.hid hpc
  have HCC := Lib.hid hc
  have hb1 := b1.size
  clear hws hpc hc hne o1
  go_wp2
  go_loopw [5, 6] (fun o i wr => ∃ (k : Nat) (acc : List Ins), i = .int .i64 k ∧ k + 1 ≤ ws.length ∧ Hid (acc.length = k) ∧ Hid (AllR acc) ∧ Hid (acc = (ws.take k).map gI) ∧ wr.ownsRow w1.heap.size 23 4 o acc.length (codeC acc) ∧ Below w1.heap.size w1 wr) (fun _ i _ => ws.length - (intOf i).toNat)
  case atStart => exact ⟨0, [], rfl, by omega, (show ([] : List Ins).length = 0 from rfl), AllR.nil, (show [] = (ws.take 0).map gI from rfl), World.ownsRow_nil _ _ _ _, Below.refl _ _⟩
  case round =>
    obtain ⟨k, acc, rfl, hk, HAK, HA, HG, hown, hbel⟩ := hrel
    obtain ⟨ao, cap1, rfl⟩ := own_form hown
    have hbs := hbel.size
    have ha22 : acc.length ≤ 22 := by rw [HAK.out]; omega
    by_cases hlt : k + 1 < ws.length
    · have hkw : k < ws.length := by omega
      have c0 := bcl hbel hbw (HCC.out k _ (strs_at ws k hkw))
      have hp := HPC.out ws[k] (List.getElem_mem hkw)
      have hkc : (k : Int) + 1 < ws.length := by omega
      have hkc2 : (k : Int) < ws.length := by omega
      have i1 : (0 : Int) ≤ k := by omega
      obtain ⟨line, hline⟩ : ∃ line, line = ws[k] := ⟨_, rfl⟩
      rw [← hline] at c0 hp
      have HLN := Lib.hid hline
      clear hline
      by_cases hro : readOk line
      · have HRO := Lib.hid hro
        have HA2 : Hid (AllR (acc ++ [gI line])) := HA.out.snoc (gI_ok line) (gI_right hro).1
        have HG2 : Hid (acc ++ [gI line] = (ws.take (k + 1)).map gI) := by
          show _ = _
          rw [take_snoc' ws k hkw, List.map_append, ← HG.out, HLN.out]; rfl
        clear hro
        go_wp2_with fail
        refine (from_good line (by omega) HRO.out _).mono ?_
        rintro e w2 ⟨rfl, b2⟩
        have hbel2 : Below w1.heap.size w1 w2 := hbel.trans (b2.mono hbel.size)
        have hown2 := own_up hown b2
        have hbs2 := hbel2.size
        clear b2 hown hbel
        have hown3 := hown2.alloc (.cells #[.int .i64 (gK line), .int .i64 (gA line), .int .i64 (gB line), .int .i64 (gN line)] 23)
        go_wp2_with (at_builtin; refine wpList_append_lies _ rfl (.tmp 28) (.tmp 30) 37 rfl w1.heap.size 23 i0 (.agg #[.int .i64 0, .int .i64 0, .int .i64 0, .int .i64 0]) 4 32 Tryd.underlying37 hi hz0 hz1 hz2 rfl (by decide) (.slice ao acc.length cap1) acc.length (codeC acc) rfl (hown3.alloc _) ⟨w2.heap.size + 1, 0, none⟩ 1 1 (gI line).cells rfl rfl (four_new _ (gI line) 23 _ (by simp)) (four_cell _) (by decide) (by unfold maxLen; omega) (by omega) (by simp; omega) _ rfl ?_; intro g cap2 w3 hown4 hgrow hat hglt)
        have R := code_step (hbel2.alloc hbel2.size _) hown3 hown4 hgrow
        clear hown4 hgrow hown3 hown2 hat
        go_wp2
        go_roundw
        case rel => exact ⟨k + 1, acc ++ [gI line], by go_num, by omega, (show (acc ++ [gI line]).length = k + 1 by simp [HAK.out]), HA2, HG2, R.1, R.2⟩
        case measure => simp [intOf]; omega
      · have HN : Hid (∀ l, AllR l → 1 ≤ l.length → l.length ≤ 20 → textC l ≠ s) := fun l hl h1 h2 ht => by
          have h := lines_read (lines_of HW.out hl h2 ht) hl k hlt hkw
          rw [← HLN.out] at h
          exact hro h
        have HRO := Lib.hid hro
        clear hro
        go_wp2_with fail
        refine (from_bad line (by omega) HRO.out _).mono ?_
        rintro e w2 ⟨rfl, b2⟩
        have u2 := b1.trans ((hbel.trans (b2.mono hbel.size)).mono hb1)
        go_wp2
        go_ret2
        exact ⟨Or.inr ⟨rfl, HN.out⟩, u2.alloc u2.size _⟩
    · have HM : Hid (∀ l, AllR l → 1 ≤ l.length → l.length ≤ 20 → textC l = s → l = acc) := fun l hl h1 h2 ht => lines_acc (lines_of HW.out hl h2 ht) hl HG.out hlt hk
      have hkc : ¬ (k : Int) + 1 < ws.length := by omega
      have sA := own_sl hown
      have SA := Lib.hid sA
      have u0 := b1.trans (hbel.mono hb1)
      clear sA
      obtain ⟨c, hcc⟩ : ∃ c, chkC acc = c := ⟨_, rfl⟩
      by_cases h0 : c = 0
      · subst h0
        have hc1 := (chkC_zero hcc).1
        have hc20 := (chkC_zero hcc).2.1
        have HC := Lib.hid hcc
        clear hcc
        obtain ⟨T, hT⟩ : ∃ T, textC acc = T := ⟨_, rfl⟩
        have HT := Lib.hid hT
        by_cases hTs : T = s
        · subst hTs
          go_wp2_with fail
          refine (chk_ref acc (fun j hj => (HA.out j hj).1) _ _ SA.out 0 HC.out).mono ?_
          rintro e w2 ⟨rfl, b2⟩
          have S2 := Lib.hid (SA.out.up b2)
          have u2 := u0.trans (b2.mono u0.size)
          clear b2
          go_wp2_with fail
          refine (codeText_any acc HA.out hc20 _ _ S2.out T HT.out).mono ?_
          rintro e w3 ⟨rfl, b3⟩
          have s3 := S2.out.up b3
          have u3 := u2.trans (b3.mono u2.size)
          clear b3
          go_wp2
          go_ret2
          exact ⟨Or.inl ⟨_, acc, rfl, s3, HA.out, hc1, hc20, HT.out⟩, u3⟩
        · have HN : Hid (∀ l, AllR l → 1 ≤ l.length → l.length ≤ 20 → textC l ≠ s) := fun l hl h1 h2 ht => by
            have h := HM.out l hl h1 h2 ht
            rw [h, HT.out] at ht
            exact hTs ht
          go_wp2_with fail
          refine (chk_ref acc (fun j hj => (HA.out j hj).1) _ _ SA.out 0 HC.out).mono ?_
          rintro e w2 ⟨rfl, b2⟩
          have S2 := Lib.hid (SA.out.up b2)
          have u2 := u0.trans (b2.mono u0.size)
          clear b2
          go_wp2_with fail
          refine (codeText_any acc HA.out hc20 _ _ S2.out T HT.out).mono ?_
          rintro e w3 ⟨rfl, b3⟩
          have u3 := u2.trans (b3.mono u2.size)
          have hne : (T != s) = true := by simpa using hTs
          have hne2 : (T == s) = false := by simpa using hTs
          clear b3
          go_wp2
          go_ret2
          exact ⟨Or.inr ⟨rfl, HN.out⟩, u3⟩
      · have hc' : (c != 0) = true := by simpa using h0
        have HN : Hid (∀ l, AllR l → 1 ≤ l.length → l.length ≤ 20 → textC l ≠ s) := fun l hl h1 h2 ht => by
          have h := HM.out l hl h1 h2 ht
          subst h
          exact h0 (hcc ▸ hl.chkC h1 h2)
        have HC := Lib.hid hcc
        clear hcc h0
        go_wp2_with fail
        refine (chk_ref acc (fun j hj => (HA.out j hj).1) _ _ SA.out c HC.out).mono ?_
        rintro e w2 ⟨rfl, b2⟩
        have u2 := u0.trans (b2.mono u0.size)
        clear b2
        go_wp2
        go_ret2
        exact ⟨Or.inr ⟨rfl, HN.out⟩, u2⟩
end Go.Proofs.YtclnedeodmlfeaaDoor

namespace Go.Proofs.YtclnedeodmlfeaaDoor
set_option linter.unusedSimpArgs false
set_option linter.unusedVariables false
open Go.RowKit Go.Sort
theorem text_inj {l m : List Ins} (hl : AllR l) (hm : AllR m) (h : textC l = textC m) : l = m := by
  obtain ⟨r, e, hr⟩ := text_prefix l m [] hl hm (by rw [List.append_nil, h])
  rw [textC_nil hr, List.append_nil] at e
  exact e.symm
theorem showC_txt' (l : List Ins) (hok : ∀ j (hj : j < l.length), l[j].ok) (T : List UInt8) (hT : textC l = T) (v : Value) (w : World) (he : Env w) (hS : Sl w 4 v l.length (codeC l)) (hc0 : chkC l = 0) :
    Calls Tryd.prog 23 #[v] w fun e w' => e = .returned (.tuple #[.string ⟨T.toArray⟩, .int .i64 0]) ∧ Below w.heap.size w w' := hT ▸ showC_yes l hok v w he hS hc0
set_option maxRecDepth 100000 in
set_option maxHeartbeats 4000000 in
theorem codeShows_any (l : List Ins) (hl : ∀ j (hj : j < l.length), l[j].ok) (v : Value) (s : List UInt8) (w : World) (he : Env w) (hS : Sl w 4 v l.length (codeC l)) (hs : s.length < 281474976710657) :
    Calls Tryd.prog 7 #[v, .string ⟨s.toArray⟩] w fun e w' => e = .returned (.bool true) ∧ Below w.heap.size w w' := by
  by_cases h0 : chkC l = 0
  · have hl20 := (chkC_zero h0).2.1
    have HL := Lib.hid hl
    have HC := Lib.hid h0
    have S0 := Lib.hid hS
    clear hS h0 hl
    obtain ⟨T, hT⟩ : ∃ T, textC l = T := ⟨_, rfl⟩
    have HT := Lib.hid hT
    clear hT
    go_enter Tryd.func7, Tryd.ntmps7
    go_wp2_with fail
    refine (showC_txt' l HL.out T HT.out _ _ he S0.out HC.out).mono ?_
    rintro e w1 ⟨rfl, b1⟩
    have e1 := he.up b1
    have S1 := Lib.hid (S0.out.up b1)
    clear S0
    go_wp2_with fail
    refine (chk_ref l HL.out v _ S1.out 0 HC.out).mono ?_
    rintro e w2 ⟨rfl, b2⟩
    have e2 := e1.up b2
    have u2 := b1.trans (b2.mono b1.size)
    have S2 := Lib.hid (S1.out.up b2)
    clear b1 b2 e1 S1
    go_wp2_with fail
    refine (codeText_any l (fun j hj => ⟨HL.out j hj, (chkC_zero HC.out).2.2 j hj⟩) hl20 v _ S2.out T HT.out).mono ?_
    rintro e w3 ⟨rfl, b3⟩
    have e3 := e2.up b3
    have u3 := u2.trans (b3.mono u2.size)
    clear b3 e2 u2 S2
    go_wp2_with fail
    refine (readC_any s _ e3 hs).mono ?_
    rintro e wa ⟨hcase, ba⟩
    have ea := e3.up ba
    have ua := u3.trans (ba.mono u3.size)
    rcases hcase with ⟨va, z, rfl, oa, hz, hz1', hz20, hzt⟩ | ⟨rfl, hno⟩
    · have SA := Lib.hid (own_sl oa)
      have HZ := Lib.hid hz
      have HT' := Lib.hid hzt
      clear oa hz hzt ba
      go_wp2_with fail
      refine (codeFrom_any s hs _).mono ?_
      rintro e wb ⟨hcase, bb⟩
      have eb := ea.up bb
      have ub := ua.trans (bb.mono ua.size)
      rcases hcase with ⟨vb, y, rfl, sb, hy, _, _, hyt⟩ | ⟨rfl, hno⟩
      · have hzy : y = z := text_inj hy HZ.out (by rw [hyt, HT'.out])
        subst hzy
        have SB := Lib.hid sb
        have SA2 := Lib.hid (SA.out.up bb)
        clear sb hy hyt bb SA
        go_wp2_with fail
        refine (codeBegun_any _ eb).mono ?_
        rintro e wc ⟨rfl, bc⟩
        have uc := ub.trans (bc.mono ub.size)
        have SB2 := Lib.hid (SB.out.up bc)
        have SA3 := Lib.hid (SA2.out.up bc)
        clear bc SB SA2
        go_wp2_with fail
        refine (sameCode_any y _ _ _ SA3.out SB2.out (by omega)).mono ?_
        rintro e wd ⟨rfl, bd⟩
        have ud := uc.trans (bd.mono uc.size)
        go_wp2
        go_ret
        exact ⟨by simp, ud⟩
      · exact absurd HT'.out (hno z HZ.out hz1' hz20)
    · go_wp2_with fail
      refine (codeFrom_any s hs _).mono ?_
      rintro e wb ⟨hcase, bb⟩
      have eb := ea.up bb
      have ub := ua.trans (bb.mono ua.size)
      rcases hcase with ⟨vb, y, rfl, sb, hy, h1, h2, hyt⟩ | ⟨rfl, _⟩
      · exact absurd hyt (hno y hy h1 h2)
      · clear bb ba hno
        go_wp2_with fail
        refine (codeBegun_any _ eb).mono ?_
        rintro e wc ⟨rfl, bc⟩
        have uc := ub.trans (bc.mono ub.size)
        clear bc
        go_wp2_with fail
        refine (sameCode_any [] _ _ _ (Sl.nil _ 4) (Sl.nil _ 4) (by decide)).mono ?_
        rintro e wd ⟨rfl, bd⟩
        have ud := uc.trans (bd.mono uc.size)
        go_wp2
        go_ret
        exact ⟨by simp, ud⟩
  · obtain ⟨d, hd⟩ : ∃ d, chkC l = d := ⟨_, rfl⟩
    have hd' : (d == 0) = false := by rw [← hd]; simpa using h0
    have h0 : d ≠ 0 := hd ▸ h0
    have HN := Lib.hid h0
    have HD := Lib.hid hd
    have S0 := Lib.hid hS
    have HL := Lib.hid hl
    clear h0 hd hS hl
    go_enter Tryd.func7, Tryd.ntmps7
    go_wp2_with fail
    refine (showC_no l v _ he S0.out d HD.out HN.out).mono ?_
    rintro e w1 ⟨rfl, b1⟩
    have e1 := he.up b1
    have S1 := Lib.hid (S0.out.up b1)
    clear S0
    go_wp2_with fail
    refine (chk_ref l HL.out v _ S1.out d HD.out).mono ?_
    rintro e w2 ⟨rfl, b2⟩
    have e3 := e1.up b2
    have u3 := b1.trans (b2.mono b1.size)
    clear b1 b2 e1 S1
    go_wp2_with fail
    refine (readC_any s _ e3 hs).mono ?_
    rintro e wa ⟨hcase, ba⟩
    have ea := e3.up ba
    have ua := u3.trans (ba.mono u3.size)
    rcases hcase with ⟨va, z, rfl, oa, hz, hz1', hz20, hzt⟩ | ⟨rfl, hno⟩
    · have SA := Lib.hid (own_sl oa)
      have HZ := Lib.hid hz
      have HT' := Lib.hid hzt
      clear oa hz hzt ba
      go_wp2_with fail
      refine (codeFrom_any s hs _).mono ?_
      rintro e wb ⟨hcase, bb⟩
      have eb := ea.up bb
      have ub := ua.trans (bb.mono ua.size)
      rcases hcase with ⟨vb, y, rfl, sb, hy, _, _, hyt⟩ | ⟨rfl, hno⟩
      · have hzy : y = z := text_inj hy HZ.out (by rw [hyt, HT'.out])
        subst hzy
        have SB := Lib.hid sb
        have SA2 := Lib.hid (SA.out.up bb)
        clear sb hy hyt bb SA
        go_wp2_with fail
        refine (codeBegun_any _ eb).mono ?_
        rintro e wc ⟨rfl, bc⟩
        have uc := ub.trans (bc.mono ub.size)
        have SB2 := Lib.hid (SB.out.up bc)
        have SA3 := Lib.hid (SA2.out.up bc)
        clear bc SB SA2
        go_wp2_with fail
        refine (sameCode_any y _ _ _ SA3.out SB2.out (by omega)).mono ?_
        rintro e wd ⟨rfl, bd⟩
        have ud := uc.trans (bd.mono uc.size)
        go_wp2
        go_ret
        exact ⟨by simp, ud⟩
      · exact absurd HT'.out (hno z HZ.out hz1' hz20)
    · go_wp2_with fail
      refine (codeFrom_any s hs _).mono ?_
      rintro e wb ⟨hcase, bb⟩
      have eb := ea.up bb
      have ub := ua.trans (bb.mono ua.size)
      rcases hcase with ⟨vb, y, rfl, sb, hy, h1, h2, hyt⟩ | ⟨rfl, _⟩
      · exact absurd hyt (hno y hy h1 h2)
      · clear bb ba hno
        go_wp2_with fail
        refine (codeBegun_any _ eb).mono ?_
        rintro e wc ⟨rfl, bc⟩
        have uc := ub.trans (bc.mono ub.size)
        clear bc
        go_wp2_with fail
        refine (sameCode_any [] _ _ _ (Sl.nil _ 4) (Sl.nil _ 4) (by decide)).mono ?_
        rintro e wd ⟨rfl, bd⟩
        have ud := uc.trans (bd.mono uc.size)
        go_wp2
        go_ret
        exact ⟨by simp, ud⟩
end Go.Proofs.YtclnedeodmlfeaaDoor

namespace Go.Proofs.YtclnedeodmlfeaaDoor
set_option linter.unusedSimpArgs false
set_option linter.unusedVariables false
open Go.ChangeShapes Go.WideShapes Go.ChangeAt Go.RowKit Go.Joins Go.Deep
instance : Inhabited Ins := ⟨⟨0, 0, 0, 0⟩⟩
set_option maxRecDepth 100000 in
theorem open_code {H : Type} {enc : TypeId × Value → H} {W : World} {r : Reach} {b0 base : Nat} {sp : Nat → Bool} {held : Bool} {v : Value} {d : DataW H} {p : List MemPlace} (hv : Value.okWide Tryd.prog W r b0 37 v) (h : DataW.Trod enc Tryd.prog W base sp held 37 v d p) :
    ∃ l : List Ins, Sl W 4 v l.length (codeC l) ∧ ∀ j (hj : j < l.length), l[j].ok := by
  obtain ⟨a0, len, cap, rfl⟩ := okWide_slice Tryd.underlying37 hv
  obtain ⟨fuel, hf⟩ := h
  rcases open_slice Tryd.underlying37 hf with ⟨h1, _⟩ | ⟨a, len', cap', m, n, D, Pl, e, hb, hl, hm, hmm, _, hx⟩
  · obtain ⟨rfl, rfl, rfl⟩ : a0 = none ∧ len = 0 ∧ cap = 0 := by simpa [Value.cells] using h1
    exact ⟨[], Sl.nil W 4, fun j hj => absurd hj (by simp)⟩
  · obtain ⟨rfl, rfl, rfl⟩ : a0 = some a ∧ len = len' ∧ cap = cap' := by simpa [Value.cells] using e
    have hlm : len ≤ m := by rw [hmm]; split <;> omega
    have each : ∀ i, i < len → ∃ q : Ins, (W.cell? (a.add (i * 4)) = some (.int .i64 q.op) ∧ W.cell? (a.add (i * 4 + 1)) = some (.int .i64 q.a) ∧ W.cell? (a.add (i * 4 + 2)) = some (.int .i64 q.b) ∧ W.cell? (a.add (i * 4 + 3)) = some (.int .i64 q.n)) ∧ q.ok := by
      intro i hi
      obtain ⟨cs', h1, h2⟩ := hx i (by omega)
      rw [cells23] at h1
      obtain ⟨_, hlen, hcell⟩ := World.cells?_some h1
      obtain ⟨y0, y1, y2, y3, k, hxy, _, g0, g1, g2, g3⟩ := trod_struct4 Tryd.underlying23 h2
      match cs', hlen with
      | [v0, v1, v2, v3], _ =>
        obtain ⟨op, e0, -, w0⟩ := DataW.trod_int Tryd.underlying3 g0
        obtain ⟨a', e1, -, w1⟩ := DataW.trod_int Tryd.underlying3 g1
        obtain ⟨b, e2, -, w2⟩ := DataW.trod_int Tryd.underlying3 g2
        obtain ⟨n', e3, -, w3⟩ := DataW.trod_int Tryd.underlying3 g3
        have c3 : Tryd.prog.cellsOf 3 = 1 := by kernel_rfl
        simp [c3] at e0 e1 e2 e3
        subst e0 e1 e2 e3
        have f0 := hcell 0 (by omega)
        have f1 := hcell 1 (by omega)
        have f2 := hcell 2 (by omega)
        have f3 := hcell 3 (by omega)
        rw [add_add] at f0 f1 f2 f3
        exact ⟨⟨op, a', b, n'⟩, ⟨by simpa using f0, by simpa using f1, by simpa using f2, by simpa using f3⟩, in64_of w0, in64_of w1, in64_of w2, in64_of w3⟩
    obtain ⟨q, hq⟩ := choose_lt each
    refine ⟨(List.range len).map q, ?_, fun j hj => by simpa using (hq j (by simpa using hj)).2⟩
    have hlen : ((List.range len).map q).length = len := by simp
    refine ⟨codeC_len _, some a, cap, by rw [hlen], by omega, fun hpos => ?_⟩
    have hs : a.spot = none := by
      have := World.cell?_spot (hq 0 (by omega)).1.1
      simpa [Addr.add] using this
    obtain ⟨b, off, s⟩ := a
    simp only at hs
    subst hs
    refine ⟨b, off, rfl, ?_, fun j u hj => ?_⟩
    · have h0 := (hq 0 (by omega)).1.1
      simp only [Nat.zero_mul, Addr.add, if_true] at h0
      unfold World.cell? at h0
      by_cases hlt : b < W.heap.size
      · exact hlt
      · simp [Array.getElem?_eq_none (Nat.le_of_not_lt hlt)] at h0
    · have hjl : j < len * 4 := by
        rw [← hlen, ← codeC_len]
        exact (List.getElem?_eq_some_iff.1 hj).1
      have hdm : j / 4 * 4 + j % 4 = j := by omega
      have hk : j / 4 < ((List.range len).map q).length := by omega
      rw [← hdm, codeC_at _ _ _ hk (by omega)] at hj
      have hqk := (hq (j / 4) (by omega)).1
      simp only [List.getElem_map, List.getElem_range] at hj
      have key : ∀ x : Nat, (⟨b, off + x, none⟩ : Addr) = (⟨b, off, none⟩ : Addr).add x := fun x => by
        unfold Addr.add
        by_cases h0 : x = 0 <;> simp [h0]
      rw [key, ← hdm]
      have hr : j % 4 = 0 ∨ j % 4 = 1 ∨ j % 4 = 2 ∨ j % 4 = 3 := by omega
      rcases hr with e | e | e | e <;> rw [e] at hj ⊢ <;> simp only [Ins.cells, List.getElem?_cons_zero, List.getElem?_cons_succ, Option.some.injEq] at hj <;> subst hj
      · exact hqk.1
      · exact hqk.2.1
      · exact hqk.2.2.1
      · exact hqk.2.2.2
end Go.Proofs.YtclnedeodmlfeaaDoor
