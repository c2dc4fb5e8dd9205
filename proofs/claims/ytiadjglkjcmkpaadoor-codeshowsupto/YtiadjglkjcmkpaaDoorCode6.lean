/- A part of the proofs over this seat's laws: what a function of the program, or of the reference, answers and leaves, told by its theorems below. -/
import Derived.Test.YtiadjglkjcmkpaaDoorCode5
namespace Go.Proofs.YtiadjglkjcmkpaaDoor
set_option linter.unusedSimpArgs false
set_option linter.unusedVariables false
open Go.RowKit Go.Sort

theorem chkC_nil : chkC [] = 2 := rfl
theorem teller_showed (v : Value) (w : World) (he : Env w) (hS : Sl w 4 v 5 (codeC tellerL)) :
    Calls Tryd.prog 23 #[v] w fun e w' => e = .returned (.tuple #[.string ⟨#[103, 101, 116, 32, 48, 32, 49, 32, 48, 10, 122, 101, 114, 111, 32, 49, 32, 48, 10, 111, 117, 116, 32, 48, 10, 112, 117, 116, 32, 48, 32, 49, 10, 106, 117, 109, 112, 32, 48, 10]⟩, .int .i64 0]) ∧ Below w.heap.size w w' := by
  have h := showC_yes tellerL teller_ok v w he hS teller_chk
  rw [teller_text] at h
  exact h
theorem teller_read (w : World) (he : Env w) :
    Calls Tryd.prog 25 #[.string ⟨#[103, 101, 116, 32, 48, 32, 49, 32, 48, 10, 122, 101, 114, 111, 32, 49, 32, 48, 10, 111, 117, 116, 32, 48, 10, 112, 117, 116, 32, 48, 32, 49, 10, 106, 117, 109, 112, 32, 48, 10]⟩] w fun e w' => ∃ v, e = .returned (.tuple #[v, .int .i64 0]) ∧ Sl w' 4 v 5 (codeC tellerL) ∧ Below w.heap.size w w' :=
  readC_text tellerL teller_all (by decide) (by decide) _ teller_text w he
theorem teller_putsd (v : Value) (w : World) (he : Env w) (hS : Sl w 4 v 5 (codeC tellerL)) :
    Calls Tryd.prog 16 #[v] w fun e w' => ∃ v', e = .returned (.tuple #[v', .int .i64 0]) ∧ Sl w' 1 v' 1 (ints [1]) ∧ Below w.heap.size w w' := by
  have h := puts_yes tellerL v w he hS teller_chk
  rw [teller_puts] at h
  exact h
theorem teller_getsd (v : Value) (w : World) (he : Env w) (hS : Sl w 4 v 5 (codeC tellerL)) :
    Calls Tryd.prog 17 #[v] w fun e w' => ∃ v', e = .returned (.tuple #[v', .int .i64 0]) ∧ Sl w' 1 v' 1 (ints [0]) ∧ Below w.heap.size w w' := by
  have h := gets_yes tellerL v w he hS teller_chk
  rw [teller_gets] at h
  exact h
theorem teller_checked (v : Value) (w : World) (he : Env w) (hS : Sl w 4 v 5 (codeC tellerL)) :
    Calls Tryd.prog 21 #[v] w fun e w' => e = .returned (.int .i64 0) ∧ Below w.heap.size w w' := by
  have h := codeCheck_any tellerL v w he hS
  rw [teller_chk] at h
  exact h
theorem nil_checked (w : World) (he : Env w) :
    Calls Tryd.prog 21 #[.slice none 0 0] w fun e w' => e = .returned (.int .i64 2) ∧ Below w.heap.size w w' := codeCheck_any [] _ w he (Sl.nil w 4)
theorem int1_sl {w : World} {x : Int} {b cap : Nat} (hb : b < w.heap.size) (hc : 1 ≤ cap) (h : w.cell? ⟨b, 0, none⟩ = some (.int .i64 x)) : Sl w 1 (.slice (some ⟨b, 0, none⟩) 1 cap) 1 (ints [x]) :=
  ⟨rfl, _, _, rfl, hc, fun _ => ⟨b, 0, rfl, hb, fun j u hj => by
    match j with
    | 0 => simp [ints] at hj; subst hj; exact h
    | j + 1 => simp [ints] at hj⟩⟩

set_option maxRecDepth 100000 in
set_option maxHeartbeats 1000000 in
theorem codeBegun_any (w : World) (he : Env w) : Calls Tryd.prog 20 #[] w fun e w' => e = .returned (.bool true) ∧ Below w.heap.size w w' := by
  go_enter Tryd.func20, Tryd.ntmps20
  go_wp2_with fail
  refine (teller_any _).mono ?_
  rintro e w1 ⟨v1, rfl, s1, b1⟩
  have e1 := he.up b1
  go_wp2_with fail
  refine (teller_showed v1 _ e1 s1).mono ?_
  rintro e w2 ⟨rfl, b2⟩
  have e2 := e1.up b2
  have u2 := b1.trans (b2.mono b1.size)
  clear s1 b1 b2 e1
  go_wp2_with fail
  refine (teller_read _ e2).mono ?_
  rintro e w3 ⟨v3, rfl, s3, b3⟩
  have e3 := e2.up b3
  have u3 := u2.trans (b3.mono u2.size)
  clear b3 u2 e2
  go_wp2_with fail
  refine (teller_any _).mono ?_
  rintro e w4 ⟨v4, rfl, s4, b4⟩
  have e4 := e3.up b4
  have u4 := u3.trans (b4.mono u3.size)
  have s3 := s3.up b4
  clear b4 u3 e3
  go_wp2_with fail
  refine (teller_putsd v4 _ e4 s4).mono ?_
  rintro e w5 ⟨v5, rfl, s5, b5⟩
  have e5 := e4.up b5
  have u5 := u4.trans (b5.mono u4.size)
  have s3 := s3.up b5
  clear b5 u4 e4 s4
  go_wp2_with fail
  refine (teller_any _).mono ?_
  rintro e w6 ⟨v6, rfl, s6, b6⟩
  have e6 := e5.up b6
  have u6 := u5.trans (b6.mono u5.size)
  have s3 := s3.up b6
  have s5 := s5.up b6
  clear b6 u5 e5
  go_wp2_with fail
  refine (teller_getsd v6 _ e6 s6).mono ?_
  rintro e w7 ⟨v7, rfl, s7, b7⟩
  have e7 := e6.up b7
  have u7 := u6.trans (b7.mono u6.size)
  have s3 := s3.up b7
  have s5 := s5.up b7
  clear b7 u6 e6 s6
  go_wp2_with fail
  refine (teller_any _).mono ?_
  rintro e w8 ⟨v8, rfl, s8, b8⟩
  have e8 := e7.up b8
  have u8 := u7.trans (b8.mono u7.size)
  have s3 := s3.up b8
  have s5 := s5.up b8
  have s7 := s7.up b8
  clear b8 u7 e7
  go_wp2_with fail
  refine (teller_checked v8 _ e8 s8).mono ?_
  rintro e w9 ⟨rfl, b9⟩
  have e9 := e8.up b9
  have u9 := u8.trans (b9.mono u8.size)
  have s3 := s3.up b9
  have s5 := s5.up b9
  have s7 := s7.up b9
  clear b9 u8 e8 s8
  go_wp2_with fail
  refine (nil_checked _ e9).mono ?_
  rintro e w10 ⟨rfl, b10⟩
  have e10 := e9.up b10
  have u10 := u9.trans (b10.mono u9.size)
  have s3 := s3.up b10
  have s5 := s5.up b10
  have s7 := s7.up b10
  clear b10 u9 e9
  go_wp2_with fail
  refine (teller_any _).mono ?_
  rintro e w11 ⟨v11, rfl, s11, b11⟩
  have e11 := e10.up b11
  have u11 := u10.trans (b11.mono u10.size)
  have s3 := s3.up b11
  have s5 := s5.up b11
  have s7 := s7.up b11
  clear b11 u10 e10
  go_wp2_with fail
  refine (sameCode_any tellerL v3 v11 _ s3 s11 (by decide)).mono ?_
  rintro e w12 ⟨rfl, b12⟩
  have u12 := u11.trans (b12.mono u11.size)
  have s5 := s5.up b12
  have s7 := s7.up b12
  clear b12 u11 s3 s11
  go_wp2_with fail
  refine (sameInts_any [1] [1] v5 _ _ (s5.up (by repeat (first | exact Below.refl _ _ | assumption | refine Below.drew ?_ | refine Below.alloc ?_ (by simp) _ | refine Below.setCell ?_ (by simp) _))) (int1_sl (by simp) (by decide) (by simp)) (by decide) true (by decide)).mono ?_
  rintro e w13 ⟨rfl, b13⟩
  have u13 := (u12.alloc u12.size _).trans (b13.mono (by have := u12.size; simp; omega))
  have s7 := (s7.up (by repeat (first | exact Below.refl _ _ | assumption | refine Below.drew ?_ | refine Below.alloc ?_ (by simp) _ | refine Below.setCell ?_ (by simp) _))).up b13
  clear b13 u12 s5
  go_wp2_with fail
  refine (sameInts_any [0] [0] v7 _ _ (s7.up (by repeat (first | exact Below.refl _ _ | assumption | refine Below.drew ?_ | refine Below.alloc ?_ (by simp) _ | refine Below.setCell ?_ (by simp) _))) (int1_sl (by simp) (by decide) (by simp)) (by decide) true (by decide)).mono ?_
  rintro e w14 ⟨rfl, b14⟩
  have u14 := (u13.alloc u13.size _).trans (b14.mono (by have := u13.size; simp; omega))
  go_wp2
  go_ret
  exact ⟨rfl, u14⟩
end Go.Proofs.YtiadjglkjcmkpaaDoor
