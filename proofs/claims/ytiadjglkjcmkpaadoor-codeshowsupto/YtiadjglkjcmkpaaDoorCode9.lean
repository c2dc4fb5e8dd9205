/- A part of the proofs over this seat's laws: what a function of the program, or of the reference, answers and leaves, told by its theorems below. -/
import Derived.Test.YtiadjglkjcmkpaaDoorCode7
import Derived.Test.YtiadjglkjcmkpaaDoorIsaReads
namespace Go.Proofs.YtiadjglkjcmkpaaDoor
set_option linter.unusedSimpArgs false
set_option linter.unusedVariables false
open Go.RowKit Go.Sort

theorem text_ins (i : Ins) (h : i.ok) (hc : i.chk = 0) (T : List UInt8) (hT : i.txt = T) (w : World) :
    Calls Tryd.prog 11 #[.agg #[.int .i64 i.op, .int .i64 i.a, .int .i64 i.b, .int .i64 i.n]] w fun e w' => e = .returned (.string ⟨T.toArray⟩) ∧ Below w.heap.size w w' := by
  obtain ⟨k, e, h1, h2, _⟩ := right_of hc
  subst hT
  unfold Ins.txt
  rw [e, Int.toNat_natCast]
  exact text_any k h1 h2 i.a i.b i.n h.2.1 h.2.2.1 h.2.2.2 w

set_option maxRecDepth 100000 in
set_option maxHeartbeats 1000000 in
theorem codeText_any (l : List Ins) (hl : AllR l) (h20 : l.length ≤ 20) (v : Value) (w : World) (hS : Sl w 4 v l.length (codeC l)) (res : List UInt8) (hres : textC l = res) :
    Calls Tryd.prog 24 #[v] w fun e w' => e = .returned (.string ⟨res.toArray⟩) ∧ Below w.heap.size w w' := by
  obtain ⟨ao, cap, rfl⟩ := hS.form
  have HS := Lib.hid hS
  have HL := Lib.hid hl
  have HRES := Lib.hid hres
  clear hS hl hres
  go_enter Tryd.func24, Tryd.ntmps24
  go_wp2
  go_loopw [3, 4] (fun sv i wr => ∃ (k : Nat) (t : List UInt8), sv = .string ⟨t.toArray⟩ ∧ i = .int .i64 k ∧ k ≤ l.length ∧ Hid (t = textC (l.take k)) ∧ t.length ≤ 71 * k ∧ Below w.heap.size w wr) (fun _ i _ => l.length - (intOf i).toNat)
  case atStart => exact ⟨0, [], rfl, rfl, Nat.zero_le _, (show [] = textC (l.take 0) from rfl), by simp, Below.refl _ _⟩
  case round =>
    obtain ⟨k, t, rfl, rfl, hk, HT, htl, hbel⟩ := hrel
    by_cases hlt : k < l.length
    · obtain ⟨b, off, cap', e1, hcap, hbw, hc⟩ := HS.out.open (by omega)
      cases e1
      obtain ⟨c0, c1, c2, c3⟩ := code_cells hc k hlt
      have c0 := bcl hbel hbw c0
      have c1 := bcl hbel hbw c1
      have c2 := bcl hbel hbw c2
      have c3 := bcl hbel hbw c3
      have hkc : (k : Int) < l.length := by omega
      have i1 : (0 : Int) ≤ k := by omega
      have hT1 := ins_len (HL.out k hlt).1 (HL.out k hlt).2
      obtain ⟨T, hT⟩ : ∃ T, l[k].txt = T := ⟨_, rfl⟩
      rw [hT] at hT1
      have HT2 := Lib.hid hT
      have HN : Hid (t ++ T ++ [10] = textC (l.take (k + 1))) := by
        show _ = _
        rw [take_snoc' l k hlt, textC_snoc, ← HT.out, hT]
      clear hT hc
      go_wp2_with fail
      refine (text_ins l[k] (HL.out k hlt).1 (HL.out k hlt).2 T HT2.out _).mono ?_
      rintro e w1 ⟨rfl, b1⟩
      have u1 := hbel.trans (b1.mono hbel.size)
      clear b1
      go_wp2
      go_roundw
      case rel => exact ⟨k + 1, t ++ T ++ [10], by simp [ba_app, ba_app2], by go_num, by omega, HN, by simp; omega, u1⟩
      case measure => simp [intOf]; omega
    · have hkc : ¬ (k : Int) < l.length := by omega
      have HE : Hid (t = res) := by
        show _ = _
        rw [HT.out, List.take_of_length_le (by omega), HRES.out]
      go_wp2
      go_ret
      exact ⟨by rw [HE.out]; rfl, hbel⟩
end Go.Proofs.YtiadjglkjcmkpaaDoor
