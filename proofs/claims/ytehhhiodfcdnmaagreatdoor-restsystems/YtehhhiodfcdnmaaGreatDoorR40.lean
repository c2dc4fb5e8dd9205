/- Slices and systems that are the same, asked by reading alone. -/
import Derived.Test.YtehhhiodfcdnmaaGreatDoorR4
import Derived.Deep.QuietTactic
import Derived.BigQuiet
namespace Go.Proofs.YtehhhiodfcdnmaaGreatDoor
set_option linter.unusedSimpArgs false
set_option linter.unusedVariables false
set_option maxRecDepth 100000
set_option maxHeartbeats 4000000
open Go.RowKit Go.Sort
theorem Sl.drewN {w : World} {size : Nat} {v : Value} {m : Nat} {xs : List Value} (h : Sl w size v m xs) (n : Nat) : Sl (w.drewN n) size v m xs := h
theorem quiet_n {f : Nat} {args : Array Value} {w : World} {n x : Nat} {v : Value} (h : Calls Tryz.prog f args (w.drewN (n + x)) fun e w' => e = .returned v ∧ ∃ m, w' = (w.drewN (n + x)).drewN m) : Calls Tryz.prog f args (w.drewN (n + x)) fun e w'' => e = .returned v ∧ ∃ m, w'' = w.drewN (n + m) :=
 h.mono fun _ _ ⟨he, m, hm⟩ => ⟨he, x + m, by rw [hm, World.drewN_drewN, Nat.add_assoc]⟩
theorem sameInts_q (xs : List Int) (v u : Value) (w : World) (hx : Sl w 1 v xs.length (ints xs)) (hy : Sl w 1 u xs.length (ints xs)) (hm : xs.length < 4294967281) :
  Calls Tryz.prog 41 #[v, u] w fun e w' => e = .returned (.bool true) ∧ ∃ n, w' = w.drewN n := by
 obtain ⟨ax, cx, rfl⟩ := hx.form
 obtain ⟨ay, cy, rfl⟩ := hy.form
 have hl' : ((xs.length : Int) != (xs.length : Int)) = false := by simp
 have HX := hd hx
 have HY := hd hy
 clear hx hy
 go_enter Tryz.func41, Tryz.ntmps41
 go_wp2
 go_loopw [5] (fun i wr => ∃ k : Nat, i = .int .i64 k ∧ k ≤ xs.length ∧ ∃ n, wr = w.drewN n) (fun i _ => xs.length - (intOf i).toNat)
 case atStart => exact ⟨0, rfl, Nat.zero_le _, 0, rfl⟩
 case round =>
  obtain ⟨k, rfl, hk, n, rfl⟩ := hrel
  by_cases hlt : k < xs.length
  ·obtain ⟨b, off, cap, e1, hcap, hbw, hc⟩ := HX.out.open om
   obtain ⟨b', off', cap', e2, hcap', hbw', hc'⟩ := HY.out.open om
   cases e1
   cases e2
   have c0 := hc k _ (ints_at xs k hlt)
   have c1 := hc' k _ (ints_at xs k hlt)
   have i1 : (0 : Int) ≤ k := by omega
   have i2 : (k : Int) < xs.length := by omega
   have hq' : (xs[k] != xs[k]) = false := by simp
   clear hc hc'
   go_wp2
   go_quiet (fail)
   all_goals go_wp2
   all_goals
    go_roundw
    case rel => exact ⟨k + 1, by go_num, by omega, _, rfl⟩
    case measure => simp [intOf]; omega
  ·have hkc : ¬ (k : Int) < xs.length := by omega
   go_wp2
   go_ret
   exact ⟨rfl, n, rfl⟩
theorem sameCode_q (l : List Ins) (v u : Value) (w : World) (hx : Sl w 4 v l.length (codeC l)) (hy : Sl w 4 u l.length (codeC l)) (hm : l.length < 4294967281) :
  Calls Tryz.prog 53 #[v, u] w fun e w' => e = .returned (.bool true) ∧ ∃ n, w' = w.drewN n := by
 obtain ⟨ax, cx, rfl⟩ := hx.form
 obtain ⟨ay, cy, rfl⟩ := hy.form
 have hl' : ((l.length : Int) != (l.length : Int)) = false := by simp
 have HX := hd hx
 have HY := hd hy
 clear hx hy
 go_enter Tryz.func53, Tryz.ntmps53
 go_wp2
 go_loopw [5] (fun i wr => ∃ k : Nat, i = .int .i64 k ∧ k ≤ l.length ∧ ∃ n, wr = w.drewN n) (fun i _ => l.length - (intOf i).toNat)
 case atStart => exact ⟨0, rfl, Nat.zero_le _, 0, rfl⟩
 case round =>
  obtain ⟨k, rfl, hk, n, rfl⟩ := hrel
  by_cases hlt : k < l.length
  ·obtain ⟨b, off, cap, e1, hcap, hbw, hc⟩ := HX.out.open om
   obtain ⟨b', off', cap', e2, hcap', hbw', hc'⟩ := HY.out.open om
   cases e1
   cases e2
   obtain ⟨c0, c1, c2, c3⟩ := code_cells hc k hlt
   obtain ⟨d0, d1, d2, d3⟩ := code_cells hc' k hlt
   have i1 : (0 : Int) ≤ k := by omega
   have i2 : (k : Int) < l.length := by omega
   have k1 : (l[k].op == l[k].op) = true := by simp
   have k2 : (l[k].a == l[k].a) = true := by simp
   have k3 : (l[k].b == l[k].b) = true := by simp
   have k4 : (l[k].n == l[k].n) = true := by simp
   clear hc hc'
   go_wp2
   go_quiet (fail)
   all_goals go_wp2
   all_goals
    go_roundw
    case rel => exact ⟨k + 1, by go_num, by omega, _, rfl⟩
    case measure => simp [intOf]; omega
  ·have hkc : ¬ (k : Int) < l.length := by omega
   go_wp2
   go_ret
   exact ⟨rfl, n, rfl⟩
theorem sameSys_any (S : SysD) (hb4 : S.parts.length ≤ 1000) (hb6 : S.chans.length ≤ 1000) (hb7 : S.slots.length ≤ 1000) (hcl : ∀ j (hj : j < S.parts.length), S.parts[j].code.length ≤ 1000 ∧ S.parts[j].inn.length ≤ 1000) (vp vc vs up uc us : Value) (w : World) (hS : Sys w vp vc vs S) (hT : Sys w up uc us S) :
  Calls Tryz.prog 19 #[.agg #[vp, vc, vs], .agg #[up, uc, us]] w fun e w' => e = .returned (.bool true) ∧ Below w.heap.size w w' := by
 obtain ⟨pa, pc, rfl⟩ := hS.p.form
 obtain ⟨ca, cc, rfl⟩ := hS.c.form
 obtain ⟨sa, sc, rfl⟩ := hS.s.form
 obtain ⟨pa', pc', rfl⟩ := hT.p.form
 obtain ⟨ca', cc', rfl⟩ := hT.c.form
 obtain ⟨sa', sc', rfl⟩ := hT.s.form
 have n1 : ((S.parts.length : Int) != (S.parts.length : Int)) = false := by simp
 have n2 : ((S.chans.length : Int) != (S.chans.length : Int)) = false := by simp
 have n3 : ((S.slots.length : Int) != (S.slots.length : Int)) = false := by simp
 have hA := box_new w (.slice pa S.parts.length pc) (.slice ca S.chans.length cc) (.slice sa S.slots.length sc) 26 _ rfl
 have hA' := hA.up (w' := (w.alloc (.cells #[.slice pa S.parts.length pc, .slice ca S.chans.length cc, .slice sa S.slots.length sc] 26)).alloc (.cells #[.slice pa' S.parts.length pc', .slice ca' S.chans.length cc', .slice sa' S.slots.length sc'] 26)) ((Below.refl _ _).alloc (Nat.le_refl _) _)
 have hB := box_new (w.alloc (.cells #[.slice pa S.parts.length pc, .slice ca S.chans.length cc, .slice sa S.slots.length sc] 26)) (.slice pa' S.parts.length pc') (.slice ca' S.chans.length cc') (.slice sa' S.slots.length sc') 26 (w.heap.size + 1) (by simp)
 have hD : Below w.heap.size w ((w.alloc (.cells #[.slice pa S.parts.length pc, .slice ca S.chans.length cc, .slice sa S.slots.length sc] 26)).alloc (.cells #[.slice pa' S.parts.length pc', .slice ca' S.chans.length cc', .slice sa' S.slots.length sc'] 26)) := up0
 have HS := hd (hS.up hD)
 have HT := hd (hT.up hD)
 have HCL := hd hcl
 clear hS hT hcl hA
 go_enter Tryz.func19, Tryz.ntmps19
 go_wp2
 generalize (w.alloc (.cells #[.slice pa S.parts.length pc, .slice ca S.chans.length cc, .slice sa S.slots.length sc] 26)).alloc (.cells #[.slice pa' S.parts.length pc', .slice ca' S.chans.length cc', .slice sa' S.slots.length sc'] 26) = W at *
 have HD := hd hD
 have a0 := hA'.p
 have a1 := hA'.c
 have a2 := hA'.s
 have b0 := hB.p
 have b1 := hB.c
 have b2 := hB.s
 clear hA' hB hD
 go_loopw [5] (fun i wr => ∃ k : Nat, i = .int .i64 k ∧ k ≤ S.parts.length ∧ ∃ n, wr = W.drewN n) (fun i _ => S.parts.length - (intOf i).toNat)
 case atStart => exact ⟨0, rfl, Nat.zero_le _, 0, rfl⟩
 case round =>
  obtain ⟨k, rfl, hk, n, rfl⟩ := hrel
  by_cases hlt : k < S.parts.length
  ·have hli : (k : Int) < S.parts.length := by omega
   have h0 : (0 : Int) ≤ k := by omega
   obtain ⟨x1, y1, z1, e1, _, _, hpp⟩ := HS.out.p.open om
   obtain ⟨x2, y2, z2, e2, _, _, hqq⟩ := HT.out.p.open om
   cases e1
   cases e2
   obtain ⟨c, i, c0, c1, hpr⟩ := hpp k hlt
   obtain ⟨c', i', d0, d1, hqr⟩ := hqq k hlt
   obtain ⟨f1, g1, rfl⟩ := hpr.code.form
   obtain ⟨f2, g2, rfl⟩ := hpr.inn.form
   obtain ⟨f3, g3, rfl⟩ := hqr.code.form
   obtain ⟨f4, g4, rfl⟩ := hqr.inn.form
   have HPR := hd hpr
   have HQR := hd hqr
   have hl2 := HCL.out k hlt
   clear hpp hqq hpr hqr
   go_wp2
   go_quiet (first | (go_at_call 53; exact quiet_n (sameCode_q _ _ _ _ (HPR.out.code.drewN _) (HQR.out.code.drewN _) om)) | (go_at_call 41; exact quiet_n (sameInts_q _ _ _ _ (HPR.out.inn.drewN _) (HQR.out.inn.drewN _) om)))
   all_goals go_wp2
   all_goals
    go_roundw
    case rel => exact ⟨k + 1, by go_num, by omega, _, rfl⟩
    case measure => simp [intOf]; omega
  ·have hli : ¬ (k : Int) < S.parts.length := by omega
   clear hlt hk
   go_wp2
   go_loopw [6] (fun i wr => ∃ k : Nat, i = .int .i64 k ∧ k ≤ S.chans.length ∧ ∃ n, wr = W.drewN n) (fun i _ => S.chans.length - (intOf i).toNat)
   case atStart => exact ⟨0, rfl, Nat.zero_le _, _, rfl⟩
   case round =>
    clear hli
    obtain ⟨k, rfl, hk, n, rfl⟩ := hrel
    by_cases hlt : k < S.chans.length
    ·have hli : (k : Int) < S.chans.length := by omega
     have h0 : (0 : Int) ≤ k := by omega
     obtain ⟨x1, y1, z1, e1, _, _, hpp⟩ := HS.out.c.open om
     obtain ⟨x2, y2, z2, e2, _, _, hqq⟩ := HT.out.c.open om
     cases e1
     cases e2
     obtain ⟨c0, c1, c2⟩ := chan_cells hpp k hlt
     obtain ⟨d0, d1, d2⟩ := chan_cells hqq k hlt
     have q1 : (S.chans[k].kd == S.chans[k].kd) = true := by simp
     have q2 : (S.chans[k].fr == S.chans[k].fr) = true := by simp
     have q3 : (S.chans[k].tt == S.chans[k].tt) = true := by simp
     clear hpp hqq
     go_wp2
     go_quiet (fail)
     all_goals go_wp2
     all_goals
      go_roundw
      case rel => exact ⟨k + 1, by go_num, by omega, _, rfl⟩
      case measure => simp [intOf]; omega
    ·have hli : ¬ (k : Int) < S.chans.length := by omega
     clear hlt hk
     go_wp2
     go_loopw [7] (fun i wr => ∃ k : Nat, i = .int .i64 k ∧ k ≤ S.slots.length ∧ ∃ n, wr = W.drewN n) (fun i _ => S.slots.length - (intOf i).toNat)
     case atStart => exact ⟨0, rfl, Nat.zero_le _, _, rfl⟩
     case round =>
      clear hli
      obtain ⟨k, rfl, hk, n, rfl⟩ := hrel
      by_cases hlt : k < S.slots.length
      ·have hli : (k : Int) < S.slots.length := by omega
       have h0 : (0 : Int) ≤ k := by omega
       obtain ⟨x1, y1, z1, e1, _, _, hpp⟩ := HS.out.s.open om
       obtain ⟨x2, y2, z2, e2, _, _, hqq⟩ := HT.out.s.open om
       cases e1
       cases e2
       obtain ⟨c0, c1⟩ := slot_cells hpp k hlt
       obtain ⟨d0, d1⟩ := slot_cells hqq k hlt
       have q1 : (S.slots[k].pt == S.slots[k].pt) = true := by simp
       have q2 : (S.slots[k].tk == S.slots[k].tk) = true := by simp
       clear hpp hqq
       go_wp2
       go_quiet (fail)
       all_goals go_wp2
       all_goals
        go_roundw
        case rel => exact ⟨k + 1, by go_num, by omega, _, rfl⟩
        case measure => simp [intOf]; omega
      ·have hli : ¬ (k : Int) < S.slots.length := by omega
       clear hlt hk
       go_wp2
       go_ret
       exact ⟨rfl, below_drewN HD.out _⟩
end Go.Proofs.YtehhhiodfcdnmaaGreatDoor
