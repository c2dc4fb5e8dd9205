/- conf: within, isPart; 'one', of whatever is asked. -/
import Derived.Test.YtbkdoohhdkahiaaGreatDoorJ3
import Derived.Test.YtbkdoohhdkahiaaGreatDoorJ0
import Derived.Deep.QuietTactic
import Derived.BigQuiet
namespace Go.Proofs.YtbkdoohhdkahiaaGreatDoor
set_option linter.unusedSimpArgs false
set_option linter.unusedVariables false
set_option maxHeartbeats 2000000
open Go.RowKit Go.Sort
variable {k m : Nat} {w : World} {l : List Chn} {me op : Int} {S : SysD}
theorem xei (n lo hi : Int) (w : World) : Calls Tryz.prog 125 #[.int .i64 n, .int .i64 lo, .int .i64 hi] w fun e w' => e = .returned (.bool (xaf n lo hi)) /\ w' = w := by
 by_cases h : lo <= n
 all_goals
  go_enter Tryz.func125, Tryz.ntmps125
  go_wp2
  go_ret
  exact ⟨xaw (by simp [xaf]; try omega), rfl⟩
theorem xgu (ao : Option Addr) (n cap : Nat) (vc vs : Value) (x : Int) (w : World) (hn : n <= 1000) :
  Calls Tryz.prog 130 #[.agg #[.slice ao n cap, vc, vs], .int .i64 x] w fun e w' => e = .returned (.bool (xaf x 0 ((n : Int) - 1))) /\ Below w.heap.size w w' := by
 go_enter Tryz.func130, Tryz.ntmps130
 go_wp2_with (go_at_call 125; refine (xei _ _ _ _).mono ?_; rintro e w' ⟨rfl, rfl⟩)
 go_ret
 exact ⟨rfl, up0⟩
theorem xc4 {α : Type} {l : List α} {p : α -> Bool} (h : k < l.length) (hp : p l[k] = true) : l.any p = true := by
 rw [List.any_eq_true]
 exact ⟨l[k], List.getElem_mem h, hp⟩
theorem xdp {α : Type} {l : List α} {p : α -> Bool} (h : k < l.length) (h0 : (l.take k).any p = false) (hp : p l[k] = false) : (l.take (k + 1)).any p = false := by
 rw [List.take_succ_eq_append_getElem h, List.any_append, h0]; simp [hp]
theorem xf8 {α : Type} {l : List α} {p : α -> Bool} (h : ¬ k < l.length) (h0 : (l.take k).any p = false) : l.any p = false := by
 rwa [List.take_of_length_le om] at h0
theorem xks (l : List Chn) (v : Value) (f : Nat) (hen : xav f) (caps : Array Value) (p : Chn -> Bool) (w : World) (hS : Sl w 3 v l.length (xbe chC l)) (hl : l.length <= 1000)
  (hf : ∀ k (hk : k < l.length) w1, Below w.heap.size w w1 -> Calls Tryz.prog f (#[.agg #[.int .i64 l[k].kd, .int .i64 l[k].fr, .int .i64 l[k].tt]] ++ caps) w1 fun e w2 => e = .returned (.bool (p l[k])) /\ Below w1.heap.size w1 w2) (r : Bool) (hr : l.any p = r) :
  Calls Tryz.prog 78 #[v, .func (.func f) #[] caps] w fun e w' => e = .returned (.bool r) /\ Below w.heap.size w w' := by
 obtain ⟨ao, cap, rfl⟩ := hS.form
 have HS := hd hS
 have HF := hd hf
 have HR := hd hr
 clear hS hf hr
 unfold xav at hen
 go_enter Tryz.func78, Tryz.ntmps78
 go_wp2
 go_loopw [9] (fun i wr => ∃ k : Nat, i = .int .i64 k /\ k <= l.length /\ Hid ((l.take k).any p = false) /\ Below w.heap.size w wr) (fun i _ => l.length - (intOf i).toNat)
 case atStart => exact ⟨0, rfl, Nat.zero_le _, (show ((l.take 0).any p = false) by simp), Below.refl _ _⟩
 case round =>
  obtain ⟨k, rfl, hk, HZ, hbel⟩ := hrel
  by_cases hlt : k < l.length
  .have hli : (k : Int) < l.length := by omega
   obtain ⟨b, off, cap', e1, hcap, hbw, hc⟩ := HS.out.open om
   cases e1
   obtain ⟨c0, c1, c2⟩ := xbt hc k hlt
   have c0 := bcl hbel hbw c0
   have c1 := bcl hbel hbw c1
   have c2 := bcl hbel hbw c2
   have HC := hd (HF.out k hlt)
   generalize hq : p l[k] = q at HC
   have HQ := hd hq
   clear hc hq
   go_wp2_with fail
   refine (HC.out _ (hbel.alloc hbel.size _)).mono ?_
   rintro e w2 ⟨rfl, bb⟩
   have D := hd ((hbel.alloc hbel.size _).trans (bb.mono (by have := hbel.size; simp; omega)))
   clear bb HC c0 c1 c2
   cases q
   .have HZ1 := hd (xdp hlt HZ.out HQ.out)
    go_wp2
    go_roundw
    case rel => exact ⟨k + 1, by go_num, by omega, HZ1, D.out⟩
    case measure => simp [intOf]; omega
   .have HZ1 := hd (xc4 hlt HQ.out)
    go_wp2
    go_ret
    exact ⟨xaw (by rw [<- HR.out, HZ1.out]), D.out⟩
  .have hli : ¬ (k : Int) < l.length := by omega
   have HZ1 := hd (xf8 hlt HZ.out)
   go_wp2
   go_ret
   exact ⟨xaw (by rw [<- HR.out, HZ1.out]), hbel⟩
theorem xq0 (l : List Slt) (v : Value) (f : Nat) (hen : xav f) (caps : Array Value) (p : Slt -> Bool) (w : World) (hS : Sl w 2 v l.length (xbe slC l)) (hl : l.length <= 1000)
  (hf : ∀ k (hk : k < l.length) w1, Below w.heap.size w w1 -> Calls Tryz.prog f (#[.agg #[.int .i64 l[k].pt, .int .i64 l[k].tk]] ++ caps) w1 fun e w2 => e = .returned (.bool (p l[k])) /\ Below w1.heap.size w1 w2) (r : Bool) (hr : l.any p = r) :
  Calls Tryz.prog 131 #[v, .func (.func f) #[] caps] w fun e w' => e = .returned (.bool r) /\ Below w.heap.size w w' := by
 obtain ⟨ao, cap, rfl⟩ := hS.form
 have HS := hd hS
 have HF := hd hf
 have HR := hd hr
 clear hS hf hr
 unfold xav at hen
 go_enter Tryz.func131, Tryz.ntmps131
 go_wp2
 go_loopw [9] (fun i wr => ∃ k : Nat, i = .int .i64 k /\ k <= l.length /\ Hid ((l.take k).any p = false) /\ Below w.heap.size w wr) (fun i _ => l.length - (intOf i).toNat)
 case atStart => exact ⟨0, rfl, Nat.zero_le _, (show ((l.take 0).any p = false) by simp), Below.refl _ _⟩
 case round =>
  obtain ⟨k, rfl, hk, HZ, hbel⟩ := hrel
  by_cases hlt : k < l.length
  .have hli : (k : Int) < l.length := by omega
   obtain ⟨b, off, cap', e1, hcap, hbw, hc⟩ := HS.out.open om
   cases e1
   obtain ⟨c0, c1⟩ := xd9 hc k hlt
   have c0 := bcl hbel hbw c0
   have c1 := bcl hbel hbw c1
   have HC := hd (HF.out k hlt)
   generalize hq : p l[k] = q at HC
   have HQ := hd hq
   clear hc hq
   go_wp2_with fail
   refine (HC.out _ (hbel.alloc hbel.size _)).mono ?_
   rintro e w2 ⟨rfl, bb⟩
   have D := hd ((hbel.alloc hbel.size _).trans (bb.mono (by have := hbel.size; simp; omega)))
   clear bb HC c0 c1
   cases q
   .have HZ1 := hd (xdp hlt HZ.out HQ.out)
    go_wp2
    go_roundw
    case rel => exact ⟨k + 1, by go_num, by omega, HZ1, D.out⟩
    case measure => simp [intOf]; omega
   .have HZ1 := hd (xc4 hlt HQ.out)
    go_wp2
    go_ret
    exact ⟨xaw (by rw [<- HR.out, HZ1.out]), D.out⟩
  .have hli : ¬ (k : Int) < l.length := by omega
   have HZ1 := hd (xf8 hlt HZ.out)
   go_wp2
   go_ret
   exact ⟨xaw (by rw [<- HR.out, HZ1.out]), hbel⟩
theorem xmz (l : List Int) (v : Value) (f : Nat) (hen : xav f) (caps : Array Value) (p : Int -> Bool) (w : World) (hS : Sl w 1 v l.length (xar l)) (hl : l.length <= 1000)
  (hf : ∀ k (hk : k < l.length) w1, Below w.heap.size w w1 -> Calls Tryz.prog f (#[.int .i64 l[k]] ++ caps) w1 fun e w2 => e = .returned (.bool (p l[k])) /\ Below w1.heap.size w1 w2) (r : Bool) (hr : l.any p = r) :
  Calls Tryz.prog 134 #[v, .func (.func f) #[] caps] w fun e w' => e = .returned (.bool r) /\ Below w.heap.size w w' := by
 obtain ⟨ao, cap, rfl⟩ := hS.form
 have HS := hd hS
 have HF := hd hf
 have HR := hd hr
 clear hS hf hr
 unfold xav at hen
 go_enter Tryz.func134, Tryz.ntmps134
 go_wp2
 go_loopw [9] (fun i wr => ∃ k : Nat, i = .int .i64 k /\ k <= l.length /\ Hid ((l.take k).any p = false) /\ Below w.heap.size w wr) (fun i _ => l.length - (intOf i).toNat)
 case atStart => exact ⟨0, rfl, Nat.zero_le _, (show ((l.take 0).any p = false) by simp), Below.refl _ _⟩
 case round =>
  obtain ⟨k, rfl, hk, HZ, hbel⟩ := hrel
  by_cases hlt : k < l.length
  .have hli : (k : Int) < l.length := by omega
   obtain ⟨b, off, cap', e1, hcap, hbw, hc⟩ := HS.out.open om
   cases e1
   have c0 := bcl hbel hbw (hc k _ (xgg l k hlt))
   have HC := hd (HF.out k hlt)
   generalize hq : p l[k] = q at HC
   have HQ := hd hq
   clear hc hq
   go_wp2_with fail
   refine (HC.out _ hbel).mono ?_
   rintro e w2 ⟨rfl, bb⟩
   have D := hd (hbel.trans (bb.mono hbel.size))
   clear bb HC c0
   cases q
   .have HZ1 := hd (xdp hlt HZ.out HQ.out)
    go_wp2
    go_roundw
    case rel => exact ⟨k + 1, by go_num, by omega, HZ1, D.out⟩
    case measure => simp [intOf]; omega
   .have HZ1 := hd (xc4 hlt HQ.out)
    go_wp2
    go_ret
    exact ⟨xaw (by rw [<- HR.out, HZ1.out]), D.out⟩
  .have hli : ¬ (k : Int) < l.length := by omega
   have HZ1 := hd (xf8 hlt HZ.out)
   go_wp2
   go_ret
   exact ⟨xaw (by rw [<- HR.out, HZ1.out]), hbel⟩
theorem xr3 (l : List Prt) (v : Value) (f : Nat) (hen : xav f) (caps : Array Value) (p : Prt -> Bool) (w : World) (hS : PartsR w v l) (hl : l.length <= 1000)
  (hf : ∀ k (hk : k < l.length) c i w1, PrtR w c i l[k] -> Below w.heap.size w w1 -> Calls Tryz.prog f (#[.agg #[c, i]] ++ caps) w1 fun e w2 => e = .returned (.bool (p l[k])) /\ Below w1.heap.size w1 w2) (r : Bool) (hr : l.any p = r) :
  Calls Tryz.prog 126 #[v, .func (.func f) #[] caps] w fun e w' => e = .returned (.bool r) /\ Below w.heap.size w w' := by
 obtain ⟨ao, cap, rfl⟩ := hS.form
 have HS := hd hS
 have HF := hd hf
 have HR := hd hr
 clear hS hf hr
 unfold xav at hen
 go_enter Tryz.func126, Tryz.ntmps126
 go_wp2
 go_loopw [9] (fun i wr => ∃ k : Nat, i = .int .i64 k /\ k <= l.length /\ Hid ((l.take k).any p = false) /\ Below w.heap.size w wr) (fun i _ => l.length - (intOf i).toNat)
 case atStart => exact ⟨0, rfl, Nat.zero_le _, (show ((l.take 0).any p = false) by simp), Below.refl _ _⟩
 case round =>
  obtain ⟨k, rfl, hk, HZ, hbel⟩ := hrel
  by_cases hlt : k < l.length
  .have hli : (k : Int) < l.length := by omega
   obtain ⟨b, off, cap', e1, hcap, hbw, hc⟩ := HS.out.open om
   cases e1
   obtain ⟨c, i, c0, c1, hpr⟩ := hc k hlt
   obtain ⟨ca, cc, rfl⟩ := hpr.code.form
   obtain ⟨ia, ic, rfl⟩ := hpr.inn.form
   have c0 := bcl hbel hbw c0
   have c1 := bcl hbel hbw c1
   have HC := hd (fun w1 => HF.out k hlt _ _ w1 hpr)
   generalize hq : p l[k] = q at HC
   have HQ := hd hq
   clear hc hq hpr
   go_wp2_with fail
   refine (HC.out _ (hbel.alloc hbel.size _)).mono ?_
   rintro e w2 ⟨rfl, bb⟩
   have D := hd ((hbel.alloc hbel.size _).trans (bb.mono (by have := hbel.size; simp; omega)))
   clear bb HC c0 c1
   cases q
   .have HZ1 := hd (xdp hlt HZ.out HQ.out)
    go_wp2
    go_roundw
    case rel => exact ⟨k + 1, by go_num, by omega, HZ1, D.out⟩
    case measure => simp [intOf]; omega
   .have HZ1 := hd (xc4 hlt HQ.out)
    go_wp2
    go_ret
    exact ⟨xaw (by rw [<- HR.out, HZ1.out]), D.out⟩
  .have hli : ¬ (k : Int) < l.length := by omega
   have HZ1 := hd (xf8 hlt HZ.out)
   go_wp2
   go_ret
   exact ⟨xaw (by rw [<- HR.out, HZ1.out]), hbel⟩
theorem app0 (a : Value) : #[a] ++ (#[] : Array Value) = #[a] := by simp
theorem app1 (a b : Value) : #[a] ++ #[b] = #[a, b] := by simp
theorem app2 (a b c : Value) : #[a] ++ #[b, c] = #[a, b, c] := by simp
structure Box (w : World) (g : Nat) (vp vc vs : Value) : Prop where
 p : w.cell? ⟨g, 0, none⟩ = some vp
 c : w.cell? ⟨g, 1, none⟩ = some vc
 s : w.cell? ⟨g, 2, none⟩ = some vs
 lt : g < w.heap.size
theorem Box.up {w' : World} {g : Nat} {vp vc vs : Value} (h : Box w g vp vc vs) (hb : Below w.heap.size w w') : Box w' g vp vc vs :=
 ⟨bcl hb h.lt h.p, bcl hb h.lt h.c, bcl hb h.lt h.s, Nat.lt_of_lt_of_le h.lt hb.size⟩
theorem xci (w : World) (vp vc vs : Value) (t : TypeId) (g : Nat) (hg : g = w.heap.size) : Box (w.alloc (.cells #[vp, vc, vs] t)) g vp vc vs := by
 subst hg
 exact ⟨by simp, by simp, by simp, by simp⟩
theorem xq9 (c : Chn) (w : World) : Calls Tryz.prog 79 #[.agg #[.int .i64 c.kd, .int .i64 c.fr, .int .i64 c.tt]] w fun e w' => e = .returned (.bool (xb4 c)) /\ Below w.heap.size w w' := by
 generalize h1 : (c.kd != 1) = q1
 generalize h2 : (c.kd != 2) = q2
 have HE : Hid (xb4 c = (q1 && q2)) := by show xb4 c = _; unfold xb4; rw [h1, h2]
 cases q1 <;> cases q2
 all_goals
  go_enter Tryz.func79, Tryz.ntmps79
  go_wp2
  go_ret
  exact ⟨xaw (by rw [HE.out]; rfl), up0⟩
theorem xoc (ca : Option Addr) (cn cc : Nat) (ia : Option Addr) (n ic : Nat) (w : World) : Calls Tryz.prog 127 #[.agg #[.slice ca cn cc, .slice ia n ic]] w fun e w' => e = .returned (.bool (decide (12 < n))) /\ Below w.heap.size w w' := by
 by_cases h : 12 < n
 all_goals
  go_enter Tryz.func127, Tryz.ntmps127
  go_wp2
  go_ret
  exact ⟨xaw so, up0⟩
theorem xoj (c : Chn) (g : Nat) (ao : Option Addr) (n cap : Nat) (vc vs : Value) (w : World) (hn : n <= 1000) (hB : Box w g (.slice ao n cap) vc vs) (hc : ∃ a b d, vc = .slice a b d) (hs : ∃ a b d, vs = .slice a b d) :
  Calls Tryz.prog 129 #[.agg #[.int .i64 c.kd, .int .i64 c.fr, .int .i64 c.tt], .pointer (some ⟨g, 0, none⟩)] w fun e w' => e = .returned (.bool (xb5 n c)) /\ Below w.heap.size w w' := by
 obtain ⟨a1, b1, d1, rfl⟩ := hc
 obtain ⟨a2, b2, d2, rfl⟩ := hs
 generalize h1 : xaf c.fr 0 ((n : Int) - 1) = q1
 generalize h2 : xaf c.tt 0 ((n : Int) - 1) = q2
 generalize h3 : (c.fr == c.tt) = q3
 have HE : Hid (xb5 n c = (!q1 || !q2 || q3)) := by show xb5 n c = _; unfold xb5; rw [h1, h2, h3]
 have H1 := hd h1
 have H2 := hd h2
 have HB := hd hB
 have k0 := (HB.out.up (w' := w.alloc (.cells #[.int .i64 c.kd, .int .i64 c.fr, .int .i64 c.tt] 126)) ((Below.refl _ _).alloc (Nat.le_refl _) _)).p
 have k1 := (HB.out.up (w' := w.alloc (.cells #[.int .i64 c.kd, .int .i64 c.fr, .int .i64 c.tt] 126)) ((Below.refl _ _).alloc (Nat.le_refl _) _)).c
 have k2 := (HB.out.up (w' := w.alloc (.cells #[.int .i64 c.kd, .int .i64 c.fr, .int .i64 c.tt] 126)) ((Below.refl _ _).alloc (Nat.le_refl _) _)).s
 clear h1 h2 hB
 have hlt := HB.out.lt
 cases q1
 .go_enter Tryz.func129, Tryz.ntmps129
  go_wp2_with fail
  refine (xgu ao n cap _ _ c.fr _ hn).mono ?_
  rw [H1.out]
  rintro e w1 ⟨rfl, bb⟩
  have D := hd (Below.trans (show Below w.heap.size w _ from up0) (bb.mono (by simp)))
  clear bb
  go_wp2
  go_ret
  exact ⟨xaw (by rw [HE.out]; rfl), D.out⟩
 .go_enter Tryz.func129, Tryz.ntmps129
  go_wp2_with fail
  refine (xgu ao n cap _ _ c.fr _ hn).mono ?_
  rw [H1.out]
  rintro e w1 ⟨rfl, bb⟩
  have D := hd (Below.trans (show Below w.heap.size w _ from up0) (bb.mono (by simp)))
  have k0 := (HB.out.up D.out).p
  have k1 := (HB.out.up D.out).c
  have k2 := (HB.out.up D.out).s
  have m0 : w1.cell? ⟨w.heap.size, 0, none⟩ = some (.int .i64 c.kd) := bcl bb (by simp) (by simp)
  have m1 : w1.cell? ⟨w.heap.size, 1, none⟩ = some (.int .i64 c.fr) := bcl bb (by simp) (by simp)
  have m2 : w1.cell? ⟨w.heap.size, 2, none⟩ = some (.int .i64 c.tt) := bcl bb (by simp) (by simp)
  have z1 : w.heap.size < w1.heap.size := by have := bb.size; simp at this; omega
  clear bb
  go_wp2_with fail
  refine (xgu ao n cap _ _ c.tt _ hn).mono ?_
  rw [H2.out]
  rintro e w2 ⟨rfl, bb⟩
  have m1 : w2.cell? ⟨w.heap.size, 1, none⟩ = some (.int .i64 c.fr) := bcl bb z1 m1
  have m2 : w2.cell? ⟨w.heap.size, 2, none⟩ = some (.int .i64 c.tt) := bcl bb z1 m2
  have D := hd (D.out.trans (bb.mono (Nat.le_of_lt z1)))
  clear bb k0 k1 k2 m0 z1
  cases q2
  .go_wp2
   go_ret
   exact ⟨xaw (by rw [HE.out]; rfl), D.out⟩
  .cases q3
   all_goals
    go_wp2
    go_ret
    exact ⟨xaw (by rw [HE.out]; rfl), D.out⟩
theorem xqm (c : Slt) (g : Nat) (ao : Option Addr) (n cap : Nat) (vc vs : Value) (w : World) (hn : n <= 1000) (hB : Box w g (.slice ao n cap) vc vs) (hc : ∃ a b d, vc = .slice a b d) (hs : ∃ a b d, vs = .slice a b d) :
  Calls Tryz.prog 132 #[.agg #[.int .i64 c.pt, .int .i64 c.tk], .pointer (some ⟨g, 0, none⟩)] w fun e w' => e = .returned (.bool (xcm n c)) /\ Below w.heap.size w w' := by
 obtain ⟨a1, b1, d1, rfl⟩ := hc
 obtain ⟨a2, b2, d2, rfl⟩ := hs
 generalize h1 : xaf c.pt 0 ((n : Int) - 1) = q1
 generalize h2 : xaf c.tk 1 8 = q2
 have HE : Hid (xcm n c = (!q1 || !q2)) := by show xcm n c = _; unfold xcm; rw [h1, h2]
 have H1 := hd h1
 have H2 := hd h2
 have HB := hd hB
 have k0 := (HB.out.up (w' := w.alloc (.cells #[.int .i64 c.pt, .int .i64 c.tk] 128)) ((Below.refl _ _).alloc (Nat.le_refl _) _)).p
 have k1 := (HB.out.up (w' := w.alloc (.cells #[.int .i64 c.pt, .int .i64 c.tk] 128)) ((Below.refl _ _).alloc (Nat.le_refl _) _)).c
 have k2 := (HB.out.up (w' := w.alloc (.cells #[.int .i64 c.pt, .int .i64 c.tk] 128)) ((Below.refl _ _).alloc (Nat.le_refl _) _)).s
 clear h1 h2 hB
 have hlt := HB.out.lt
 go_enter Tryz.func132, Tryz.ntmps132
 go_wp2_with fail
 refine (xgu ao n cap _ _ c.pt _ hn).mono ?_
 rw [H1.out]
 rintro e w1 ⟨rfl, bb⟩
 have D := hd (Below.trans (show Below w.heap.size w _ from up0) (bb.mono (by simp)))
 have m1 : w1.cell? ⟨w.heap.size, 1, none⟩ = some (.int .i64 c.tk) := bcl bb (by simp) (by simp)
 clear bb k0 k1 k2
 cases q1
 .go_wp2
  go_ret
  exact ⟨xaw (by rw [HE.out]; rfl), D.out⟩
 .go_wp2_with fail
  refine (xei c.tk 1 8 _).mono ?_
  rw [H2.out]
  rintro e w2 ⟨rfl, rfl⟩
  cases q2
  all_goals
   go_wp2
   go_ret
   exact ⟨xaw (by rw [HE.out]; rfl), D.out⟩
theorem below_drewN {B : Nat} {a : World} (h : Below B a w) (n : Nat) : Below B a (w.drewN n) := ⟨h.os, h.tape, h.output, h.size, h.block⟩
theorem xz0 : xav 79 := xa8 Tryz.func79 kr kr
theorem xxq : xav 127 := xa8 Tryz.func127 kr kr
theorem xyo : xav 129 := xa8 Tryz.func129 kr kr
theorem xzc : xav 132 := xa8 Tryz.func132 kr kr
theorem x1i : xav 135 := xa8 Tryz.func135 kr kr
theorem x0z : xav 137 := xa8 Tryz.func137 kr kr
theorem xmc (S : SysD) (vp vc vs : Value) (w : World) (hS : Sys w vp vc vs S) : Calls Tryz.prog 76 #[.agg #[vp, vc, vs]] w fun e w' => e = .returned (.bool (xbd S)) /\ Below w.heap.size w w' := by
 obtain ⟨pa, pc, rfl⟩ := hS.p.form
 obtain ⟨ca, cc, rfl⟩ := hS.c.form
 obtain ⟨sa, sc, rfl⟩ := hS.s.form
 generalize h1 : xaf (S.parts.length : Int) 1 4 = q1
 generalize h3 : xaf (S.slots.length : Int) 1 6 = q3
 generalize h4 : (S.parts.any fun p => decide (12 < p.inn.length)) = q4
 have H1 := hd h1
 have H3 := hd h3
 have H4 := hd h4
 have HS := hd hS
 by_cases h2 : S.chans.length <= 6
 .have h2' : (S.chans.length : Int) <= 6 := by omega
  have HE : Hid (xbd S = (q1 && q3 && !q4)) := by
   show xbd S = _
   unfold xbd
   rw [h4, <- h1, <- h3]
   unfold xaf
   congr 1
   rw [Bool.eq_iff_iff]
   simp; omega
  have HP : q1 = true -> S.parts.length <= 1000 := fun e => by subst e; unfold xaf at h1; simp at h1; omega
  clear h1 h3 h4 hS
  go_enter Tryz.func76, Tryz.ntmps76
  go_wp2_with fail
  refine (xei _ _ _ _).mono ?_
  rw [H1.out]
  rintro e w1 ⟨rfl, rfl⟩
  cases q1
  .go_wp2
   go_ret
   exact ⟨xaw (by rw [HE.out]; rfl), up0⟩
  .have hp := HP rfl
   clear HP
   go_wp2_with fail
   refine (xei _ _ _ _).mono ?_
   rw [H3.out]
   rintro e w1 ⟨rfl, rfl⟩
   cases q3
   .go_wp2
    go_ret
    exact ⟨xaw (by rw [HE.out]; rfl), up0⟩
   .go_wp2_with fail
    refine (xr3 S.parts _ _ xxq #[] (fun p => decide (12 < p.inn.length)) _ (HS.out.p.up up0) hp (fun k hk c i w1 hpr _ => ?_) q4 H4.out).mono ?_
    .obtain ⟨a1, b1, rfl⟩ := hpr.code.form
     obtain ⟨a2, b2, rfl⟩ := hpr.inn.form
     rw [app0]
     exact xoc _ _ _ _ _ _ _
    rintro e w2 ⟨rfl, bb⟩
    have D := hd (Below.trans (show Below w.heap.size w _ from up0) (bb.mono (by simp)))
    clear bb
    cases q4
    all_goals
     go_wp2
     go_ret
     exact ⟨xaw (by rw [HE.out]; rfl), D.out⟩
 .have h2' : ¬ (S.chans.length : Int) <= 6 := by omega
  have HE : Hid (xbd S = false) := by
   show xbd S = _
   unfold xbd
   simp; omega
  clear h1 h3 h4 hS
  go_enter Tryz.func76, Tryz.ntmps76
  go_wp2_with fail
  refine (xei _ _ _ _).mono ?_
  rw [H1.out]
  rintro e w1 ⟨rfl, rfl⟩
  cases q1
  all_goals
   go_wp2
   go_ret
   exact ⟨xaw (by rw [HE.out]), up0⟩
theorem xuy (S : SysD) (vp vc vs : Value) (w : World) (hS : Sys w vp vc vs S) (hc : xbd S = true) : Calls Tryz.prog 80 #[.agg #[vp, vc, vs]] w fun e w' => e = .returned (.bool (xby S)) /\ Below w.heap.size w w' := by
 have hn : S.parts.length <= 1000 /\ S.chans.length <= 1000 /\ S.slots.length <= 1000 := by unfold xbd at hc; simp at hc; omega
 obtain ⟨hn1, hn2, hn3⟩ := hn
 obtain ⟨pa, pc, rfl⟩ := hS.p.form
 obtain ⟨ca, cc, rfl⟩ := hS.c.form
 obtain ⟨sa, sc, rfl⟩ := hS.s.form
 generalize h1 : S.chans.any (xb5 S.parts.length) = q1
 generalize h2 : S.slots.any (xcm S.parts.length) = q2
 have HE : Hid (xby S = (!q1 && !q2)) := by show xby S = _; unfold xby; rw [h1, h2]
 have H1 := hd h1
 have H2 := hd h2
 have HS := hd hS
 clear h1 h2 hS hc
 go_enter Tryz.func80, Tryz.ntmps80
 go_wp2_with fail
 refine (xks S.chans _ _ xyo _ (xb5 S.parts.length) _ (HS.out.c.up up0) hn2 (fun k hk w1 hb => ?_) q1 H1.out).mono ?_
 .rw [app1]
  exact xoj _ _ _ _ _ _ _ _ hn1 ((xci w _ _ _ _ _ rfl).up hb) ⟨_, _, _, rfl⟩ ⟨_, _, _, rfl⟩
 rintro e w2 ⟨rfl, bb⟩
 have D := hd (Below.trans (show Below w.heap.size w _ from up0) (bb.mono (by simp)))
 have HB := hd ((xci w (.slice pa S.parts.length pc) (.slice ca S.chans.length cc) (.slice sa S.slots.length sc) 39 _ rfl).up bb)
 have k2 := HB.out.s
 clear bb
 cases q1
 .go_wp2_with fail
  refine (xq0 S.slots _ _ xzc _ (xcm S.parts.length) _ (HS.out.s.up D.out) hn3 (fun k hk w1 hb => ?_) q2 H2.out).mono ?_
  .rw [app1]
   exact xqm _ _ _ _ _ _ _ _ hn1 (HB.out.up hb) ⟨_, _, _, rfl⟩ ⟨_, _, _, rfl⟩
  rintro e w3 ⟨rfl, bb⟩
  have D := hd (D.out.trans (bb.mono D.out.size))
  clear bb
  cases q2
  all_goals
   go_wp2
   go_ret
   exact ⟨xaw (by rw [HE.out]; rfl), D.out⟩
 .go_wp2
  go_ret
  exact ⟨xaw (by rw [HE.out]; rfl), D.out⟩
theorem xvf (c : Nat) (l : List Chn) (me : Int) (g m : Nat) (vp vc vs : Value) (w : World) (hB : Box w g vp vc vs) (hm : w.cell? ⟨m, 0, none⟩ = some (.int .i64 me)) (hS : Sl w 3 vc l.length (xbe chC l)) (hc : c < 6) :
  Calls Tryz.prog 135 #[.int .i64 c, .pointer (some ⟨g, 0, none⟩), .pointer (some ⟨m, 0, none⟩)] w fun e w' => e = .returned (.bool (xdf l me c)) /\ Below w.heap.size w w' := by
 obtain ⟨ca, cc, rfl⟩ := hS.form
 have k1 := hB.c
 by_cases h : c < l.length
 .have h' : (c : Int) < l.length := by omega
  have h0 : (0 : Int) <= c := by omega
  have hd : decide ((l.length : Int) <= c) = false := by simp; omega
  obtain ⟨b, off, cap, e1, hcap, hbw, hcs⟩ := hS.open om
  cases e1
  obtain ⟨c0, c1, c2⟩ := xbt hcs c h
  generalize hq : (l[c].fr != me) = q
  have HE : Hid (xdf l me c = q) := by
   show xdf l me c = q
   unfold xdf
   rw [show ((c : Int)).toNat = c from rfl, List.getElem?_eq_getElem h]
   exact hq
  clear hcs hS hB
  go_enter Tryz.func135, Tryz.ntmps135
  go_wp2
  go_quiet (fail)
  all_goals go_wp2
  all_goals go_ret
  all_goals exact ⟨xaw (by rw [HE.out]; try simp [Nat.not_le.2 h]), by first | exact Below.refl _ _ | exact below_drewN (Below.refl _ _) _ | exact (Below.refl _ _).drew⟩
 .have h' : ¬ (c : Int) < l.length := by omega
  have hd : decide ((l.length : Int) <= c) = true := by simp; omega
  have HE : Hid (xdf l me c = true) := by
   show xdf l me c = _
   unfold xdf
   rw [show ((c : Int)).toNat = c from rfl, List.getElem?_eq_none om]
  clear hS hB h
  go_enter Tryz.func135, Tryz.ntmps135
  go_wp2
  go_quiet (fail)
  all_goals go_wp2
  all_goals go_ret
  all_goals exact ⟨xaw (by rw [HE.out]; try simp [Nat.not_le.2 h]), by first | exact Below.refl _ _ | exact below_drewN (Below.refl _ _) _ | exact (Below.refl _ _).drew⟩
theorem xvu (c : Nat) (l : List Chn) (me : Int) (g m : Nat) (vp vc vs : Value) (w : World) (hB : Box w g vp vc vs) (hm : w.cell? ⟨m, 0, none⟩ = some (.int .i64 me)) (hS : Sl w 3 vc l.length (xbe chC l)) (hc : c < 6) :
  Calls Tryz.prog 137 #[.int .i64 c, .pointer (some ⟨g, 0, none⟩), .pointer (some ⟨m, 0, none⟩)] w fun e w' => e = .returned (.bool (xdg l me c)) /\ Below w.heap.size w w' := by
 obtain ⟨ca, cc, rfl⟩ := hS.form
 have k1 := hB.c
 by_cases h : c < l.length
 .have h' : (c : Int) < l.length := by omega
  have h0 : (0 : Int) <= c := by omega
  have hd : decide ((l.length : Int) <= c) = false := by simp; omega
  obtain ⟨b, off, cap, e1, hcap, hbw, hcs⟩ := hS.open om
  cases e1
  obtain ⟨c0, c1, c2⟩ := xbt hcs c h
  generalize hq : (l[c].tt != me) = q
  have HE : Hid (xdg l me c = q) := by
   show xdg l me c = q
   unfold xdg
   rw [show ((c : Int)).toNat = c from rfl, List.getElem?_eq_getElem h]
   exact hq
  clear hcs hS hB
  go_enter Tryz.func137, Tryz.ntmps137
  go_wp2
  go_quiet (fail)
  all_goals go_wp2
  all_goals go_ret
  all_goals exact ⟨xaw (by rw [HE.out]; try simp [Nat.not_le.2 h]), by first | exact Below.refl _ _ | exact below_drewN (Below.refl _ _) _ | exact (Below.refl _ _).drew⟩
 .have h' : ¬ (c : Int) < l.length := by omega
  have hd : decide ((l.length : Int) <= c) = true := by simp; omega
  have HE : Hid (xdg l me c = true) := by
   show xdg l me c = _
   unfold xdg
   rw [show ((c : Int)).toNat = c from rfl, List.getElem?_eq_none om]
  clear hS hB h
  go_enter Tryz.func137, Tryz.ntmps137
  go_wp2
  go_quiet (fail)
  all_goals go_wp2
  all_goals go_ret
  all_goals exact ⟨xaw (by rw [HE.out]; try simp [Nat.not_le.2 h]), by first | exact Below.refl _ _ | exact below_drewN (Below.refl _ _) _ | exact (Below.refl _ _).drew⟩
theorem xp4 {l : List Ins} (h : k < (xdw l op m).length) : ∃ c : Nat, (xdw l op m)[k] = (c : Int) /\ c < m := by
 have hm := List.getElem_mem h
 unfold xdw at hm
 obtain ⟨c, hc, e⟩ := List.mem_map.1 hm
 exact ⟨c, e.symm, by simpa using (List.mem_filter.1 hc).1⟩
theorem xet (l : List Chn) : ∀ (ps : List Prt) (k j : Nat) (h : j < ps.length), xc9 l ((k + j : Nat) : Int) ps[j] = true -> xcx l k ps = false
 | p :: r, k, 0, _, hb => by
  rw [xcx, if_pos (by simpa using hb)]
 | p :: r, k, j + 1, h, hb => by
  rw [xcx]
  split
  .rfl
  .exact xet l r (k + 1) j (by simpa using h) (by rw [show k + 1 + j = k + (j + 1) by omega]; simpa using hb)
theorem xfg (l : List Chn) : ∀ (ps : List Prt) (k : Nat), (∀ j (h : j < ps.length), xc9 l ((k + j : Nat) : Int) ps[j] = false) -> xcx l k ps = true
 | [], _, _ => rfl
 | p :: r, k, hz => by
  rw [xcx, if_neg (by have := hz 0 (by simp); simpa using this)]
  exact xfg l r (k + 1) (fun j h => by rw [show k + 1 + j = k + (j + 1) by omega]; have := hz (j + 1) (by simpa using h); simpa using this)
theorem xwt (S : SysD) (vp vc vs : Value) (w : World) (he : Env w) (hS : Sys w vp vc vs S) (hc : xbd S = true) (hp : xge S.parts = 0) : Calls Tryz.prog 81 #[.agg #[vp, vc, vs]] w fun e w' => e = .returned (.bool (xg3 S)) /\ Below w.heap.size w w' := by
 have hn : 1 <= S.parts.length /\ S.parts.length <= 4 /\ S.chans.length <= 6 := by unfold xbd at hc; simp at hc; omega
 obtain ⟨hn0, hn1, hn2⟩ := hn
 obtain ⟨pb, po, pc, rfl, hpc, hpb, hpp⟩ := hS.p.open om
 obtain ⟨ca, cc, rfl⟩ := hS.c.form
 obtain ⟨sa, sc, rfl⟩ := hS.s.form
 have HS := hd hS
 have HP := hd hpp
 have HZ := hd (xhm hp)
 generalize hr : xg3 S = r
 have HR := hd hr
 clear hS hpp hp hr hc
 go_enter Tryz.func81, Tryz.ntmps81
 go_wp2
 go_loopw [12] (fun i wr => ∃ k : Nat, i = .int .i64 k /\ k <= S.parts.length /\ Hid (∀ j (h : j < S.parts.length), j < k -> xc9 S.chans (j : Int) S.parts[j] = false) /\ Hid (Box wr w.heap.size (.slice (some ⟨pb, po, none⟩) S.parts.length pc) (.slice ca S.chans.length cc) (.slice sa S.slots.length sc)) /\ Hid (Below w.heap.size w wr)) (fun i _ => S.parts.length - (intOf i).toNat)
 case atStart => exact ⟨0, rfl, Nat.zero_le _, fun j hj h => by omega, xci w _ _ _ _ _ rfl, up0⟩
 case round =>
  obtain ⟨k, rfl, hk, HN, HB, hbel⟩ := hrel
  by_cases hlt : k < S.parts.length
  .have hli : (k : Int) < S.parts.length := by omega
   obtain ⟨c, i, c0, c1, hpr⟩ := HP.out k hlt
   obtain ⟨a1, b1, rfl⟩ := hpr.code.form
   obtain ⟨a2, b2, rfl⟩ := hpr.inn.form
   have c0 := bcl hbel.out hpb c0
   have c1 := bcl hbel.out hpb c1
   have HPR := hd hpr
   have hcz := HZ.out k hlt
   have HCZ := hd hcz
   clear hpr hcz
   have hbs := hbel.out.size
   generalize hq1 : (xdw S.parts[k].code 12 6).any (xdf S.chans (k : Int)) = q1
   generalize hq2 : (xdw S.parts[k].code 13 6).any (xdg S.chans (k : Int)) = q2
   have H1 := hd hq1
   have H2 := hd hq2
   have HNB : Hid (xc9 S.chans (k : Int) S.parts[k] = (q1 || q2)) := by show xc9 _ _ _ = _; unfold xc9; rw [hq1, hq2]
   clear hq1 hq2
   have e0 := he.up hbel.out
   go_wp2_with fail
   refine (x1p S.parts[k].code _ _ (e0.up up0) ((HPR.out.code.up hbel.out).up up0) HCZ.out).mono ?_
   rintro e w1 ⟨v1, rfl, s1, bb⟩
   obtain ⟨v1a, v1c, rfl⟩ := s1.form
   have D : Below wr.heap.size wr w1 := Below.trans up0 (bb.mono so)
   have m0 : w1.cell? ⟨wr.heap.size, 0, none⟩ = some (.int .i64 k) := bcl bb so (xai _ (by simp) (by simp))
   have p0 : w1.cell? ⟨wr.heap.size + 1, 0, none⟩ = some (.slice a1 S.parts[k].code.length b1) := bcl bb (by simp) (by simp)
   have z1 : wr.heap.size + 1 < w1.heap.size := by have := bb.size; simp at this; omega
   have HD := hd D
   have M0 := hd m0
   have S1 := hd s1
   clear bb D s1 m0 c0 c1
   go_wp2_with fail
   refine (xmz _ _ _ x1i _ (xdf S.chans (k : Int)) _ S1.out (Nat.le_trans (xoy _ _ _) (by decide)) (fun j hj w2 hb => ?_) q1 H1.out).mono ?_
   .obtain ⟨c, e, hc6⟩ := xp4 hj
    rw [e, app2]
    exact xvf c S.chans k _ _ _ _ _ _ ((HB.out.up HD.out).up hb) (bcl hb om M0.out) (((HS.out.c.up hbel.out).up HD.out).up hb) hc6
   rintro e w2 ⟨rfl, bb⟩
   have p0 : w2.cell? ⟨wr.heap.size + 1, 0, none⟩ = some (.slice a1 S.parts[k].code.length b1) := bcl bb z1 p0
   have M0 := hd (bcl bb om M0.out)
   have HD := hd (HD.out.trans (bb.mono HD.out.size))
   have z1 : wr.heap.size + 1 < w2.heap.size := by have := bb.size; omega
   clear bb S1
   cases q1
   .go_wp2_with fail
    refine (x1a S.parts[k].code _ _ (e0.up HD.out) ((HPR.out.code.up hbel.out).up HD.out) HCZ.out).mono ?_
    rintro e w3 ⟨v2, rfl, s2, bb⟩
    obtain ⟨v2a, v2c, rfl⟩ := s2.form
    have M0 := hd (bcl bb om M0.out)
    have HD := hd (HD.out.trans (bb.mono HD.out.size))
    have z1 : wr.heap.size + 1 < w3.heap.size := by have := bb.size; omega
    have S2 := hd s2
    clear bb s2 p0
    go_wp2_with fail
    refine (xmz _ _ _ x0z _ (xdg S.chans (k : Int)) _ S2.out (Nat.le_trans (xoy _ _ _) (by decide)) (fun j hj w2 hb => ?_) q2 H2.out).mono ?_
    .obtain ⟨c, e, hc6⟩ := xp4 hj
     rw [e, app2]
     exact xvu c S.chans k _ _ _ _ _ _ ((HB.out.up HD.out).up hb) (bcl hb om M0.out) (((HS.out.c.up hbel.out).up HD.out).up hb) hc6
    rintro e w4 ⟨rfl, bb⟩
    have HD := hd (HD.out.trans (bb.mono HD.out.size))
    have HW := hd (hbel.out.trans (HD.out.mono hbs))
    clear bb S2
    cases q2
    .have HBB := hd (HB.out.up HD.out)
     go_wp2
     go_roundw
     case rel => exact ⟨k + 1, by go_num, by omega, (fun j hj hjk => by
      by_cases e : j = k
      .subst e; exact HNB.out
      .exact HN.out j hj om), HBB, HW⟩
     case measure => simp [intOf]; omega
    .have HF := hd (xet S.chans S.parts 0 k hlt (by rw [Nat.zero_add]; exact HNB.out))
     go_wp2
     go_ret
     exact ⟨xaw (by rw [<- HR.out]; exact HF.out.symm), HW.out⟩
   .have HW := hd (hbel.out.trans (HD.out.mono hbs))
    have HF := hd (xet S.chans S.parts 0 k hlt (by rw [Nat.zero_add]; exact HNB.out))
    go_wp2
    go_ret
    exact ⟨xaw (by rw [<- HR.out]; exact HF.out.symm), HW.out⟩
  .have hli : ¬ (k : Int) < S.parts.length := by omega
   have HF := hd (xfg S.chans S.parts 0 (fun j hj => by rw [Nat.zero_add]; exact HN.out j hj om))
   go_wp2
   go_ret
   exact ⟨xaw (by rw [<- HR.out]; exact HF.out.symm), hbel.out⟩
theorem xcc (S : SysD) (vp vc vs : Value) (w : World) (he : Env w) (hS : Sys w vp vc vs S) : Calls Tryz.prog 45 #[.agg #[vp, vc, vs]] w fun e w' => e = .returned (.int .i64 (xb3 S)) /\ Below w.heap.size w w' := by
 generalize hr : xb3 S = r
 unfold xb3 at hr
 obtain ⟨pa, pc, rfl⟩ := hS.p.form
 obtain ⟨ca, cc, rfl⟩ := hS.c.form
 obtain ⟨sa, sc, rfl⟩ := hS.s.form
 have HS := hd hS
 generalize hc : xbd S = qc at hr
 have HC := hd hc
 clear hS
 cases qc
 .obtain rfl : 2 = r := hr
  clear hc
  go_enter Tryz.func45, Tryz.ntmps45
  go_wp2_with fail
  refine (xmc S _ _ _ _ (HS.out.up up0)).mono ?_
  rw [HC.out]
  rintro e w1 ⟨rfl, bb⟩
  have D := hd (Below.trans (show Below w.heap.size w _ from up0) (bb.mono (by simp)))
  clear bb
  go_wp2
  go_ret
  exact ⟨rfl, D.out⟩
 .rw [if_neg (by decide)] at hr
  have hn : 1 <= S.parts.length /\ S.parts.length <= 4 /\ S.chans.length <= 6 := by unfold xbd at hc; simp at hc; omega
  obtain ⟨hn0, hn1, hn2⟩ := hn
  have HR := hd hr
  obtain ⟨pb, po, pc', e1, hpc, hpb, hpp⟩ := HS.out.p.open om
  cases e1
  have HP := hd hpp
  clear hr hc hpp
  go_enter Tryz.func45, Tryz.ntmps45
  go_wp2_with fail
  refine (xmc S _ _ _ _ (HS.out.up up0)).mono ?_
  rw [HC.out]
  rintro e w1 ⟨rfl, bb⟩
  have D : Below w.heap.size w w1 := (Below.trans (show Below w.heap.size w _ from up0) (bb.mono (by simp)))
  have hB := (xci w (.slice (some ⟨pb, po, none⟩) S.parts.length pc) (.slice ca S.chans.length cc) (.slice sa S.slots.length sc) 39 _ rfl).up bb
  have k0 := hB.p
  have HB := hd hB
  have HD := hd D
  clear bb D hB
  go_wp2
  go_loopw [12] (fun i wr => ∃ k : Nat, i = .int .i64 k /\ k <= S.parts.length /\ Hid (∀ j (h : j < S.parts.length), j < k -> xd3 S.parts[j].code = 0) /\ Hid (Below w1.heap.size w1 wr)) (fun i _ => S.parts.length - (intOf i).toNat)
  case atStart => exact ⟨0, rfl, Nat.zero_le _, fun j hj h => by omega, Below.refl _ _⟩
  case round =>
   obtain ⟨k, rfl, hk, HN, hbel⟩ := hrel
   have HT := hd (HD.out.trans (hbel.out.mono HD.out.size))
   have hts := HT.out.size
   by_cases hlt : k < S.parts.length
   .have hli : (k : Int) < S.parts.length := by omega
    obtain ⟨c, i, c0, c1, hpr⟩ := HP.out k hlt
    obtain ⟨a1, b1, rfl⟩ := hpr.code.form
    obtain ⟨a2, b2, rfl⟩ := hpr.inn.form
    have c0 := bcl HT.out hpb c0
    have c1 := bcl HT.out hpb c1
    have HPR := hd hpr
    clear hpr k0
    generalize hcz : xd3 S.parts[k].code = z
    have HCZ := hd hcz
    clear hcz
    have e0 := he.up HT.out
    go_wp2_with fail
    refine (xfc S.parts[k].code _ _ (e0.up up0) ((HPR.out.code.up HT.out).up up0)).mono ?_
    rw [HCZ.out]
    rintro e w2 ⟨rfl, bb⟩
    have HD2 := hd (show Below wr.heap.size wr w2 from Below.trans up0 (bb.mono (by simp)))
    clear bb c0 c1
    by_cases hz : z = 0
    .subst hz
     go_wp2
     go_roundw
     case rel => exact ⟨k + 1, by go_num, by omega, (fun j hj hjk => by
      by_cases e : j = k
      .subst e; exact HCZ.out
      .exact HN.out j hj om), hbel.out.trans (HD2.out.mono hbel.out.size)⟩
     case measure => simp [intOf]; omega
    .have hz' : (z != 0) = true := by simpa using hz
     have HF := hd (xll S.parts k hlt HN.out (by rw [HCZ.out]; exact hz))
     have HRR : Hid (r = z) := by
      show r = z
      have := HR.out
      rw [HF.out, HCZ.out, if_pos hz] at this
      exact this.symm
     clear hz
     go_wp2
     go_ret
     exact ⟨xax HRR.out.symm, HT.out.trans (HD2.out.mono hts)⟩
   .have hli : ¬ (k : Int) < S.parts.length := by omega
    have HF := hd (xec S.parts (fun j hj => HN.out j hj om))
    have HR2 := HR
    clear HR
    have HR : Hid ((if S.chans.any xb4 = true then (4 : Int) else if xby S = false then 3 else if xg3 S = false then 1 else 0) = r) := by
     have := HR2.out
     rw [HF.out, if_neg (by simp)] at this
     exact this
    have HBr := hd (HB.out.up hbel.out)
    have k0 := HBr.out.p
    have k1 := HBr.out.c
    have k2 := HBr.out.s
    generalize hq1 : S.chans.any xb4 = q1
    have H1 := hd hq1
    clear hq1 HR2 HN
    go_wp2_with fail
    refine (xks S.chans _ _ xz0 #[] xb4 _ (HS.out.c.up HT.out) om (fun k hk w1 hb => ?_) q1 H1.out).mono ?_
    .rw [app0]
     exact xq9 _ _
    rintro e w2 ⟨rfl, bb⟩
    have HT := hd (HT.out.trans (bb.mono hts))
    have hts := HT.out.size
    have HBr := hd (HBr.out.up bb)
    clear k0 k1 k2 bb
    have k0 := HBr.out.p
    have k1 := HBr.out.c
    have k2 := HBr.out.s
    cases q1
    .generalize hq2 : xby S = q2
     have H2 := hd hq2
     clear hq2
     go_wp2_with fail
     refine (xuy S _ _ _ _ (HS.out.up HT.out) HC.out).mono ?_
     rw [H2.out]
     rintro e w3 ⟨rfl, bb⟩
     have HT := hd (HT.out.trans (bb.mono hts))
     have hts := HT.out.size
     have HBr := hd (HBr.out.up bb)
     clear k0 k1 k2 bb
     have k0 := HBr.out.p
     have k1 := HBr.out.c
     have k2 := HBr.out.s
     cases q2
     .have HRR : Hid (3 = r) := by show 3 = r; have := HR.out; rw [H1.out, H2.out] at this; simpa using this
      go_wp2
      go_ret
      exact ⟨xax HRR.out, HT.out⟩
     .generalize hq3 : xg3 S = q3
      have H3 := hd hq3
      clear hq3
      go_wp2_with fail
      refine (xwt S _ _ _ _ (he.up HT.out) (HS.out.up HT.out) HC.out HF.out).mono ?_
      rw [H3.out]
      rintro e w4 ⟨rfl, bb⟩
      have HT := hd (HT.out.trans (bb.mono hts))
      have HRR : Hid ((if q3 = false then (1 : Int) else 0) = r) := by show (if q3 = false then (1 : Int) else 0) = r; have := HR.out; rw [H1.out, H2.out, H3.out] at this; simpa using this
      clear bb k0 k1 k2
      cases q3
      all_goals
       go_wp2
       go_ret
       exact ⟨xax HRR.out, HT.out⟩
    .have HRR : Hid (4 = r) := by show 4 = r; have := HR.out; rw [H1.out] at this; simpa using this
     go_wp2
     go_ret
     exact ⟨xax HRR.out, HT.out⟩
def xb9 (l : List Chn) (me : Int) (i : Ins) : Bool := (i.op == 12 && xdf l me i.n) || (i.op == 13 && xdg l me i.n)
theorem xic {l : List Ins} {c : Int} : c ∈ xdw l op m ↔ ∃ n : Nat, c = n /\ n < m /\ ∃ i ∈ l, i.op = op /\ i.n = c := by
 unfold xdw xxg
 constructor
 .intro h
  obtain ⟨n, hn, e⟩ := List.mem_map.1 h
  obtain ⟨h1, h2⟩ := List.mem_filter.1 hn
  obtain ⟨i, hi, hq⟩ := List.any_eq_true.1 h2
  simp at hq h1
  exact ⟨n, e.symm, h1, i, hi, hq.1, by rw [hq.2]; exact e⟩
 .rintro ⟨n, e, hn, i, hi, h1, h2⟩
  refine List.mem_map.2 ⟨n, List.mem_filter.2 ⟨by simpa using hn, List.any_eq_true.2 ⟨i, hi, ?_⟩⟩, e.symm⟩
  simp [h1, h2, e]
theorem xkj (l : List Chn) (me : Int) (p : Prt) (h : xd3 p.code = 0) : xc9 l me p = p.code.any (xb9 l me) := by
 have hz : ∀ i ∈ p.code, i.chk = 0 := fun i hi => by
  obtain ⟨j, hj, rfl⟩ := List.getElem_of_mem hi
  exact (xem h).2.2 j hj
 rw [Bool.eq_iff_iff]
 unfold xc9
 rw [Bool.or_eq_true, List.any_eq_true, List.any_eq_true, List.any_eq_true]
 constructor
 .rintro (⟨c, hc, hb⟩ | ⟨c, hc, hb⟩)
  .obtain ⟨n, rfl, hn, i, hi, h1, h2⟩ := xic.1 hc
   exact ⟨i, hi, by unfold xb9; rw [h1, h2, hb]; rfl⟩
  .obtain ⟨n, rfl, hn, i, hi, h1, h2⟩ := xic.1 hc
   exact ⟨i, hi, by unfold xb9; rw [h1, h2, hb]; rfl⟩
 .rintro ⟨i, hi, hb⟩
  unfold xb9 at hb
  rw [Bool.or_eq_true, Bool.and_eq_true, Bool.and_eq_true] at hb
  rcases hb with ⟨h1, h2⟩ | ⟨h1, h2⟩
  .have h1 : i.op = 12 := by simpa using h1
   have := xh8 (hz i hi) (Or.inl h1)
   exact Or.inl ⟨i.n, xic.2 ⟨i.n.toNat, by omega, by omega, i, hi, h1, rfl⟩, h2⟩
  .have h1 : i.op = 13 := by simpa using h1
   have := xh8 (hz i hi) (Or.inr h1)
   exact Or.inr ⟨i.n, xic.2 ⟨i.n.toNat, by omega, by omega, i, hi, h1, rfl⟩, h2⟩
theorem xlk (h : xbd S = false) : xb3 S = 2 := by unfold xb3; rw [if_pos h]
theorem xxx (h : xbd S = true) {k : Nat} (hk : k < S.parts.length) (hz : ∀ j (hj : j < S.parts.length), j < k -> xd3 S.parts[j].code = 0) {z : Int} (hc : xd3 S.parts[k].code = z) (h0 : z ≠ 0) : xb3 S = z := by
 have := xll S.parts k hk hz (by rw [hc]; exact h0)
 unfold xb3
 rw [if_neg (by simp [h]), this, hc, if_pos h0]
theorem xzj (h : xbd S = true) (hz : ∀ j (hj : j < S.parts.length), xd3 S.parts[j].code = 0) (hk : S.chans.any xb4 = true) : xb3 S = 4 := by
 unfold xb3
 rw [if_neg (by simp [h]), xec S.parts hz, if_neg (by simp), if_pos hk]
theorem xen (h : xbd S = true) (hz : ∀ j (hj : j < S.parts.length), xd3 S.parts[j].code = 0) (hk : S.chans.any xb4 = false) (hp : xby S = false) : xb3 S = 3 := by
 unfold xb3
 rw [if_neg (by simp [h]), xec S.parts hz, if_neg (by simp), if_neg (by simp [hk]), if_pos hp]
theorem xgs (h : xbd S = true) (hz : ∀ j (hj : j < S.parts.length), xd3 S.parts[j].code = 0) (hk : S.chans.any xb4 = false) (hp : xby S = true) (hn : xg3 S = false) : xb3 S = 1 := by
 unfold xb3
 rw [if_neg (by simp [h]), xec S.parts hz, if_neg (by simp), if_neg (by simp [hk]), if_neg (by simp [hp]), if_pos hn]
theorem x25 (h : xbd S = true) (hz : ∀ j (hj : j < S.parts.length), xd3 S.parts[j].code = 0) (hk : S.chans.any xb4 = false) (hp : xby S = true) (hn : xg3 S = true) : xb3 S = 0 := by
 unfold xb3
 rw [if_neg (by simp [h]), xec S.parts hz, if_neg (by simp), if_neg (by simp [hk]), if_neg (by simp [hp]), if_neg (by simp [hn])]
theorem xuz (h : 1 <= S.parts.length /\ S.parts.length <= 4 /\ S.chans.length <= 6 /\ 1 <= S.slots.length /\ S.slots.length <= 6) (hi : ∀ j (hj : j < S.parts.length), S.parts[j].inn.length <= 12) : xbd S = true := by
 unfold xbd
 rw [Bool.and_eq_true]
 refine ⟨by simpa using h, ?_⟩
 rw [Bool.not_eq_true', List.any_eq_false]
 intro p hp
 obtain ⟨j, hj, rfl⟩ := List.getElem_of_mem hp
 have := hi j hj
 simp; omega
theorem xq4 (h : ¬ (1 <= S.parts.length /\ S.parts.length <= 4 /\ S.chans.length <= 6 /\ 1 <= S.slots.length /\ S.slots.length <= 6)) : xbd S = false := by
 unfold xbd
 rw [Bool.and_eq_false_iff]
 exact Or.inl (by simpa using h)
theorem xrc {j : Nat} (hj : j < S.parts.length) (h : 12 < S.parts[j].inn.length) : xbd S = false := by
 unfold xbd
 rw [Bool.and_eq_false_iff]
 refine Or.inr ?_
 rw [Bool.not_eq_false']
 exact xc4 hj (by simpa using h)
theorem xe2 (h : xbd S = true) : (1 <= S.parts.length /\ S.parts.length <= 4 /\ S.chans.length <= 6 /\ 1 <= S.slots.length /\ S.slots.length <= 6) /\ ∀ j (hj : j < S.parts.length), S.parts[j].inn.length <= 12 := by
 unfold xbd at h
 rw [Bool.and_eq_true] at h
 refine ⟨by simpa using h.1, fun j hj => ?_⟩
 have h2 := h.2
 rw [Bool.not_eq_true', List.any_eq_false] at h2
 have := h2 _ (List.getElem_mem hj)
 simp at this; omega
theorem xhl (h : S.chans.any (xb5 S.parts.length) = true) : xby S = false := by unfold xby; rw [h]; rfl
theorem xlq (h : S.slots.any (xcm S.parts.length) = true) : xby S = false := by unfold xby; rw [h]; simp
theorem xqo (h1 : S.chans.any (xb5 S.parts.length) = false) (h2 : S.slots.any (xcm S.parts.length) = false) : xby S = true := by unfold xby; rw [h1, h2]; rfl
theorem xh7 (hk : k < S.parts.length) (hz : xd3 S.parts[k].code = 0) (h : S.parts[k].code.any (xb9 S.chans (k : Int)) = true) : xg3 S = false :=
 xet S.chans S.parts 0 k hk (by rw [Nat.zero_add, xkj _ _ _ hz]; exact h)
theorem xuw (hz : ∀ j (hj : j < S.parts.length), xd3 S.parts[j].code = 0) (h : ∀ k (hk : k < S.parts.length), S.parts[k].code.any (xb9 S.chans (k : Int)) = false) : xg3 S = true :=
 xfg S.chans S.parts 0 (fun j hj => by rw [Nat.zero_add, xkj _ _ _ (hz j hj)]; exact h j hj)
theorem xyu (h : m < l.length) : xdf l me (m : Int) = (l[m].fr != me) := by
 unfold xdf
 rw [show ((m : Int)).toNat = m from rfl, List.getElem?_eq_getElem h]
theorem xyy (h : ¬ m < l.length) : xdf l me (m : Int) = true := by
 unfold xdf
 rw [show ((m : Int)).toNat = m from rfl, List.getElem?_eq_none om]
theorem xzb (h : m < l.length) : xdg l me (m : Int) = (l[m].tt != me) := by
 unfold xdg
 rw [show ((m : Int)).toNat = m from rfl, List.getElem?_eq_getElem h]
theorem xwu (h : ¬ m < l.length) : xdg l me (m : Int) = true := by
 unfold xdg
 rw [show ((m : Int)).toNat = m from rfl, List.getElem?_eq_none om]
theorem xq5 (kd : Int) (w : World) : Calls Tryz.prog 105 #[.int .i64 kd] w fun e w' => e = .returned (.bool (kd == 1 || kd == 2)) /\ w' = w := by
 generalize h1 : (kd == 1) = q1
 generalize h2 : (kd == 2) = q2
 cases q1 <;> cases q2
 all_goals
  go_enter Tryz.func105, Tryz.ntmps105
  go_wp2
  go_ret
  exact ⟨rfl, rfl⟩
end Go.Proofs.YtbkdoohhdkahiaaGreatDoor
