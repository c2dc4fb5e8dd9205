/- May, the set of what is allowed, isSet. -/
import Derived.Test.YtbkdoohhdkahiaaGreatDoorJ22
namespace Go.Proofs.YtbkdoohhdkahiaaGreatDoor
set_option linter.unusedSimpArgs false
set_option linter.unusedVariables false
set_option maxRecDepth 100000
set_option maxHeartbeats 8000000
open Go.RowKit Go.Sort Go.Shelf Go.Lib Go.Maps
variable {B b g k n u : Nat} {L P : List Edg} {l : List Int} {w w' : World} {v : Value} {ss : List (List Int)} {S : SysD}
def xrg (a b : Int) (e : Edg) : Bool := e == ⟨a, b⟩
def xlx (L : List Edg) (a b : Int) : Bool := (a == b) || L.any (xrg a b)
theorem xwd {α : Type} {E : List α} {p : α -> Bool} (h : k < E.length) : (E.take (k + 1)).any p = ((E.take k).any p || p E[k]) := by
 rw [List.take_succ_eq_append_getElem h, List.any_append]
 simp
theorem x4i (L : List Edg) (hLl : L.length <= 16) (a b : Int) (vL : Value) (w : World) (hL : Sl w 2 vL L.length (xbe Edg.cells L)) :
  Calls Tryz.prog 60 #[.agg #[vL], .int .i64 a, .int .i64 b] w fun e w' => e = .returned (.bool (xlx L a b)) /\ Below w.heap.size w w' := by
 generalize hm : xlx L a b = m
 unfold xlx at hm
 obtain ⟨la, lc, rfl⟩ := hL.form
 have HL := hd hL
 have HM := hd hm
 clear hL hm
 go_enter Tryz.func60, Tryz.ntmps60
 go_wp2
 go_loopw [8, 7] (fun i f wr => ∃ k : Nat, i = .int .i64 k /\ f = .bool ((a == b) || (L.take k).any (xrg a b)) /\ k <= L.length /\ wr.cell? ⟨w.heap.size, 0, none⟩ = some (.slice la L.length lc) /\ Hid (Below w.heap.size w wr)) (fun i _ _ => L.length - (intOf i).toNat)
 case atStart => exact ⟨0, rfl, by simp, Nat.zero_le _, by simp, up0⟩
 case round =>
  obtain ⟨k, rfl, rfl, hk, hb0, HT⟩ := hrel
  by_cases hlt : k < L.length
  .have hli : (k : Int) < L.length := by omega
   have HST := hd (xwd (p := xrg a b) hlt)
   obtain ⟨pb, po, pc', e1, hpc, hpb, hpx⟩ := (HL.out.up HT.out).open om
   cases e1
   obtain ⟨c0, c1⟩ := xbq hpx k hlt
   generalize L[k] = ed at c0 c1 HST
   obtain ⟨ef, et⟩ := ed
   simp only at c0 c1
   clear hpx
   cases hfl : ((a == b) || (L.take k).any (xrg a b)) with
   | true =>
    have HS2 : Hid (((a == b) || (L.take (k + 1)).any (xrg a b)) = true) := hd (by rw [HST.out, <- Bool.or_assoc, hfl]; rfl)
    clear HST hfl
    go_wp2
    go_roundw
    case rel => exact ⟨k + 1, by go_num, by rw [HS2.out], by omega, hb0, HT⟩
    case measure => simp [intOf]; omega
   | false =>
    by_cases h1 : ef = a
    .subst h1
     by_cases h2 : et = b
     .subst h2
      have HS2 : Hid (((ef == et) || (L.take (k + 1)).any (xrg ef et)) = true) := hd (by rw [HST.out, <- Bool.or_assoc, hfl]; simp [xrg])
      clear HST hfl
      go_wp2
      go_roundw
      case rel => exact ⟨k + 1, by go_num, by rw [HS2.out], by omega, hb0, HT⟩
      case measure => simp [intOf]; omega
     .have HS2 : Hid (((ef == b) || (L.take (k + 1)).any (xrg ef b)) = false) := hd (by rw [HST.out, <- Bool.or_assoc, hfl]; simp [xrg, h2])
      have h2' : (et == b) = false := by simpa using h2
      clear HST hfl
      go_wp2
      go_roundw
      case rel => exact ⟨k + 1, by go_num, by rw [HS2.out], by omega, hb0, HT⟩
      case measure => simp [intOf]; omega
    .have HS2 : Hid (((a == b) || (L.take (k + 1)).any (xrg a b)) = false) := hd (by rw [HST.out, <- Bool.or_assoc, hfl]; simp [xrg, h1])
     have h1' : (ef == a) = false := by simpa using h1
     clear HST hfl
     go_wp2
     go_roundw
     case rel => exact ⟨k + 1, by go_num, by rw [HS2.out], by omega, hb0, HT⟩
     case measure => simp [intOf]; omega
  .have hli : ¬ (k : Int) < L.length := by omega
   have HE : Hid (((a == b) || (L.take k).any (xrg a b)) = m) := hd (by rw [List.take_of_length_le om]; exact HM.out)
   go_wp2
   go_ret
   exact ⟨xaw HE.out, HT.out⟩
theorem xrf (b n : Nat) (V : List Edg) (e : Edg) (we : e.wf) (w : World) (hM : SaysM w b n V) :
  Calls Tryz.prog 39 #[.map (some b), .int .i64 e.fr, .int .i64 e.tt] w fun r w' => r = .returned (.bool (decide (e ∈ V))) /\ Below w.heap.size w w' := by
 have HM := Lib.hid hM
 clear hM
 generalize hd : decide (e ∈ V) = d
 have HD := Lib.hid hd
 clear hd
 go_enter Tryz.func39, Tryz.ntmps39
 go_wp2_with (at_lookup; refine xla rfl _ _ rfl b n V rfl HM.out e rfl we ?_; rw [HD.out])
 go_ret
 exact ⟨rfl, up0⟩
def xfk (n : Nat) : List Edg := (List.range n).map fun (i : Nat) => ⟨i, i⟩
theorem xva (n : Nat) : xfk (n + 1) = xfk n ++ [⟨n, n⟩] := by
 unfold xfk
 rw [List.range_succ, List.map_append]
 rfl
theorem xrk {a b : Int} (ha : 0 <= a /\ a < n) : decide ((⟨a, b⟩ : Edg) ∈ xfk n ++ L) = xlx L a b := by
 unfold xlx
 by_cases h1 : a = b
 .subst h1
  have : (⟨a, a⟩ : Edg) ∈ xfk n := by
   unfold xfk
   rw [List.mem_map]
   exact ⟨a.toNat, List.mem_range.2 om, by rw [Int.toNat_of_nonneg ha.1]⟩
  simp [this]
 .have h2 : (⟨a, b⟩ : Edg) ∉ xfk n := by
   unfold xfk
   rw [List.mem_map]
   rintro ⟨i, _, e⟩
   injection e with e1 e2
   exact h1 (e1.symm.trans e2)
  have h3 : (L.any (xrg a b)) = decide ((⟨a, b⟩ : Edg) ∈ L) := by
   by_cases h : (⟨a, b⟩ : Edg) ∈ L
   .rw [decide_eq_true h, List.any_eq_true]
    exact ⟨_, h, by simp [xrg]⟩
   .rw [decide_eq_false h, List.any_eq_false]
    intro e he
    simp only [xrg, beq_iff_eq]
    exact fun e2 => h (e2 ▸ he)
  rw [h3]
  simp [h1, h2]
theorem xrj (n : Nat) (hn : n <= 4) (L : List Edg) (hLl : L.length <= 16) (hwf : ∀ e ∈ L, e.wf) (vL : Value) (w : World) (hL : Sl w 2 vL L.length (xbe Edg.cells L)) :
  Calls Tryz.prog 36 #[.int .i64 (n : Int), .agg #[vL]] w fun e w' => ∃ b, e = .returned (.map (some b)) /\ (∃ m, SaysM w' b m (xfk n ++ L)) /\ Below w.heap.size w w' := by
 obtain ⟨la, lc, rfl⟩ := hL.form
 have HL := hd hL
 have HWF := hd hwf
 clear hL hwf
 have hmm := @run_makeMap Tryz.prog
 go_enter Tryz.func36, Tryz.ntmps36
 go_wp2
 clear hmm
 go_loopw [11] (fun i wr => ∃ k : Nat, i = .int .i64 k /\ k <= n /\ Hid (SaysM wr (w.heap.size + 1) k (xfk k)) /\ wr.cell? ⟨w.heap.size, 0, none⟩ = some (.slice la L.length lc) /\ w.heap.size + 1 < wr.heap.size /\ Hid (Below w.heap.size w wr)) (fun i _ => n - (intOf i).toNat)
 case atStart => exact ⟨0, rfl, Nat.zero_le _, hd (by have := xw8 (w.alloc (.cells #[.slice la L.length lc] 27)); simpa [xfk] using this), by simp, by simp, up0⟩
 case round =>
  obtain ⟨k, rfl, hk, HM, hb0, hws, HT⟩ := hrel
  by_cases hlt : k < n
  .have hli : (k : Int) < n := by omega
   have we : (⟨k, k⟩ : Edg).wf := ⟨xdo (by simp) so, xdo (by simp) so⟩
   go_wp2_with (refine xf5 rfl _ _ _ rfl (w.heap.size + 1) k (xfk k) rfl HM.out om ⟨k, k⟩ rfl rfl we ?_)
   intro W hM hg
   have hb1 := (hg.cell_far ⟨w.heap.size, 0, none⟩ (by show w.heap.size < wr.heap.size; omega) (by simp)).trans hb0
   have HM2 : Hid (SaysM W (w.heap.size + 1) (k + 1) (xfk (k + 1))) := hd (by rw [xva]; exact hM)
   have HT2 := hd (HT.out.grown hg HT.out.size (fun q e => by cases e; omega))
   have hws2 := Nat.lt_of_lt_of_le hws hg.size
   clear hM hg HM HT hb0
   go_wp2
   go_roundw
   case rel => exact ⟨k + 1, by go_num, by omega, HM2, hb1, hws2, HT2⟩
   case measure => simp [intOf]; omega
  .have hli : ¬ (k : Int) < n := by omega
   have hkn : k = n := by omega
   subst hkn
   go_wp2
   go_loopw [23] (fun i wr => ∃ j : Nat, i = .int .i64 j /\ j <= L.length /\ Hid (SaysM wr (w.heap.size + 1) (k + j) (xfk k ++ L.take j)) /\ w.heap.size + 1 < wr.heap.size /\ Hid (Below w.heap.size w wr)) (fun i _ => L.length - (intOf i).toNat)
   case atStart => exact ⟨0, rfl, Nat.zero_le _, by simpa using HM, hws, HT⟩
   case round =>
    clear HM hb0 hws HT
    obtain ⟨j, rfl, hj, HM, hws, HT⟩ := hrel
    by_cases hjl : j < L.length
    .have hji : (j : Int) < L.length := by omega
     obtain ⟨pb, po, pc', e1, hpc, hpb, hpx⟩ := (HL.out.up HT.out).open om
     cases e1
     obtain ⟨c0, c1⟩ := xbq hpx j hjl
     have we := HWF.out _ (List.getElem_mem hjl)
     have HTK := hd (List.take_succ_eq_append_getElem hjl)
     generalize L[j] = ed at c0 c1 we HTK
     obtain ⟨ef, et⟩ := ed
     simp only at c0 c1
     clear hpx
     have HM1 := hd (HM.out.alloc (.cells #[.int .i64 ef, .int .i64 et] 53))
     go_wp2_with (refine xf5 rfl _ _ _ rfl (w.heap.size + 1) (k + j) (xfk k ++ L.take j) rfl HM1.out om ⟨ef, et⟩ rfl rfl we ?_)
     intro W hM hg
     have hsz := HT.out.size
     have HM2 : Hid (SaysM W (w.heap.size + 1) (k + (j + 1)) (xfk k ++ L.take (j + 1))) := hd (by rw [HTK.out]; first | exact hM | (rw [<- List.append_assoc]; exact hM))
     have HT2 := hd ((HT.out.alloc HT.out.size _).grown hg so (fun q e => by cases e; omega))
     have hws2 : w.heap.size + 1 < W.heap.size := Nat.lt_of_lt_of_le so hg.size
     clear hM hg HM HM1 HT
     go_wp2
     go_roundw
     case rel => exact ⟨j + 1, by go_num, by omega, HM2, hws2, HT2⟩
     case measure => simp [intOf]; omega
    .have hji : ¬ (j : Int) < L.length := by omega
     have HM2 : Hid (SaysM wr (w.heap.size + 1) (k + j) (xfk k ++ L)) := hd (by have := HM.out; rwa [List.take_of_length_le om] at this)
     go_wp2
     go_ret
     exact ⟨_, rfl, ⟨_, HM2.out⟩, HT.out⟩
def x0v (n : Nat) (l : List Int) (k : Nat) : Prop := ∀ j (h : j < l.length), j < k -> xaf l[j] 0 ((n : Int) - 1) = true /\ (∀ h0 : 0 < j, l[j - 1]'om < l[j])
theorem xt7 (h : x0v n l k) (hk : k < l.length) (h1 : xaf l[k] 0 ((n : Int) - 1) = true) (h2 : ∀ h0 : 0 < k, l[k - 1]'om < l[k]) : x0v n l (k + 1) := fun j hj hjk => by
 by_cases e : j = k
 .subst e; exact ⟨h1, h2⟩
 .exact h j hj om
def xm9 (p : Nat -> Nat -> Bool) (a : Nat) (m : Nat) : List Edg := ((List.range m).filter fun (b : Nat) => p a b).map fun (b : Nat) => ⟨a, b⟩
def xnz (p : Nat -> Nat -> Bool) (n : Nat) (k : Nat) : List Edg := (List.range k).flatMap fun a => xm9 p a n
def xee (n : Nat) (p : Nat -> Nat -> Bool) : List Edg := xnz p n n
theorem xh0 (p : Nat -> Nat -> Bool) (a m : Nat) : xm9 p a (m + 1) = xm9 p a m ++ if p a m then [⟨a, m⟩] else [] := by
 unfold xm9
 rw [List.range_succ, List.filter_append, List.map_append]
 congr 1
 by_cases h : p a m = true
 .simp [h]
 .simp [h]
theorem xgd (p : Nat -> Nat -> Bool) (n k : Nat) : xnz p n (k + 1) = xnz p n k ++ xm9 p k n := by
 unfold xnz
 rw [List.range_succ, List.flatMap_append]
 simp
theorem xsw (p : Nat -> Nat -> Bool) (a m : Nat) : (xm9 p a m).length <= m := by
 unfold xm9
 rw [List.length_map]
 refine Nat.le_trans (List.length_filter_le _ _) ?_
 simp
theorem xnt (p : Nat -> Nat -> Bool) (n : Nat) : ∀ k, (xnz p n k).length <= k * n
 | 0 => by simp [xnz]
 | k + 1 => by
  have := xnt p n k
  have := xsw p k n
  rw [xgd, List.length_append, Nat.succ_mul]
  omega
theorem xuc (n : Nat) (hn : n <= 4) (p : Nat -> Nat -> Bool) : (xee n p).length <= 16 := by
 have := xnt p n n
 have h : n * n <= 4 * 4 := Nat.mul_le_mul hn hn
 unfold xee
 omega
theorem xph (n : Nat) (hn : n <= 4) (p : Nat -> Nat -> Bool) (f : Nat) (hen : xav f) (caps : Array Value) (w : World)
  (hf : ∀ a b : Nat, a < n -> b < n -> ∀ w1, Below w.heap.size w w1 -> Calls Tryz.prog f (#[.int .i64 a, .int .i64 b] ++ caps) w1 fun e w2 => e = .returned (.bool (p a b)) /\ Below w1.heap.size w1 w2) :
  Calls Tryz.prog 37 #[.int .i64 (n : Int), .func (.func f) #[] caps] w fun e w' => ∃ v, e = .returned v /\ Sl w' 2 v (xee n p).length (xbe Edg.cells (xee n p)) /\ (∀ b, v.ownBlock = some b -> w.heap.size <= b /\ b < w'.heap.size) /\ Below w.heap.size w w' := by
 obtain ⟨i1, hi1, hy0, hy1, hy2⟩ := xaj xyx
 have HF := hd hf
 clear hf
 unfold xav at hen
 go_enter Tryz.func37, Tryz.ntmps37
 go_wp2
 go_loopw [9, 5] (fun i l wr => ∃ k : Nat, i = .int .i64 k /\ k <= n /\ Hid (wr.ownsRow w.heap.size 53 2 l (xnz p n k).length (xbe Edg.cells (xnz p n k))) /\ Hid (Below w.heap.size w wr)) (fun i _ _ => n - (intOf i).toNat)
 case atStart => exact ⟨0, rfl, Nat.zero_le _, hd (World.ownsRow_nil _ _ _ _), hd (Below.refl _ _)⟩
 case round =>
  obtain ⟨k, rfl, hk, HO, HT⟩ := hrel
  by_cases hlt : k < n
  .have hli : (k : Int) < n := by omega
   go_wp2
   go_loopw [13, 5] (fun i l wr => ∃ j : Nat, i = .int .i64 j /\ j <= n /\ Hid (wr.ownsRow w.heap.size 53 2 l (xnz p n k ++ xm9 p k j).length (xbe Edg.cells (xnz p n k ++ xm9 p k j))) /\ Hid (Below w.heap.size w wr)) (fun i _ _ => n - (intOf i).toNat)
   case atStart => exact ⟨0, rfl, Nat.zero_le _, by rw [show xm9 p k 0 = [] from rfl, List.append_nil]; exact HO, HT⟩
   case round =>
    clear HO HT
    obtain ⟨j, rfl, hj, HO, HT⟩ := hrel
    obtain ⟨a3, c3, hform⟩ := xaq HO.out
    subst hform
    by_cases hjl : j < n
    .have hji : (j : Int) < n := by omega
     have hol := xnt p n k
     have hrl := xsw p k j
     have hkn : k * n <= 3 * 4 := Nat.mul_le_mul om hn
     have hstep := xh0 p k j
     have HLL : Hid ((xnz p n k ++ xm9 p k j).length <= 16) := hd (by rw [List.length_append]; omega)
     have HST : Hid (xnz p n k ++ xm9 p k (j + 1) = (xnz p n k ++ xm9 p k j) ++ if p k j then [⟨k, j⟩] else []) := hd (by rw [hstep, List.append_assoc])
     have HC := hd (HF.out k j hlt hjl)
     generalize xnz p n k ++ xm9 p k j = L at HO HLL HST
     clear hol hrl hkn hstep
     go_wp2_with fail
     refine (HC.out _ HT.out).mono ?_
     rintro e w2 ⟨rfl, hb2⟩
     have HO2 := hd (xf3 HO.out hb2)
     have HT2 := hd (HT.out.trans (hb2.mono HT.out.size))
     clear HO HT hb2 HC
     cases hle : p k j with
     | true =>
      have HST2 := hd (HST.out.trans (by rw [if_pos hle]))
      clear HST hle
      have hw2 := HT2.out.size
      have HO3 := hd (HO2.out.alloc (.cells #[.int .i64 k, .int .i64 j] 53))
      go_wp2_with (at_builtin; refine wpList_append_lies _ rfl (.tmp 20) (.tmp 24) 25 rfl w.heap.size 53 i1 _ 2 16 Tryz.underlying25 hi1 hy0 hy1 hy2 rfl (by decide) _ L.length (xbe Edg.cells L) rfl HO3.out ⟨w2.heap.size,0,none⟩ 1 1 [.int .i64 k, .int .i64 j] rfl rfl (xbs _ _ _ _ rfl) (xi7 _ _) (by decide) (by have := HLL.out; unfold maxLen; omega) (by have := HLL.out; omega) so _ rfl ?_)
      intro g4 cap4 W4 hown hgrow hat hg4
      have HO4 : Hid (W4.ownsRow w.heap.size 53 2 (.slice (some ⟨g4, 0, none⟩) (L.length + 1) cap4) (L ++ [(⟨k, j⟩ : Edg)]).length (xbe Edg.cells (L ++ [(⟨k, j⟩ : Edg)]))) := hd (by rw [xgm, List.length_append]; exact hown)
      have HT4 := hd ((HT2.out.alloc hw2 _).grown hgrow so (fun q e => by have := xab HO3.out q e; omega))
      clear hown hgrow hat HO2 HO3 HT2
      go_wp2
      go_roundw
      case rel => exact ⟨j + 1, by go_num, by omega, by rw [HST2.out]; exact HO4, HT4⟩
      case measure => simp [intOf]; omega
     | false =>
      have HST2 := hd (HST.out.trans (by rw [hle]; simp) : _ = L)
      clear HST hle
      go_wp2
      go_roundw
      case rel => exact ⟨j + 1, by go_num, by omega, by rw [HST2.out]; exact HO2, HT2⟩
      case measure => simp [intOf]; omega
    .have hji : ¬ (j : Int) < n := by omega
     have hje : j = n := by omega
     go_wp2
     go_roundw
     case rel => exact ⟨k + 1, by go_num, by omega, by rw [xgd, <- hje]; rw [<- hje] at HO; exact HO, HT⟩
     case measure => simp [intOf]; omega
  .have hli : ¬ (k : Int) < n := by omega
   have hke : k = n := by omega
   subst hke
   go_wp2
   go_ret
   exact ⟨_, rfl, xa7 HO.out, fun b e => ⟨xab HO.out b e, (HO.out.lt b e).2⟩, HT.out⟩
theorem xnd : xav 74 := xa8 Tryz.func74 kr kr
theorem xo5 : xav 38 := xa8 Tryz.func38 kr kr
theorem xnf (n a b g : Nat) (ha : a < n) (hb : b < n) (F : Nat -> Nat -> Bool) (vm : Value) (w : World) (hg : w.cell? ⟨g, 0, none⟩ = some vm) (hM : TabR w vm F n n) :
  Calls Tryz.prog 74 #[.int .i64 (a : Int), .int .i64 (b : Int), .pointer (some ⟨g, 0, none⟩)] w fun e w' => e = .returned (.bool (F a b)) /\ w' = w := by
 obtain ⟨mb, mo, mc, rfl, hmc, hmb, hrows⟩ := hM.row om om
 obtain ⟨rb, ro, rc, hm0, hrc, hrb, hr⟩ := hrows a ha
 have hm1 := hr b hb
 have hai : (a : Int) < n := by omega
 have hbi : (b : Int) < n := by omega
 clear hrows hr hM
 go_enter Tryz.func74, Tryz.ntmps74
 go_wp2
 go_ret
 exact ⟨rfl, rfl⟩
theorem xos (n a b g g2 sb sn : Nat) (hn : n <= 4) (ha : a < n) (hb : b < n) (F : Nat -> Nat -> Bool) (L : List Edg) (vm : Value) (w : World) (hg : w.cell? ⟨g, 0, none⟩ = some vm) (hg2 : w.cell? ⟨g2, 0, none⟩ = some (.map (some sb))) (hM : TabR w vm F n n) (hSy : SaysM w sb sn (xfk n ++ L)) :
  Calls Tryz.prog 38 #[.int .i64 (a : Int), .int .i64 (b : Int), .pointer (some ⟨g, 0, none⟩), .pointer (some ⟨g2, 0, none⟩)] w fun e w' => e = .returned (.bool (F a b && !(xlx L a b))) /\ Below w.heap.size w w' := by
 obtain ⟨mb, mo, mc, rfl, hmc, hmb, hrows⟩ := hM.row om om
 obtain ⟨rb, ro, rc, hm0, hrc, hrb, hr⟩ := hrows a ha
 have hm1 := hr b hb
 have hai : (a : Int) < n := by omega
 have hbi : (b : Int) < n := by omega
 have HSY := hd hSy
 have we : (⟨a, b⟩ : Edg).wf := ⟨xdo (by simp) so, xdo (by simp) so⟩
 have HMY := hd (xrk (n := n) (L := L) (a := a) (b := b) om)
 clear hrows hr hM hSy
 cases hF : F a b with
 | false =>
  rw [hF] at hm1
  go_enter Tryz.func38, Tryz.ntmps38
  go_wp2
  go_ret
  exact ⟨rfl, Below.refl _ _⟩
 | true =>
  rw [hF] at hm1
  go_enter Tryz.func38, Tryz.ntmps38
  go_wp2_with fail
  refine (xrf sb sn (xfk n ++ L) ⟨a, b⟩ we _ HSY.out).mono ?_
  rw [HMY.out]
  rintro e w1 ⟨rfl, bb⟩
  have D := hd bb
  clear bb
  cases hmy : xlx L a b
  all_goals
   go_wp2
   go_ret
   exact ⟨xaw (by rw [hmy]; rfl), D.out⟩
def xwy (E : List Edg) (l : List Int) : Bool := !(E.any fun e => inB l e.tt && !(inB l e.fr))
def SetsR (w : World) (v : Value) (ss : List (List Int)) : Prop :=
 ∃ vs : List Value, vs.length = ss.length /\ Sl w 1 v ss.length vs /\ ∀ k (h : k < vs.length) (h' : k < ss.length), Sl w 1 vs[k] ss[k].length (xar ss[k])
theorem SetsR.up (h : SetsR w v ss) (hb : Below w.heap.size w w') : SetsR w' v ss := by
 obtain ⟨vs, h1, h2, h3⟩ := h
 exact ⟨vs, h1, h2.up hb, fun k hk hk' => (h3 k hk hk').up hb⟩
theorem SetsR.form (h : SetsR w v ss) : ∃ ao cap, v = .slice ao ss.length cap := let ⟨_, _, h2, _⟩ := h; h2.form
theorem SetsR.nil (w : World) : SetsR w (.slice none 0 0) [] := ⟨[], rfl, Sl.nil _ _, fun k h => absurd h (Nat.not_lt_zero _)⟩
theorem SetsR.open (h : SetsR w v ss) (h0 : 0 < ss.length) : ∃ b off cap, v = .slice (some ⟨b, off, none⟩) ss.length cap /\ b < w.heap.size /\ ∀ k (hk : k < ss.length), ∃ la lc, w.cell? ⟨b, off + k, none⟩ = some (.slice la ss[k].length lc) /\ Sl w 1 (.slice la ss[k].length lc) ss[k].length (xar ss[k]) := by
 obtain ⟨vs, h1, h2, h3⟩ := h
 obtain ⟨b, off, cap, rfl, hcap, hb, hc⟩ := h2.open h0
 refine ⟨b, off, cap, rfl, hb, fun k hk => ?_⟩
 have h4 := h3 k om hk
 obtain ⟨la, lc, e⟩ := h4.form
 refine ⟨la, lc, ?_, e ▸ h4⟩
 exact hc k _ (by rw [List.getElem?_eq_getElem om, e])
def xz7 (S : SysD) (L : List Edg) (l : List Int) (u : Nat) : Prop := x0v S.parts.length l l.length /\ inB l u = true /\ xwy (xcq S) l = true /\ ∀ x ∈ l, xlx L x u = true
theorem xyj (h : xiq S L = 0) : xb3 S = 0 /\ xio S.parts.length L L.length := by
 unfold xiq at h
 split at h
 .rename_i h0
  split at h
  .rename_i h1
   exact ⟨h0, x23 h1⟩
  .omega
 .rename_i h0
  exact absurd h h0
structure SetGo (S : SysD) (L : List Edg) (l : List Int) (u k : Nat) : Prop where
 up : x0v S.parts.length l k
 may : ∀ j (h : j < l.length), j < k -> xlx L l[j] u = true
 cl : ∀ j (h : j < l.length), j < k -> ∀ a : Nat, a < S.parts.length -> xbx S a l[j] = true -> inB l a = true
theorem SetGo.all (h : SetGo S L l u k) (hk : ¬ k < l.length) (hin : inB l u = true) : xz7 S L l u := by
 refine ⟨fun j hj _ => h.up j hj om, hin, ?_, fun x hx => ?_⟩
 .unfold xwy
  rw [Bool.not_eq_true', List.any_eq_false]
  intro e he
  obtain ⟨⟨f0, f1⟩, ⟨t0, t1⟩, hl⟩ := xez.1 (show (⟨e.fr, e.tt⟩ : Edg) ∈ xcq S from he)
  simp only [Bool.and_eq_true, Bool.not_eq_true', not_and]
  intro ht
  obtain ⟨j, hj, ej⟩ := List.getElem_of_mem (x22.1 ht)
  have := h.cl j hj om e.fr.toNat om (by rw [ej, Int.toNat_of_nonneg f0]; exact hl)
  rw [Int.toNat_of_nonneg f0] at this
  simp [this]
 .obtain ⟨j, hj, rfl⟩ := List.getElem_of_mem hx
  exact h.may j hj om
theorem SetGo.step (h : SetGo S L l u k) (hk : k < l.length) (h1 : xaf l[k] 0 ((S.parts.length : Int) - 1) = true) (h2 : ∀ h0 : 0 < k, l[k - 1]'om < l[k]) (h3 : xlx L l[k] u = true) (h4 : ∀ a : Nat, a < S.parts.length -> xbx S a l[k] = true -> inB l a = true) : SetGo S L l u (k + 1) := by
 refine ⟨xt7 h.up hk h1 h2, fun j hj hjk => ?_, fun j hj hjk => ?_⟩
 .by_cases e : j = k
  .subst e; exact h3
  .exact h.may j hj om
 .by_cases e : j = k
  .subst e; exact h4
  .exact h.cl j hj om
def SetsO (w : World) (g B : Nat) (ss : List (List Int)) : Prop :=
 ∃ vs : List Value, vs.length = ss.length /\ Rw w g 41 vs.toArray /\ (∀ k (h : k < vs.length) (h' : k < ss.length), w.ownsRow B 3 1 vs[k] ss[k].length (xar ss[k]) /\ ∀ b, vs[k].ownBlock = some b -> b ≠ g) /\ ∀ j k (hj : j < vs.length) (hk : k < vs.length), j ≠ k -> ∀ b, vs[j].ownBlock = some b -> vs[k].ownBlock ≠ some b
theorem SetsO.up (h : SetsO w g B ss) (hb : Below w.heap.size w w') : SetsO w' g B ss := by
 obtain ⟨vs, h1, h2, h3, h4⟩ := h
 exact ⟨vs, h1, h2.up hb h2.lt, fun k hk hk' => ⟨xf3 (h3 k hk hk').1 hb, (h3 k hk hk').2⟩, h4⟩
theorem SetsO.r (h : SetsO w g B ss) : SetsR w (.slice (some ⟨g, 0, none⟩) ss.length ss.length) ss := by
 obtain ⟨vs, h1, h2, h3, h4⟩ := h
 refine ⟨vs, h1, ⟨by omega, _, _, rfl, Nat.le_refl _, fun _ => ⟨g, 0, rfl, h2.lt, fun j u hj => ?_⟩⟩, fun k hk hk' => xa7 (h3 k hk hk').1⟩
 rw [Nat.zero_add]
 exact h2.cell (by rw [<- Array.getElem?_toList]; simpa using hj)
theorem SetsO.nw (h : SetsO w g B ss) : ∃ vs : List Value, vs.length = ss.length /\ Rw w g 41 vs.toArray /\ ∀ k (h : k < vs.length) b, vs[k].ownBlock = some b -> b < w.heap.size := by
 obtain ⟨vs, h1, h2, h3, h4⟩ := h
 exact ⟨vs, h1, h2, fun k hk b e => ((h3 k hk om).1.lt b e).2⟩
theorem xul (w : World) (n B : Nat) : SetsO (w.alloc (.cells (madeCells #[.slice none 0 0] n) 41)) w.heap.size B (List.replicate n []) := by
 refine ⟨List.replicate n (.slice none 0 0), by simp, ?_, fun k hk hk' => ?_, fun j k hj hk _ b e => ?_⟩
 .have : madeCells #[.slice none 0 0] n = (List.replicate n (Value.slice none 0 0)).toArray := by
   apply Array.ext'
   rw [toList_madeCells_one]
  rw [this]
  exact Rw.new _ _ _ rfl
 .simp only [List.getElem_replicate]
  exact ⟨World.ownsRow_nil _ _ _ _, fun b e => by cases e⟩
 .simp only [List.getElem_replicate] at e
  cases e
theorem xxm {X W5 : World} {o : Obj} {g5 cap5 : Nat} {vs : List Value} {va : Option Addr} {vcap : Nat} {z : Int} (hvl : vs.length = ss.length) (hrw : Rw X g 41 vs.toArray)
  (hvo : ∀ k (h : k < vs.length) (h' : k < ss.length), X.ownsRow B 3 1 vs[k] ss[k].length (xar ss[k]) /\ ∀ c, vs[k].ownBlock = some c -> c ≠ g) (hva : ∀ j k (hj : j < vs.length) (hk : k < vs.length), j ≠ k -> ∀ c, vs[j].ownBlock = some c -> vs[k].ownBlock ≠ some c)
  (hb : b < ss.length) (hvf : vs[b]'om = .slice va ss[b].length vcap) (hown : W5.ownsRow B 3 1 (.slice (some ⟨g5, 0, none⟩) (ss[b].length + 1) cap5) (ss[b].length + 1) (xar ss[b] ++ [.int .i64 z])) (hg : (X.alloc o).grownBy W5 (Value.slice va ss[b].length vcap).ownBlock)
  (hat : (Value.slice va ss[b].length vcap).ownBlock = some g5 \/ g5 = X.heap.size + 1) (hgB : g < B) : SetsO (W5.setCell ⟨g, b, none⟩ (.slice (some ⟨g5, 0, none⟩) (ss[b].length + 1) cap5)) g B (ss.set b (ss[b] ++ [z])) := by
 have hlt : ∀ k (h : k < vs.length) c, vs[k].ownBlock = some c -> c < X.heap.size := fun k hk c e => ((hvo k hk om).1.lt c e).2
 have hg5 : g5 ≠ g := by
  have := xab hown g5 (by simp [Value.ownBlock])
  omega
 have hgX := hrw.lt
 have hng : some g ≠ (Value.slice va ss[b].length vcap).ownBlock := fun e => (hvo b om hb).2 g (by rw [hvf]; exact e.symm) rfl
 have R5 : Rw W5 g 41 vs.toArray := (hg.block g so hng).trans (hrw.alloc _)
 refine ⟨vs.set b (.slice (some ⟨g5, 0, none⟩) (ss[b].length + 1) cap5), by simp [hvl], ?_, fun k hk hk' => ?_, fun j k hj hk hjk c e => ?_⟩
 .have := R5.set b (.slice (some ⟨g5, 0, none⟩) (ss[b].length + 1) cap5)
  simpa using this
 .by_cases e : b = k
  .subst e
   simp only [List.getElem_set_self]
   refine ⟨?_, fun c e => by simp [Value.ownBlock] at e; omega⟩
   have h1 : W5.ownsRow B 3 1 (.slice (some ⟨g5, 0, none⟩) (ss[b].length + 1) cap5) (ss[b] ++ [z]).length (xar (ss[b] ++ [z])) := by simpa [xar] using hown
   exact xa2 h1 _ (by simp [Value.ownBlock]; omega)
  .simp only [List.getElem_set_ne e]
   have hk1 : k < vs.length := by simpa using hk
   have hk2 : k < ss.length := by simpa using hk'
   obtain ⟨h1, h2⟩ := hvo k hk1 hk2
   refine ⟨xa2 ((h1.alloc o).kept hg ?_) _ (fun e2 => h2 g e2 rfl), h2⟩
   cases e3 : vs[k].ownBlock with
   | none => exact .inl rfl
   | some c => exact .inr (fun e4 => hva k b hk1 om (Ne.symm e) c e3 (by rw [hvf]; exact e4.symm))
 .have hj1 : j < vs.length := by simpa using hj
  have hk1 : k < vs.length := by simpa using hk
  have far : ∀ q (hq : q < vs.length), q ≠ b -> ∀ c, vs[q].ownBlock = some c -> c ≠ g5 := fun q hq hqb c e1 e2 => by
   subst e2
   rcases hat with hat | hat
   .exact hva q b hq om hqb c e1 (by rw [hvf]; exact hat)
   .have := hlt q hq c e1
    omega
  by_cases e1 : b = j
  .subst e1
   have e2 : b ≠ k := hjk
   simp only [List.getElem_set_self, Value.ownBlock] at e
   simp only [List.getElem_set_ne e2]
   injection e with e
   intro e4
   exact far k hk1 (Ne.symm e2) c e4 e.symm
  .simp only [List.getElem_set_ne e1] at e
   by_cases e2 : b = k
   .subst e2
    simp only [List.getElem_set_self, Value.ownBlock]
    intro e4
    injection e4 with e4
    exact far j hj1 (Ne.symm e1) c e e4.symm
   .simp only [List.getElem_set_ne e2]
    exact hva j k hj1 hk1 hjk c e
def SetsF (B : Nat) (w : World) (v : Value) (ss : List (List Int)) : Prop :=
 ∃ vs : List Value, vs.length = ss.length /\ Sl w 1 v ss.length vs /\ NewB B v /\ ∀ k (h : k < vs.length) (h' : k < ss.length), Sl w 1 vs[k] ss[k].length (xar ss[k]) /\ NewB B vs[k]
theorem SetsF.r (h : SetsF B w v ss) : SetsR w v ss := let ⟨vs, h1, h2, _, h4⟩ := h; ⟨vs, h1, h2, fun k hk hk' => (h4 k hk hk').1⟩
theorem SetsF.form (h : SetsF B w v ss) : ∃ ao cap, v = .slice ao ss.length cap := h.r.form
theorem SetsF.mono {B' : Nat} (h : SetsF B w v ss) (hb : B' <= B) : SetsF B' w v ss := let ⟨vs, h1, h2, h3, h4⟩ := h; ⟨vs, h1, h2, h3.mono hb, fun k hk hk' => ⟨(h4 k hk hk').1, (h4 k hk hk').2.mono hb⟩⟩
theorem SetsF.up (h : SetsF B w v ss) (hb : Below w.heap.size w w') : SetsF B w' v ss := let ⟨vs, h1, h2, h3, h4⟩ := h; ⟨vs, h1, h2.up hb, h3, fun k hk hk' => ⟨(h4 k hk hk').1.up hb, (h4 k hk hk').2⟩⟩
theorem SetsF.set (h : SetsF B w v ss) {c j : Nat} (hc : c < B) (u : Value) : SetsF B (w.setCell ⟨c, j, none⟩ u) v ss := let ⟨vs, h1, h2, h3, h4⟩ := h; ⟨vs, h1, h2.far h3 hc u, h3, fun k hk hk' => ⟨(h4 k hk hk').1.far (h4 k hk hk').2 hc u, (h4 k hk hk').2⟩⟩
theorem SetsF.nil (B : Nat) (w : World) : SetsF B w (.slice none 0 0) [] := ⟨[], rfl, Sl.nil _ _, xh9 _ _, fun k h => absurd h (Nat.not_lt_zero _)⟩
theorem SetsO.f {C : Nat} (h : SetsO w g B ss) (h1 : C <= g) (h2 : C <= B) : SetsF C w (.slice (some ⟨g, 0, none⟩) ss.length ss.length) ss := by
 obtain ⟨vs, v1, v2, v3, v4⟩ := h
 refine ⟨vs, v1, ⟨by omega, _, _, rfl, Nat.le_refl _, fun _ => ⟨g, 0, rfl, v2.lt, fun j u hj => ?_⟩⟩, xff h1, fun k hk hk' => ⟨xa7 (v3 k hk hk').1, fun c e => Nat.le_trans h2 (xab (v3 k hk hk').1 c e)⟩⟩
 rw [Nat.zero_add]
 exact v2.cell (by rw [<- Array.getElem?_toList]; simpa using hj)
def xjk (n : Nat) (P : List Edg) : List (List Int) := (List.range n).map fun (b : Nat) => (P.filter fun e => e.tt == (b : Int)).map (·.fr)
theorem xjw (n : Nat) (P : List Edg) : (xjk n P).length = n := by simp [xjk]
theorem xn4 (h : b < (xjk n P).length) : (xjk n P)[b] = (P.filter fun e => e.tt == (b : Int)).map (·.fr) := by simp [xjk]
theorem x01 (n : Nat) : xjk n [] = List.replicate n [] := by
 apply List.ext_getElem
 .simp [xjk]
 .intro j h1 h2
  simp [xjk]
theorem xzg {ef : Int} {et : Nat} (h : et < n) : xjk n (P ++ [⟨ef, et⟩]) = (xjk n P).set et ((xjk n P)[et]'(by rw [xjw]; exact h) ++ [ef]) := by
 apply List.ext_getElem
 .simp [xjk]
 .intro j h1 h2
  rw [xn4]
  by_cases e : et = j
  .subst e
   rw [List.getElem_set_self, xn4]
   simp [List.filter_append]
  .rw [List.getElem_set_ne e, xn4]
   have : ¬ ((et : Int) = (j : Int)) := by omega
   simp [List.filter_append, this]
theorem xpc : (Tryz.prog.info? 41).map (fun i => (i.zero, i.size, i.bytes)) = some (some (.slice none 0 0), 1, 24) := by kernel_rfl
theorem xtu {p : Nat -> Nat -> Bool} {e : Edg} (h : e ∈ xee n p) : ∃ a b : Nat, a < n /\ b < n /\ e = ⟨a, b⟩ /\ p a b = true := by
 unfold xee xnz at h
 obtain ⟨a, ha, h⟩ := List.mem_flatMap.1 h
 unfold xm9 at h
 obtain ⟨b, hb, rfl⟩ := List.mem_map.1 h
 obtain ⟨hb1, hb2⟩ := List.mem_filter.1 hb
 exact ⟨a, b, List.mem_range.1 ha, List.mem_range.1 hb1, rfl, hb2⟩
theorem xop (n : Nat) (hn : n <= 4) (F : Nat -> Nat -> Bool) (vm : Value) (w : World) (hM : TabR w vm F n n) :
  Calls Tryz.prog 41 #[vm] w fun e w' => ∃ v, e = .returned v /\ SetsF w.heap.size w' v (xjk n (xee n F)) /\ Below w.heap.size w w' := by
 obtain ⟨i1, hi1, hy0, hy1, hy2⟩ := xaj xrd
 obtain ⟨i2, hi2, hb0, hb1, hb2⟩ := xaj xpc
 obtain ⟨ma, mc, rfl⟩ := hM.form
 have HM := hd hM
 clear hM
 go_enter Tryz.func41, Tryz.ntmps41
 go_wp2_with (refine wpList_make_row _ rfl _ _ 44 rfl 41 i2 (.slice none 0 0) Tryz.underlying44 hi2 hb0 hb1 rfl .i64 .i64 n rfl rfl (by rw [hb2]; omega) om ?_)
 have HM1 := hd (HM.out.up (((Below.refl _ _).alloc (Nat.le_refl _) (.cells #[.slice ma n mc] 88)).alloc (by simp) (.cells (madeCells #[.slice none 0 0] n) 41)))
 have HSO := hd (fun B => xul (w.alloc (.cells #[.slice ma n mc] 88)) n B)
 have k1 : ((w.alloc (.cells #[.slice ma n mc] 88)).alloc (.cells (madeCells #[.slice none 0 0] n) 41)).cell? ⟨w.heap.size, 0, none⟩ = some (.slice ma n mc) := bcl ((Below.refl _ _).alloc (Nat.le_refl _) _) (by simp) (by simp)
 have D0 : Hid (Below w.heap.size w ((w.alloc (.cells #[.slice ma n mc] 88)).alloc (.cells (madeCells #[.slice none 0 0] n) 41))) := hd up0
 have hw0 : ((w.alloc (.cells #[.slice ma n mc] 88)).alloc (.cells (madeCells #[.slice none 0 0] n) 41)).heap.size = w.heap.size + 2 := by simp
 have hsz1 : (w.alloc (.cells #[.slice ma n mc] 88)).heap.size = w.heap.size + 1 := by simp
 rw [hsz1] at HSO
 try rw [hsz1]
 clear hsz1
 generalize ((w.alloc (.cells #[.slice ma n mc] 88)).alloc (.cells (madeCells #[.slice none 0 0] n) 41)) = W0 at HM1 HSO k1 D0 hw0 ⊢
 go_wp2_with fail
 refine (xph n hn F 74 xnd #[.pointer (some ⟨w.heap.size, 0, none⟩)] _ (fun a b ha hb w1 hbl => (xnf n a b _ ha hb F _ w1 (bcl hbl (by show w.heap.size < _; omega) k1) (HM1.out.up hbl)).mono (fun e w2 h => ⟨h.1, by rw [h.2]; exact Below.refl _ _⟩))).mono ?_
 rintro e w1 ⟨vP, rfl, hP, hPb, bb⟩
 obtain ⟨qa, qc, rfl⟩ := hP.form
 have HP := hd hP
 have HSO1 := hd ((HSO.out w1.heap.size).up bb)
 have HPB := hd hPb
 have D1 := hd (D0.out.trans (bb.mono D0.out.size))
 have hw1 : w.heap.size + 2 <= w1.heap.size := by have := bb.size; omega
 have hPl := xuc n hn F
 have HPI : Hid (∀ e ∈ xee n F, ∃ a b : Nat, a < n /\ b < n /\ e = ⟨a, b⟩ /\ F a b = true) := hd (fun e he => xtu he)
 clear hP bb HSO HM1 k1 D0 hPb
 generalize hPP : xee n F = P at HP hPl HPI HPB
 have HPP := hd hPP
 clear hPP
 have hgg0 : w.heap.size + 1 < w1.heap.size := by omega
 have hwg0 : w.heap.size < w.heap.size + 1 := by omega
 have hW2 : W0.heap.size = w.heap.size + 1 + 1 := by omega
 rw [hW2] at HPB
 clear hw0 hW2 hw1
 generalize hgg : w.heap.size + 1 = g at HSO1 HPB hgg0 hwg0 ⊢
 clear hgg
 have HPB : Hid (∀ b, (Value.slice qa P.length qc).ownBlock = some b -> g < b /\ b < w1.heap.size) := hd (fun b e => ⟨by have := (HPB.out b e).1; omega, (HPB.out b e).2⟩)
 have hw1 : w1.heap.size <= w1.heap.size := Nat.le_refl _
 have hgB : g < w1.heap.size := hgg0
 generalize hBB : w1.heap.size = B at HSO1 HPB hgB hw1 D1
 have hw1 : B <= w1.heap.size := by omega
 have hwB : w.heap.size <= B := by omega
 clear hBB hgg0
 go_wp2
 go_loopw [14] (fun i wr => ∃ k : Nat, i = .int .i64 k /\ k <= P.length /\ Hid (SetsO wr g B (xjk n (P.take k))) /\ Hid (Sl wr 2 (.slice qa P.length qc) P.length (xbe Edg.cells P)) /\ B <= wr.heap.size /\ Hid (Below w.heap.size w wr)) (fun i _ => P.length - (intOf i).toNat)
 case atStart => exact ⟨0, rfl, Nat.zero_le _, by rw [List.take_zero, x01]; exact HSO1, HP, hw1, D1⟩
 case round =>
  clear HSO1 HP D1 hw1
  obtain ⟨k, rfl, hk, HSO, HP, hw1, HT⟩ := hrel
  by_cases hlt : k < P.length
  .have hli : (k : Int) < P.length := by omega
   obtain ⟨pb, po, pc', e1, hpc, hpb, hpx⟩ := HP.out.open om
   cases e1
   obtain ⟨c0, c1⟩ := xbq hpx k hlt
   obtain ⟨ea, et, hea, het0, hee, _⟩ := HPI.out _ (List.getElem_mem hlt)
   have HTK := hd (List.take_succ_eq_append_getElem hlt)
   rw [hee] at c0 c1 HTK
   simp only at c0 c1
   clear hee hpx
   generalize hef : (ea : Int) = ef at c0 HTK
   clear hef
   have het : et < (xjk n (P.take k)).length := by rw [xjw]; exact het0
   have HSN : Hid (xjk n (P.take (k + 1)) = (xjk n (P.take k)).set et ((xjk n (P.take k))[et] ++ [ef])) := hd (by rw [HTK.out, xzg het0])
   have HLN : Hid ((xjk n (P.take k))[et].length <= 16) := hd (by
    rw [xn4, List.length_map]
    refine Nat.le_trans (List.length_filter_le _ _) ?_
    rw [List.length_take]
    omega)
   have hgl := xjw n (P.take k)
   have hti : (et : Int) < n := by omega
   have hnw : ∀ vs : List Value, Rw wr g 41 vs.toArray -> True := fun _ _ => trivial
   clear hnw HTK
   generalize xjk n (P.take k) = ss at HSO het HSN HLN hgl
   go_upto_region 5 with fail
   have HX : Hid (Below wr.heap.size wr (wr.alloc (.cells #[.int .i64 ef, .int .i64 (et : Int)] 53))) := hd ((Below.refl _ _).alloc (Nat.le_refl _) _)
   have x0 : (wr.alloc (.cells #[.int .i64 ef, .int .i64 (et : Int)] 53)).cell? ⟨wr.heap.size, 0, none⟩ = some (.int .i64 ef) := by simp
   have x1 : (wr.alloc (.cells #[.int .i64 ef, .int .i64 (et : Int)] 53)).cell? ⟨wr.heap.size, 1, none⟩ = some (.int .i64 (et : Int)) := by simp
   have hxs : wr.heap.size < (wr.alloc (.cells #[.int .i64 ef, .int .i64 (et : Int)] 53)).heap.size := by simp
   obtain ⟨vs, hvl, hrw0, hvo0, hva⟩ := HSO.out
   have HNW : Hid (∀ b, (vs[et]'om).ownBlock = some b -> b < wr.heap.size) := hd (fun b e => ((hvo0 et om om).1.lt b e).2)
   have hrw := hrw0.up HX.out hrw0.lt
   have hvo : ∀ k (h : k < vs.length) (h' : k < ss.length), (wr.alloc (.cells #[.int .i64 ef, .int .i64 (et : Int)] 53)).ownsRow B 3 1 vs[k] ss[k].length (xar ss[k]) /\ ∀ b, vs[k].ownBlock = some b -> b ≠ g := fun k h h' => ⟨xf3 (hvo0 k h h').1 HX.out, (hvo0 k h h').2⟩
   have HPX := hd (HP.out.up HX.out)
   clear hrw0 hvo0
   generalize (wr.alloc (.cells #[.int .i64 ef, .int .i64 (et : Int)] 53)) = X at HX x0 x1 hxs hrw hvo HPX ⊢
   have hcb := hrw.cell (j := et) (v := vs[et]'om) (by simp [show et < vs.length by omega])
   obtain ⟨o1, hne⟩ := hvo et om om
   have HO1 := hd o1
   have HNE := hd hne
   have HRW := hd hrw
   have HVO := hd hvo
   have HVA := hd hva
   have HVL := hd hvl
   clear hrw hvo hva o1 hne
   obtain ⟨va, vcap, hvf⟩ := xaq HO1.out
   have hgX := HRW.out.lt
   rw [hvf] at hcb
   refine xad (S := fun w' => w'.cell? ⟨wr.heap.size, 0, none⟩ = some (.int .i64 ef) /\ w'.cell? ⟨wr.heap.size, 1, none⟩ = some (.int .i64 (et : Int)) /\ w'.cell? ⟨g, et, none⟩ = some (.slice va (ss[et]'om).length vcap)) 13 kr ⟨x0, x1, hcb⟩ (fun hHeld => ?_)
   refine Still.t 0 [] hHeld ?_
   refine Still.t 1 [] hHeld ?_
   refine Still.t 2 [] hHeld ?_
   refine Still.t 3 [] hHeld ?_
   refine Still.t 4 [] hHeld ?_
   refine Still.t 5 [] hHeld ?_
   refine Still.t 6 [] hHeld ?_
   refine Still.t 7 [] hHeld ?_
   refine Still.t 8 [] hHeld ?_
   refine Still.t 9 [] hHeld ?_
   refine Still.o 10 rfl rfl (fun K hK => ?_)
   go_simp
   refine hK _ _ (fun _ => ⟨xai _ hxs x0, xai _ hxs x1, xai _ (show g < X.heap.size from hgX) hcb⟩) (fun hh => ?_)
   have hHeld := hh (by decide)
   clear hK K hh
   try simp only [Act.put, l1, l2, l3, l4, l5, l6]
   refine Still.o 11 rfl rfl (fun K hK => ?_)
   refine wp_append_lies _ (.tmp 25) (.tmp 28) 41 rfl B 3 i1 (.int .i64 0) 1 8 Tryz.underlying41 hi1 hy0 hy1 hy2 rfl (by decide) (.slice va (ss[et]'om).length vcap) (ss[et]'om).length (xar (ss[et]'om)) ev (by rw [<- hvf]; exact (HO1.out.drew).alloc _) ⟨X.heap.size, 0, none⟩ 1 1 [.int .i64 ef] ev rfl (xbs _ _ _ _ rfl) (xfe _) (by decide) (by have := HLN.out; unfold maxLen; omega) (by have := HLN.out; omega) so _ rfl ?_
   intro g5 cap5 W5 hown hgrow hat hg5
   have hb5 : ∀ c, c < X.heap.size -> (Value.slice va (ss[et]'om).length vcap).ownBlock ≠ some c -> ∀ j v, X.cell? ⟨c, j, none⟩ = some v -> W5.cell? ⟨c, j, none⟩ = some v := fun c hc hn j v hv => (hgrow.cell_far ⟨c, j, none⟩ so (fun e => hn e.symm)).trans (xai _ hc hv)
   have hnw : (Value.slice va (ss[et]'om).length vcap).ownBlock ≠ some wr.heap.size := fun e => by have := HNW.out _ (by rw [hvf]; exact e); omega
   have hng : (Value.slice va (ss[et]'om).length vcap).ownBlock ≠ some g := fun e => HNE.out _ (by rw [hvf]; exact e) rfl
   refine hK _ _ (fun _ => ⟨hb5 _ hxs hnw _ _ x0, hb5 _ hxs hnw _ _ x1, hb5 _ hgX hng _ _ hcb⟩) (fun hh => ?_)
   have hHeld := hh (by decide)
   clear hK K hh
   have R5 : Rw W5 g 41 vs.toArray := (hgrow.block g so (fun e => hng e.symm)).trans (HRW.out.drew.alloc _)
   have hfr := R5.fr et
   skip
   have HST := hd (xxm (X := X.drew) (o := .cells #[.int .i64 ef] 3) (z := ef) HVL.out HRW.out.drew (fun k h h' => ⟨(HVO.out k h h').1.drew, (HVO.out k h h').2⟩) HVA.out het hvf hown hgrow (by simpa using hat) hgB)
   have HD5 : Hid (Below B X W5) := hd (((Below.refl B X).drew.alloc (show B <= X.heap.size by omega) (.cells #[.int .i64 ef] 3)).grown hgrow so (fun q e => by have := xab HO1.out q (by rw [hvf]; exact e); omega))
   have HP5 := hd (xe7 ((HPX.out.up (Below.refl _ _).drew).up ((Below.refl _ _).alloc (Nat.le_refl _) (.cells #[.int .i64 ef] 3))) hgrow (fun c e e2 => by have h1 := (HPB.out c e).2; have h2 := xab HO1.out c (by rw [hvf]; exact e2); omega))
   clear hown hgrow hat hb5
   try simp only [Act.put, l1, l2, l3, l4, l5, l6]
   refine Still.t 12 [] hHeld ?_
   refine Still.o 13 rfl rfl (fun K hK => ?_)
   go_simp
   refine hK _ _ ab (fun _ => Still.vv ?_)
   clear hK K
   clear hHeld
   go_wp2
   go_roundw
   case rel =>
    refine ⟨k + 1, by go_num, by omega, by rw [HSN.out]; exact HST, ?_, ?_, ?_⟩
    .exact hd (HP5.out.set _ (fun e => by have := (HPB.out g e).1; omega))
    .rw [xba]
     have := HD5.out.size
     omega
    .refine hd (Below.setCell ?_ (by show w.heap.size <= g; omega) _)
     exact (HT.out.trans (HX.out.mono HT.out.size)).trans (HD5.out.mono om)
   case measure => simp [intOf]; omega
  .have hli : ¬ (k : Int) < P.length := by omega
   have HSF : Hid (SetsO wr g B (xjk n P)) := hd (by have := HSO.out; rwa [List.take_of_length_le om] at this)
   go_wp2
   go_ret
   refine ⟨.slice (some ⟨g, 0, none⟩) n n, rfl, ?_, HT.out⟩
   have := HSF.out.f (C := w.heap.size) om hwB
   rw [xjw] at this
   rw [HPP.out]
   exact this
end Go.Proofs.YtbkdoohhdkahiaaGreatDoor
