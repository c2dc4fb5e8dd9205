/- flow.edges. -/
import Derived.Test.YtehhhiodfcdnmaaGreatDoorR27
import Derived.Deep.AppendLies
import Derived.Shelf.SlSortCmp.NoneTotal
import Derived.Test.YtehhhiodfcdnmaaGreatDoorR4
import Derived.Maps.OwnOps
import Derived.Maps.OwnSet
import Derived.Test.YtehhhiodfcdnmaaGreatDoorFlShelf
namespace Go.Proofs.YtehhhiodfcdnmaaGreatDoor
set_option linter.unusedSimpArgs false
set_option linter.unusedVariables false
set_option maxRecDepth 100000
set_option maxHeartbeats 8000000
open Go.RowKit Go.Sort Go.Shelf Go.Lib
theorem sortFunc_nil (w : World) : Calls Tryz.prog 95 #[.slice none 0 0, .func (.func 96) #[] #[]] w fun e w' => e = .returned (.tuple #[]) ∧ w' = w := AnyF.slices_SortFunc_none Tryz.sortE none 0 _ w
theorem compact_nil (w : World) : Calls Tryz.prog 99 #[.slice none 0 0] w fun e w' => e = .returned (.slice none 0 0) ∧ w' = w := by
 go_enter Tryz.func99, Tryz.ntmps99
 go_wp2
 go_ret
 exact ⟨rfl, rfl⟩
def IsEdges (cs : List Chn) (l : List Edg) : Prop := ∃ r : List Edg, r.Perm (rawE cs) ∧ RiseE r ∧ l = uniqE r
theorem uniq_len : ∀ l : List Edg, (uniqE l).length ≤ l.length
 | [] => by simp [uniqE]
 | [a] => by simp [uniqE]
 | a :: b :: r => by
  have := uniq_len (b :: r)
  rw [uniqE]
  split
  ·simp at this ⊢
   omega
  ·simp at this ⊢
   omega
theorem edm_sl {w : World} {g cap : Nat} {l : List Edg} (h : EdM w g 0 l) (hcap : l.length ≤ cap) : Sl w 2 (.slice (some ⟨g, 0, none⟩) l.length cap) l.length (rowC Edg.cells l) := by
 refine ⟨by rw [rowC_len edg_len], some ⟨g, 0, none⟩, cap, rfl, hcap, fun _ => ⟨g, 0, rfl, h.lt, fun j u hj => ?_, fun j _ => let ⟨_, hc⟩ := h.1; frozen_of_row w g _ _ _ hc⟩⟩
 have hjl : j < l.length * 2 := by
  have := (List.getElem?_eq_some_iff.1 hj).1
  rwa [rowC_len edg_len] at this
 have hk : j / 2 < l.length := by omega
 have hr : j % 2 < 2 := by omega
 have hjk : j = j / 2 * 2 + j % 2 := by omega
 rw [hjk, rowC_at edg_len l (j / 2) (j % 2) hk hr] at hj
 have h2 : j % 2 = 0 ∨ j % 2 = 1 := by omega
 rcases h2 with e | e
 ·rw [e] at hj
  have := (h.2 (j / 2) hk).1
  rw [show 0 + j = 0 + j / 2 * 2 by omega, this]
  exact hj
 ·rw [e] at hj
  have := (h.2 (j / 2) hk).2
  rw [show 0 + j = 0 + j / 2 * 2 + 1 by omega, this]
  exact hj
theorem rowE_snoc (L : List Edg) (e : Edg) : rowC Edg.cells (L ++ [e]) = rowC Edg.cells L ++ [.int .i64 e.fr, .int .i64 e.tt] := by
 simp [rowC, Edg.cells]
theorem edge_grow {w wr W4 : World} {L : List Edg} {v v' : Value} {e : Edg} (HB : Below w.heap.size w wr) (HO : wr.ownsRow w.heap.size 74 2 v L.length (rowC Edg.cells L)) (hgrow : wr.grownBy W4 v.ownBlock)
  (hown : W4.ownsRow w.heap.size 74 2 v' (L.length + 1) (rowC Edg.cells L ++ [.int .i64 e.fr, .int .i64 e.tt])) :
  W4.ownsRow w.heap.size 74 2 v' (L ++ [e]).length (rowC Edg.cells (L ++ [e])) ∧ Below w.heap.size w W4 := by
 refine ⟨?_, HB.grown hgrow HB.size (own_block HO)⟩
 rw [rowE_snoc, List.length_append]
 exact hown
theorem edges_any (cs : List Chn) (v : Value) (hl : cs.length ≤ 6) (w : World) (hC : Sl w 3 v cs.length (rowC chC cs)) :
  Calls Tryz.prog 54 #[v] w fun e w' => ∃ v' l, e = .returned v' ∧ IsEdges cs l ∧ l.length ≤ 12 ∧ Sl w' 2 v' l.length (rowC Edg.cells l) ∧ Below w.heap.size w w' := by
 obtain ⟨i1, hi1, hy0, hy1, hy2⟩ := info_parts infoEdg
 obtain ⟨va, vcap, rfl⟩ := hC.form
 have HC := hd hC
 clear hC
 go_enter Tryz.func54, Tryz.ntmps54
 go_wp2
 go_loopw [8, 3] (fun i l wr => ∃ (k : Nat), i = .int .i64 k ∧ k ≤ cs.length ∧ Hid (wr.ownsRow w.heap.size 74 2 l (rawE (cs.take k)).length (rowC Edg.cells (rawE (cs.take k)))) ∧ Hid (k = 0 → l = .slice none 0 0) ∧ Hid (Below w.heap.size w wr)) (fun i _ _ => cs.length - (intOf i).toNat)
 case atStart => exact ⟨0, rfl, Nat.zero_le _, hd (World.ownsRow_nil _ _ _ _), hd (fun _ => rfl), hd (Below.refl _ _)⟩
 case round =>
  obtain ⟨k, rfl, hk, HO, HNIL, HB⟩ := hrel
  by_cases hlt : k < cs.length
  ·have hli : (k : Int) < cs.length := by omega
   have h0i : (0 : Int) ≤ k := by omega
   obtain ⟨b, off, cap, e1, hcap, hbw, hc⟩ := HC.out.open om
   cases e1
   obtain ⟨hkd, hfr, htt⟩ := chan_cells hc k hlt
   have hws := HB.out.size
   have c0 := bcl HB.out hbw hkd
   have c1 := bcl HB.out hbw hfr
   have c2 := bcl HB.out hbw htt
   have hbr : b < wr.heap.size := by omega
   have hbr' : b ≠ wr.heap.size := by omega
   have htk : rawE (cs.take (k + 1)) = rawE (cs.take k) ++ chE cs[k] := by
    rw [List.take_succ_eq_append_getElem hlt, rawE_app]
    simp [rawE]
   have hln := rawE_len (cs.take k)
   have hln2 : (cs.take k).length ≤ 6 := by simp; omega
   generalize hce : cs[k] = ch at c0 c1 c2 htk
   obtain ⟨kd, fr, tt⟩ := ch
   simp only at c0 c1 c2
   have HTK := hd htk
   obtain ⟨a3, c3, hform⟩ := own_form HO.out
   subst hform
   generalize hL : rawE (cs.take k) = L at HO HTK hln
   have HLN := hd (show L.length ≤ 12 by omega)
   have hlt' := own_lt HO.out
   have hbl' := own_block HO.out
   have HLT := hd hlt'
   have HBL := hd hbl'
   clear hkd hfr htt hc htk hln hln2 hce hL hlt' hbl' HNIL
   go_upto_region 5 with fail
   have HO2 := hd ((HO.out.alloc (.cells #[.int .i64 kd, .int .i64 fr, .int .i64 tt] 89)).alloc (.cells #[.int .i64 fr, .int .i64 tt] 74))
   have HB2 := hd ((HB.out.alloc hws (.cells #[.int .i64 kd, .int .i64 fr, .int .i64 tt] 89)).alloc so (.cells #[.int .i64 fr, .int .i64 tt] 74))
   go_upto_region 6 with (at_builtin; refine wpList_append_lies _ rfl (.tmp 12) (.tmp 18) 65 rfl w.heap.size 74 i1 _ 2 16 Tryz.underlying65 hi1 hy0 hy1 hy2 rfl (by decide) _ L.length (rowC Edg.cells L) rfl HO2.out ⟨wr.heap.size+1,0,none⟩ 1 1 [.int .i64 fr, .int .i64 tt] rfl rfl (new_rangeE _ _ _ _ (by simp)) (two_one _ _) (by decide) (by have := HLN.out; unfold maxLen; omega) (by have := HLN.out; omega) so _ rfl ?_)
   intro g4 cap4 W4 hown hgrow hat hg4
   have hx := edge_grow (e := ⟨fr, tt⟩) HB2.out HO2.out hgrow hown
   have HO4 := hd hx.1
   have HB4 := hd hx.2
   have hne : ∀ k, k = wr.heap.size → some k ≠ (Value.slice a3 L.length c3).ownBlock := fun k e e2 => by have := HLT.out k e2.symm; omega
   have d0 : W4.cell? ⟨wr.heap.size, 0, none⟩ = some (.int .i64 kd) := (hgrow.cell_far ⟨wr.heap.size, 0, none⟩ so (hne _ rfl)).trans (by simp)
   have d1 : W4.cell? ⟨wr.heap.size, 1, none⟩ = some (.int .i64 fr) := (hgrow.cell_far ⟨wr.heap.size, 1, none⟩ so (hne _ rfl)).trans (by simp)
   have d2 : W4.cell? ⟨wr.heap.size, 2, none⟩ = some (.int .i64 tt) := (hgrow.cell_far ⟨wr.heap.size, 2, none⟩ so (hne _ rfl)).trans (by simp)
   have hw4 := HB4.out.size
   have hgs := hgrow.size
   simp at hgs
   have hlt4 : wr.heap.size < W4.heap.size := by omega
   have hne4 : wr.heap.size ≠ W4.heap.size := by omega
   clear hown hgrow hat hx hne c0 c1 c2 HO HO2 HB HB2 HLT HBL
   have hlen : (L ++ [(⟨fr, tt⟩ : Edg)]).length = L.length + 1 := by simp
   rw [hlen] at HO4
   clear hlen
   by_cases h2 : kd = 2
   ·have htk2 : rawE (cs.take (k + 1)) = L ++ [⟨fr, tt⟩] ++ [⟨tt, fr⟩] := by
     rw [HTK.out]
     simp [chE, h2]
    have HTK2 := hd htk2
    clear htk2 HTK
    subst h2
    have HO5 := hd (HO4.out.alloc (.cells #[.int .i64 tt, .int .i64 fr] 74))
    have HB5 := hd (HB4.out.alloc hw4 (.cells #[.int .i64 tt, .int .i64 fr] 74))
    clear HO4 HB4
    generalize hL2 : L ++ [(⟨fr, tt⟩ : Edg)] = L2 at HO5 HTK2
    have HL2 : Hid (L2.length = L.length + 1) := by rw [← hL2]; exact hd (by simp)
    clear hL2
    go_upto_region 8 with (at_builtin; refine wpList_append_lies _ rfl (.tmp 23) (.tmp 29) 65 rfl w.heap.size 74 i1 _ 2 16 Tryz.underlying65 hi1 hy0 hy1 hy2 rfl (by decide) _ (L.length + 1) (rowC Edg.cells L2) rfl HO5.out ⟨W4.heap.size,0,none⟩ 1 1 [.int .i64 tt, .int .i64 fr] rfl rfl (new_rangeE _ _ _ _ rfl) (two_one _ _) (by decide) (by have := HLN.out; unfold maxLen; omega) (by have := HLN.out; omega) so _ rfl ?_)
    intro g5 cap5 W5 hown hgrow hat hg5
    have hx := edge_grow (L := L2) (e := ⟨tt, fr⟩) HB5.out (by rw [HL2.out]; exact HO5.out) hgrow (by rw [HL2.out]; exact hown)
    have HO6 := hd hx.1
    have HB6 := hd hx.2
    clear hown hgrow hat hx HO5 HB5 d0 d1 d2
    go_wp2
    go_roundw
    case rel => exact ⟨k + 1, by go_num, by omega, by rw [HTK2.out]; exact HO6, hd (fun e => by omega), HB6⟩
    case measure => simp [intOf]; omega
   ·have htk2 : rawE (cs.take (k + 1)) = L ++ [⟨fr, tt⟩] := by
     rw [HTK.out]
     simp [chE, h2]
    have HTK2 := hd htk2
    clear htk2 HTK
    go_wp2
    go_roundw
    case rel => exact ⟨k + 1, by go_num, by omega, by rw [HTK2.out]; exact (by rw [List.length_append]; exact HO4), hd (fun e => by omega), HB4⟩
    case measure => simp [intOf]; omega
  ·have hli : ¬ (k : Int) < cs.length := by omega
   have hkl : k = cs.length := by omega
   have hraw : cs.take k = cs := List.take_of_length_le om
   rw [hraw] at HO
   have hln := rawE_len cs
   by_cases h0 : (rawE cs).length = 0
   ·have hn0 : rawE cs = [] := List.length_eq_zero_iff.1 h0
    have hc0 : cs = [] := by
     cases cs with
     | nil => rfl
     | cons c r => simp [rawE, chE] at hn0; split at hn0 <;> simp at hn0
    have hk0 : k = 0 := by rw [hkl, hc0]; rfl
    have hln0 := HNIL.out hk0
    subst hln0
    clear HO HNIL hraw
    go_wp2_with (first | (go_at_call 95; refine (sortFunc_nil _).mono ?_; rintro e w2 ⟨rfl, rfl⟩) | (go_at_call 99; refine (compact_nil _).mono ?_; rintro e w2 ⟨rfl, rfl⟩))
    go_ret
    refine ⟨_, [], rfl, ⟨[], by rw [hn0], ?_, rfl⟩, by simp, ?_, HB.out⟩
    ·unfold RiseE; simp
    ·exact ⟨rfl, none, 0, rfl, Nat.le_refl _, fun h => absurd h (by simp)⟩
   ·obtain ⟨g, cap, hv, hgw, hcap, hE⟩ := own_edm HO.out om
    subst hv
    have HE := hd hE
    clear hE HO HNIL hraw
    go_wp2_with (first | (go_at_call 95; refine (sortFunc_any _ _ _ _ _ HE.out om).mono ?_; rintro e w2 ⟨rfl, r, hperm, hrise, hEr, hbel⟩; have hpl := hperm.length_eq; have HER := hd hEr; have HRISE := hd hrise; have HBEL := hd hbel; have HPERM := hd hperm; clear hEr hrise hbel hperm HE) | (rw [← hpl]; go_at_call 99; refine (compact_any r _ _ _ om om _ HER.out).mono ?_; rintro e w3 ⟨rfl, hEu, hbel3⟩))
    go_ret
    have hul := uniq_len r
    refine ⟨_, uniqE r, rfl, ⟨r, HPERM.out, HRISE.out, rfl⟩, by omega, edm_sl hEu om, (HB.out.trans (HBEL.out _ hgw)).trans (hbel3 _ hgw)⟩
def leadB (a b : Int) (c : Chn) : Bool := (c.fr == a && c.tt == b) || (c.kd == 2 && c.fr == b && c.tt == a)
def leadsB (S : SysD) (a b : Int) : Bool := S.chans.any (leadB a b)
theorem leads_yes {S : SysD} {a b : Int} {k : Nat} (hk : k < S.chans.length) (h : leadB a b S.chans[k] = true) : leadsB S a b = true := List.any_eq_true.2 ⟨_, List.getElem_mem hk, h⟩
theorem leads_no {S : SysD} {a b : Int} (h : ∀ j (hj : j < S.chans.length), leadB a b S.chans[j] = false) : leadsB S a b = false := by
 unfold leadsB
 rw [List.any_eq_false]
 intro c hc
 obtain ⟨j, hj, rfl⟩ := List.getElem_of_mem hc
 rw [h j hj]
 decide
theorem leads_any (S : SysD) (hl : S.chans.length ≤ 6) (a b : Int) (vp vc vs : Value) (w : World) (hS : Sys w vp vc vs S) : Calls Tryz.prog 130 #[.agg #[vp, vc, vs], .int .i64 a, .int .i64 b] w fun e w' => e = .returned (.bool (leadsB S a b)) ∧ Below w.heap.size w w' := by
 generalize hr : leadsB S a b = r
 have HR := hd hr
 obtain ⟨pa, pc, rfl⟩ := hS.p.form
 obtain ⟨ca, cc, rfl⟩ := hS.c.form
 obtain ⟨sa, sc, rfl⟩ := hS.s.form
 have HS := hd hS
 clear hS hr
 go_enter Tryz.func130, Tryz.ntmps130
 go_wp2
 go_loopw [7] (fun i wr => ∃ k : Nat, i = .int .i64 k ∧ k ≤ S.chans.length ∧ Hid (∀ j (h : j < S.chans.length), j < k → leadB a b S.chans[j] = false) ∧ Hid (Box wr w.heap.size (.slice pa S.parts.length pc) (.slice ca S.chans.length cc) (.slice sa S.slots.length sc)) ∧ Hid (Below w.heap.size w wr)) (fun i _ => S.chans.length - (intOf i).toNat)
 case atStart => exact ⟨0, rfl, Nat.zero_le _, fun j hj h => by omega, box_new w _ _ _ _ _ rfl, up0⟩
 case round =>
  obtain ⟨k, rfl, hk, HN, HB, HT⟩ := hrel
  have k0 := HB.out.c
  by_cases hlt : k < S.chans.length
  ·have hli : (k : Int) < S.chans.length := by omega
   have h0i : (0 : Int) ≤ k := by omega
   obtain ⟨b', off, cap, e1, hcap, hbw, hc⟩ := HS.out.c.open om
   cases e1
   obtain ⟨hkd, hfr, htt⟩ := chan_cells hc k hlt
   have hws := HT.out.size
   have c0 := bcl HT.out hbw hkd
   have c1 := bcl HT.out hbw hfr
   have c2 := bcl HT.out hbw htt
   have hbr : b' < wr.heap.size := by omega
   have hbr' : b' ≠ wr.heap.size := by omega
   have hyes := hd (fun (h : leadB a b S.chans[k] = true) => (HR.out.symm.trans (leads_yes hlt h)))
   have hno : Hid (leadB a b S.chans[k] = false → ∀ j (h : j < S.chans.length), j < k + 1 → leadB a b S.chans[j] = false) := hd (fun h j hj hjk => by
    by_cases e : j = k
    ·subst e; exact h
    ·exact HN.out j hj om)
   generalize S.chans[k] = ch at c0 c1 c2 hyes hno
   obtain ⟨kd, fr, tt⟩ := ch
   simp only at c0 c1 c2
   clear hkd hfr htt hc HN
   by_cases h1 : fr = a
   ·subst h1
    by_cases h2 : tt = b
    ·subst h2
     go_wp2
     go_ret
     exact ⟨by rw [hyes.out (by simp [leadB])]; rfl, HT.out.alloc hws _⟩
    ·by_cases h3 : kd = 2
     ·subst h3
      by_cases h4 : fr = b
      ·subst h4
       go_wp2
       go_roundw
       case rel => exact ⟨k + 1, by go_num, by omega, hd (hno.out (by simp [leadB, h2])), hd (HB.out.up ((Below.refl _ _).alloc (Nat.le_refl _) _)), hd (HT.out.alloc hws _)⟩
       case measure => simp [intOf]; omega
      ·go_wp2
       go_roundw
       case rel => exact ⟨k + 1, by go_num, by omega, hd (hno.out (by simp [leadB, h2, h4])), hd (HB.out.up ((Below.refl _ _).alloc (Nat.le_refl _) _)), hd (HT.out.alloc hws _)⟩
       case measure => simp [intOf]; omega
     ·go_wp2
      go_roundw
      case rel => exact ⟨k + 1, by go_num, by omega, hd (hno.out (by simp [leadB, h2, h3])), hd (HB.out.up ((Below.refl _ _).alloc (Nat.le_refl _) _)), hd (HT.out.alloc hws _)⟩
      case measure => simp [intOf]; omega
   ·by_cases h3 : kd = 2
    ·subst h3
     by_cases h4 : fr = b
     ·subst h4
      by_cases h5 : tt = a
      ·subst h5
       go_wp2
       go_ret
       exact ⟨by rw [hyes.out (by simp [leadB])]; rfl, HT.out.alloc hws _⟩
      ·go_wp2
       go_roundw
       case rel => exact ⟨k + 1, by go_num, by omega, hd (hno.out (by simp [leadB, h1, h5])), hd (HB.out.up ((Below.refl _ _).alloc (Nat.le_refl _) _)), hd (HT.out.alloc hws _)⟩
       case measure => simp [intOf]; omega
     ·go_wp2
      go_roundw
      case rel => exact ⟨k + 1, by go_num, by omega, hd (hno.out (by simp [leadB, h1, h4])), hd (HB.out.up ((Below.refl _ _).alloc (Nat.le_refl _) _)), hd (HT.out.alloc hws _)⟩
      case measure => simp [intOf]; omega
    ·go_wp2
     go_roundw
     case rel => exact ⟨k + 1, by go_num, by omega, hd (hno.out (by simp [leadB, h1, h3])), hd (HB.out.up ((Below.refl _ _).alloc (Nat.le_refl _) _)), hd (HT.out.alloc hws _)⟩
     case measure => simp [intOf]; omega
  ·have hli : ¬ (k : Int) < S.chans.length := by omega
   have hno := leads_no (fun j hj => HN.out j hj om)
   go_wp2
   go_ret
   exact ⟨by rw [← HR.out, hno]; rfl, HT.out⟩
def rowL (S : SysD) (a : Nat) (m : Nat) : List Edg := ((List.range m).filter fun (b : Nat) => leadsB S a b).map fun (b : Nat) => ⟨a, b⟩
def outL (S : SysD) (n : Nat) (k : Nat) : List Edg := (List.range k).flatMap fun a => rowL S a n
def edgesL (S : SysD) : List Edg := outL S S.parts.length S.parts.length
theorem rowL_step (S : SysD) (a m : Nat) : rowL S a (m + 1) = rowL S a m ++ if leadsB S a m then [⟨a, m⟩] else [] := by
 unfold rowL
 rw [List.range_succ, List.filter_append, List.map_append]
 congr 1
 by_cases h : leadsB S a m = true
 ·simp [h]
 ·simp [h]
theorem outL_step (S : SysD) (n k : Nat) : outL S n (k + 1) = outL S n k ++ rowL S k n := by
 unfold outL
 rw [List.range_succ, List.flatMap_append]
 simp
theorem own_upF {w w' : World} {base : Nat} {e : TypeId} {size : Nat} {v : Value} {n : Nat} {xs : List Value} (h : w.ownsRow base e size v n xs) (hb : Below w.heap.size w w') : w'.ownsRow base e size v n xs := by
 have hlt := h.lt
 refine ⟨h.1, ?_⟩
 rcases h.2 with hn | ⟨g, cap, cur, rfl, hg, hh, r⟩
 ·exact .inl hn
 ·exact .inr ⟨g, cap, cur, rfl, hg, by rw [hb.block g (hlt g rfl).2]; exact hh, r⟩
def ltE (x y : Edg) : Prop := x.fr < y.fr ∨ (x.fr = y.fr ∧ x.tt < y.tt)
theorem ltE_irr {x : Edg} (h : ltE x x) : False := by unfold ltE at h; omega
theorem ltE_trans {x y z : Edg} (h : ltE x y) (h2 : ltE y z) : ltE x z := by unfold ltE at *; omega
theorem ltOf_E (x y : Edg) : ltOf cmpE x y = true ↔ ltE x y := by
 unfold ltOf cmpE orI cmpI ltE
 rw [decide_eq_true_iff]
 repeat' split
 all_goals omega
theorem eq_of_rise : ∀ (l1 l2 : List Edg), l1.Pairwise ltE → l2.Pairwise ltE → (∀ x, x ∈ l1 ↔ x ∈ l2) → l1 = l2
 | [], [], _, _, _ => rfl
 | [], b :: r, _, _, h => absurd ((h b).2 (by simp)) (by simp)
 | a :: r, [], _, _, h => absurd ((h a).1 (by simp)) (by simp)
 | a :: r1, b :: r2, h1, h2, h => by
  rw [List.pairwise_cons] at h1 h2
  have ha : a ∈ b :: r2 := (h a).1 (by simp)
  have hb : b ∈ a :: r1 := (h b).2 (by simp)
  have hab : a = b := by
   rcases List.mem_cons.1 ha with e | ha
   ·exact e
   ·rcases List.mem_cons.1 hb with e | hb
    ·exact e.symm
    ·exact absurd (ltE_trans (h2.1 a ha) (h1.1 b hb)) (fun h => ltE_irr h)
  subst hab
  congr 1
  refine eq_of_rise r1 r2 h1.2 h2.2 fun x => ⟨fun hx => ?_, fun hx => ?_⟩
  ·rcases List.mem_cons.1 ((h x).1 (List.mem_cons_of_mem _ hx)) with e | hx2
   ·subst e
    exact absurd (h1.1 x hx) (fun h => ltE_irr h)
   ·exact hx2
  ·rcases List.mem_cons.1 ((h x).2 (List.mem_cons_of_mem _ hx)) with e | hx2
   ·subst e
    exact absurd (h2.1 x hx) (fun h => ltE_irr h)
   ·exact hx2
theorem uniq_mem : ∀ (l : List Edg) (x : Edg), x ∈ uniqE l ↔ x ∈ l
 | [], x => by simp [uniqE]
 | [a], x => by simp [uniqE]
 | a :: b :: r, x => by
  have ih := uniq_mem (b :: r) x
  rw [uniqE]
  split
  ·rename_i e
   subst e
   rw [ih]
   simp
  ·rw [List.mem_cons, ih, List.mem_cons (a := x) (b := a)]
def leE (x y : Edg) : Prop := ¬ ltE y x
theorem uniq_rise : ∀ (l : List Edg), l.Pairwise leE → (uniqE l).Pairwise ltE
 | [], _ => by simp [uniqE]
 | [a], _ => by simp [uniqE]
 | a :: b :: r, h => by
  have h' := List.pairwise_cons.1 h
  have ih := uniq_rise (b :: r) h'.2
  rw [uniqE]
  split
  ·exact ih
  ·rename_i hne
   rw [List.pairwise_cons]
   refine ⟨fun x hx => ?_, ih⟩
   have hx := (uniq_mem _ _).1 hx
   have hab : ltE a b := by
    have := h'.1 b (by simp)
    unfold leE ltE at this
    unfold ltE
    have hn : ¬ (a.fr = b.fr ∧ a.tt = b.tt) := fun e => hne (by cases a; cases b; simp at e; simp [e])
    omega
   rcases List.mem_cons.1 hx with e | hx2
   ·exact e ▸ hab
   ·have h3 := (List.pairwise_cons.1 h'.2).1 x hx2
    unfold leE at h3
    unfold ltE at *
    omega
theorem rise_pair {l : List Edg} (h : RiseE l) : l.Pairwise leE := by
 rw [List.pairwise_iff_getElem]
 intro i j hi hj hij
 have := h i j hij hj
 unfold leE
 intro h2
 have := (ltOf_E _ _).2 h2
 simp_all
theorem rowL_mem {S : SysD} {a m : Nat} {x : Edg} : x ∈ rowL S a m ↔ x.fr = a ∧ ∃ b : Nat, b < m ∧ x.tt = b ∧ leadsB S a b = true := by
 unfold rowL
 rw [List.mem_map]
 constructor
 ·rintro ⟨b, hb, rfl⟩
  rw [List.mem_filter, List.mem_range] at hb
  exact ⟨rfl, b, hb.1, rfl, hb.2⟩
 ·rintro ⟨h1, b, hb, h2, h3⟩
  exact ⟨b, by rw [List.mem_filter, List.mem_range]; exact ⟨hb, h3⟩, by cases x; simp at h1 h2; simp [h1, h2]⟩
theorem rowL_rise (S : SysD) (a : Nat) : ∀ m, (rowL S a m).Pairwise ltE
 | 0 => by simp [rowL]
 | m + 1 => by
  rw [rowL_step, List.pairwise_append]
  refine ⟨rowL_rise S a m, by split <;> simp, fun x hx y hy => ?_⟩
  obtain ⟨h1, b, hb, h2, _⟩ := rowL_mem.1 hx
  split at hy
  ·simp at hy
   subst hy
   unfold ltE
   simp only
   omega
  ·simp at hy
theorem outL_mem {S : SysD} {n k : Nat} {x : Edg} : x ∈ outL S n k ↔ ∃ a b : Nat, a < k ∧ b < n ∧ x = ⟨a, b⟩ ∧ leadsB S a b = true := by
 unfold outL
 rw [List.mem_flatMap]
 constructor
 ·rintro ⟨a, ha, hx⟩
  obtain ⟨h1, b, hb, h2, h3⟩ := rowL_mem.1 hx
  exact ⟨a, b, List.mem_range.1 ha, hb, by cases x; simp at h1 h2; simp [h1, h2], h3⟩
 ·rintro ⟨a, b, ha, hb, rfl, h3⟩
  exact ⟨a, List.mem_range.2 ha, rowL_mem.2 ⟨rfl, b, hb, rfl, h3⟩⟩
theorem outL_rise (S : SysD) (n : Nat) : ∀ k, (outL S n k).Pairwise ltE
 | 0 => by simp [outL]
 | k + 1 => by
  rw [outL_step, List.pairwise_append]
  refine ⟨outL_rise S n k, rowL_rise S k n, fun x hx y hy => ?_⟩
  obtain ⟨a, b, ha, hb, rfl, _⟩ := outL_mem.1 hx
  obtain ⟨h1, _⟩ := rowL_mem.1 hy
  unfold ltE
  simp only
  omega
theorem rawE_mem : ∀ {cs : List Chn} {x : Edg}, x ∈ rawE cs ↔ ∃ c ∈ cs, leadB x.fr x.tt c = true
 | [], x => by simp [rawE]
 | c :: r, x => by
  have ih := rawE_mem (cs := r) (x := x)
  rw [rawE, List.mem_append, ih]
  have hc : x ∈ chE c ↔ leadB x.fr x.tt c = true := by
   obtain ⟨kd, fr, tt⟩ := c
   obtain ⟨xf, xt⟩ := x
   unfold chE leadB
   by_cases h : kd = 2
   ·simp [h]
    omega
   ·simp [h]
    omega
  simp [hc]
def EndsIn (S : SysD) : Prop := ∀ c ∈ S.chans, 0 ≤ c.fr ∧ c.fr < S.parts.length ∧ 0 ≤ c.tt ∧ c.tt < S.parts.length
theorem edges_eq {S : SysD} (hE : EndsIn S) {l : List Edg} (h : IsEdges S.chans l) : l = edgesL S := by
 obtain ⟨r, hperm, hrise, rfl⟩ := h
 refine eq_of_rise _ _ (uniq_rise _ (rise_pair hrise)) (outL_rise S _ _) fun x => ?_
 rw [uniq_mem, hperm.mem_iff, rawE_mem, edgesL, outL_mem]
 constructor
 ·rintro ⟨c, hc, hl⟩
  obtain ⟨e1, e2, e3, e4⟩ := hE c hc
  have hx : 0 ≤ x.fr ∧ x.fr < S.parts.length ∧ 0 ≤ x.tt ∧ x.tt < S.parts.length := by
   unfold leadB at hl
   simp at hl
   omega
  refine ⟨x.fr.toNat, x.tt.toNat, by omega, by omega, by cases x; simp at hx; simp; omega, ?_⟩
  rw [Int.toNat_of_nonneg hx.1, Int.toNat_of_nonneg hx.2.2.1]
  exact List.any_eq_true.2 ⟨c, hc, hl⟩
 ·rintro ⟨a, b, ha, hb, rfl, hl⟩
  obtain ⟨c, hc, h2⟩ := List.any_eq_true.1 hl
  exact ⟨c, hc, h2⟩
open Go.RowKit Go.Sort Go.Shelf Go.Lib Go.Maps
theorem keyI : Keyed Tryz.prog 3 := int_keyed Tryz.underlying3
theorem zeroI (w : World) : (zeroValue 3).run Tryz.prog w = .ok (.int .i64 0) w := by kernel_rfl
abbrev wfI (x : Int) : Prop := (Lit.int .i64 x).wf = true
def SeenM (w : World) (b n : Nat) (V : List (Int × Int)) : Prop :=
 ∃ D : DataW Unit, w.ownsMap Tryz.prog 3 (plainElem Tryz.prog 3) b n D ∧ ∀ x, Maps.has D (.int .i64 x) = (V.lookup x).isSome ∧ D.atKey (.int .i64 x) (.lit (.int .i64 0)) = .lit (.int .i64 ((V.lookup x).getD 0))
theorem seen_made (w : World) : SeenM (w.alloc (.map #[] 0)) w.heap.size 0 [] := ⟨.map [], World.ownsMap_made _ _ _ _, fun x => ⟨rfl, rfl⟩⟩
theorem SeenM.lt {w : World} {b n : Nat} {V : List (Int × Int)} (h : SeenM w b n V) : b < w.heap.size := let ⟨_, h, _⟩ := h; h.lt
theorem SeenM.kept {w w' : World} {b n : Nat} {V : List (Int × Int)} {row : Option Nat} (h : SeenM w b n V) (hg : w.grownBy w' row) (hne : some b ≠ row) : SeenM w' b n V := let ⟨D, h, r⟩ := h; ⟨D, h.kept hg hne, r⟩
theorem SeenM.alloc {w : World} {b n : Nat} {V : List (Int × Int)} (h : SeenM w b n V) (o : Obj) : SeenM (w.alloc o) b n V := let ⟨D, h, r⟩ := h; ⟨D, h.alloc o, r⟩
theorem SeenM.up {w w' : World} {b n : Nat} {V : List (Int × Int)} (h : SeenM w b n V) (hb : Below w.heap.size w w') : SeenM w' b n V := by
 have hl := h.lt
 obtain ⟨D, ⟨es, clock, h1, h2⟩, r⟩ := h
 exact ⟨D, ⟨es, clock, by rw [hb.block _ hl]; exact h1, h2⟩, r⟩
theorem seen_put {D : DataW Unit} {V : List (Int × Int)} {x y : Int} (hm : IsMap D) (hn : V.lookup x = none)
  (h : ∀ x, Maps.has D (.int .i64 x) = (V.lookup x).isSome ∧ D.atKey (.int .i64 x) (.lit (.int .i64 0)) = .lit (.int .i64 ((V.lookup x).getD 0))) :
  ∀ z, Maps.has (D.put (.int .i64 x) (.lit (.int .i64 y))) (.int .i64 z) = ((V ++ [(x, y)]).lookup z).isSome ∧ (D.put (.int .i64 x) (.lit (.int .i64 y))).atKey (.int .i64 z) (.lit (.int .i64 0)) = .lit (.int .i64 (((V ++ [(x, y)]).lookup z).getD 0)) := by
 intro z
 rw [List.lookup_append]
 by_cases e : z = x
 ·subst e
  rw [hn, Maps.has_put_same hm (by trivial), Maps.atKey_put_same hm (by trivial)]
  simp
 ·have hne : (Lit.int .i64 z) ≠ .int .i64 x := fun h => e (by injection h)
  rw [Maps.has_put_other hne, Maps.atKey_put_other hne, (h z).1, (h z).2]
  have : (List.lookup z [(x, y)]) = none := by simp [e]
  rw [this, Option.or_none]
  exact ⟨rfl, rfl⟩
section
variable {w : World} {ops : Array Oper} {rest : List Oper} {o : Oper} {a : Act} {Q : Exit → Act → World → Prop}
theorem wpList_seen_put (hg : o.guard = none) (m x v : Operand) (hop : o.op = Op.mapUpdate 147 m x v ∨ o.op = Op.insert 147 m x v) (b n : Nat) (V : List (Int × Int)) (hm : a.eval m = .map (some b)) (hown : SeenM w b n V) (hn : n < 1000)
  (kx ky : Int) (hx : a.eval x = .int .i64 kx) (hv : a.eval v = .int .i64 ky) (wx : wfI kx) (wy : wfI ky) (hnew : V.lookup kx = none)
  (hK : ∀ w', SeenM w' b (n + 1) (V ++ [(kx, ky)]) → w.grownBy w' (some b) → wpList Tryz.prog ops Q rest (a.put o.dst undef) w') : wpList Tryz.prog ops Q (o :: rest) a w := by
 obtain ⟨D, h1, h2⟩ := hown
 refine wpList_plain hg fun K' hK' => ?_
 obtain ⟨w', hrun, r1, r2⟩ := h1.update keyI Tryz.underlying147 (by unfold maxLen; omega) (keyOf_int_mk Tryz.underlying3 wx) (plainElem_int Tryz.underlying3 wy)
 have hfin := hK w' ⟨_, r1, seen_put h1.isMap hnew h2⟩ r2
 unfold Oper.wp
 rcases hop with hop | hop
 ·simp [execOp, hop, hm, hx, hv, hrun, Result.andThen]
  exact hK' _ _ hfin
 ·simp [execOp, hop, hm, hx, hv, hrun, Result.andThen]
  exact hK' _ _ hfin
theorem wpList_seen_ok (hg : o.guard = none) (m x : Operand) (hop : o.op = Op.lookup 147 m x true) (b n : Nat) (V : List (Int × Int)) (hm : a.eval m = .map (some b)) (hown : SeenM w b n V)
  (kx : Int) (hx : a.eval x = .int .i64 kx) (wx : wfI kx)
  (hK : wpList Tryz.prog ops Q rest (a.put o.dst (.tuple #[.int .i64 ((V.lookup kx).getD 0), .bool (V.lookup kx).isSome])) w) : wpList Tryz.prog ops Q (o :: rest) a w := by
 obtain ⟨D, h1, h2⟩ := hown
 refine wpList_lookup_own_ok_int _ hg m x _ hop 3 3 .i64 keyI Tryz.underlying147 Tryz.underlying3 (zeroI _) b n D hm h1 _ _ hx (keyOf_int_mk Tryz.underlying3 wx) ?_
 intro c hat _
 rw [(h2 kx).2] at hat
 have : (V.lookup kx).getD 0 = c := by injection hat with hat; injection hat
 rw [(h2 kx).1, ← this]
 exact hK
theorem wpList_seen_at (hg : o.guard = none) (m x : Operand) (hop : o.op = Op.lookup 147 m x false) (b n : Nat) (V : List (Int × Int)) (hm : a.eval m = .map (some b)) (hown : SeenM w b n V)
  (kx : Int) (hx : a.eval x = .int .i64 kx) (wx : wfI kx)
  (hK : wpList Tryz.prog ops Q rest (a.put o.dst (.int .i64 ((V.lookup kx).getD 0))) w) : wpList Tryz.prog ops Q (o :: rest) a w := by
 obtain ⟨D, h1, h2⟩ := hown
 refine wpList_lookup_own_int _ hg m x _ hop 3 3 .i64 keyI Tryz.underlying147 Tryz.underlying3 (zeroI _) b n D hm h1 _ _ hx (keyOf_int_mk Tryz.underlying3 wx) ?_
 intro c hat _
 rw [(h2 kx).2] at hat
 have : (V.lookup kx).getD 0 = c := by injection hat with hat; injection hat
 rw [← this]
 exact hK
end
def slLen : Value → Nat
 | .slice _ n _ => n
 | _ => 0
inductive Back (V : List (Int × Int)) : Int → List Int → Prop
 | root {x : Int} (h : V.lookup x = some x) : Back V x [x]
 | step {x y : Int} {p : List Int} (h : V.lookup x = some y) (hne : y ≠ x) (hp : Back V y p) : Back V x (x :: p)
theorem Back.head {V : List (Int × Int)} {x : Int} {p : List Int} (h : Back V x p) : ∃ r, p = x :: r := by cases h <;> exact ⟨_, rfl⟩
theorem Back.cases {V : List (Int × Int)} {x : Int} {r : List Int} (h : Back V x (x :: r)) : (r = [] ∧ V.lookup x = some x) ∨ ∃ y r', r = y :: r' ∧ V.lookup x = some y ∧ y ≠ x ∧ Back V y (y :: r') := by
 cases h with
 | root h => exact .inl ⟨rfl, h⟩
 | step h hne hp =>
  obtain ⟨r', rfl⟩ := hp.head
  exact .inr ⟨_, r', rfl, h, hne, hp⟩
theorem wpList_seen_to {w : World} {ops : Array Oper} {rest : List Oper} {o : Oper} {a : Act} {Q : Exit → Act → World → Prop} (hg : o.guard = none) (m x : Operand) (hop : o.op = Op.lookup 147 m x false) (b n : Nat) (V : List (Int × Int)) (hm : a.eval m = .map (some b)) (hown : SeenM w b n V)
  (kx ky : Int) (hx : a.eval x = .int .i64 kx) (wx : wfI kx) (hk : V.lookup kx = some ky)
  (hK : wpList Tryz.prog ops Q rest (a.put o.dst (.int .i64 ky)) w) : wpList Tryz.prog ops Q (o :: rest) a w :=
 wpList_seen_at hg m x hop b n V hm hown kx hx wx (by rw [hk]; exact hK)
theorem own_holds {w : World} {base g cap : Nat} {zs : List Int} (h : w.ownsRow base 3 1 (.slice (some ⟨g, 0, none⟩) zs.length cap) zs.length (ints zs)) : Holds (Value.int .i64) w g 0 zs.toArray := by
 rcases h.2 with ⟨e0, _⟩ | ⟨g', cap', cur, e0, hg, hh, r⟩
 ·cases e0
 ·cases e0
  intro j hj
  have hj' : j < zs.length := by simpa using hj
  obtain ⟨r1, r2, r3, r4⟩ := r
  have hs := own_sl h
  obtain ⟨b, off, cap'', e, hcap, hb, hc⟩ := hs.open om
  cases e
  refine ⟨?_, ?_⟩
  ·rw [hc j (.int .i64 zs[j]) (by simp [ints, hj'])]
   simp [hj']
  ·have hf := (show Rw w g 3 cur from hh).fr (0 + j)
   exact hf
theorem rev_any {w : World} {base g cap : Nat} {zs : List Int} (h : w.ownsRow base 3 1 (.slice (some ⟨g, 0, none⟩) zs.length cap) zs.length (ints zs)) (h0 : zs.length ≤ 1000) :
  Calls Tryz.prog 134 #[.slice (some ⟨g, 0, none⟩) zs.length cap] w fun e w' => e = .returned (.tuple #[]) ∧ Sl w' 1 (.slice (some ⟨g, 0, none⟩) zs.length cap) zs.reverse.length (ints zs.reverse) ∧ ∀ B, B ≤ g → Below B w w' := by
 have hH := own_holds h
 have hlt := (h.lt g rfl).2
 refine (Tryz.slices_Reverse_int g 0 cap zs w hH om).mono ?_
 rintro e w' ⟨rfl, n, rfl⟩
 have hH2 : Holds (Value.int .i64) (putRow (Value.int .i64) (Sort.ahead w n) g 0 zs.reverse.toArray) g 0 zs.reverse.toArray := holds_putRow _ _ _ _ zs.toArray _ (holds_ahead _ w n g 0 _ hH) (by simp)
 obtain ⟨_, ao, cap', e, hcap, _⟩ := own_sl h
 cases e
 refine ⟨rfl, ⟨by simp [ints], some ⟨g, 0, none⟩, cap, by simp, by simpa using hcap, fun _ => ⟨g, 0, rfl, by simp; exact hlt, fun j u hj => ?_, fun j hj => (hH2 j (by simpa [ints] using hj)).2⟩⟩, fun B hB => ⟨rfl, rfl, rfl, by simp [Sort.ahead], fun k hk => ?_⟩⟩
 ·have hjl : j < zs.reverse.length := by
   have := (List.getElem?_eq_some_iff.1 hj).1
   simpa [ints] using this
  rw [(hH2 j (by simpa using hjl)).1]
  rw [← hj]
  simp at hjl
  simp [ints, hjl]
 ·show (w.heap.modify g _)[k]? = _
  rw [Array.getElem?_modify, if_neg om]
theorem own_one (w : World) (x : Int) : (w.alloc (.cells #[.int .i64 x] 3)).ownsRow w.heap.size 3 1 (.slice (some ⟨w.heap.size, 0, none⟩) 1 1) 1 (ints [x]) :=
 ⟨rfl, .inr ⟨w.heap.size, 1, #[.int .i64 x], rfl, Nat.le_refl _, (Rw.new w _ _ rfl : Rw _ _ _ _), Nat.le_refl _, by unfold maxLen; omega, rfl, rfl⟩⟩
theorem trail_any (V : List (Int × Int)) (b n : Nat) (x0 : Int) (p : List Int) (hp : Back V x0 p) (hwf : ∀ y ∈ p, wfI y) (hl : p.length ≤ 1000) (w : World) (hM : SeenM w b n V) :
  Calls Tryz.prog 100 #[.map (some b), .int .i64 x0] w fun e w' => ∃ v, e = .returned v ∧ Sl w' 1 v p.reverse.length (ints p.reverse) ∧ Below w.heap.size w w' := by
 obtain ⟨i1, hi1, hy0, hy1, hy2⟩ := info_parts info3
 have hbl := hM.lt
 have HM := hd hM
 have HWF := hd hwf
 obtain ⟨r0, hr0⟩ := hp.head
 subst hr0
 have HP := hd hp
 clear hM hwf hp
 go_enter Tryz.func100, Tryz.ntmps100
 go_wp2
 go_loopw [6, 5] (fun at_ l wr => ∃ (x : Int) (done rest : List Int), at_ = .int .i64 x ∧ Hid (Back V x (x :: rest)) ∧ Hid (done ++ x :: rest = x0 :: r0) ∧ Hid (wr.ownsRow w.heap.size 3 1 l (done ++ [x]).length (ints (done ++ [x]))) ∧ Hid (SeenM wr b n V) ∧ Hid (Below w.heap.size w wr)) (fun _ l _ => (x0 :: r0).length - slLen l)
 case atStart => exact ⟨x0, [], r0, rfl, HP, hd rfl, hd (own_one w x0), hd (HM.out.alloc _), up0⟩
 case round =>
  obtain ⟨x, done, rest, rfl, HP2, HE, HO, HM2, HB⟩ := hrel
  have hwx : wfI x := HWF.out x (by rw [← HE.out]; simp)
  obtain ⟨a3, c3, hform⟩ := own_form HO.out
  subst hform
  have hws := HB.out.size
  rcases HP2.out.cases with ⟨hr, hlk⟩ | ⟨y, r', hr, hlk, hne, hb2⟩
  ·subst hr
   clear HP2
   have hO := HO.out
   rw [HE.out] at hO
   have hln : (done ++ [x]).length = (x0 :: r0).length := by rw [HE.out]
   rw [hln]
   obtain ⟨g, cap, hv, hgw⟩ : ∃ g cap, Value.slice a3 (x0 :: r0).length c3 = .slice (some ⟨g, 0, none⟩) (x0 :: r0).length cap ∧ w.heap.size ≤ g := by
    rcases hO.2 with ⟨_, e0⟩ | ⟨g, cap, cur, e0, hg, _⟩
    ·simp at e0
    ·exact ⟨g, cap, e0, hg⟩
   cases hv
   have HO2 := hd hO
   clear hO HO
   go_wp2_with (first | (at_lookup; refine wpList_seen_to rfl _ _ rfl b n V rfl HM2.out x x rfl hwx hlk ?_) | (go_at_call 134; refine (rev_any HO2.out hl).mono ?_; rintro e w2 ⟨rfl, hsl, hbel⟩))
   go_ret
   exact ⟨_, rfl, hsl, HB.out.trans (hbel _ hgw)⟩
  ·subst hr
   have hwy : wfI y := HWF.out y (by rw [← HE.out]; simp)
   have HN := hd hb2
   have HLL : Hid ((done ++ [x]).length ≤ 1000) := hd (by have h := congrArg List.length HE.out; simp at h hl ⊢; omega)
   have HLT : Hid ((done ++ [x]).length < (x0 :: r0).length) := hd (by have h := congrArg List.length HE.out; simp at h ⊢; omega)
   have HO3 := hd (HO.out.alloc (.cells #[.int .i64 y] 3))
   have HE2 : Hid ((done ++ [x]) ++ y :: r' = x0 :: r0) := hd (by rw [← HE.out]; simp)
   clear HP2 hb2 HE
   generalize done ++ [x] = zs at HO HO3 HE2 HLL HLT
   go_wp2_with (first | (at_lookup; refine wpList_seen_to rfl _ _ rfl b n V rfl HM2.out x y rfl hwx hlk ?_) | (at_builtin; refine wpList_append_lies _ rfl (.tmp 18) (.tmp 22) 33 rfl w.heap.size 3 i1 (.int .i64 0) 1 8 Tryz.underlying33 hi1 hy0 hy1 hy2 rfl (by decide) _ zs.length (ints zs) rfl HO3.out ⟨wr.heap.size, 0, none⟩ 1 1 [.int .i64 y] rfl rfl (new_rangeE _ _ _ _ rfl) (int_cell _) (by decide) (by have := HLL.out; unfold maxLen; omega) (by have := HLL.out; omega) so _ rfl ?_; intro g4 cap4 W4 hown hgrow hat hg4; have R := ints_step HB.out HO.out hown hgrow; have HM4 := hd ((HM2.out.alloc _).kept hgrow (fun e => by have := own_block HO3.out _ e.symm; omega)); have HO4 := hd R.1; have HB4 := hd R.2; clear R hown hgrow hat) | (at_lookup; refine wpList_seen_to rfl _ _ rfl b n V rfl HM4.out x y rfl hwx hlk ?_))
   go_roundw
   case rel => exact ⟨y, zs, r', rfl, HN, HE2, HO4, HM4, HB4⟩
   case measure => simp only [slLen]; have := HLT.out; simp at this ⊢; omega
end Go.Proofs.YtehhhiodfcdnmaaGreatDoor
