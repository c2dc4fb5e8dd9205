/- flow.search. -/
import Derived.Test.YtehhhiodfcdnmaaGreatDoorR24
namespace Go.Proofs.YtehhhiodfcdnmaaGreatDoor
set_option linter.unusedSimpArgs false
set_option linter.unusedVariables false
set_option maxRecDepth 100000
set_option maxHeartbeats 8000000
open Go.RowKit Go.Sort Go.Shelf Go.Lib Go.Maps
def SearchR (E : List Edg) (a b : Int) (l : List Int) (r : Bool) : Prop :=
 (r = true ∧ ∃ V k y p, Bfs E a V k ∧ V[k]? = some (b, y) ∧ Back V b p ∧ l = p.reverse) ∨ (r = false ∧ l = [] ∧ ∃ V, Bfs E a V V.length ∧ ∀ q ∈ V, q.1 ≠ b)
theorem QRow.mono {w : World} {base base' : Nat} {v : Value} {zs : List Int} (h : QRow w base v zs) (hb : base' ≤ base) : QRow w base' v zs := by
 obtain ⟨g, off, cap, cur, e, hg, r⟩ := h
 exact ⟨g, off, cap, cur, e, Nat.le_trans hb hg, r⟩
theorem QRow.alloc {w : World} {base : Nat} {v : Value} {zs : List Int} (h : QRow w base v zs) (o : Obj) : QRow (w.alloc o) base v zs := h.up ((Below.refl _ _).alloc (Nat.le_refl _) _)
section
variable {w : World} {ops : Array Oper} {rest : List Oper} {o : Oper} {a : Act} {Q : Exit → Act → World → Prop}
theorem wpList_seen_okn (hg : o.guard = none) (m x : Operand) (hop : o.op = Op.lookup 147 m x true) (b n : Nat) (V : List (Int × Int)) (hm : a.eval m = .map (some b)) (hown : SeenM w b n V)
  (kx : Int) (hx : a.eval x = .int .i64 kx) (wx : wfI kx) (hl : V.lookup kx = none)
  (hK : wpList Tryz.prog ops Q rest (a.put o.dst (.tuple #[.int .i64 0, .bool false])) w) : wpList Tryz.prog ops Q (o :: rest) a w :=
 wpList_seen_ok hg m x hop b n V hm hown kx hx wx (by rw [hl]; exact hK)
theorem wpList_seen_oks (hg : o.guard = none) (m x : Operand) (hop : o.op = Op.lookup 147 m x true) (b n : Nat) (V : List (Int × Int)) (hm : a.eval m = .map (some b)) (hown : SeenM w b n V)
  (kx : Int) (hx : a.eval x = .int .i64 kx) (wx : wfI kx) (ky : Int) (hl : V.lookup kx = some ky)
  (hK : wpList Tryz.prog ops Q rest (a.put o.dst (.tuple #[.int .i64 ky, .bool true])) w) : wpList Tryz.prog ops Q (o :: rest) a w :=
 wpList_seen_ok hg m x hop b n V hm hown kx hx wx (by rw [hl]; exact hK)
end
theorem edge_cells {w : World} {b off : Nat} {l : List Edg} (hc : ∀ j u, (rowC Edg.cells l)[j]? = some u → w.cell? ⟨b, off + j, none⟩ = some u) (k : Nat) (h : k < l.length) :
  w.cell? ⟨b, off + k * 2, none⟩ = some (.int .i64 l[k].fr) ∧ w.cell? ⟨b, off + k * 2 + 1, none⟩ = some (.int .i64 l[k].tt) := by
 refine ⟨?_, ?_⟩
 ·exact hc (k * 2) _ (by have := rowC_at (s := 2) (f := Edg.cells) edg_len l k 0 h (by decide); simpa [Edg.cells] using this)
 ·exact hc (k * 2 + 1) _ (by rw [rowC_at (s := 2) (f := Edg.cells) edg_len l k 1 h (by decide)]; rfl)
theorem search_any (E : List Edg) (n : Nat) (hn : n ≤ 100) (hE : EdgIn E n) (hEl : E.length ≤ 1000) (a b : Int) (ha : 0 ≤ a ∧ a < n) (f : Nat) (hen : Enters f) (caps : Array Value) (ve : Value) (w : World) (hS : Sl w 2 ve E.length (rowC Edg.cells E))
  (hf : ∀ x w', Below w.heap.size w w' → Calls Tryz.prog f (#[.int .i64 x] ++ caps) w' fun e w'' => e = .returned (.bool (x == b)) ∧ w'' = w') :
  Calls Tryz.prog 55 #[ve, .int .i64 a, .func (.func f) #[] caps] w fun e w' => ∃ v l r, e = .returned (.tuple #[v, .bool r]) ∧ SearchR E a b l r ∧ Sl w' 1 v l.length (ints l) ∧ Below w.heap.size w w' := by
 obtain ⟨va, vcap, rfl⟩ := hS.form
 have HS := hd hS
 have HF := hd hf
 have HEI := hd hE
 have HA := hd ha
 have wa : wfI a := wf_small ha.1 om
 clear hS hf hE ha
 unfold Enters at hen
 have hmm := @run_makeMap Tryz.prog
 go_enter Tryz.func55, Tryz.ntmps55
 go_wp2_with (refine wpList_seen_put rfl (.tmp 15) (.tmp 16) (.tmp 17) (Or.inr rfl) w.heap.size 0 [] rfl (seen_made w) (by decide) a a rfl rfl wa wa rfl ?_; intro w1 hs1 hg1; have HS1 := hd hs1; have HB1 := hd ((Below.refl w.heap.size w |>.alloc (Nat.le_refl _) _).grown hg1 (by simp) (fun q e => by cases e; exact Nat.le_refl _)); have hw1 : w.heap.size + 1 ≤ w1.heap.size := Nat.le_trans (by simp) hg1.size; clear hs1 hg1)
 clear hmm
 go_loopg [9] n (fun m l wr => ∃ (V : Vis) (k : Nat), n - k ≤ m ∧ Hid (Bfs E a V k) ∧ Hid (∀ (j : Nat) (x y : Int), j < k → V[j]? = some (x, y) → x ≠ b) ∧ Hid (QRow wr (w.heap.size + 1) l ((V.drop k).map Prod.fst)) ∧ Hid (SeenM wr w.heap.size V.length V) ∧ Hid (Below w.heap.size w wr))
 case atStart => exact ⟨[(a, a)], 0, by omega, hd .start, hd (fun j x y hj => by omega), hd ((q_one w1 a).mono hw1), hd (HS1.out.alloc _), hd (HB1.out.alloc HB1.out.size _)⟩
 case round =>
  clear HS1 HB1 hw1
  obtain ⟨V, k, hm, HBF, HNB, HQ, HM, HB⟩ := hrel
  have hinv := HBF.out.inv
  have hkl := hinv.2
  have hvl := hinv.1.len HEI.out HA.out
  by_cases hlt : k < V.length
  ·have hvk : V[k]? = some (V[k].1, V[k].2) := List.getElem?_eq_getElem hlt
   have hdr : (V.drop k).map Prod.fst = V[k].1 :: (V.drop (k + 1)).map Prod.fst := by
    rw [List.drop_eq_getElem_cons hlt]
    rfl
   have hwx := hinv.1.within HEI.out HA.out V[k] (List.getElem_mem hlt)
   rw [hdr] at HQ
   generalize V[k].1 = x at HQ hvk hwx
   generalize V[k].2 = y at hvk hwx
   have wx : wfI x := wf_small hwx.1.1 om
   obtain ⟨g, off, cap, hv, hcap, hgb, hgl, hcl⟩ := HQ.out.form
   subst hv
   have c0 : wr.cell? ⟨g, off, none⟩ = some (.int .i64 x) := hcl 0 (by simp)
   generalize hL : (x :: (V.drop (k + 1)).map Prod.fst).length = L at HQ hcap
   have hL0 : (0 : Int) < L := by rw [← hL]; simp
   have hL1 : 0 < L := by omega
   clear hL hcl hdr hinv
   by_cases hxb : x = b
   ·subst hxb
    have HC := hd (fun w' hb => HF.out x w' hb)
    have hbb : (x == x) = true := by simp
    rw [hbb] at HC
    obtain ⟨p, hp, hpl, hpm⟩ := HBF.out.inv.1.back k x y hvk
    have HP := hd hp
    have HWF : Hid (∀ u ∈ p, wfI u) := hd (fun u hu => by
     obtain ⟨v, hv⟩ := hpm u hu
     have := HBF.out.inv.1.within HEI.out HA.out _ hv
     exact wf_small this.1.1 om)
    have HPL : Hid (p.length ≤ 1000) := hd om
    clear hp hpl hpm
    go_wp2_with (first | (refine wpList_q_pop rfl (.tmp 27) rfl (w.heap.size + 1) _ x ((V.drop (k + 1)).map Prod.fst) rfl HQ.out ?_; intro v2 hq2) | (go_at_call 100; refine (trail_any V w.heap.size V.length x p HP.out HWF.out HPL.out _ HM.out).mono ?_; rintro e w3 ⟨v3, rfl, hs3, hb3⟩) | (refine (HC.out _ HB.out).mono ?_; rintro e w2 ⟨rfl, rfl⟩))
    go_ret2
    exact ⟨_, p.reverse, true, rfl, .inl ⟨rfl, V, k, y, p, HBF.out, hvk, HP.out, rfl⟩, hs3, HB.out.trans (hb3.mono HB.out.size)⟩
   ·have HC := hd (fun w' hb => HF.out x w' hb)
    have hbb : (x == b) = false := by simpa using hxb
    rw [hbb] at HC
    have HNB2 : Hid (∀ (j : Nat) (x y : Int), j < k + 1 → V[j]? = some (x, y) → x ≠ b) := hd (fun j u v hj huv => by
     by_cases e : j = k
     ·subst e
      rw [hvk] at huv
      simp at huv
      rw [← huv.1]
      exact hxb
     ·exact HNB.out j u v om huv)
    have HVK := hd hvk
    clear HNB hbb hvk
    go_wp2_with (first | (refine wpList_q_pop rfl (.tmp 27) rfl (w.heap.size + 1) _ x ((V.drop (k + 1)).map Prod.fst) rfl HQ.out ?_; intro v2 hq2; have HQ2 := hd hq2; clear hq2 HQ c0) | (refine (HC.out _ HB.out).mono ?_; rintro e w2 ⟨rfl, rfl⟩; clear HC HF))
    go_loopw [37, 9] (fun i l wr2 => ∃ (j : Nat), i = .int .i64 j ∧ j ≤ E.length ∧ Hid (QRow wr2 (w.heap.size + 1) l (((addAll x V (E.take j)).drop (k + 1)).map Prod.fst)) ∧ Hid (SeenM wr2 w.heap.size (addAll x V (E.take j)).length (addAll x V (E.take j))) ∧ Hid (Below w.heap.size w wr2)) (fun i _ _ => E.length - (intOf i).toNat)
    case atStart => exact ⟨0, rfl, Nat.zero_le _, HQ2, HM, HB⟩
    case round =>
     clear HQ2 HM HB
     obtain ⟨j, rfl, hj, HQ, HM, HB⟩ := hrel
     by_cases hjl : j < E.length
     ·have hji : (j : Int) < E.length := by omega
      have h0i : (0 : Int) ≤ j := by omega
      obtain ⟨eb, eo, ecap, e1, hec, hebw, hc⟩ := HS.out.open om
      cases e1
      obtain ⟨hfr, htt⟩ := edge_cells hc j hjl
      have hws := HB.out.size
      have c0 := bcl HB.out hebw hfr
      have c1 := bcl HB.out hebw htt
      have hbr : eb < wr.heap.size := by omega
      have hbr' : eb ≠ wr.heap.size := by omega
      have HST : Hid (addAll x V (E.take (j + 1)) = addE x (addAll x V (E.take j)) E[j]) := hd (by rw [List.take_succ_eq_append_getElem hjl, addAll_snoc])
      have HIN := hd (Inv.addAll (E.take j) HBF.out.inv.1 (fun e he => List.mem_of_mem_take he) HVK.out)
      have HLE := hd (addAll_len (x := x) (E.take j) (V := V))
      have HED := hd (HEI.out E[j] (List.getElem_mem hjl))
      generalize addAll x V (E.take j) = V1 at HQ HM HST HIN HLE
      generalize E[j] = ed at c0 c1 HST HED
      obtain ⟨ef, et⟩ := ed
      simp only at c0 c1
      have wt : wfI et := wf_small HED.out.2.2.1 (by have := HED.out.2.2.2; simp at this; omega)
      have hmlt := HM.out.lt
      have hmne : wr.heap.size ≠ w.heap.size := by omega
      have hv1 := HIN.out.len HEI.out HA.out
      clear hc hfr htt HED
      by_cases h1 : ef = x
      ·subst h1
       cases hlk : V1.lookup et with
       | none =>
        have HAD : Hid (addE ef V1 ⟨ef, et⟩ = V1 ++ [(et, ef)]) := hd (if_pos ⟨rfl, hlk⟩)
        rw [HAD.out] at HST
        have HDR : Hid (((V1 ++ [(et, ef)]).drop (k + 1)).map Prod.fst = (V1.drop (k + 1)).map Prod.fst ++ [et]) := hd (by rw [List.drop_append_of_le_length (by have := HLE.out; omega), List.map_append]; rfl)
        have hql : ((V1.drop (k + 1)).map Prod.fst).length ≤ 1000 := by simp; omega
        clear HAD
        go_wp2_with (first
         | (at_lookup; refine wpList_seen_okn rfl _ _ rfl w.heap.size V1.length V1 rfl (HM.out.alloc _) et rfl wt hlk ?_)
         | (at_mapUpdate; refine wpList_seen_put rfl _ _ _ (Or.inl rfl) w.heap.size V1.length V1 rfl (HM.out.alloc _) om et ef rfl rfl wt wx hlk ?_; intro W1 hs1 hg1; have HM2 := hd hs1; have HB2 := hd ((HB.out.alloc hws _).grown hg1 so (fun q e => by cases e; exact Nat.le_refl _)); have HQ2 := hd ((HQ.out.alloc _).kept hg1 (fun e => by have := (HQ.out.block _ e).1; omega)); have d1 : W1.cell? ⟨wr.heap.size, 1, none⟩ = some (.int .i64 et) := (hg1.cell_far ⟨wr.heap.size, 1, none⟩ (by simp) (fun e => hmne (Option.some.inj e))).trans (by simp); have hlt2 : wr.heap.size < W1.heap.size := Nat.lt_of_lt_of_le (by simp) hg1.size; have hne2 : wr.heap.size ≠ W1.heap.size := om; have hW1 := HB2.out.size; clear hs1 hg1)
         | (at_builtin; refine wpList_q_append rfl _ _ rfl (w.heap.size + 1) _ _ rfl (HQ2.out.alloc _) hql so ⟨W1.heap.size, 0, none⟩ 1 et rfl (new_rangeE _ _ #[.int .i64 et] _ rfl) ?_; intro v3 W3 hq3 hg3; have HB3 := hd ((HB2.out.alloc hW1 _).grown hg3 so (fun q e => by have := (HQ2.out.block q e).1; omega)); have HM3 := hd ((HM2.out.alloc _).kept hg3 (fun e => by have := (HQ2.out.block _ e.symm).1; omega)); have HQ3 := hd hq3; clear hq3 hg3))
        go_roundw
        case rel => exact ⟨j + 1, by go_num, by omega, by rw [HST.out, HDR.out]; exact HQ3, by rw [HST.out, List.length_append]; exact HM3, HB3⟩
        case measure => simp [intOf]; omega
       | some z =>
        have HAD : Hid (addE ef V1 ⟨ef, et⟩ = V1) := hd (if_neg (fun h => by rw [hlk] at h; cases h.2))
        rw [HAD.out] at HST
        clear HAD
        go_wp2_with (at_lookup; refine wpList_seen_oks rfl _ _ rfl w.heap.size V1.length V1 rfl (HM.out.alloc _) et rfl wt z hlk ?_)
        go_roundw
        case rel => exact ⟨j + 1, by go_num, by omega, by rw [HST.out]; exact hd (HQ.out.alloc _), by rw [HST.out]; exact hd (HM.out.alloc _), hd (HB.out.alloc hws _)⟩
        case measure => simp [intOf]; omega
      ·have HAD : Hid (addE x V1 ⟨ef, et⟩ = V1) := hd (if_neg (fun h => h1 h.1))
       rw [HAD.out] at HST
       clear HAD
       cases hlk : V1.lookup et with
       | none =>
        go_wp2_with (at_lookup; refine wpList_seen_okn rfl _ _ rfl w.heap.size V1.length V1 rfl (HM.out.alloc _) et rfl wt hlk ?_)
        go_roundw
        case rel => exact ⟨j + 1, by go_num, by omega, by rw [HST.out]; exact hd (HQ.out.alloc _), by rw [HST.out]; exact hd (HM.out.alloc _), hd (HB.out.alloc hws _)⟩
        case measure => simp [intOf]; omega
       | some z =>
        go_wp2_with (at_lookup; refine wpList_seen_oks rfl _ _ rfl w.heap.size V1.length V1 rfl (HM.out.alloc _) et rfl wt z hlk ?_)
        go_roundw
        case rel => exact ⟨j + 1, by go_num, by omega, by rw [HST.out]; exact hd (HQ.out.alloc _), by rw [HST.out]; exact hd (HM.out.alloc _), hd (HB.out.alloc hws _)⟩
        case measure => simp [intOf]; omega
     ·have hji : ¬ (j : Int) < E.length := by omega
      have htk : E.take j = E := List.take_of_length_le om
      rw [htk] at HQ HM
      have HBF2 := hd (Bfs.pop HBF.out HVK.out)
      have HNB3 : Hid (∀ (j : Nat) (u v : Int), j < k + 1 → (addAll x V E)[j]? = some (u, v) → u ≠ b) := hd (fun j u v hj huv => by
       have hj2 : j < V.length := by omega
       have h3 : V[j]? = some (V[j].1, V[j].2) := List.getElem?_eq_getElem hj2
       have h4 := addAll_at (x := x) E h3
       rw [h4] at huv
       simp at huv
       have := HNB2.out j _ _ hj h3
       rw [← huv.1]
       exact this)
      clear htk HNB2
      go_wp2
      go_roundg (n - (k + 1))
      case measure => omega
      case rel => exact ⟨addAll x V E, k + 1, Nat.le_refl _, HBF2, HNB3, HQ, HM, HB⟩
  ·have hke : k = V.length := by omega
   have hnil : (V.drop k).map Prod.fst = [] := by rw [List.drop_of_length_le om]; rfl
   rw [hnil] at HQ
   obtain ⟨g, off, cap, hv, _⟩ := HQ.out.form
   subst hv
   have HFI : Hid (SearchR E a b [] false) := hd (.inr ⟨rfl, rfl, V, hke ▸ HBF.out, fun q hq => by
    obtain ⟨i, hi, he⟩ := List.getElem_of_mem hq
    exact HNB.out i q.1 q.2 om (by rw [List.getElem?_eq_getElem hi, he])⟩)
   clear HQ HNB hnil
   go_wp2
   go_ret2
   exact ⟨_, [], false, rfl, HFI.out, ⟨rfl, none, 0, rfl, Nat.le_refl _, fun h => absurd h (by simp)⟩, HB.out⟩
inductive WalkR (E : List Edg) (a : Int) : List Int → Prop
 | one : WalkR E a [a]
 | step {x y : Int} {p : List Int} (h : WalkR E a (y :: p)) (he : (⟨y, x⟩ : Edg) ∈ E) : WalkR E a (x :: y :: p)
def code : List Int → Int
 | [] => 0
 | x :: p => code p * 8 + x + 1
theorem Back.uniq {V : Vis} {x : Int} {p : List Int} (h : Back V x p) : ∀ {q : List Int}, Back V x q → p = q := by
 induction h with
 | root h =>
  intro q hq
  cases hq with
  | root _ => rfl
  | step h2 hne _ => rw [h] at h2; cases h2; exact absurd rfl hne
 | step h hne hp ih =>
  intro q hq
  cases hq with
  | root h2 => rw [h] at h2; cases h2; exact absurd rfl hne
  | step h2 _ hp2 =>
   rw [h] at h2
   cases h2
   rw [ih hp2]
theorem look_app {V : Vis} {x y : Int} (h : V.lookup x = some y) (q : Int × Int) : (V ++ [q]).lookup x = some y := by
 rw [List.lookup_append, h]
 rfl
theorem Back.app {V : Vis} {x : Int} {p : List Int} (h : Back V x p) (q : Int × Int) : Back (V ++ [q]) x p := by
 induction h with
 | root h => exact .root (look_app h q)
 | step h hne _ ih => exact .step (look_app h q) hne ih
theorem Back.addE {V : Vis} {x : Int} {p : List Int} (h : Back V x p) (u : Int) (e : Edg) : Back (addE u V e) x p := by
 unfold Go.Proofs.YtehhhiodfcdnmaaGreatDoor.addE
 split
 ·exact h.app _
 ·exact h
theorem Back.walk {E : List Edg} {a : Int} {V : Vis} (hI : Inv E a V) {x : Int} {p : List Int} (h : Back V x p) : (∃ v, (x, v) ∈ V) → WalkR E a p := by
 induction h with
 | @root x h =>
  rintro ⟨v, hv⟩
  obtain ⟨i, hi, he⟩ := List.getElem_of_mem hv
  have hi2 : V[i]? = some (x, v) := by rw [List.getElem?_eq_getElem hi, he]
  have hl := look_at hI.nd hi2
  rw [h] at hl
  cases hl
  by_cases h0 : i = 0
  ·subst h0
   rw [hI.hd] at hi2
   simp at hi2
   rw [← hi2]
   exact .one
  ·exact absurd rfl (hI.par i x x hi2 om).1
 | @step x y p h hne hp ih =>
  rintro ⟨v, hv⟩
  obtain ⟨i, hi, he⟩ := List.getElem_of_mem hv
  have hi2 : V[i]? = some (x, v) := by rw [List.getElem?_eq_getElem hi, he]
  have hl := look_at hI.nd hi2
  rw [h] at hl
  cases hl
  by_cases h0 : i = 0
  ·subst h0
   rw [hI.hd] at hi2
   simp at hi2
   exact absurd (hi2.2.symm.trans hi2.1) hne
  ·obtain ⟨_, h2, j, hj, z, hz⟩ := hI.par i x y hi2 om
   obtain ⟨r, rfl⟩ := hp.head
   exact .step (ih ⟨z, List.mem_of_getElem? hz⟩) h2
def Lim (V : Vis) (c : Int) : Prop := ∀ (i : Nat) (x u : Int) (p : List Int), V[i]? = some (x, u) → Back V x p → code p < c
def Ordd (V : Vis) : Prop := ∀ (i j : Nat) (x y u v : Int) (p q : List Int), i < j → V[i]? = some (x, u) → V[j]? = some (y, v) → Back V x p → Back V y q → code p < code q
theorem Lim.mono {V : Vis} {c c' : Int} (h : Lim V c) (hc : c ≤ c') : Lim V c' := fun i x u p h1 h2 => by
 have := h i x u p h1 h2
 omega
theorem back_old {E : List Edg} {a : Int} {V : Vis} (hI : Inv E a V) {q : Int × Int} {i : Nat} {x u : Int} (hi : V[i]? = some (x, u)) {p : List Int} (h : Back (V ++ [q]) x p) : Back V x p := by
 obtain ⟨p0, hp0, _⟩ := hI.back i x u hi
 rw [h.uniq (hp0.app q)]
 exact hp0
theorem ord_add {E : List Edg} {a : Int} {V : Vis} (hI : Inv E a V) {k : Nat} {x z : Int} (hk : V[k]? = some (x, z)) {pk : List Int} (hp : Back V x pk) {e : Edg} {c : Int} (ho : Ordd V) (hl : Lim V c) (hc : e.fr = x → c ≤ code pk * 8 + e.tt + 1) :
  Ordd (addE x V e) ∧ (Lim (addE x V e) c ∨ (e.fr = x ∧ Lim (addE x V e) (code pk * 8 + e.tt + 2))) := by
 by_cases h : e.fr = x ∧ V.lookup e.tt = none
 ·have hadd : addE x V e = V ++ [(e.tt, x)] := if_pos h
  rw [hadd]
  have hc' := hc h.1
  have hne : x ≠ e.tt := look_none.1 h.2 _ (List.mem_of_getElem? hk)
  have hnew : Back (V ++ [(e.tt, x)]) e.tt (e.tt :: pk) := .step (by rw [List.lookup_append, h.2]; simp) hne (hp.app _)
  have hcn : code (e.tt :: pk) = code pk * 8 + e.tt + 1 := rfl
  have split : ∀ (i : Nat) (y v : Int), (V ++ [(e.tt, x)])[i]? = some (y, v) → (V[i]? = some (y, v) ∧ i < V.length) ∨ (i = V.length ∧ y = e.tt) := fun i y v hi => by
   by_cases hlt : i < V.length
   ·rw [List.getElem?_append_left hlt] at hi
    exact .inl ⟨hi, hlt⟩
   ·have hi2 : i = V.length := by
     have := (List.getElem?_eq_some_iff.1 hi).1
     simp at this
     omega
    subst hi2
    simp at hi
    exact .inr ⟨rfl, hi.1.symm⟩
  refine ⟨fun i j y1 y2 v1 v2 p q hij h1 h2 b1 b2 => ?_, .inr ⟨h.1, fun i y v p h1 b1 => ?_⟩⟩
  ·rcases split i y1 v1 h1 with ⟨h1, hi1⟩ | ⟨hi1, _⟩
   ·rcases split j y2 v2 h2 with ⟨h2, _⟩ | ⟨_, rfl⟩
    ·exact ho i j y1 y2 v1 v2 p q hij h1 h2 (back_old hI h1 b1) (back_old hI h2 b2)
    ·have := hl i y1 v1 p h1 (back_old hI h1 b1)
     rw [b2.uniq hnew, hcn]
     omega
   ·have := (List.getElem?_eq_some_iff.1 h2).1
    simp at this
    omega
  ·rcases split i y v h1 with ⟨h1, _⟩ | ⟨_, rfl⟩
   ·have := hl i y v p h1 (back_old hI h1 b1)
    omega
   ·rw [b1.uniq hnew, hcn]
    omega
 ·have hadd : addE x V e = V := if_neg h
  rw [hadd]
  exact ⟨ho, .inl hl⟩
theorem ord_all {E : List Edg} {a : Int} {k : Nat} {x z : Int} {pk : List Int} : ∀ (l : List Edg) {V : Vis} (c : Int), Inv E a V → (∀ e ∈ l, e ∈ E) → l.Pairwise ltE → V[k]? = some (x, z) → Back V x pk → Ordd V → Lim V c → (∀ e ∈ l, e.fr = x → c ≤ code pk * 8 + e.tt + 1) → c ≤ code pk * 8 + 8 → (∀ e ∈ l, e.tt ≤ 6) →
  Ordd (addAll x V l) ∧ Lim (addAll x V l) (code pk * 8 + 8)
 | [], V, c, _, _, _, _, _, ho, hl, _, hc8, _ => ⟨ho, hl.mono hc8⟩
 | e :: r, V, c, hI, hm, hs, hk, hp, ho, hl, hc, hc8, h6 => by
  rw [List.pairwise_cons] at hs
  have ha := ord_add hI hk hp (e := e) ho hl (hc e (by simp))
  have hI2 := hI.add (hm e (by simp)) hk
  have hk2 := addE_at (x := x) (e := e) hk
  have hp2 := hp.addE x e
  have h6e := h6 e (by simp)
  rcases ha.2 with hl2 | ⟨hfe, hl2⟩
  ·exact ord_all r c hI2 (fun e' he => hm e' (by simp [he])) hs.2 hk2 hp2 ha.1 hl2 (fun e' he => hc e' (by simp [he])) hc8 (fun e' he => h6 e' (by simp [he]))
  ·refine ord_all r (code pk * 8 + e.tt + 2) hI2 (fun e' he => hm e' (by simp [he])) hs.2 hk2 hp2 ha.1 hl2 (fun e' he hfe' => ?_) om (fun e' he => h6 e' (by simp [he]))
   have := hs.1 e' he
   unfold ltE at this
   omega
theorem Bfs.ordd {E : List Edg} {a : Int} (hs : E.Pairwise ltE) (h0 : ∀ e ∈ E, 0 ≤ e.tt ∧ e.tt ≤ 6) (ha : 0 ≤ a) {V : Vis} {k : Nat} (h : Bfs E a V k) : Ordd V ∧ ∀ (x z : Int) (pk : List Int), V[k]? = some (x, z) → Back V x pk → Lim V (code pk * 8 + 1) := by
 induction h with
 | start =>
  have hone : ∀ (i : Nat) (x u : Int), [(a, a)][i]? = some (x, u) → i = 0 ∧ x = a := fun i x u hi => by
   have := (List.getElem?_eq_some_iff.1 hi).1
   simp at this
   subst this
   simp at hi
   exact ⟨rfl, hi.1.symm⟩
  have hb : Back [(a, a)] a [a] := .root (by simp)
  refine ⟨fun i j x y u v p q hij h1 h2 _ _ => ?_, fun x z pk h1 hpk i y u p h2 hp => ?_⟩
  ·have := (hone _ _ _ h1).1
   have := (hone _ _ _ h2).1
   omega
  ·obtain ⟨_, rfl⟩ := hone _ _ _ h1
   obtain ⟨_, rfl⟩ := hone _ _ _ h2
   rw [hpk.uniq hb, hp.uniq hb]
   simp [code]
   omega
 | @pop V k x y h hk ih =>
  obtain ⟨hI, _⟩ := h.inv
  obtain ⟨pk, hpk, _⟩ := hI.back k x y hk
  have hall := ord_all (E := E) (a := a) E (code pk * 8 + 1) hI (fun _ h => h) hs hk hpk ih.1 (ih.2 x y pk hk hpk) (fun e he _ => by have := h0 e he; omega) om (fun e he => (h0 e he).2)
  refine ⟨hall.1, fun x' z' pk' h1 hb' => hall.2.mono ?_⟩
  have hpk2 : ∀ (l : List Edg) {V : Vis}, Back V x pk → Back (Go.Proofs.YtehhhiodfcdnmaaGreatDoor.addAll x V l) x pk := fun l => by
   induction l with
   | nil => exact fun h => h
   | cons e r ih => exact fun h => ih (h.addE x e)
  have := hall.1 k (k + 1) x x' y z' pk pk' om (addAll_at E hk) h1 (hpk2 E hpk) hb'
  omega
theorem addE_split {x : Int} {V : Vis} {e : Edg} {i : Nat} {y v : Int} (h : (addE x V e)[i]? = some (y, v)) : V[i]? = some (y, v) ∨ (v = x ∧ V.length ≤ i) := by
 by_cases hc : e.fr = x ∧ V.lookup e.tt = none
 ·have hadd : addE x V e = V ++ [(e.tt, x)] := if_pos hc
  rw [hadd] at h
  by_cases hlt : i < V.length
  ·rw [List.getElem?_append_left hlt] at h
   exact .inl h
  ·have hi2 : i = V.length := by
    have := (List.getElem?_eq_some_iff.1 h).1
    simp at this
    omega
   subst hi2
   simp at h
   exact .inr ⟨h.2.symm, Nat.le_refl _⟩
 ·have hadd : addE x V e = V := if_neg hc
  rw [hadd] at h
  exact .inl h
theorem addAll_split {x : Int} : ∀ (l : List Edg) {V : Vis} {i : Nat} {y v : Int}, (addAll x V l)[i]? = some (y, v) → V[i]? = some (y, v) ∨ (v = x ∧ V.length ≤ i)
 | [], V, i, y, v, h => .inl h
 | e :: r, V, i, y, v, h => by
  rcases addAll_split r (V := addE x V e) h with h | ⟨h1, h2⟩
  ·exact addE_split h
  ·exact .inr ⟨h1, Nat.le_trans addE_len h2⟩
theorem look_some {V : Vis} {x : Int} (h : V.lookup x ≠ none) : ∃ (i : Nat) (v : Int), V[i]? = some (x, v) := by
 have : ¬ ∀ q ∈ V, q.1 ≠ x := fun h2 => h (look_none.2 h2)
 simp only [Classical.not_forall] at this
 obtain ⟨q, hq, he⟩ := this
 have he : q.1 = x := Classical.not_not.1 he
 obtain ⟨i, hi, e⟩ := List.getElem_of_mem hq
 exact ⟨i, q.2, by rw [List.getElem?_eq_getElem hi, e, ← he]⟩
theorem addAll_has {x : Int} : ∀ (l : List Edg) {V : Vis} {e : Edg}, e ∈ l → e.fr = x → ∃ (i : Nat) (v : Int), (addAll x V l)[i]? = some (e.tt, v)
 | e0 :: r, V, e, he, hf => by
  rcases List.mem_cons.1 he with rfl | he
  ·have : ∃ (i : Nat) (v : Int), (addE x V e)[i]? = some (e.tt, v) := by
    by_cases hl : V.lookup e.tt = none
    ·have hadd : addE x V e = V ++ [(e.tt, x)] := if_pos ⟨hf, hl⟩
     rw [hadd]
     exact ⟨V.length, x, by simp⟩
    ·obtain ⟨i, v, h⟩ := look_some hl
     exact ⟨i, v, addE_at h⟩
   obtain ⟨i, v, h⟩ := this
   exact ⟨i, v, addAll_at r h⟩
  ·exact addAll_has r he hf
theorem Bfs.full {E : List Edg} {a : Int} {V : Vis} {k : Nat} (h : Bfs E a V k) :
  (∀ (i : Nat) (x y : Int), V[i]? = some (x, y) → 0 < i → ∃ j, j < k ∧ j < i ∧ ∃ z, V[j]? = some (y, z)) ∧
  (∀ (i : Nat) (u z : Int), i < k → V[i]? = some (u, z) → ∀ e ∈ E, e.fr = u → ∃ (i' : Nat) (v : Int), V[i']? = some (e.tt, v) ∧ (i' = 0 ∨ ∃ j, j ≤ i ∧ ∃ z', V[j]? = some (v, z'))) := by
 induction h with
 | start => exact ⟨fun i x y hi h0 => by
   have := (List.getElem?_eq_some_iff.1 hi).1
   simp at this
   omega, fun i u z hi => by omega⟩
 | @pop V k x y h hk ih =>
  obtain ⟨ih1, ih2⟩ := ih
  have hkl := (List.getElem?_eq_some_iff.1 hk).1
  refine ⟨fun i u v hi h0 => ?_, fun i u z hi hu e he hf => ?_⟩
  ·rcases addAll_split E hi with h1 | ⟨h1, h2⟩
   ·obtain ⟨j, hj, hji, z, hz⟩ := ih1 i u v h1 h0
    exact ⟨j, by omega, hji, z, addAll_at E hz⟩
   ·subst h1
    exact ⟨k, by omega, by omega, y, addAll_at E hk⟩
  ·by_cases hik : i = k
   ·subst hik
    rw [addAll_at E hk] at hu
    cases hu
    obtain ⟨i', v, hi'⟩ := addAll_has (x := x) E (V := V) he hf
    refine ⟨i', v, hi', ?_⟩
    rcases addAll_split E hi' with h1 | ⟨h1, h2⟩
    ·by_cases h0 : i' = 0
     ·exact .inl h0
     ·obtain ⟨j, hj, _, z, hz⟩ := ih1 i' _ v h1 om
      exact .inr ⟨j, by omega, z, addAll_at E hz⟩
    ·subst h1
     exact .inr ⟨i, Nat.le_refl _, y, addAll_at E hk⟩
   ·have hlt : i < V.length := by omega
    have hV : V[i]? = some (u, z) := by
     have h3 : V[i]? = some (V[i].1, V[i].2) := List.getElem?_eq_getElem hlt
     rw [addAll_at E h3] at hu
     rw [h3]
     exact hu
    obtain ⟨i', v, h1, h2⟩ := ih2 i u z om hV e he hf
    refine ⟨i', v, addAll_at E h1, ?_⟩
    rcases h2 with h2 | ⟨j, hj, z', hz⟩
    ·exact .inl h2
    ·exact .inr ⟨j, hj, z', addAll_at E hz⟩
theorem walk_pos {E : List Edg} {a : Int} (ha : 0 ≤ a) (h0 : ∀ e ∈ E, 0 ≤ e.tt ∧ e.tt ≤ 6) {r : List Int} (h : WalkR E a r) : 0 < code r := by
 induction h with
 | one => simp [code]; omega
 | step h he ih =>
  have := (h0 _ he).1
  simp only [code] at *
  omega
theorem step_le {E : List Edg} {a : Int} {V : Vis} {k : Nat} (h : Bfs E a V k) (ho : Ordd V) {i : Nat} {y u : Int} {q : List Int} (hi : i < k) (hy : V[i]? = some (y, u)) (hq : Back V y q) (h0 : 0 ≤ code q) {x : Int} (he : (⟨y, x⟩ : Edg) ∈ E) (hx : 0 ≤ x) :
  ∃ (i' : Nat) (v : Int) (q' : List Int), V[i']? = some (x, v) ∧ Back V x q' ∧ code q' ≤ code q * 8 + x + 1 := by
 obtain ⟨i', v, h1, h2⟩ := h.full.2 i y u hi hy ⟨y, x⟩ he rfl
 obtain ⟨hI, _⟩ := h.inv
 obtain ⟨q', hq', hjunk⟩ := hI.back i' x v h1
 clear hjunk
 refine ⟨i', v, q', h1, hq', ?_⟩
 cases hq' with
 | root hr => simp [code]; omega
 | @step _ y' p' hr hne hp =>
  have hv := look_at hI.nd h1
  rw [hr] at hv
  cases hv
  rcases h2 with h2 | ⟨j, hj, z', hz⟩
  ·subst h2
   rw [hI.hd] at h1
   simp at h1
   exact absurd (h1.2.symm.trans h1.1) hne
  ·have hle : code p' ≤ code q := by
    by_cases e : j = i
    ·subst e
     rw [hz] at hy
     cases hy
     rw [hp.uniq hq]
     exact Int.le_refl _
    ·have := ho j i _ _ _ _ _ _ om hz hy hp hq
     omega
   simp only [code]
   omega
theorem Bfs.least {E : List Edg} {a : Int} (hs : E.Pairwise ltE) (h0 : ∀ e ∈ E, 0 ≤ e.tt ∧ e.tt ≤ 6) (ha : 0 ≤ a) {V : Vis} {k : Nat} (h : Bfs E a V k) {r : List Int} (hr : WalkR E a r) :
  ∃ y r', r = y :: r' ∧ ((∃ (i : Nat) (u : Int) (q : List Int), V[i]? = some (y, u) ∧ Back V y q ∧ code q ≤ code r) ∨ ∃ (x z : Int) (pk : List Int), V[k]? = some (x, z) ∧ Back V x pk ∧ code pk * 8 + 1 ≤ code r) := by
 have ho := (h.ordd hs h0 ha).1
 obtain ⟨hI, hkl⟩ := h.inv
 have pos : ∀ {x : Int} {q : List Int} {i : Nat} {u : Int}, V[i]? = some (x, u) → Back V x q → 0 < code q := fun hi hq => walk_pos ha h0 (hq.walk hI ⟨_, List.mem_of_getElem? hi⟩)
 induction hr with
 | one =>
  exact ⟨a, [], rfl, .inl ⟨0, a, [a], hI.hd, .root (look_at hI.nd hI.hd), Int.le_refl _⟩⟩
 | @step x y p hw he ih =>
  refine ⟨x, y :: p, rfl, ?_⟩
  have hx := (h0 _ he).1
  simp only at hx
  have hc : code (x :: y :: p) = code (y :: p) * 8 + x + 1 := rfl
  obtain ⟨y', r', e, ih⟩ := ih
  cases e
  rcases ih with ⟨i, u, q, hi, hq, hle⟩ | ⟨x1, z1, pk, h1, h2, h3⟩
  ·have hp := pos hi hq
   by_cases hik : i < k
   ·obtain ⟨i', v, q', h1, h2, h3⟩ := step_le h ho hik hi hq om he hx
    exact .inl ⟨i', v, q', h1, h2, by omega⟩
   ·have hil := (List.getElem?_eq_some_iff.1 hi).1
    have hkk : k < V.length := by omega
    have hvk : V[k]? = some (V[k].1, V[k].2) := List.getElem?_eq_getElem hkk
    obtain ⟨pk, hpk, _⟩ := hI.back k _ _ hvk
    refine .inr ⟨_, _, pk, hvk, hpk, ?_⟩
    have hle2 : code pk ≤ code q := by
     by_cases e : i = k
     ·subst e
      rw [hvk] at hi
      cases hi
      rw [hpk.uniq hq]
      exact Int.le_refl _
     ·have := ho k i _ _ _ _ _ _ om hvk hi hpk hq
      omega
    omega
  ·have hp := pos h1 h2
   exact .inr ⟨x1, z1, pk, h1, h2, by omega⟩
theorem search_found {E : List Edg} {a b : Int} (hs : E.Pairwise ltE) (h0 : ∀ e ∈ E, 0 ≤ e.tt ∧ e.tt ≤ 6) (ha : 0 ≤ a) {n : Nat} (hE : EdgIn E n) (han : a < n) {l : List Int} (h : SearchR E a b l true) :
  ∃ p, l = (b :: p).reverse ∧ WalkR E a (b :: p) ∧ (b :: p).length ≤ n ∧ ∀ r, WalkR E a (b :: r) → code (b :: p) ≤ code (b :: r) := by
 rcases h with ⟨_, V, k, y, p, hB, hk, hp, rfl⟩ | ⟨h, _⟩
 ·obtain ⟨hI, hkl⟩ := hB.inv
  obtain ⟨p', rfl⟩ := hp.head
  have hw := hp.walk hI ⟨_, List.mem_of_getElem? hk⟩
  have hlen := hI.len hE ⟨ha, han⟩
  obtain ⟨p2, hp2, hl2, _⟩ := hI.back k b y hk
  have e := hp.uniq hp2
  have hkk := (List.getElem?_eq_some_iff.1 hk).1
  refine ⟨p', rfl, hw, by rw [e]; omega, fun r hr => ?_⟩
  obtain ⟨y', r', e, hh⟩ := hB.least hs h0 ha hr
  cases e
  rcases hh with ⟨i, u, q, hi, hq, hle⟩ | ⟨x1, z1, pk, h1, h2, h3⟩
  ·rw [hp.uniq hq]
   exact hle
  ·rw [hk] at h1
   cases h1
   rw [h2.uniq hp] at h3
   have := walk_pos ha h0 hw
   omega
 ·cases h
theorem search_none {E : List Edg} {a b : Int} (hs : E.Pairwise ltE) (h0 : ∀ e ∈ E, 0 ≤ e.tt ∧ e.tt ≤ 6) (ha : 0 ≤ a) {l : List Int} (h : SearchR E a b l false) : l = [] ∧ ∀ r, ¬ WalkR E a (b :: r) := by
 rcases h with ⟨h, _⟩ | ⟨_, rfl, V, hB, hn⟩
 ·cases h
 ·refine ⟨rfl, fun r hr => ?_⟩
  obtain ⟨y', r', e, hh⟩ := hB.least hs h0 ha hr
  cases e
  rcases hh with ⟨i, u, q, hi, _⟩ | ⟨x1, z1, pk, h1, _⟩
  ·exact hn _ (List.mem_of_getElem? hi) rfl
  ·have := (List.getElem?_eq_some_iff.1 h1).1
   omega
theorem walk_front {E : List Edg} {a c : Int} (he : (⟨a, c⟩ : Edg) ∈ E) {r : List Int} (h : WalkR E c r) : WalkR E a (r ++ [a]) := by
 induction h with
 | one => exact .step .one he
 | step h he2 ih => exact .step ih he2
theorem walk_cut {E : List Edg} {a : Int} {r : List Int} (h : WalkR E a r) : r = [a] ∨ ∃ c r0, (⟨a, c⟩ : Edg) ∈ E ∧ r = r0 ++ [a] ∧ WalkR E c r0 := by
 induction h with
 | one => exact .inl rfl
 | @step x y p h he ih =>
  rcases ih with e | ⟨c, r0, hc, e, hw⟩
  ·cases e
   exact .inr ⟨x, [x], he, rfl, .one⟩
  ·have : ∃ r1, r0 = y :: r1 := by
    cases hw with
    | one => simp at e; exact ⟨[], by rw [e.1]⟩
    | step _ _ => simp at e; exact ⟨_, by rw [e.1]⟩
   obtain ⟨r1, rfl⟩ := this
   simp at e
   subst e
   exact .inr ⟨c, x :: y :: r1, hc, rfl, .step hw he⟩
def reachN (S : SysD) : Nat → Int → Int → Bool
 | 0, a, b => a == b
 | m + 1, a, b => a == b || (List.range S.parts.length).any fun (c : Nat) => leadsB S a c && reachN S m c b
theorem edgesL_mem {S : SysD} {a b : Int} : (⟨a, b⟩ : Edg) ∈ edgesL S ↔ (0 ≤ a ∧ a < S.parts.length) ∧ (0 ≤ b ∧ b < S.parts.length) ∧ leadsB S a b = true := by
 unfold edgesL
 rw [outL_mem]
 constructor
 ·rintro ⟨x, y, hx, hy, e, hl⟩
  cases e
  exact ⟨by omega, by omega, hl⟩
 ·rintro ⟨ha, hb, hl⟩
  refine ⟨a.toNat, b.toNat, by omega, by omega, by simp; omega, ?_⟩
  rw [Int.toNat_of_nonneg ha.1, Int.toNat_of_nonneg hb.1]
  exact hl
theorem reachN_iff (S : SysD) : ∀ (m : Nat) (a b : Int), 0 ≤ a ∧ a < S.parts.length → (reachN S m a b = true ↔ ∃ r, WalkR (edgesL S) a (b :: r) ∧ r.length ≤ m)
 | 0, a, b, ha => by
  simp only [reachN, beq_iff_eq]
  constructor
  ·rintro rfl
   exact ⟨[], .one, by simp⟩
  ·rintro ⟨r, hr, hl⟩
   have : r = [] := List.eq_nil_of_length_eq_zero om
   subst this
   rcases walk_cut hr with e | ⟨c, r0, _, e, hw⟩
   ·cases e; rfl
   ·cases hw <;> simp at e
 | m + 1, a, b, ha => by
  simp only [reachN, Bool.or_eq_true, beq_iff_eq, List.any_eq_true, List.mem_range, Bool.and_eq_true]
  constructor
  ·rintro (rfl | ⟨c, hc, hl, hr⟩)
   ·exact ⟨[], .one, by simp⟩
   ·obtain ⟨r, hw, hlen⟩ := (reachN_iff S m c b om).1 hr
    exact ⟨r ++ [a], walk_front (edgesL_mem.2 ⟨ha, by omega, hl⟩) hw, by simp; omega⟩
  ·rintro ⟨r, hr, hlen⟩
   rcases walk_cut hr with e | ⟨c, r0, hc, e, hw⟩
   ·cases e; exact .inl rfl
   ·right
    obtain ⟨_, hcb, hl⟩ := edgesL_mem.1 hc
    have : ∃ r1, r0 = b :: r1 := by
     cases hw with
     | one => simp at e; exact ⟨[], by rw [e.1]⟩
     | step _ _ => simp at e; exact ⟨_, by rw [e.1]⟩
    obtain ⟨r1, rfl⟩ := this
    simp at e
    subst e
    refine ⟨c.toNat, by omega, ?_⟩
    rw [Int.toNat_of_nonneg hcb.1]
    exact ⟨hl, (reachN_iff S m c b hcb).2 ⟨r1, hw, by simp at hlen; omega⟩⟩
theorem code_snoc (a : Int) : ∀ r : List Int, code (r ++ [a]) = code r + (a + 1) * 8 ^ r.length
 | [] => by simp [code]
 | x :: r => by
  have ih := code_snoc a r
  simp only [List.cons_append, code, List.length_cons]
  rw [ih, Int.add_mul, Int.mul_assoc, ← Int.pow_succ]
  show code r * 8 + (a + 1) * 8 ^ (r.length + 1) + x + 1 = _
  omega
theorem code_lt : ∀ {r : List Int}, (∀ x ∈ r, 0 ≤ x ∧ x ≤ 6) → 0 ≤ code r ∧ code r < 8 ^ r.length
 | [], _ => by simp [code]
 | x :: r, h => by
  have ih := code_lt (r := r) (fun y hy => h y (by simp [hy]))
  have hx := h x (by simp)
  simp only [code, List.length_cons, Int.pow_succ]
  omega
theorem walk_in {E : List Edg} {a : Int} {n : Nat} (hE : EdgIn E n) (ha : 0 ≤ a ∧ a < n) {r : List Int} (h : WalkR E a r) : ∀ x ∈ r, 0 ≤ x ∧ x < n := by
 induction h with
 | one => intro x hx; simp at hx; rw [hx]; exact ha
 | step h he ih =>
  intro x hx
  rcases List.mem_cons.1 hx with rfl | hx
  ·exact ⟨(hE _ he).2.2.1, (hE _ he).2.2.2⟩
  ·exact ih x hx
theorem walk_last {E : List Edg} {a : Int} {r : List Int} (h : WalkR E a r) : ∃ r0, r = r0 ++ [a] := by
 rcases walk_cut h with e | ⟨_, r0, _, e, _⟩
 ·exact ⟨[], e⟩
 ·exact ⟨r0, e⟩
theorem code_less {E : List Edg} {a c : Int} {n : Nat} (hn : n ≤ 7) (hE : EdgIn E n) (ha : 0 ≤ a ∧ a < n) (hc : 0 ≤ c ∧ c < n) {p r : List Int} (hp : WalkR E a p) (hr : WalkR E c r) (hl : p.length = r.length) (hac : a < c) : code p < code r := by
 have ip := walk_in hE ha hp
 have ir := walk_in hE hc hr
 obtain ⟨p0, rfl⟩ := walk_last hp
 obtain ⟨r0, rfl⟩ := walk_last hr
 have hl0 : p0.length = r0.length := by simpa using hl
 have bp := code_lt (r := p0) (fun x hx => by have := ip x (by simp [hx]); omega)
 have br := code_lt (r := r0) (fun x hx => by have := ir x (by simp [hx]); omega)
 rw [code_snoc, code_snoc, hl0]
 rw [hl0] at bp
 have hpos : (0 : Int) < 8 ^ r0.length := Int.pow_pos (by decide)
 have : (a + 1) * 8 ^ r0.length + 8 ^ r0.length ≤ (c + 1) * 8 ^ r0.length := by
  have h1 : (a + 1 + 1) * (8 : Int) ^ r0.length ≤ (c + 1) * 8 ^ r0.length := Int.mul_le_mul_of_nonneg_right om om
  rw [Int.add_mul (a + 1) 1, Int.one_mul] at h1
  exact h1
 omega
theorem code_inj : ∀ {p q : List Int}, (∀ x ∈ p, 0 ≤ x ∧ x ≤ 6) → (∀ x ∈ q, 0 ≤ x ∧ x ≤ 6) → code p = code q → p = q
 | [], [], _, _, _ => rfl
 | [], y :: q, _, hq, h => by
  have := (code_lt (r := q) (fun x hx => hq x (by simp [hx]))).1
  have := hq y (by simp)
  simp only [code] at h
  omega
 | x :: p, [], hp, _, h => by
  have := (code_lt (r := p) (fun x hx => hp x (by simp [hx]))).1
  have := hp x (by simp)
  simp only [code] at h
  omega
 | x :: p, y :: q, hp, hq, h => by
  have hx := hp x (by simp)
  have hy := hq y (by simp)
  simp only [code] at h
  have h1 : x = y := by omega
  have h2 : code p = code q := by omega
  rw [h1, code_inj (fun x hx => hp x (by simp [hx])) (fun x hx => hq x (by simp [hx])) h2]
def flNextC (S : SysD) (n : Nat) (x b : Int) : Option Nat := (List.range S.parts.length).find? fun (c : Nat) => leadsB S x c && reachN S n c b
def fwd (S : SysD) (b : Int) : Nat → Int → List Int
 | 0, x => [x]
 | n + 1, x => match flNextC S n x b with
  | some c => x :: fwd S b n c
  | none => [x]
theorem next_some {S : SysD} {n : Nat} {x b : Int} (hx : 0 ≤ x ∧ x < S.parts.length) (hr : reachN S (n + 1) x b = true) (hne : x ≠ b) :
  ∃ c : Nat, flNextC S n x b = some c ∧ c < S.parts.length ∧ leadsB S x c = true ∧ reachN S n c b = true ∧ ∀ d : Nat, d < c → ¬ (leadsB S x d = true ∧ reachN S n d b = true) := by
 simp only [reachN, Bool.or_eq_true, beq_iff_eq, List.any_eq_true, List.mem_range, Bool.and_eq_true] at hr
 rcases hr with e | ⟨c0, hc0, h0⟩
 ·exact absurd e hne
 ·cases hf : flNextC S n x b with
  | none =>
   unfold flNextC at hf
   rw [List.find?_eq_none] at hf
   exact absurd (by simpa using h0) (hf c0 (List.mem_range.2 hc0))
  | some c =>
   unfold flNextC at hf
   rw [List.find?_range_eq_some] at hf
   obtain ⟨h1, h2, h3⟩ := hf
   simp only [Bool.and_eq_true] at h1
   refine ⟨c, rfl, List.mem_range.1 h2, h1.1, h1.2, fun d hd hdd => ?_⟩
   have := h3 d hd
   simp [hdd.1, hdd.2] at this
theorem edgesL_in (S : SysD) : EdgIn (edgesL S) S.parts.length := fun e he => by
 obtain ⟨a, b, ha, hb, rfl, _⟩ := outL_mem.1 (show e ∈ outL S S.parts.length S.parts.length from he)
 simp
 omega
theorem fwd_least (S : SysD) (h7 : S.parts.length ≤ 7) (b : Int) : ∀ (n : Nat) (x : Int), 0 ≤ x ∧ x < S.parts.length → reachN S n x b = true → (∀ m, m < n → reachN S m x b = false) →
  ∃ p, fwd S b n x = (b :: p).reverse ∧ WalkR (edgesL S) x (b :: p) ∧ p.length = n ∧ ∀ r, WalkR (edgesL S) x (b :: r) → r.length = n → code (b :: p) ≤ code (b :: r)
 | 0, x, hx, hr, _ => by
  simp only [reachN, beq_iff_eq] at hr
  subst hr
  refine ⟨[], rfl, .one, rfl, fun r _ hl => ?_⟩
  have : r = [] := List.eq_nil_of_length_eq_zero hl
  subst this
  exact Int.le_refl _
 | n + 1, x, hx, hr, hmin => by
  have hne : x ≠ b := fun e => by
   have := hmin 0 om
   simp [reachN, e] at this
  obtain ⟨c, hc, hcl, hle, hrc, hleast⟩ := next_some hx hr hne
  have hci : 0 ≤ (c : Int) ∧ (c : Int) < S.parts.length := by omega
  have hup : ∀ m, reachN S m c b = true → reachN S (m + 1) x b = true := fun m hm => by
   simp only [reachN, Bool.or_eq_true, List.any_eq_true, List.mem_range, Bool.and_eq_true]
   exact .inr ⟨c, hcl, hle, hm⟩
  obtain ⟨p, e1, e2, e3, e4⟩ := fwd_least S h7 b n c hci hrc (fun m hm => by
   cases h : reachN S m c b with
   | false => rfl
   | true =>
    have := hmin (m + 1) om
    rw [hup m h] at this
    cases this)
  have he : (⟨x, c⟩ : Edg) ∈ edgesL S := edgesL_mem.2 ⟨hx, hci, hle⟩
  refine ⟨p ++ [x], ?_, walk_front he e2, by simp [e3], fun r hr hl => ?_⟩
  ·simp only [fwd, hc]
   rw [e1]
   simp
  ·rcases walk_cut hr with e | ⟨d, r0, hd, e, hw⟩
   ·cases e; exact absurd rfl hne
   ·have : ∃ r1, r0 = b :: r1 := by
     cases hw with
     | one => simp at e; exact ⟨[], by rw [e.1]⟩
     | step _ _ => simp at e; exact ⟨_, by rw [e.1]⟩
    obtain ⟨r1, rfl⟩ := this
    simp at e
    subst e
    have hl1 : r1.length = n := by simpa using hl
    obtain ⟨_, hdi, hdl⟩ := edgesL_mem.1 hd
    have hrd : reachN S n d b = true := (reachN_iff S n d b hdi).2 ⟨r1, hw, by omega⟩
    have hcd : (c : Int) ≤ d := by
     by_cases h : (c : Int) ≤ d
     ·exact h
     ·have := hleast d.toNat om
      rw [Int.toNat_of_nonneg hdi.1] at this
      exact absurd ⟨hdl, hrd⟩ this
    have hcode : code (b :: p) ≤ code (b :: r1) := by
     by_cases e : (c : Int) = d
     ·rw [← e] at hw
      exact e4 r1 hw hl1
     ·have := code_less h7 (edgesL_in S) hci hdi e2 hw (by simp [e3, hl1]) om
      omega
    have s1 : code (b :: (p ++ [x])) = code (b :: p) + (x + 1) * 8 ^ (b :: p).length := code_snoc x (b :: p)
    have s2 : code (b :: (r1 ++ [x])) = code (b :: r1) + (x + 1) * 8 ^ (b :: r1).length := code_snoc x (b :: r1)
    have hll : (b :: p).length = (b :: r1).length := by simp [e3, hl1]
    rw [s1, s2, hll]
    omega
end Go.Proofs.YtehhhiodfcdnmaaGreatDoor
