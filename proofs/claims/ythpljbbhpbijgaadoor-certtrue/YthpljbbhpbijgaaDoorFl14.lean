/- flow.search. -/
import Derived.Test.YthpljbbhpbijgaaDoorJs
namespace Go.Proofs.YthpljbbhpbijgaaDoor
set_option linter.unusedSimpArgs false
set_option linter.unusedVariables false
open Go.RowKit Go.Sort Go.Shelf Go.Lib Go.Maps

def SearchR (E : List Edg) (a b : Int) (l : List Int) (r : Bool) : Prop :=
  (r = true ∧ ∃ V k y p, Bfs E a V k ∧ V[k]? = some (b, y) ∧ Back V b p ∧ l = p.reverse) ∨ (r = false ∧ l = [] ∧ ∃ V, Bfs E a V V.length ∧ ∀ q ∈ V, q.1 ≠ b)
theorem QRow.mono {w : World} {base base' : Nat} {v : Value} {zs : List Int} (h : QRow w base v zs) (hb : base' ≤ base) : QRow w base' v zs := by
  obtain ⟨g, off, cap, cur, e, hg, r⟩ := h
  exact ⟨g, off, cap, cur, e, Nat.le_trans hb hg, r⟩
theorem QRow.alloc {w : World} {base : Nat} {v : Value} {zs : List Int} (h : QRow w base v zs) (o : Obj) : QRow (w.alloc o) base v zs := h.up ((RowKit.Below.refl _ _).alloc (Nat.le_refl _) _)
section
variable {w : World} {ops : Array Oper} {rest : List Oper} {o : Oper} {a : Act} {Q : Exit → Act → World → Prop}
theorem wpList_seen_okn (hg : o.guard = none) (m x : Operand) (hop : o.op = Op.lookup 102 m x true) (b n : Nat) (V : List (Int × Int)) (hm : a.eval m = .map (some b)) (hown : SeenM w b n V)
    (kx : Int) (hx : a.eval x = .int .i64 kx) (wx : wfI kx) (hl : V.lookup kx = none)
    (hK : wpList Tryd.prog ops Q rest (a.put o.dst (.tuple #[.int .i64 0, .bool false])) w) : wpList Tryd.prog ops Q (o :: rest) a w :=
  wpList_seen_ok hg m x hop b n V hm hown kx hx wx (by rw [hl]; exact hK)
theorem wpList_seen_oks (hg : o.guard = none) (m x : Operand) (hop : o.op = Op.lookup 102 m x true) (b n : Nat) (V : List (Int × Int)) (hm : a.eval m = .map (some b)) (hown : SeenM w b n V)
    (kx : Int) (hx : a.eval x = .int .i64 kx) (wx : wfI kx) (ky : Int) (hl : V.lookup kx = some ky)
    (hK : wpList Tryd.prog ops Q rest (a.put o.dst (.tuple #[.int .i64 ky, .bool true])) w) : wpList Tryd.prog ops Q (o :: rest) a w :=
  wpList_seen_ok hg m x hop b n V hm hown kx hx wx (by rw [hl]; exact hK)
end
theorem edge_cells {w : World} {b off : Nat} {l : List Edg} (hc : ∀ j u, (rowC Edg.cells l)[j]? = some u → w.cell? ⟨b, off + j, none⟩ = some u) (k : Nat) (h : k < l.length) :
    w.cell? ⟨b, off + k * 2, none⟩ = some (.int .i64 l[k].fr) ∧ w.cell? ⟨b, off + k * 2 + 1, none⟩ = some (.int .i64 l[k].tt) := by
  refine ⟨?_, ?_⟩
  · exact hc (k * 2) _ (by have := rowC_at (s := 2) (f := Edg.cells) edg_len l k 0 h (by decide); simpa [Edg.cells] using this)
  · exact hc (k * 2 + 1) _ (by rw [rowC_at (s := 2) (f := Edg.cells) edg_len l k 1 h (by decide)]; rfl)
set_option maxRecDepth 100000 in
set_option maxHeartbeats 8000000 in
theorem search_any (E : List Edg) (n : Nat) (hn : n ≤ 100) (hE : EdgIn E n) (hEl : E.length ≤ 1000) (a b : Int) (ha : 0 ≤ a ∧ a < n) (f : Nat) (hen : Enters f) (caps : Array Value) (ve : Value) (w : World) (hS : Sl w 2 ve E.length (rowC Edg.cells E))
    (hf : ∀ x w', RowKit.Below w.heap.size w w' → Calls Tryd.prog f (#[.int .i64 x] ++ caps) w' fun e w'' => e = .returned (.bool (x == b)) ∧ w'' = w') :
    Calls Tryd.prog 30 #[ve, .int .i64 a, .func (.func f) #[] caps] w fun e w' => ∃ v l r, e = .returned (.tuple #[v, .bool r]) ∧ SearchR E a b l r ∧ Sl w' 1 v l.length (ints l) ∧ RowKit.Below w.heap.size w w' := by
  obtain ⟨va, vcap, rfl⟩ := hS.form
  have HS := Lib.hid hS
  have HF := Lib.hid hf
  have HEI := Lib.hid hE
  have HA := Lib.hid ha
  have wa : wfI a := wf_small ha.1 (by omega)
  clear hS hf hE ha
  unfold Enters at hen
  have hmm := @run_makeMap Tryd.prog
  go_enter Tryd.func30, Tryd.ntmps30
  go_wp2_with (refine wpList_seen_put rfl (.tmp 15) (.tmp 16) (.tmp 17) (Or.inr rfl) w.heap.size 0 [] rfl (seen_made w) (by decide) a a rfl rfl wa wa rfl ?_; intro w1 hs1 hg1; have HS1 := Lib.hid hs1; have HB1 := Lib.hid ((RowKit.Below.refl w.heap.size w |>.alloc (Nat.le_refl _) _).grown hg1 (by simp) (fun q e => by cases e; exact Nat.le_refl _)); have hw1 : w.heap.size + 1 ≤ w1.heap.size := Nat.le_trans (by simp) hg1.size; clear hs1 hg1)
  clear hmm
  go_loopg [9] n (fun m l wr => ∃ (V : Vis) (k : Nat), n - k ≤ m ∧ Hid (Bfs E a V k) ∧ Hid (∀ (j : Nat) (x y : Int), j < k → V[j]? = some (x, y) → x ≠ b) ∧ Hid (QRow wr (w.heap.size + 1) l ((V.drop k).map Prod.fst)) ∧ Hid (SeenM wr w.heap.size V.length V) ∧ Hid (RowKit.Below w.heap.size w wr))
  case atStart => exact ⟨[(a, a)], 0, by omega, Lib.hid .start, Lib.hid (fun j x y hj => by omega), Lib.hid ((q_one w1 a).mono hw1), Lib.hid (HS1.out.alloc _), Lib.hid (HB1.out.alloc HB1.out.size _)⟩
  case round =>
    clear HS1 HB1 hw1
    obtain ⟨V, k, hm, HBF, HNB, HQ, HM, HB⟩ := hrel
    have hinv := HBF.out.inv
    have hkl := hinv.2
    have hvl := hinv.1.len HEI.out HA.out
    by_cases hlt : k < V.length
    · have hvk : V[k]? = some (V[k].1, V[k].2) := List.getElem?_eq_getElem hlt
      have hdr : (V.drop k).map Prod.fst = V[k].1 :: (V.drop (k + 1)).map Prod.fst := by
        rw [List.drop_eq_getElem_cons hlt]
        rfl
      have hwx := hinv.1.within HEI.out HA.out V[k] (List.getElem_mem hlt)
      rw [hdr] at HQ
      generalize V[k].1 = x at HQ hvk hwx
      generalize V[k].2 = y at hvk hwx
      have wx : wfI x := wf_small hwx.1.1 (by omega)
      obtain ⟨g, off, cap, hv, hcap, hgb, hgl, hcl⟩ := HQ.out.form
      subst hv
      have c0 : wr.cell? ⟨g, off, none⟩ = some (.int .i64 x) := hcl 0 (by simp)
      generalize hL : (x :: (V.drop (k + 1)).map Prod.fst).length = L at HQ hcap
      have hL0 : (0 : Int) < L := by rw [← hL]; simp
      have hL1 : 0 < L := by omega
      clear hL hcl hdr hinv
      by_cases hxb : x = b
      · subst hxb
        have HC := Lib.hid (fun w' hb => HF.out x w' hb)
        have hbb : (x == x) = true := by simp
        rw [hbb] at HC
        obtain ⟨p, hp, hpl, hpm⟩ := HBF.out.inv.1.back k x y hvk
        have HP := Lib.hid hp
        have HWF : Hid (∀ u ∈ p, wfI u) := Lib.hid (fun u hu => by
          obtain ⟨v, hv⟩ := hpm u hu
          have := HBF.out.inv.1.within HEI.out HA.out _ hv
          exact wf_small this.1.1 (by omega))
        have HPL : Hid (p.length ≤ 1000) := Lib.hid (by omega)
        clear hp hpl hpm
        go_wp2_with (first | (refine wpList_q_pop rfl (.tmp 27) rfl (w.heap.size + 1) _ x ((V.drop (k + 1)).map Prod.fst) rfl HQ.out ?_; intro v2 hq2) | (go_at_call 67; refine (trail_any V w.heap.size V.length x p HP.out HWF.out HPL.out _ HM.out).mono ?_; rintro e w3 ⟨v3, rfl, hs3, hb3⟩) | (refine (HC.out _ HB.out).mono ?_; rintro e w2 ⟨rfl, rfl⟩))
        go_ret2
        exact ⟨_, p.reverse, true, rfl, .inl ⟨rfl, V, k, y, p, HBF.out, hvk, HP.out, rfl⟩, hs3, HB.out.trans (hb3.mono HB.out.size)⟩
      · have HC := Lib.hid (fun w' hb => HF.out x w' hb)
        have hbb : (x == b) = false := by simpa using hxb
        rw [hbb] at HC
        have HNB2 : Hid (∀ (j : Nat) (x y : Int), j < k + 1 → V[j]? = some (x, y) → x ≠ b) := Lib.hid (fun j u v hj huv => by
          by_cases e : j = k
          · subst e
            rw [hvk] at huv
            simp at huv
            rw [← huv.1]
            exact hxb
          · exact HNB.out j u v (by omega) huv)
        have HVK := Lib.hid hvk
        clear HNB hbb hvk
        go_wp2_with (first | (refine wpList_q_pop rfl (.tmp 27) rfl (w.heap.size + 1) _ x ((V.drop (k + 1)).map Prod.fst) rfl HQ.out ?_; intro v2 hq2; have HQ2 := Lib.hid hq2; clear hq2 HQ c0) | (refine (HC.out _ HB.out).mono ?_; rintro e w2 ⟨rfl, rfl⟩; clear HC HF))
        go_loopw [37, 9] (fun i l wr2 => ∃ (j : Nat), i = .int .i64 j ∧ j ≤ E.length ∧ Hid (QRow wr2 (w.heap.size + 1) l (((addAll x V (E.take j)).drop (k + 1)).map Prod.fst)) ∧ Hid (SeenM wr2 w.heap.size (addAll x V (E.take j)).length (addAll x V (E.take j))) ∧ Hid (RowKit.Below w.heap.size w wr2)) (fun i _ _ => E.length - (intOf i).toNat)
        case atStart => exact ⟨0, rfl, Nat.zero_le _, HQ2, HM, HB⟩
        case round =>
          clear HQ2 HM HB
          obtain ⟨j, rfl, hj, HQ, HM, HB⟩ := hrel
          by_cases hjl : j < E.length
          · have hji : (j : Int) < E.length := by omega
            have h0i : (0 : Int) ≤ j := by omega
            obtain ⟨eb, eo, ecap, e1, hec, hebw, hc⟩ := HS.out.open (by omega)
            cases e1
            obtain ⟨hfr, htt⟩ := edge_cells hc j hjl
            have hws := HB.out.size
            have c0 := bcl HB.out hebw hfr
            have c1 := bcl HB.out hebw htt
            have hbr : eb < wr.heap.size := by omega
            have hbr' : eb ≠ wr.heap.size := by omega
            have HST : Hid (addAll x V (E.take (j + 1)) = addE x (addAll x V (E.take j)) E[j]) := Lib.hid (by rw [List.take_succ_eq_append_getElem hjl, addAll_snoc])
            have HIN := Lib.hid (Inv.addAll (E.take j) HBF.out.inv.1 (fun e he => List.mem_of_mem_take he) HVK.out)
            have HLE := Lib.hid (addAll_len (x := x) (E.take j) (V := V))
            have HED := Lib.hid (HEI.out E[j] (List.getElem_mem hjl))
            generalize addAll x V (E.take j) = V1 at HQ HM HST HIN HLE
            generalize E[j] = ed at c0 c1 HST HED
            obtain ⟨ef, et⟩ := ed
            simp only at c0 c1
            have wt : wfI et := wf_small HED.out.2.2.1 (by have := HED.out.2.2.2; simp at this; omega)
            have hmlt := HM.out.lt
            have hmne : wr.heap.size ≠ w.heap.size := by omega
            have hv1 := HIN.out.len HEI.out HA.out
            clear hc hfr htt HED
            by_cases h1 : ef = x
            · subst h1
              cases hlk : V1.lookup et with
              | none =>
                have HAD : Hid (addE ef V1 ⟨ef, et⟩ = V1 ++ [(et, ef)]) := Lib.hid (if_pos ⟨rfl, hlk⟩)
                rw [HAD.out] at HST
                have HDR : Hid (((V1 ++ [(et, ef)]).drop (k + 1)).map Prod.fst = (V1.drop (k + 1)).map Prod.fst ++ [et]) := Lib.hid (by rw [List.drop_append_of_le_length (by have := HLE.out; omega), List.map_append]; rfl)
                have hql : ((V1.drop (k + 1)).map Prod.fst).length ≤ 1000 := by simp; omega
                clear HAD
                go_wp2_with (first
                  | (at_lookup; refine wpList_seen_okn rfl _ _ rfl w.heap.size V1.length V1 rfl (HM.out.alloc _) et rfl wt hlk ?_)
                  | (at_mapUpdate; refine wpList_seen_put rfl _ _ _ (Or.inl rfl) w.heap.size V1.length V1 rfl (HM.out.alloc _) (by omega) et ef rfl rfl wt wx hlk ?_; intro W1 hs1 hg1; have HM2 := Lib.hid hs1; have HB2 := Lib.hid ((HB.out.alloc hws _).grown hg1 (by simp; omega) (fun q e => by cases e; exact Nat.le_refl _)); have HQ2 := Lib.hid ((HQ.out.alloc _).kept hg1 (fun e => by have := (HQ.out.block _ e).1; omega)); have d1 : W1.cell? ⟨wr.heap.size, 1, none⟩ = some (.int .i64 et) := (hg1.cell_far ⟨wr.heap.size, 1, none⟩ (by simp) (fun e => hmne (Option.some.inj e))).trans (by simp); have hlt2 : wr.heap.size < W1.heap.size := Nat.lt_of_lt_of_le (by simp) hg1.size; have hne2 : wr.heap.size ≠ W1.heap.size := (by omega); have hW1 := HB2.out.size; clear hs1 hg1)
                  | (at_builtin; refine wpList_q_append rfl _ _ rfl (w.heap.size + 1) _ _ rfl (HQ2.out.alloc _) hql (by simp; omega) ⟨W1.heap.size, 0, none⟩ 1 et rfl (new_rangeE _ _ #[.int .i64 et] _ rfl) ?_; intro v3 W3 hq3 hg3; have HB3 := Lib.hid ((HB2.out.alloc hW1 _).grown hg3 (by simp; omega) (fun q e => by have := (HQ2.out.block q e).1; omega)); have HM3 := Lib.hid ((HM2.out.alloc _).kept hg3 (fun e => by have := (HQ2.out.block _ e.symm).1; omega)); have HQ3 := Lib.hid hq3; clear hq3 hg3))
                go_roundw
                case rel => exact ⟨j + 1, by go_num, by omega, by rw [HST.out, HDR.out]; exact HQ3, by rw [HST.out, List.length_append]; exact HM3, HB3⟩
                case measure => simp [intOf]; omega
              | some z =>
                have HAD : Hid (addE ef V1 ⟨ef, et⟩ = V1) := Lib.hid (if_neg (fun h => by rw [hlk] at h; cases h.2))
                rw [HAD.out] at HST
                clear HAD
                go_wp2_with (at_lookup; refine wpList_seen_oks rfl _ _ rfl w.heap.size V1.length V1 rfl (HM.out.alloc _) et rfl wt z hlk ?_)
                go_roundw
                case rel => exact ⟨j + 1, by go_num, by omega, by rw [HST.out]; exact Lib.hid (HQ.out.alloc _), by rw [HST.out]; exact Lib.hid (HM.out.alloc _), Lib.hid (HB.out.alloc hws _)⟩
                case measure => simp [intOf]; omega
            · have HAD : Hid (addE x V1 ⟨ef, et⟩ = V1) := Lib.hid (if_neg (fun h => h1 h.1))
              rw [HAD.out] at HST
              clear HAD
              cases hlk : V1.lookup et with
              | none =>
                go_wp2_with (at_lookup; refine wpList_seen_okn rfl _ _ rfl w.heap.size V1.length V1 rfl (HM.out.alloc _) et rfl wt hlk ?_)
                go_roundw
                case rel => exact ⟨j + 1, by go_num, by omega, by rw [HST.out]; exact Lib.hid (HQ.out.alloc _), by rw [HST.out]; exact Lib.hid (HM.out.alloc _), Lib.hid (HB.out.alloc hws _)⟩
                case measure => simp [intOf]; omega
              | some z =>
                go_wp2_with (at_lookup; refine wpList_seen_oks rfl _ _ rfl w.heap.size V1.length V1 rfl (HM.out.alloc _) et rfl wt z hlk ?_)
                go_roundw
                case rel => exact ⟨j + 1, by go_num, by omega, by rw [HST.out]; exact Lib.hid (HQ.out.alloc _), by rw [HST.out]; exact Lib.hid (HM.out.alloc _), Lib.hid (HB.out.alloc hws _)⟩
                case measure => simp [intOf]; omega
          · have hji : ¬ (j : Int) < E.length := by omega
            have htk : E.take j = E := List.take_of_length_le (by omega)
            rw [htk] at HQ HM
            have HBF2 := Lib.hid (Bfs.pop HBF.out HVK.out)
            have HNB3 : Hid (∀ (j : Nat) (u v : Int), j < k + 1 → (addAll x V E)[j]? = some (u, v) → u ≠ b) := Lib.hid (fun j u v hj huv => by
              have hj2 : j < V.length := by omega
              have h3 : V[j]? = some (V[j].1, V[j].2) := List.getElem?_eq_getElem hj2
              have h4 := addAll_at (x := x) E h3
              rw [h4] at huv
              simp at huv
              have := HNB2.out j _ _ hj h3
              rw [← huv.1]
              exact this)
            clear htk HNB2
            go_wp2
            go_roundg (n - (k + 1))
            case measure => omega
            case rel => exact ⟨addAll x V E, k + 1, Nat.le_refl _, HBF2, HNB3, HQ, HM, HB⟩
    · have hke : k = V.length := by omega
      have hnil : (V.drop k).map Prod.fst = [] := by rw [List.drop_of_length_le (by omega)]; rfl
      rw [hnil] at HQ
      obtain ⟨g, off, cap, hv, _⟩ := HQ.out.form
      subst hv
      have HFI : Hid (SearchR E a b [] false) := Lib.hid (.inr ⟨rfl, rfl, V, hke ▸ HBF.out, fun q hq => by
        obtain ⟨i, hi, he⟩ := List.getElem_of_mem hq
        exact HNB.out i q.1 q.2 (by omega) (by rw [List.getElem?_eq_getElem hi, he])⟩)
      clear HQ HNB hnil
      go_wp2
      go_ret2
      exact ⟨_, [], false, rfl, HFI.out, ⟨rfl, none, 0, rfl, Nat.le_refl _, fun h => absurd h (by simp)⟩, HB.out⟩
end Go.Proofs.YthpljbbhpbijgaaDoor
