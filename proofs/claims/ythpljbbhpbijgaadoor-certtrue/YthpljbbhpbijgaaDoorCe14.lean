/- The reference's CertifyOf. -/
import Derived.Test.YthpljbbhpbijgaaDoorCe13
namespace Go.Proofs.YthpljbbhpbijgaaDoor
set_option linter.unusedSimpArgs false
set_option linter.unusedVariables false
open Go.RowKit Go.Sort Go.Shelf Go.Lib Go.Maps

/-- Rows of numbers that are appended to a row of their own. -/
def TabI (w : World) (B : Nat) (v : Value) (f : Nat → List Int) (k : Nat) : Prop :=
  ∃ vs : List Value, vs.length = k ∧ w.ownsRow B 42 1 v k vs ∧ ∀ a (h : a < vs.length), Sl w 1 vs[a] (f a).length (ints (f a)) ∧ ∀ b, vs[a].ownBlock = some b → B ≤ b ∧ v.ownBlock ≠ some b ∧ b < w.heap.size
theorem TabI.up {w w' : World} {B : Nat} {v : Value} {f : Nat → List Int} {k : Nat} (h : TabI w B v f k) (hb : RowKit.Below w.heap.size w w') : TabI w' B v f k := by
  obtain ⟨vs, h1, h2, h3⟩ := h
  exact ⟨vs, h1, own_upF h2 hb, fun a ha => ⟨(h3 a ha).1.up hb, fun b e => ⟨((h3 a ha).2 b e).1, ((h3 a ha).2 b e).2.1, Nat.lt_of_lt_of_le ((h3 a ha).2 b e).2.2 hb.size⟩⟩⟩
theorem tabI_nil (w : World) (B : Nat) (f : Nat → List Int) : TabI w B (.slice none 0 0) f 0 := ⟨[], rfl, World.ownsRow_nil _ _ _ _, fun a h => absurd h (Nat.not_lt_zero _)⟩
theorem TabI.set {w : World} {B : Nat} {v : Value} {f : Nat → List Int} {k c j : Nat} (h : TabI w B v f k) (hc : c < B) (u : Value) : TabI (w.setCell ⟨c, j, none⟩ u) B v f k := by
  obtain ⟨vs, h1, h2, h3⟩ := h
  refine ⟨vs, h1, own_set h2 u (fun e => by have := own_block h2 c e; omega), fun a ha => ⟨(h3 a ha).1.set u (fun e => by have := ((h3 a ha).2 c e).1; omega), fun b e => ⟨((h3 a ha).2 b e).1, ((h3 a ha).2 b e).2.1, by rw [size_set]; exact ((h3 a ha).2 b e).2.2⟩⟩⟩
theorem TabI.add {w w' : World} {B : Nat} {v : Value} {f : Nat → List Int} {k g cap : Nat} {x : Value} {vs : List Value} (h1 : vs.length = k) (h3 : ∀ a (h : a < vs.length), Sl w 1 vs[a] (f a).length (ints (f a)) ∧ ∀ b, vs[a].ownBlock = some b → B ≤ b ∧ v.ownBlock ≠ some b ∧ b < w.heap.size)
    (ho : w'.ownsRow B 42 1 (.slice (some ⟨g, 0, none⟩) (k + 1) cap) (k + 1) (vs ++ [x])) (hg : w.grownBy w' v.ownBlock) (hat : v.ownBlock = some g ∨ g = w.heap.size) (hx : Sl w 1 x (f k).length (ints (f k))) (hxb : ∀ b, x.ownBlock = some b → B ≤ b ∧ v.ownBlock ≠ some b ∧ b < w.heap.size) :
    TabI w' B (.slice (some ⟨g, 0, none⟩) (k + 1) cap) f (k + 1) := by
  have far : ∀ b, B ≤ b ∧ v.ownBlock ≠ some b ∧ b < w.heap.size → B ≤ b ∧ (Value.slice (some ⟨g, 0, none⟩) (k + 1) cap).ownBlock ≠ some b ∧ b < w'.heap.size := fun b ⟨e0, e1, e2⟩ => ⟨e0, fun e => by
    simp [Value.ownBlock] at e
    subst e
    rcases hat with hat | hat
    · exact e1 hat
    · omega, Nat.lt_of_lt_of_le e2 hg.size⟩
  refine ⟨vs ++ [x], by simp [h1], ho, fun a ha => ?_⟩
  by_cases hak : a < vs.length
  · rw [List.getElem_append_left hak]
    exact ⟨flSl_grown (h3 a hak).1 hg (fun b e => ((h3 a hak).2 b e).2.1), fun b e => far b ((h3 a hak).2 b e)⟩
  · have : a = k := by simp at ha; omega
    subst this
    rw [List.getElem_append_right (by omega)]
    simp only [h1, Nat.sub_self, List.getElem_cons_zero]
    exact ⟨flSl_grown hx hg (fun b e => (hxb b e).2.1), fun b e => far b (hxb b e)⟩
theorem TabI.f {w : World} {B C : Nat} {v : Value} {f : Nat → List Int} {k : Nat} (h : TabI w B v f k) (hc : C ≤ B) : SetsF C w v ((List.range k).map f) := by
  obtain ⟨vs, h1, h2, h3⟩ := h
  refine ⟨vs, by simp [h1], by simpa using own_sl h2, fun b e => Nat.le_trans hc (own_block h2 b e), fun a ha ha' => ?_⟩
  have := (h3 a ha).1
  exact ⟨by simpa using this, fun b e => Nat.le_trans hc ((h3 a ha).2 b e).1⟩
theorem TabI.form {w : World} {B : Nat} {v : Value} {f : Nat → List Int} {k : Nat} (h : TabI w B v f k) : ∃ ao cap, v = .slice ao k cap := let ⟨_, _, h2, _⟩ := h; own_form h2
theorem TabI.lt {w : World} {B : Nat} {v : Value} {f : Nat → List Int} {k b : Nat} (h : TabI w B v f k) (e : v.ownBlock = some b) : b < w.heap.size := let ⟨_, _, h2, _⟩ := h; (h2.lt b e).2
set_option maxRecDepth 100000 in
set_option maxHeartbeats 8000000 in
theorem certifyOf_any (S : SysD) (h4 : S.parts.length ≤ 4) (hcl : S.chans.length ≤ 6) (L : List Edg) (hLl : L.length ≤ 16) (vp vc vs vL : Value) (w : World) (hS : Sys w vp vc vs S) (hL : Sl w 2 vL L.length (rowC Edg.cells L)) :
    Calls Tryd.prog 22 #[.agg #[vp, vc, vs], .agg #[vL]] w fun e w' => ∃ vS vP, e = .returned (.tuple #[.agg #[vS], vP, .bool (certG S L).is]) ∧ SetsF w.heap.size w' vS (certG S L).sets ∧ Sl w' 1 vP (certG S L).path.length (ints (certG S L).path) ∧ NewB w.heap.size vP ∧ RowKit.Below w.heap.size w w' := by
  obtain ⟨i1, hi1, hy0, hy1, hy2⟩ := info_parts info3
  obtain ⟨i2, hi2, hb0, hb1, hb2⟩ := info_parts infoIntsC
  obtain ⟨pa, pc, rfl⟩ := hS.p.form
  obtain ⟨ca, cc, rfl⟩ := hS.c.form
  obtain ⟨sa, sc, rfl⟩ := hS.s.form
  obtain ⟨la, lc, rfl⟩ := hL.form
  go_enter Tryd.func22, Tryd.ntmps22
  go_upto_region 1 with fail
  have HB := Lib.hid ((box_new w (.slice pa S.parts.length pc) (.slice ca S.chans.length cc) (.slice sa S.slots.length sc) 26 _ rfl).up (((RowKit.Below.refl _ _).alloc (Nat.le_refl _) (.cells #[.slice la L.length lc] 52)).alloc (by simp) (.cells #[.slice none 0 0] 55)))
  have y3 : (((w.alloc (.cells #[.slice pa S.parts.length pc, .slice ca S.chans.length cc, .slice sa S.slots.length sc] 26)).alloc (.cells #[.slice la L.length lc] 52)).alloc (.cells #[.slice none 0 0] 55)).cell? ⟨w.heap.size + 1, 0, none⟩ = some (.slice la L.length lc) := bcl ((RowKit.Below.refl _ _).alloc (Nat.le_refl _) _) (by simp) (by simp)
  have r4 : Rw (((w.alloc (.cells #[.slice pa S.parts.length pc, .slice ca S.chans.length cc, .slice sa S.slots.length sc] 26)).alloc (.cells #[.slice la L.length lc] 52)).alloc (.cells #[.slice none 0 0] 55)) (w.heap.size + 1 + 1) 55 #[.slice none 0 0] := Rw.new _ _ _ (by simp)
  have hw0 : w.heap.size + 2 < (((w.alloc (.cells #[.slice pa S.parts.length pc, .slice ca S.chans.length cc, .slice sa S.slots.length sc] 26)).alloc (.cells #[.slice la L.length lc] 52)).alloc (.cells #[.slice none 0 0] 55)).heap.size := by simp
  have D0 : Hid (RowKit.Below w.heap.size w (((w.alloc (.cells #[.slice pa S.parts.length pc, .slice ca S.chans.length cc, .slice sa S.slots.length sc] 26)).alloc (.cells #[.slice la L.length lc] 52)).alloc (.cells #[.slice none 0 0] 55))) := Lib.hid (by repeat (first | exact Below.refl _ _ | assumption | refine Below.drew ?_ | refine Below.alloc ?_ (by first | (simp; done) | (simp; omega)) _ | refine Below.setCell ?_ (by first | (simp; done) | (simp; omega)) _))
  generalize (((w.alloc (.cells #[.slice pa S.parts.length pc, .slice ca S.chans.length cc, .slice sa S.slots.length sc] 26)).alloc (.cells #[.slice la L.length lc] 52)).alloc (.cells #[.slice none 0 0] 55)) = W0 at HB y3 r4 hw0 D0 ⊢
  have HS := Lib.hid (hS.up D0.out)
  have HL := Lib.hid (hL.up D0.out)
  have HY3 := Lib.hid y3
  have HR4 := Lib.hid r4
  clear hS hL y3 r4
  go_wp2
  go_loopw [7] (fun i wr => ∃ a : Nat, i = .int .i64 a ∧ a ≤ S.parts.length ∧ Hid (∀ c d : Nat, c < a → d < S.parts.length → (reachB S c d && !(mayB L c d)) = false) ∧ Hid (RowKit.Below W0.heap.size W0 wr)) (fun i _ => S.parts.length - (intOf i).toNat)
  case atStart => exact ⟨0, rfl, Nat.zero_le _, Lib.hid (fun c d h => by omega), Lib.hid (RowKit.Below.refl _ _)⟩
  case round =>
    obtain ⟨a, rfl, ha, HP, HT⟩ := hrel
    have hws := HT.out.size
    have k0 := (HB.out.up HT.out).p
    by_cases hlt : a < S.parts.length
    · have hli : (a : Int) < S.parts.length := by omega
      go_wp2
      clear k0
      go_loopw [8] (fun i wr => ∃ b : Nat, i = .int .i64 b ∧ b ≤ S.parts.length ∧ Hid (∀ d : Nat, d < b → (reachB S a d && !(mayB L a d)) = false) ∧ Hid (RowKit.Below W0.heap.size W0 wr)) (fun i _ => S.parts.length - (intOf i).toNat)
      case atStart => exact ⟨0, rfl, Nat.zero_le _, Lib.hid (fun d h => by omega), HT⟩
      case round =>
        clear HT hws
        obtain ⟨b, rfl, hb, HQ, HT⟩ := hrel
        have hws := HT.out.size
        have k0 := (HB.out.up HT.out).p
        have k1 := (HB.out.up HT.out).c
        have k2 := (HB.out.up HT.out).s
        by_cases hbl : b < S.parts.length
        · have hbi : (b : Int) < S.parts.length := by omega
          have HST : Hid ((reachB S a b && !(mayB L a b)) = false → ∀ d : Nat, d < b + 1 → (reachB S a d && !(mayB L a d)) = false) := Lib.hid (fun h d hd => by
            by_cases e : d = b
            · subst e; exact h
            · exact HQ.out d (by omega))
          go_wp2_with fail
          refine (reaches_any S h4 hcl a b _ _ _ _ (HS.out.up HT.out)).mono ?_
          rintro e w2 ⟨rfl, bb⟩
          have HT2 := Lib.hid (HT.out.trans (bb.mono HT.out.size))
          clear bb HT k0 k1 k2 hws
          have hws := HT2.out.size
          cases hr : reachB S a b with
          | false =>
            have HQ2 := Lib.hid (HST.out (by rw [hr]; rfl))
            clear HST HQ
            go_wp2
            go_roundw
            case rel => exact ⟨b + 1, by go_num, by omega, HQ2, HT2⟩
            case measure => simp [intOf]; omega
          | true =>
            have y3 := bcl HT2.out (by show w.heap.size + 1 < _; omega) HY3.out
            go_wp2_with fail
            refine (may_any L hLl a b _ _ (HL.out.up HT2.out)).mono ?_
            rintro e w3 ⟨rfl, bb⟩
            have HT3 := Lib.hid (HT2.out.trans (bb.mono HT2.out.size))
            clear bb HT2 y3 hws
            have hws := HT3.out.size
            cases hm : mayB L a b with
            | true =>
              have HQ2 := Lib.hid (HST.out (by rw [hr, hm]; rfl))
              clear HST HQ
              go_wp2
              go_roundw
              case rel => exact ⟨b + 1, by go_num, by omega, HQ2, HT3⟩
              case measure => simp [intOf]; omega
            | false =>
              have HG := Lib.hid (certG_head (S := S) (L := L) (pairs_head (p := fun a b => reachB S a b && !(mayB L a b)) hlt hbl HP.out HQ.out (by show (reachB S a b && !(mayB L a b)) = true; rw [hr, hm]; rfl)))
              have k0 := (HB.out.up HT3.out).p
              have k1 := (HB.out.up HT3.out).c
              have k2 := (HB.out.up HT3.out).s
              clear HST HQ HP
              go_wp2_with fail
              refine (pathOf_new S h4 hcl a b (by omega) _ _ _ _ (HS.out.up HT3.out)).mono ?_
              rintro e w5 ⟨v5, rfl, hs5, hnb, bb⟩
              obtain ⟨qa, qc, rfl⟩ := hs5.form
              have HNB : Hid (NewB w.heap.size (.slice qa (pathL S a b).length qc)) := Lib.hid (fun c e => by have := hnb c e; omega)
              clear hnb
              have HS5 := Lib.hid hs5
              have HT5 := Lib.hid (HT3.out.trans (bb.mono HT3.out.size))
              have HR5 := Lib.hid (HR4.out.up HT5.out HR4.out.lt)
              have k4 := HR5.out.cell (j := 0) rfl
              have f4 := HR5.out.fr 0
              clear bb hs5 HT3 k0 k1 k2
              go_wp2
              refine bodyPost_ret (results_row_tmp2 Tryd.results22 _ _ (w.heap.size + 1 + 1) _ _ _ rfl rfl rfl (run_loadVar_row _ _ 55 _ #[.slice none 0 0] (0, 0) _ (HR5.out.set 0 _) Tryd.underlying55 rfl sizeCert)) rfl ⟨.slice none 0 0, .slice qa (pathL S a b).length qc, by rw [HG.out]; rfl, by rw [HG.out]; exact SetsF.nil _ _, by rw [HG.out]; exact HS5.out.same k4, HNB.out, (D0.out.trans (HT5.out.mono D0.out.size)).setCell (by show w.heap.size ≤ w.heap.size + 1 + 1; omega) _⟩
        · have hbi : ¬ (b : Int) < S.parts.length := by omega
          have HP2 : Hid (∀ c d : Nat, c < a + 1 → d < S.parts.length → (reachB S c d && !(mayB L c d)) = false) := Lib.hid (fun c d hc hd => by
            by_cases e : c = a
            · subst e; exact HQ.out d (by omega)
            · exact HP.out c d (by omega) hd)
          go_wp2
          go_roundw
          case rel => exact ⟨a + 1, by go_num, by omega, HP2, HT⟩
          case measure => simp [intOf]; omega
    · have hli : ¬ (a : Int) < S.parts.length := by omega
      have HG := Lib.hid (certG_nil (S := S) (L := L) (outP_nil (fun c d hc hd => HP.out c d (by omega) hd)))
      have HCS : Hid (certS S = (List.range S.parts.length).map (setF (fun a b => reachB S a b) S.parts.length)) := Lib.hid (gath_is _ _)
      clear HP
      obtain ⟨wo, hwo⟩ : ∃ wo, wo = wr := ⟨_, rfl⟩
      subst hwo
      go_wp2
      clear k0
      go_loopw [12] (fun i wr => ∃ (b : Nat) (vT : Value), i = .int .i64 b ∧ b ≤ S.parts.length ∧ Hid (Rw wr wo.heap.size 55 #[vT]) ∧ Hid (TabI wr (wo.heap.size + 1) vT (setF (fun a b => reachB S a b) S.parts.length) b) ∧ Hid (RowKit.Below wo.heap.size wo wr)) (fun i _ => S.parts.length - (intOf i).toNat)
      case atStart => exact ⟨0, .slice none 0 0, rfl, Nat.zero_le _, Lib.hid (Rw.new _ _ _ rfl), Lib.hid (tabI_nil _ _ _), (by repeat (first | exact Below.refl _ _ | assumption | refine Below.drew ?_ | refine Below.alloc ?_ (by first | (simp; done) | (simp; omega)) _ | refine Below.setCell ?_ (by first | (simp; done) | (simp; omega)) _))⟩
      case round =>
        obtain ⟨b, vT, rfl, hb, HR, HTB, HO⟩ := hrel
        have hsz := HO.out.size
        have HTW := Lib.hid (HT.out.trans (HO.out.mono HT.out.size))
        have k0 := (HB.out.up HTW.out).p
        by_cases hbl : b < S.parts.length
        · have hbi : (b : Int) < S.parts.length := by omega
          obtain ⟨wi, hwi⟩ : ∃ wi, wi = wr := ⟨_, rfl⟩
          subst hwi
          go_wp2
          clear k0
          go_loopw [14, 13] (fun i l wr => ∃ a : Nat, i = .int .i64 a ∧ a ≤ S.parts.length ∧ Hid (wr.ownsRow wi.heap.size 3 1 l (setF (fun a b => reachB S a b) a b).length (ints (setF (fun a b => reachB S a b) a b))) ∧ Hid (RowKit.Below wi.heap.size wi wr)) (fun i _ _ => S.parts.length - (intOf i).toNat)
          case atStart => exact ⟨0, rfl, Nat.zero_le _, Lib.hid (World.ownsRow_nil _ _ _ _), Lib.hid (RowKit.Below.refl _ _)⟩
          case round =>
            obtain ⟨a, rfl, ha, HW, HI⟩ := hrel
            obtain ⟨l1, c1, hform⟩ := own_form HW.out
            subst hform
            have hszi := HI.out.size
            have HTI := Lib.hid (HTW.out.trans (HI.out.mono HTW.out.size))
            have k0 := (HB.out.up HTI.out).p
            have k1 := (HB.out.up HTI.out).c
            have k2 := (HB.out.up HTI.out).s
            by_cases hal : a < S.parts.length
            · have hai : (a : Int) < S.parts.length := by omega
              have HST := Lib.hid (setF_step (fun a b => reachB S a b) a b)
              have HLN := Lib.hid (setF_len (fun a b => reachB S a b) a b)
              go_wp2_with fail
              refine (reaches_any S h4 hcl a b _ _ _ _ (HS.out.up HTI.out)).mono ?_
              rintro e w2 ⟨rfl, bb⟩
              have HW2 := Lib.hid (own_upF HW.out bb)
              have HI2 := Lib.hid (HI.out.trans (bb.mono HI.out.size))
              clear bb HW HI k0 k1 k2 HTI hszi
              generalize setF (fun a b => reachB S a b) a b = zs at HW2 HST HLN
              cases hr : reachB S a b with
              | false =>
                have HST2 := Lib.hid (HST.out.trans (by rw [hr]; simp) : _ = zs)
                go_wp2
                go_roundw
                case rel => exact ⟨a + 1, by go_num, by omega, by rw [HST2.out]; exact HW2, HI2⟩
                case measure => simp [intOf]; omega
              | true =>
                have HST2 := Lib.hid (HST.out.trans (by rw [hr]; rfl) : _ = zs ++ [(a : Int)])
                have hw2 := HI2.out.size
                have HW3 := Lib.hid (HW2.out.alloc (.cells #[.int .i64 a] 3))
                clear HST
                go_wp2_with (at_builtin; refine wpList_append_lies _ rfl (.tmp 67) (.tmp 69) 42 rfl wi.heap.size 3 i1 (.int .i64 0) 1 8 Tryd.underlying42 hi1 hy0 hy1 hy2 rfl (by decide) _ zs.length (ints zs) rfl HW3.out ⟨w2.heap.size, 0, none⟩ 1 1 [.int .i64 a] rfl rfl (new_rangeE _ _ _ _ rfl) (int_cell _) (by decide) (by have := HLN.out; unfold maxLen; omega) (by have := HLN.out; omega) (by simp; omega) _ rfl ?_)
                intro g5 cap5 W5 hown hgrow hat hg5
                have HW5 : Hid (W5.ownsRow wi.heap.size 3 1 (.slice (some ⟨g5, 0, none⟩) (zs.length + 1) cap5) (zs ++ [(a : Int)]).length (ints (zs ++ [(a : Int)]))) := Lib.hid (by simpa [ints] using hown)
                have HI5 := Lib.hid ((HI2.out.alloc hw2 _).grown hgrow (by simp; omega) (fun q e => by have := own_block HW3.out q e; omega))
                clear hown hgrow hat HW2 HW3 HI2
                go_wp2
                go_roundw
                case rel => exact ⟨a + 1, by go_num, by omega, by rw [HST2.out]; exact HW5, HI5⟩
                case measure => simp [intOf]; omega
            · have hai : ¬ (a : Int) < S.parts.length := by omega
              have HAE : Hid (a = S.parts.length) := Lib.hid (by omega)
              have HRI := Lib.hid (HR.out.up HI.out HR.out.lt)
              have c11 : wr.cell? ⟨wo.heap.size, 0, none⟩ = some vT := HRI.out.cell (j := 0) rfl
              obtain ⟨vs, hv1, hv2, hv3⟩ := HTB.out.up HI.out
              have hTL : ∀ c, vT.ownBlock = some c → c < wi.heap.size := fun c e => HTB.out.lt e
              have HTL := Lib.hid hTL
              have HRL := Lib.hid HR.out.lt
              obtain ⟨ta, tc, rfl⟩ := HTB.out.form
              have HV1 := Lib.hid hv1
              have HV3 := Lib.hid hv3
              have HO3 := Lib.hid (hv2.alloc (.cells #[.slice l1 (setF (fun a b => reachB S a b) a b).length c1] 42))
              clear hv1 hv2 hv3 hTL HTI k1 k2
              go_wp2_with (at_builtin; refine wpList_append_lies _ rfl (.tmp 72) (.tmp 74) 53 rfl (wo.heap.size + 1) 42 i2 _ 1 24 Tryd.underlying53 hi2 hb0 hb1 hb2 rfl (by decide) _ b vs rfl HO3.out ⟨wr.heap.size, 0, none⟩ 1 1 [.slice l1 (setF (fun a b => reachB S a b) a b).length c1] rfl rfl (new_rangeE _ _ _ _ rfl) (by simp [Value.oneCell']) (by decide) (by unfold maxLen; omega) (by omega) (by have := HRL.out; simp; omega) _ rfl ?_)
              intro g5 cap5 W5 hown hgrow hat hg5
              have hrl := HRL.out
              have hT5 : TabI W5 (wo.heap.size + 1) (.slice (some ⟨g5, 0, none⟩) (b + 1) cap5) (setF (fun a b => reachB S a b) S.parts.length) (b + 1) := TabI.add (w := wr.alloc (.cells #[.slice l1 (setF (fun a b => reachB S a b) a b).length c1] 42)) HV1.out (fun c h => ⟨(HV3.out c h).1.up ((RowKit.Below.refl _ _).alloc (Nat.le_refl _) _), fun d e => ⟨((HV3.out c h).2 d e).1, ((HV3.out c h).2 d e).2.1, by have := ((HV3.out c h).2 d e).2.2; simp; omega⟩⟩) hown hgrow (by simpa using hat) (by rw [← HAE.out]; exact (own_sl HW.out).up ((RowKit.Below.refl _ _).alloc (Nat.le_refl _) _)) (fun d e => by
                have h1 := own_block HW.out d e
                have h2 := (HW.out.lt d e).2
                exact ⟨by omega, fun e2 => by have := HTL.out d e2; omega, by simp; omega⟩)
              have hng : (Value.slice ta b tc).ownBlock ≠ some wo.heap.size := fun e => by have := own_block HO3.out _ e; omega
              have R5 : Rw W5 wo.heap.size 55 #[.slice ta b tc] := (hgrow.block wo.heap.size (by simp; omega) (fun e => hng e.symm)).trans (HRI.out.alloc _)
              have H5 : RowKit.Below wo.heap.size wo W5 := ((HO.out.trans (HI.out.mono HO.out.size)).alloc (by omega) _).grown hgrow (by simp; omega) (fun q e => by have := own_block HO3.out q e; omega)
              have c5 : W5.cell? ⟨wo.heap.size, 0, none⟩ = some (.slice ta b tc) := R5.cell (j := 0) rfl
              have f5 := R5.fr 0
              have HT5 := Lib.hid hT5
              have HR5 := Lib.hid R5
              have HH5 := Lib.hid H5
              clear hown hgrow hat HO3 hT5 R5 H5 c11
              go_wp2
              go_roundw
              case rel => exact ⟨b + 1, _, by go_num, by omega, Lib.hid (HR5.out.set 0 _), Lib.hid (HT5.out.set (by omega) _), Lib.hid (HH5.out.setCell (by show wo.heap.size ≤ wo.heap.size; omega) _)⟩
              case measure => simp [intOf]; omega
        · have hbi : ¬ (b : Int) < S.parts.length := by omega
          have HBE : Hid (b = S.parts.length) := Lib.hid (by omega)
          obtain ⟨ta, tc, rfl⟩ := HTB.out.form
          have c11 : wr.cell? ⟨wo.heap.size, 0, none⟩ = some (.slice ta b tc) := HR.out.cell (j := 0) rfl
          have HR6 := Lib.hid (HR4.out.up HTW.out HR4.out.lt)
          have k4 := HR6.out.cell (j := 0) rfl
          have f4 := HR6.out.fr 0
          have hwo : w.heap.size + 2 < wo.heap.size := by omega
          go_wp2
          refine bodyPost_ret (results_row_tmp2 Tryd.results22 _ _ (w.heap.size + 1 + 1) _ _ _ rfl rfl rfl (run_loadVar_row _ _ 55 _ #[.slice ta b tc] (0, 0) _ (HR6.out.set 0 _) Tryd.underlying55 rfl sizeCert)) rfl ⟨.slice ta b tc, .slice none 0 0, by rw [HG.out]; rfl, ?_, by rw [HG.out]; exact Sl.nil _ _, newB_nil _ _, (D0.out.trans (HTW.out.mono D0.out.size)).setCell (by show w.heap.size ≤ w.heap.size + 1 + 1; omega) _⟩
          rw [HG.out]
          show SetsF w.heap.size _ (.slice ta b tc) (certS S)
          have hbe := HBE.out
          rw [HCS.out, ← hbe]
          have := (HTB.out.set (c := w.heap.size + 1 + 1) (j := 0) (by omega) (.slice ta b tc)).f (C := w.heap.size) (by omega)
          rw [hbe] at this ⊢
          exact this
end Go.Proofs.YthpljbbhpbijgaaDoor
