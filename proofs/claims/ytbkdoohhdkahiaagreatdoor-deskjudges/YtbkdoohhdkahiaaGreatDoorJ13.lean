/- The reference's RulesOf. -/
import Derived.Test.YtbkdoohhdkahiaaGreatDoorJ10
import Derived.Test.YtbkdoohhdkahiaaGreatDoorJ11
import Derived.Test.YtbkdoohhdkahiaaGreatDoorJ12
namespace Go.Proofs.YtbkdoohhdkahiaaGreatDoor
set_option linter.unusedSimpArgs false
set_option linter.unusedVariables false
set_option maxRecDepth 100000
set_option maxHeartbeats 16000000
open Go.RowKit Go.Sort
variable {s : List UInt8} {L : List Edg} {k : Nat}
theorem xht : xav 29 := xa8 Tryz.func29 kr kr
def xnh (l : List UInt8) : Edg := ⟨xl4 ((xdt 62 3 l ++ [[]]).getD 0 []), xl4 ((xdt 62 3 l ++ [[]]).getD 1 [])⟩
def inE (e : Edg) : Prop := xaf e.fr 0 3 = true /\ xaf e.tt 0 3 = true
def UpE (L : List Edg) (k : Nat) : Prop := ∀ j (h : j < L.length), j < k -> inE L[j] /\ (∀ h0 : 0 < j, xhk (L[j - 1]'om) L[j] = true)
def xct (s : List UInt8) : List Edg := (xdt 32 30 s).map xnh
open Classical in
noncomputable def xvv (s : List UInt8) : Option (List Edg) := if s = [] then some [] else if UpE (xct s) (xct s).length /\ xfq (xct s) (xct s).length = s then some (xct s) else none
theorem xss (h : s ≠ []) (h' : ¬ UpE (xct s) (xct s).length) : xvv s = none := by
 unfold xvv
 rw [if_neg h, if_neg (fun x => h' x.1)]
theorem xpw (h : s ≠ []) (h' : xfq (xct s) (xct s).length ≠ s) : xvv s = none := by
 unfold xvv
 rw [if_neg h, if_neg (fun x => h' x.2)]
theorem xto (h : s ≠ []) (h' : UpE (xct s) (xct s).length) (h2 : xfq (xct s) (xct s).length = s) : xvv s = some (xct s) := by
 unfold xvv
 rw [if_neg h, if_pos ⟨h', h2⟩]
theorem xzx (L : List Edg) : UpE L 0 := fun j _ h => by omega
theorem x11 (h : UpE L k) (hk : k < L.length) (h1 : inE L[k]) (h2 : ∀ h0 : 0 < k, xhk (L[k - 1]'om) L[k] = true) : UpE L (k + 1) := fun j hj hjk => by
 by_cases e : j = k
 .subst e; exact ⟨h1, h2⟩
 .exact h j hj om
theorem x07 (hk : k < L.length) (h1 : ¬ inE L[k]) : ¬ UpE L L.length := fun h => h1 (h k hk hk).1
theorem x15 (hk : k < L.length) (h0 : 0 < k) (h2 : xhk (L[k - 1]'om) L[k] = false) : ¬ UpE L L.length := fun h => by
 have := (h k hk hk).2 h0
 rw [h2] at this
 cases this
theorem xgt (c : UInt8) : ∀ (l : List UInt8) (m : Nat) (cur : List UInt8), (xca c m cur l).length <= m
 | [], m, cur => by
  rw [xca]
  split <;> simp; omega
 | x :: r, m, cur => by
  rw [xca]
  split
  .simp
  .split
   .have := xgt c r (m - 1) []
    simp
    omega
   .exact xgt c r m (cur ++ [x])
theorem xmd (c : UInt8) : ∀ (l : List UInt8) (m : Nat) (cur : List UInt8), 0 < m -> 0 < (xca c m cur l).length
 | [], m, cur, h => by
  rw [xca, if_neg om]
  simp
 | x :: r, m, cur, h => by
  rw [xca, if_neg om]
  split
  .simp
  .exact xmd c r m (cur ++ [x]) h
theorem xit (c : UInt8) (b : Nat) : ∀ (l : List UInt8) (m : Nat) (cur : List UInt8), cur.length + l.length <= b -> ∀ p ∈ xca c m cur l, p.length <= b
 | [], m, cur, hb, p, hp => by
  rw [xca] at hp
  split at hp
  .cases hp
  .rw [List.mem_singleton.1 hp]
   simp at hb
   omega
 | x :: r, m, cur, hb, p, hp => by
  rw [xca] at hp
  simp at hb
  split at hp
  .cases hp
  .split at hp
   .rcases List.mem_cons.1 hp with rfl | hp
    .omega
    .exact xit c b r (m - 1) [] so p hp
   .exact xit c b r m (cur ++ [x]) so p hp
theorem xx5 (ps : List (List UInt8)) (k : Nat) (h : k < ps.length) : (xqf ps)[k]? = some (.string ⟨ps[k].toArray⟩) := by simp [xqf, h]
theorem xx7 (ps : List (List UInt8)) : xqf ps ++ [.string ⟨#[]⟩] = xqf (ps ++ [[]]) := by simp [xqf]
theorem xpg (ps : List (List UInt8)) (k : Nat) (h : k < ps.length) : (xqf ps)[k]? = some (.string ⟨(ps.getD k []).toArray⟩) := by
 rw [xx5 ps k h]
 simp [h]
structure Rq (w wr : World) (vw v : Value) (ws : List (List UInt8)) (L : List Edg) : Prop where
 r : Rw wr w.heap.size 27 #[.slice none 0 0]
 p : Rw wr (w.heap.size + 1) 27 #[v]
 q : wr.ownsRow (w.heap.size + 2) 9 1 vw ws.length (xqf ws)
 o : wr.ownsRow (w.heap.size + 2) 53 2 v L.length (xbe Edg.cells L)
 b : Below w.heap.size w wr
section
variable {w wr wr' : World} {vw v : Value} {ws : List (List UInt8)} {L : List Edg}
theorem Rq.z (h : Rq w wr vw v ws L) : w.heap.size + 2 <= wr.heap.size := h.p.lt
theorem Rq.up (h : Rq w wr vw v ws L) (hb : Below wr.heap.size wr wr') : Rq w wr' vw v ws L :=
 ⟨h.r.up hb h.r.lt, h.p.up hb h.p.lt, xde h.q hb (xbc h.q), xde h.o hb (xbc h.o), h.b.trans (hb.mono h.b.size)⟩
theorem Rq.alloc (h : Rq w wr vw v ws L) (o : Obj) : Rq w (wr.alloc o) vw v ws L := h.up ((Below.refl _ _).alloc (Nat.le_refl _) _)
theorem Rq.grow (h : Rq w wr vw v ws L) {v' : Value} {e : Edg} (hg : wr.grownBy wr' v.ownBlock) (ho : wr'.ownsRow (w.heap.size + 2) 53 2 v' (L ++ [e]).length (xbe Edg.cells (L ++ [e]))) :
  Rq w (wr'.setCell ⟨w.heap.size + 1, 0, none⟩ v') vw v' ws (L ++ [e]) /\ Rw wr' (w.heap.size + 1) 27 #[v] := by
 have hb : ∀ k, v.ownBlock = some k -> w.heap.size + 2 <= k := xab h.o
 have k : ∀ {c t cs}, Rw wr c t cs -> c < w.heap.size + 2 -> Rw wr' c t cs := fun hr hc => (hg.block _ hr.lt (fun e => by have := hb _ e.symm; omega)).trans hr
 have k1 := k h.p om
 refine ⟨⟨(k h.r om).set_other _ (by simp), k1.set 0 v', xa2 (xc8 h.q hg h.o rfl (by decide)) _ (fun e => by have := xab h.q _ e; simp at this), xa2 ho _ (fun e => by have := xab ho _ e; simp at this), ?_⟩, k1⟩
 exact (h.b.grown hg h.b.size (fun q e => by have := hb q e; omega)).setCell (by simp) _
end
theorem xk0 (s : List UInt8) (w : World) (hs : s.length <= 281474976710656) :
  Calls Tryz.prog 8 #[.string ⟨s.toArray⟩] w fun e w' => ∃ v, e = .returned (.tuple #[.agg #[v], .bool (xvv s).isSome]) /\ w'.ownsRow w.heap.size 53 2 v ((xvv s).getD []).length (xbe Edg.cells ((xvv s).getD [])) /\ Below w.heap.size w w' := by
 obtain ⟨i1, hi1, hy0, hy1, hy2⟩ := xaj xov
 obtain ⟨i2, hi2, hx0, hx1, hx2⟩ := xaj x4n
 have HSL := hd hs
 clear hs
 obtain ⟨X0, HX0⟩ : ∃ X0, Hid ((w.alloc (.cells #[.slice none 0 0] 27)).alloc (.cells #[.slice none 0 0] 27) = X0) := ⟨_, hd rfl⟩
 have R0 : Hid (Rw X0 w.heap.size 27 #[.slice none 0 0]) := hd (by rw [<- HX0.out]; exact rn0)
 have R1 : Hid (Rw X0 (w.heap.size + 1) 27 #[.slice none 0 0]) := hd (by rw [<- HX0.out]; exact rn0)
 have B0 : Hid (Below w.heap.size w X0) := hd (by rw [<- HX0.out]; exact up0)
 have hz0 : X0.heap.size = w.heap.size + 2 := by rw [<- HX0.out]; simp
 by_cases he : s = []
 .subst he
  have HYES : Hid (xvv [] = some []) := hd (by unfold xvv; rw [if_pos rfl])
  have q0 := R1.out.cell (j := 0) (v := .slice none 0 0) rfl
  go_enter Tryz.func8, Tryz.ntmps8
  go_upto_region 3 with fail
  rw [HX0.out]
  go_wp2_with (refine xae rfl 27 (.tmp 2) (.tmp 11) rfl w.heap.size #[.slice none 0 0] rfl rfl 27 _ R0.out xbw rfl (by simp [Value.oneCell']) ?_)
  intro W9 HW9
  have r9 : Rw W9 w.heap.size 27 #[.slice none 0 0] := by rw [HW9.out]; exact R0.out.row _
  have HB9 := hd (show Below w.heap.size w W9 by rw [HW9.out]; exact xaa B0.out (Nat.le_refl _) _)
  clear HW9
  go_wp2
  refine bodyPost_ret (xam Tryz.results8 _ _ w.heap.size _ _ rfl rfl (run_loadVar_row _ _ 27 _ _ (0, 0) _ r9 Tryz.underlying27 rfl xbw)) rfl ⟨.slice none 0 0, by rw [HYES.out] <;> rfl, by rw [HYES.out]; exact World.ownsRow_nil _ _ _ _, HB9.out⟩
 .have HNE := hd he
  have hne : s.isEmpty = false := by
   cases s with
   | nil => exact absurd rfl he
   | cons x r => rfl
  have HB1 := hd (fun h => xss (s := s) he h)
  have HB2 := hd (fun h => xpw (s := s) he h)
  have HYS := hd (fun h h2 => xto (s := s) he h h2)
  have hwl : (xdt 32 30 s).length <= 30 := xgt _ _ _ _
  have HWM : Hid (∀ p ∈ xdt 32 30 s, p.length <= 281474976710656) := hd (fun p hp => Nat.le_trans (xit 32 s.length s 30 [] (by simp) p hp) HSL.out)
  have HLE : Hid (xct s = (xdt 32 30 s).map xnh) := hd rfl
  have HSP := hd (xqa s 32 30 (by decide) HSL.out)
  obtain ⟨ws, HWS⟩ : ∃ ws, Hid (xdt 32 30 s = ws) := ⟨_, hd rfl⟩
  rw [HWS.out] at hwl HWM HLE HSP
  obtain ⟨L, HLD⟩ : ∃ L, Hid (xct s = L) := ⟨_, hd rfl⟩
  rw [HLD.out] at HB1 HB2 HYS HLE
  have hLl : L.length = ws.length := by rw [HLE.out]; simp
  have HLK : Hid (∀ k (h : k < ws.length), L[k]'om = xnh ws[k]) := hd (fun k h => by have := HLE.out; subst this; simp)
  clear HLE HWS he
  go_enter Tryz.func8, Tryz.ntmps8
  go_upto_region 4 with fail
  rw [HX0.out]
  go_wp2_with fail
  refine (HSP.out X0).mono ?_
  rintro e w1 ⟨vw, rfl, ow, bw⟩
  obtain ⟨wa, wq, rfl⟩ := xaq ow
  have HQ0 : Hid (Rq w w1 (.slice wa ws.length wq) (.slice none 0 0) ws []) := hd ⟨R0.out.up bw R0.out.lt, R1.out.up bw R1.out.lt, by rw [hz0] at ow; exact ow, World.ownsRow_nil _ _ _ _, B0.out.trans (bw.mono B0.out.size)⟩
  clear ow bw R0 R1 B0 HX0 HSP hz0 hne
  go_wp2
  go_loopw [6] (fun i wr => ∃ (k : Nat) (ao : Option Addr) (cap : Nat), i = .int .i64 k /\ k <= ws.length /\ Hid (UpE L k) /\ Hid (Rq w wr (.slice wa ws.length wq) (.slice ao k cap) ws (L.take k))) (fun i _ => ws.length - (intOf i).toNat)
  case atStart => exact ⟨0, none, 0, rfl, Nat.zero_le _, hd (xzx L), by rw [List.take_zero]; exact HQ0⟩
  case round =>
   clear HQ0
   obtain ⟨k, ao, cap, rfl, hk, HU, HQ⟩ := hrel
   by_cases hlt : k < ws.length
   .have hli : (k : Int) < ws.length := by omega
    obtain ⟨wb, off, cap', e1, hcap, hbw, hc⟩ := (xa7 HQ.out.q).open om
    cases e1
    have c0 := hc k _ (xx5 ws k hlt)
    have HEK := hd (HLK.out k hlt)
    have HPL := hd (HWM.out ws[k] (List.getElem_mem hlt))
    have HTK : Hid (L.take (k + 1) = L.take k ++ [L[k]'om]) := hd (by rw [List.take_add_one, List.getElem?_eq_getElem om]; rfl)
    have hkL : k < L.length := by omega
    have HST := hd (x11 HU.out hkL)
    have HN1 := hd (fun h => HB1.out (x07 hkL h))
    have HN2 := hd (fun h0 h => HB1.out (x15 hkL h0 h))
    have HXL := hd (xgt 62 ws[k] 3 [])
    have HXP := hd (xmd 62 ws[k] 3 [] (by decide))
    have hz := HQ.out.z
    obtain ⟨pc, HPC⟩ : ∃ pc, Hid (ws[k] = pc) := ⟨_, hd rfl⟩
    rw [HPC.out] at c0 HEK HPL HXL HXP
    clear hc hbw
    go_wp2_with (first | fail)
    refine (xqa pc 62 3 (by decide) HPL.out _).mono ?_
    rintro e w2 ⟨vx, rfl, ox, b2⟩
    obtain ⟨xa, xc, rfl⟩ := xaq ox
    obtain ⟨xs, HXS⟩ : ∃ xs, Hid (xdt 62 3 pc = xs) := ⟨_, hd rfl⟩
    have HXL : Hid (xs.length <= 3) := hd (by rw [<- HXS.out]; exact HXL.out)
    have HXP : Hid (0 < xs.length) := hd (by rw [<- HXS.out]; exact HXP.out)
    rw [HXS.out] at ox
    rw [HXS.out]
    have hxl := HXL.out
    have hxp := HXP.out
    have hb2 := b2.size
    go_wp2_with (at_builtin; refine wpList_append_lies _ rfl (.tmp 24) (.tmp 25) 73 rfl wr.heap.size 9 i2 (.string ⟨#[]⟩) 1 16 Tryz.underlying73 hi2 hx0 hx1 hx2 rfl (by decide) (.slice xa xs.length xc) xs.length (xqf xs) rfl (ox.alloc _) ⟨w2.heap.size, 0, none⟩ 1 1 [.string ⟨#[]⟩] rfl rfl (xhj w2 _ 9) (xn5 _) (by decide) (by unfold maxLen; omega) om so _ rfl ?_)
    intro g3 cap3 W3 hown hgrow hat hg3
    have bb3 : Below wr.heap.size wr W3 := (b2.alloc b2.size (.cells #[.string ⟨#[]⟩] 9)).grown hgrow so (xab ox)
    have HQ3 := hd (HQ.out.up bb3)
    have hgl : g3 < W3.heap.size := xbc hown g3 rfl
    rw [xx7] at hown
    have x0 : W3.cell? ⟨g3, 0, none⟩ = some (.string ⟨((xs ++ [[]]).getD 0 []).toArray⟩) := by
     have := hown.cells (g := g3) rfl 0 _ (xpg (xs ++ [[]]) 0 (by simp))
     simpa [Addr.add] using this
    have x1 : W3.cell? ⟨g3, 1, none⟩ = some (.string ⟨((xs ++ [[]]).getD 1 []).toArray⟩) := by
     have := hown.cells (g := g3) rfl 1 _ (xpg (xs ++ [[]]) 1 so)
     simpa [Addr.add] using this
    have HED : Hid (L[k] = ⟨xl4 ((xs ++ [[]]).getD 0 []), xl4 ((xs ++ [[]]).getD 1 [])⟩) := hd (by rw [HEK.out]; unfold xnh; rw [HXS.out])
    have hcap3 : xs.length + 1 <= cap3 := by
     rcases hown.2 with ⟨e, _⟩ | ⟨g', cap', cur, e, _, _, h, _⟩
     .cases e
     .injection e with _ _ e
      omega
    have hx1i : (1 : Int) < (xs.length : Int) + 1 := by omega
    generalize (xs ++ [[]]).getD 0 [] = a0 at x0 HED
    generalize (xs ++ [[]]).getD 1 [] = a1 at x1 HED
    clear hown hgrow hat hg3 ox b2 bb3 HQ c0 HEK HPL HXS HPC
    go_wp2
    go_cut [8] from 14 to 67 (fun d wc => ∃ g, d = .pointer (some ⟨g, 0, none⟩) /\ Hid (Rw wc g 53 #[.int .i64 (xl4 a0), .int .i64 (xl4 a1)]) /\ Hid (Below W3.heap.size W3 wc) /\ W3.heap.size <= g)
    case first =>
     refine xad (S := fun w' => w'.cell? ⟨g3, 0, none⟩ = some (.string ⟨a0.toArray⟩) /\ w'.cell? ⟨g3, 1, none⟩ = some (.string ⟨a1.toArray⟩)) 10 kr ⟨x0, x1⟩ (fun hHeld => ?_)
     refine Still.t 0 [] hHeld ?_
     refine Still.t 1 [] hHeld ?_
     refine Still.t 2 [] hHeld ?_
     refine Still.t 4 [] hHeld ?_
     refine Still.t 5 [] hHeld ?_
     refine Still.t 6 [] hHeld ?_
     have DD : Below W3.heap.size W3 W3.drew := (Below.refl _ _).drew
     have HSD : Hid (W3.drew.heap.size = W3.heap.size) := hd rfl
     generalize W3.drew = Y at DD HSD hHeld ⊢
     refine Still.all (rs := [3, 9]) kr (by simp) (Still.one (i := 3) rfl rfl (fun K hK => ?_) (Still.one (i := 9) rfl rfl (fun K hK => ?_) (by simp)))
     .refine xap 29 _ _ rfl xht #[.string ⟨a0.toArray⟩] (by first | rfl | simp [Act.eval, Act.put, Edg.v]) ((xia a0 _).mono ?_)
      rintro e V ⟨rfl, hV⟩
      have hV2 := hV.symm
      clear hV
      subst hV2
      refine ⟨_, rfl, hK _ _ (fun _ => hHeld) (fun hh => ?_)⟩
      clear hK K hh
      try simp only [Act.put, l1, l2, l3, l4, l5, l6]
      refine Still.all (rs := [7, 9]) kr (by simp) (Still.one (i := 7) rfl rfl (fun K hK => ?_) (Still.one (i := 9) rfl rfl (fun K hK => ?_) (by simp)))
      .refine xap 29 _ _ rfl xht #[.string ⟨a1.toArray⟩] (by first | rfl | simp [Act.eval, Act.put, Edg.v]) ((xia a1 _).mono ?_)
       rintro e V ⟨rfl, hV⟩
       have hV2 := hV.symm
       clear hV
       subst hV2
       refine ⟨_, rfl, hK _ _ (fun _ => hHeld) (fun hh => ?_)⟩
       clear hK K hh
       try simp only [Act.put, l1, l2, l3, l4, l5, l6]
       refine Still.t 8 [] hHeld ?_
       refine Still.o 9 rfl rfl (fun K hK => ?_)
       go_simp
       refine hK _ _ (fun _ => ⟨bcl ((Below.refl _ Y).alloc (Nat.le_refl _) _) (by show g3 < Y.heap.size; have := HSD.out; omega) hHeld.1, bcl ((Below.refl _ Y).alloc (Nat.le_refl _) _) (by show g3 < Y.heap.size; have := HSD.out; omega) hHeld.2⟩) (fun hh => ?_)
       have hHeld := hh (by decide)
       clear hK K hh
       try simp only [Act.put, l1, l2, l3, l4, l5, l6]
       refine Still.o 10 rfl rfl (fun K hK => ?_)
       go_simp
       refine hK _ _ ab (fun _ => Still.vv ?_)
       clear hK K
       go_wp2
       go_meet
       exact ⟨Y.heap.size, rfl, hd (by exact Rw.new Y 53 _ rfl), hd (DD.alloc (by have := HSD.out; omega) _), by have := HSD.out; omega⟩
      .go_simp
       refine hK _ _ (fun _ => ⟨bcl ((Below.refl _ Y).alloc (Nat.le_refl _) _) (by show g3 < Y.heap.size; have := HSD.out; omega) hHeld.1, bcl ((Below.refl _ Y).alloc (Nat.le_refl _) _) (by show g3 < Y.heap.size; have := HSD.out; omega) hHeld.2⟩) (fun hh => ?_)
       have hHeld := hh (by decide)
       clear hK K hh
       try simp only [Act.put, l1, l2, l3, l4, l5, l6]
       refine Still.o 7 rfl rfl (fun K hK => ?_)
       refine xap 29 _ _ rfl xht #[.string ⟨a1.toArray⟩] (by first | rfl | simp [Act.eval, Act.put, Edg.v]) ((xia a1 _).mono ?_)
       rintro e V ⟨rfl, hV⟩
       have hV2 := hV.symm
       clear hV
       subst hV2
       refine ⟨_, rfl, hK _ _ (fun _ => hHeld) (fun hh => ?_)⟩
       clear hK K hh
       try simp only [Act.put, l1, l2, l3, l4, l5, l6]
       refine Still.t 8 [] hHeld ?_
       refine Still.o 10 rfl rfl (fun K hK => ?_)
       go_simp
       refine hK _ _ ab (fun _ => Still.vv ?_)
       clear hK K
       go_wp2
       go_meet
       exact ⟨Y.heap.size, rfl, hd (by exact Rw.new Y 53 _ rfl), hd (DD.alloc (by have := HSD.out; omega) _), by have := HSD.out; omega⟩
     .go_simp
      refine hK _ _ (fun _ => ⟨bcl ((Below.refl _ Y).alloc (Nat.le_refl _) _) (by show g3 < Y.heap.size; have := HSD.out; omega) hHeld.1, bcl ((Below.refl _ Y).alloc (Nat.le_refl _) _) (by show g3 < Y.heap.size; have := HSD.out; omega) hHeld.2⟩) (fun hh => ?_)
      have hHeld := hh (by decide)
      clear hK K hh
      try simp only [Act.put, l1, l2, l3, l4, l5, l6]
      refine Still.o 3 rfl rfl (fun K hK => ?_)
      refine xap 29 _ _ rfl xht #[.string ⟨a0.toArray⟩] (by first | rfl | simp [Act.eval, Act.put, Edg.v]) ((xia a0 _).mono ?_)
      rintro e V ⟨rfl, hV⟩
      have hV2 := hV.symm
      clear hV
      subst hV2
      refine ⟨_, rfl, hK _ _ (fun _ => hHeld) (fun hh => ?_)⟩
      clear hK K hh
      try simp only [Act.put, l1, l2, l3, l4, l5, l6]
      refine Still.o 7 rfl rfl (fun K hK => ?_)
      refine xap 29 _ _ rfl xht #[.string ⟨a1.toArray⟩] (by first | rfl | simp [Act.eval, Act.put, Edg.v]) ((xia a1 _).mono ?_)
      rintro e V ⟨rfl, hV⟩
      have hV2 := hV.symm
      clear hV
      subst hV2
      refine ⟨_, rfl, hK _ _ (fun _ => hHeld) (fun hh => ?_)⟩
      clear hK K hh
      try simp only [Act.put, l1, l2, l3, l4, l5, l6]
      refine Still.t 8 [] hHeld ?_
      refine Still.o 10 rfl rfl (fun K hK => ?_)
      go_simp
      refine hK _ _ ab (fun _ => Still.vv ?_)
      clear hK K
      go_wp2
      go_meet
      exact ⟨Y.heap.size, rfl, hd (by exact Rw.new Y 53 _ rfl), hd (DD.alloc (by have := HSD.out; omega) _), by have := HSD.out; omega⟩
    case rest =>
     obtain ⟨g8, rfl, RY, BX, hg8⟩ := hcut
     obtain ⟨X, hX⟩ : ∃ X, X = wc := ⟨_, rfl⟩
     subst hX
     have HQX := hd (HQ3.out.up BX.out)
     clear x0 x1 HQ3 BX hgl
     obtain ⟨ef, HEF⟩ : ∃ ef, Hid (xl4 a0 = ef) := ⟨_, hd rfl⟩
     obtain ⟨et, HET⟩ : ∃ et, Hid (xl4 a1 = et) := ⟨_, hd rfl⟩
     rw [HEF.out, HET.out] at HED RY
     have x0 := RY.out.cell (j := 0) (v := .int .i64 ef) rfl
     have x1 := RY.out.cell (j := 1) (v := .int .i64 et) rfl
     have y0 := HQX.out.p.cell (j := 0) (v := .slice ao k cap) rfl
     have hg8l : g8 < X.heap.size := RY.out.lt
     have hz2 := HQX.out.z
     rw [HED.out] at HTK HST HN1 HN2
     cases hA : xaf ef 0 3 with
     | false =>
      have HBAD := hd (HN1.out (fun h => by have := h.1; rw [show (⟨ef, et⟩ : Edg).fr = ef from rfl, hA] at this; cases this))
      clear HST HN1 HN2
      go_wp2
      refine xad (S := fun w' => w'.cell? ⟨g8, 0, none⟩ = some (.int .i64 ef) /\ w'.cell? ⟨g8, 1, none⟩ = some (.int .i64 et) /\ w'.cell? ⟨w.heap.size + 1, 0, none⟩ = some (.slice ao k cap)) 24 kr ⟨x0, x1, y0⟩ (fun hHeld => ?_)
      refine Still.t 0 [10, 9, 4, 2, 1] hHeld ?_
      refine Still.t 1 [10, 9, 4, 2] hHeld ?_
      refine Still.o 2 rfl rfl (fun K hK => ?_)
      refine xap 21 _ _ rfl xa5 #[.int .i64 ef, .int .i64 0, .int .i64 3] (by first | rfl | simp [Act.eval, Act.put, Edg.v]) ((xao _ _ _ _).mono ?_)
      rintro e V ⟨rfl, rfl⟩
      refine ⟨_, rfl, hK _ _ (fun _ => hHeld) (fun hh => ?_)⟩
      clear hK K hh
      try simp only [Act.put, l1, l2, l3, l4, l5, l6]
      rw [hA]
      refine Still.t 3 [10, 9, 4] hHeld ?_
      refine Still.t 4 [10, 9] hHeld ?_
      refine Still.y 5 [10, 7, 6] rfl (Or.inr ⟨by rfl, rfl⟩) hHeld ?_
      refine Still.y 6 [10, 7] rfl (Or.inr ⟨by rfl, rfl⟩) hHeld ?_
      refine Still.y 7 [10] rfl (Or.inr ⟨by rfl, rfl⟩) hHeld ?_
      refine Still.y 8 [10, 9] rfl (Or.inr ⟨by rfl, rfl⟩) hHeld ?_
      refine Still.t 9 [10] hHeld ?_
      refine Still.t 10 [] hHeld ?_
      refine Still.y 11 [23, 13, 12] rfl (Or.inr ⟨by rfl, rfl⟩) hHeld ?_
      refine Still.y 12 [23, 13] rfl (Or.inr ⟨by rfl, rfl⟩) hHeld ?_
      refine Still.y 13 [23] rfl (Or.inr ⟨by rfl, rfl⟩) hHeld ?_
      refine Still.y 14 [23, 22, 21] rfl (Or.inr ⟨by rfl, rfl⟩) hHeld ?_
      refine Still.y 15 [23, 22, 21, 20, 19, 16] rfl (Or.inr ⟨by rfl, rfl⟩) hHeld ?_
      refine Still.y 16 [23, 22, 21, 20, 19] rfl (Or.inr ⟨by rfl, rfl⟩) hHeld ?_
      refine Still.y 17 [23, 22, 21, 20, 19, 18] rfl (Or.inr ⟨by rfl, rfl⟩) hHeld ?_
      refine Still.y 18 [23, 22, 21, 20, 19] rfl (Or.inr ⟨by rfl, rfl⟩) hHeld ?_
      refine Still.y 19 [23, 22, 21, 20] rfl (Or.inr ⟨by rfl, rfl⟩) hHeld ?_
      refine Still.y 20 [23, 22, 21] rfl (Or.inr ⟨by rfl, rfl⟩) hHeld ?_
      refine Still.y 21 [23, 22] rfl (Or.inr ⟨by rfl, rfl⟩) hHeld ?_
      refine Still.y 22 [23] rfl (Or.inr ⟨by rfl, rfl⟩) hHeld ?_
      refine Still.y 23 [] rfl (Or.inr ⟨by rfl, rfl⟩) hHeld ?_
      refine Still.o 24 rfl rfl (fun K hK => ?_)
      go_simp
      refine hK _ _ ab (fun _ => Still.vv ?_)
      clear hK K
      clear hHeld
      have HV : Hid (Below X.heap.size X X.drew) := hd (Below.refl _ _).drew
      have HQ9 := hd (HQX.out.up HV.out)
      clear x0 x1 y0
      go_wp2_with (refine xae rfl 27 (.tmp 2) (.tmp 61) rfl w.heap.size #[.slice none 0 0] rfl rfl 27 _ HQ9.out.r xbw rfl (by simp [Value.oneCell']) ?_)
      intro W9 HW9
      have r9 : Rw W9 w.heap.size 27 #[.slice none 0 0] := by rw [HW9.out]; exact HQ9.out.r.row _
      have HB9 := hd (show Below w.heap.size w W9 by rw [HW9.out]; exact xaa HQ9.out.b (Nat.le_refl _) _)
      clear HW9
      go_wp2
      refine bodyPost_ret (xam Tryz.results8 _ _ w.heap.size _ _ rfl rfl (run_loadVar_row _ _ 27 _ _ (0, 0) _ r9 Tryz.underlying27 rfl xbw)) rfl ⟨.slice none 0 0, by rw [HBAD.out] <;> rfl, by rw [HBAD.out]; exact World.ownsRow_nil _ _ _ _, HB9.out⟩
     | true =>
      cases hB : xaf et 0 3 with
      | false =>
       have HBAD := hd (HN1.out (fun h => by have := h.2; rw [show (⟨ef, et⟩ : Edg).tt = et from rfl, hB] at this; cases this))
       clear HST HN1 HN2
       go_wp2
       refine xad (S := fun w' => w'.cell? ⟨g8, 0, none⟩ = some (.int .i64 ef) /\ w'.cell? ⟨g8, 1, none⟩ = some (.int .i64 et) /\ w'.cell? ⟨w.heap.size + 1, 0, none⟩ = some (.slice ao k cap)) 24 kr ⟨x0, x1, y0⟩ (fun hHeld => ?_)
       refine Still.t 0 [10, 9, 4, 2, 1] hHeld ?_
       refine Still.t 1 [10, 9, 4, 2] hHeld ?_
       refine Still.o 2 rfl rfl (fun K hK => ?_)
       refine xap 21 _ _ rfl xa5 #[.int .i64 ef, .int .i64 0, .int .i64 3] (by first | rfl | simp [Act.eval, Act.put, Edg.v]) ((xao _ _ _ _).mono ?_)
       rintro e V ⟨rfl, rfl⟩
       refine ⟨_, rfl, hK _ _ (fun _ => hHeld) (fun hh => ?_)⟩
       clear hK K hh
       try simp only [Act.put, l1, l2, l3, l4, l5, l6]
       rw [hA]
       refine Still.t 3 [10, 9, 4] hHeld ?_
       refine Still.t 4 [10, 9] hHeld ?_
       refine Still.t 5 [10, 7, 6] hHeld ?_
       refine Still.t 6 [10, 7] hHeld ?_
       refine Still.all (rs := [7]) kr (by simp) (Still.oneG (i := 7) rfl (by rfl) (fun K hK => ?_) (by simp))
       refine xap 21 _ _ rfl xa5 #[.int .i64 et, .int .i64 0, .int .i64 3] (by first | rfl | simp [Act.eval, Act.put, Edg.v]) ((xao _ _ _ _).mono ?_)
       rintro e V ⟨rfl, rfl⟩
       refine ⟨_, rfl, hK _ _ (fun _ => hHeld) (fun hh => ?_)⟩
       clear hK K hh
       try simp only [Act.put, l1, l2, l3, l4, l5, l6]
       rw [hB]
       refine Still.t 8 [10, 9] hHeld ?_
       refine Still.t 9 [10] hHeld ?_
       refine Still.t 10 [] hHeld ?_
       refine Still.y 11 [23, 13, 12] rfl (Or.inr ⟨by rfl, rfl⟩) hHeld ?_
       refine Still.y 12 [23, 13] rfl (Or.inr ⟨by rfl, rfl⟩) hHeld ?_
       refine Still.y 13 [23] rfl (Or.inr ⟨by rfl, rfl⟩) hHeld ?_
       refine Still.y 14 [23, 22, 21] rfl (Or.inr ⟨by rfl, rfl⟩) hHeld ?_
       refine Still.y 15 [23, 22, 21, 20, 19, 16] rfl (Or.inr ⟨by rfl, rfl⟩) hHeld ?_
       refine Still.y 16 [23, 22, 21, 20, 19] rfl (Or.inr ⟨by rfl, rfl⟩) hHeld ?_
       refine Still.y 17 [23, 22, 21, 20, 19, 18] rfl (Or.inr ⟨by rfl, rfl⟩) hHeld ?_
       refine Still.y 18 [23, 22, 21, 20, 19] rfl (Or.inr ⟨by rfl, rfl⟩) hHeld ?_
       refine Still.y 19 [23, 22, 21, 20] rfl (Or.inr ⟨by rfl, rfl⟩) hHeld ?_
       refine Still.y 20 [23, 22, 21] rfl (Or.inr ⟨by rfl, rfl⟩) hHeld ?_
       refine Still.y 21 [23, 22] rfl (Or.inr ⟨by rfl, rfl⟩) hHeld ?_
       refine Still.y 22 [23] rfl (Or.inr ⟨by rfl, rfl⟩) hHeld ?_
       refine Still.y 23 [] rfl (Or.inr ⟨by rfl, rfl⟩) hHeld ?_
       refine Still.o 24 rfl rfl (fun K hK => ?_)
       go_simp
       refine hK _ _ ab (fun _ => Still.vv ?_)
       clear hK K
       clear hHeld
       have HV : Hid (Below X.heap.size X X.drew) := hd (Below.refl _ _).drew
       have HQ9 := hd (HQX.out.up HV.out)
       clear x0 x1 y0
       go_wp2_with (refine xae rfl 27 (.tmp 2) (.tmp 61) rfl w.heap.size #[.slice none 0 0] rfl rfl 27 _ HQ9.out.r xbw rfl (by simp [Value.oneCell']) ?_)
       intro W9 HW9
       have r9 : Rw W9 w.heap.size 27 #[.slice none 0 0] := by rw [HW9.out]; exact HQ9.out.r.row _
       have HB9 := hd (show Below w.heap.size w W9 by rw [HW9.out]; exact xaa HQ9.out.b (Nat.le_refl _) _)
       clear HW9
       go_wp2
       refine bodyPost_ret (xam Tryz.results8 _ _ w.heap.size _ _ rfl rfl (run_loadVar_row _ _ 27 _ _ (0, 0) _ r9 Tryz.underlying27 rfl xbw)) rfl ⟨.slice none 0 0, by rw [HBAD.out] <;> rfl, by rw [HBAD.out]; exact World.ownsRow_nil _ _ _ _, HB9.out⟩
      | true =>
       rcases Nat.eq_zero_or_pos k with e0 | h0
       .subst e0
        have HS2 := hd (HST.out ⟨hA, hB⟩ (fun h => by omega))
        clear HST HN1 HN2
        go_wp2
        refine xad (S := fun w' => w'.cell? ⟨g8, 0, none⟩ = some (.int .i64 ef) /\ w'.cell? ⟨g8, 1, none⟩ = some (.int .i64 et) /\ w'.cell? ⟨w.heap.size + 1, 0, none⟩ = some (.slice ao 0 cap)) 24 kr ⟨x0, x1, y0⟩ (fun hHeld => ?_)
        refine Still.t 0 [10, 9, 4, 2, 1] hHeld ?_
        refine Still.t 1 [10, 9, 4, 2] hHeld ?_
        refine Still.o 2 rfl rfl (fun K hK => ?_)
        refine xap 21 _ _ rfl xa5 #[.int .i64 ef, .int .i64 0, .int .i64 3] (by first | rfl | simp [Act.eval, Act.put, Edg.v]) ((xao _ _ _ _).mono ?_)
        rintro e V ⟨rfl, rfl⟩
        refine ⟨_, rfl, hK _ _ (fun _ => hHeld) (fun hh => ?_)⟩
        clear hK K hh
        try simp only [Act.put, l1, l2, l3, l4, l5, l6]
        rw [hA]
        refine Still.t 3 [10, 9, 4] hHeld ?_
        refine Still.t 4 [10, 9] hHeld ?_
        refine Still.t 5 [10, 7, 6] hHeld ?_
        refine Still.t 6 [10, 7] hHeld ?_
        refine Still.all (rs := [7]) kr (by simp) (Still.oneG (i := 7) rfl (by rfl) (fun K hK => ?_) (by simp))
        refine xap 21 _ _ rfl xa5 #[.int .i64 et, .int .i64 0, .int .i64 3] (by first | rfl | simp [Act.eval, Act.put, Edg.v]) ((xao _ _ _ _).mono ?_)
        rintro e V ⟨rfl, rfl⟩
        refine ⟨_, rfl, hK _ _ (fun _ => hHeld) (fun hh => ?_)⟩
        clear hK K hh
        try simp only [Act.put, l1, l2, l3, l4, l5, l6]
        rw [hB]
        refine Still.t 8 [10, 9] hHeld ?_
        refine Still.t 9 [10] hHeld ?_
        refine Still.t 10 [] hHeld ?_
        refine Still.t 11 [23, 13, 12] hHeld ?_
        refine Still.t 12 [23, 13] hHeld ?_
        refine Still.t 13 [23] hHeld ?_
        refine Still.y 14 [23, 22, 21] rfl (Or.inr ⟨by rfl, rfl⟩) hHeld ?_
        refine Still.y 15 [23, 22, 21, 20, 19, 16] rfl (Or.inr ⟨by rfl, rfl⟩) hHeld ?_
        refine Still.y 16 [23, 22, 21, 20, 19] rfl (Or.inr ⟨by rfl, rfl⟩) hHeld ?_
        refine Still.y 17 [23, 22, 21, 20, 19, 18] rfl (Or.inr ⟨by rfl, rfl⟩) hHeld ?_
        refine Still.y 18 [23, 22, 21, 20, 19] rfl (Or.inr ⟨by rfl, rfl⟩) hHeld ?_
        refine Still.y 19 [23, 22, 21, 20] rfl (Or.inr ⟨by rfl, rfl⟩) hHeld ?_
        refine Still.y 20 [23, 22, 21] rfl (Or.inr ⟨by rfl, rfl⟩) hHeld ?_
        refine Still.y 21 [23, 22] rfl (Or.inr ⟨by rfl, rfl⟩) hHeld ?_
        refine Still.y 22 [23] rfl (Or.inr ⟨by rfl, rfl⟩) hHeld ?_
        refine Still.t 23 [] hHeld ?_
        refine Still.o 24 rfl rfl (fun K hK => ?_)
        go_simp
        refine hK _ _ ab (fun _ => Still.vv ?_)
        clear hK K
        clear hHeld
        have HV : Hid (Below X.heap.size X X.drew) := hd (Below.refl _ _).drew
        have HQ9 := hd (HQX.out.up HV.out)
        have RY9 := hd (RY.out.up HV.out RY.out.lt)
        have hgz9 : g8 < X.drew.heap.size := RY9.out.lt
        clear x0 x1 y0 HQX RY HV
        have p0 := HQ9.out.p.cell (j := 0) (v := .slice ao 0 cap) rfl
        have y0 := RY9.out.cell (j := 0) (v := .int .i64 ef) rfl
        have y1 := RY9.out.cell (j := 1) (v := .int .i64 et) rfl
        have HQ4 := hd (HQ9.out.alloc (.cells #[.int .i64 ef, .int .i64 et] 53))
        have hzq := HQ9.out.z
        have HTL : Hid ((L.take 0).length = 0) := hd (by rw [List.length_take]; omega)
        go_wp2_with (at_builtin; refine wpList_append_lies _ rfl (.tmp 63) (.tmp 65) 25 rfl (w.heap.size + 2) 53 i1 _ 2 16 Tryz.underlying25 hi1 hy0 hy1 hy2 rfl (by decide) _ 0 (xbe Edg.cells (L.take 0)) rfl (by have := HQ4.out.o; rw [HTL.out] at this; exact this) ⟨X.drew.heap.size, 0, none⟩ 1 1 [.int .i64 ef, .int .i64 et] rfl rfl (xbs _ _ _ _ rfl) (xi7 _ _) (by decide) (by unfold maxLen; omega) om so _ rfl ?_)
        intro g4 cap4 W4 hown hgrow hat hg4
        have hG := HQ4.out.grow (e := ⟨ef, et⟩) (v' := .slice (some ⟨g4, 0, none⟩) (0 + 1) cap4) hgrow (by rw [xgm, List.length_append, HTL.out]; exact hown)
        have HG := hd hG.1
        have k0 := hG.2.cell (j := 0) (v := .slice ao 0 cap) rfl
        have f0 := hG.2.fr 0
        clear hown hgrow hat hg4 hG HQ4 p0 y0 y1
        go_wp2
        go_roundw
        case rel => exact ⟨1, some ⟨g4, 0, none⟩, cap4, by go_num, by omega, HS2, by rw [HTK.out]; exact HG⟩
        case measure => simp [intOf]; omega
       .have hk0 : (0 : Int) < k := by omega
        obtain ⟨pb, cur', hpb0, hpb, hpx⟩ : ∃ (pb : Nat) (cc : Nat), ao = some ⟨pb, 0, none⟩ /\ pb < X.heap.size /\ ∀ j u, (xbe Edg.cells (L.take k))[j]? = some u -> X.cell? ⟨pb, 0 + j, none⟩ = some u := by
         have ho := HQX.out.o
         rcases ho.2 with ⟨e, _⟩ | ⟨g', cap', cur, e, _⟩
         .injection e with _ e2
          omega
         .injection e with e1
          exact ⟨g', 0, e1, xbc ho g' (by rw [e1]; rfl), fun j u hj => by
           have h := ho.cells (g := g') (by rw [e1]; rfl) j u hj
           rw [Nat.zero_add]
           by_cases hj0 : j = 0
           .subst hj0
            simpa [Addr.add] using h
           .simpa [Addr.add, hj0] using h⟩
        subst hpb0
        have hkt : k - 1 < (L.take k).length := by rw [List.length_take]; omega
        obtain ⟨y1, y2⟩ := xbq hpx (k - 1) hkt
        have hpd : (L.take k)[k - 1] = L[k - 1]'om := by simp
        rw [hpd] at y1 y2
        cases hls : xhk (L[k - 1]'om) ⟨ef, et⟩ with
        | true =>
         have HS2 := hd (HST.out ⟨hA, hB⟩ (fun _ => hls))
         clear HST HN1 HN2 hpx hpd hkt
         generalize (L[k - 1]'om) = pd at y1 y2 hls
         obtain ⟨pf, pt⟩ := pd
         simp only [Nat.zero_add] at y1 y2
         have hwr : IntKind.i64.wrap ((k : Int) - 1) = ((k - 1 : Nat) : Int) := by simp [IntKind.wrap, IntKind.bits, IntKind.signed]; omega
         have hkl : ((k - 1 : Nat) : Int) < k := by omega
         generalize k - 1 = j at y1 y2 hwr hkl
         go_wp2
         refine xad (S := fun w' => w'.cell? ⟨g8, 0, none⟩ = some (.int .i64 ef) /\ w'.cell? ⟨g8, 1, none⟩ = some (.int .i64 et) /\ w'.cell? ⟨w.heap.size + 1, 0, none⟩ = some (.slice (some ⟨pb, 0, none⟩) k cap) /\ w'.cell? ⟨pb, j * 2, none⟩ = some (.int .i64 pf) /\ w'.cell? ⟨pb, j * 2 + 1, none⟩ = some (.int .i64 pt)) 24 kr ⟨x0, x1, y0, y1, y2⟩ (fun hHeld => ?_)
         refine Still.t 0 [10, 9, 4, 2, 1] hHeld ?_
         refine Still.t 1 [10, 9, 4, 2] hHeld ?_
         refine Still.o 2 rfl rfl (fun K hK => ?_)
         refine xap 21 _ _ rfl xa5 #[.int .i64 ef, .int .i64 0, .int .i64 3] (by first | rfl | simp [Act.eval, Act.put, Edg.v]) ((xao _ _ _ _).mono ?_)
         rintro e V ⟨rfl, rfl⟩
         refine ⟨_, rfl, hK _ _ (fun _ => hHeld) (fun hh => ?_)⟩
         clear hK K hh
         try simp only [Act.put, l1, l2, l3, l4, l5, l6]
         rw [hA]
         refine Still.t 3 [10, 9, 4] hHeld ?_
         refine Still.t 4 [10, 9] hHeld ?_
         refine Still.t 5 [10, 7, 6] hHeld ?_
         refine Still.t 6 [10, 7] hHeld ?_
         refine Still.all (rs := [7]) kr (by simp) (Still.oneG (i := 7) rfl (by rfl) (fun K hK => ?_) (by simp))
         refine xap 21 _ _ rfl xa5 #[.int .i64 et, .int .i64 0, .int .i64 3] (by first | rfl | simp [Act.eval, Act.put, Edg.v]) ((xao _ _ _ _).mono ?_)
         rintro e V ⟨rfl, rfl⟩
         refine ⟨_, rfl, hK _ _ (fun _ => hHeld) (fun hh => ?_)⟩
         clear hK K hh
         try simp only [Act.put, l1, l2, l3, l4, l5, l6]
         rw [hB]
         refine Still.t 8 [10, 9] hHeld ?_
         refine Still.t 9 [10] hHeld ?_
         refine Still.t 10 [] hHeld ?_
         refine Still.t 11 [23, 13, 12] hHeld ?_
         refine Still.t 12 [23, 13] hHeld ?_
         refine Still.t 13 [23] hHeld ?_
         refine Still.t 14 [23, 22, 21] hHeld ?_
         refine Still.t 15 [23, 22, 21, 20, 19, 16] hHeld ?_
         refine Still.t 16 [23, 22, 21, 20, 19] hHeld ?_
         refine Still.t 17 [23, 22, 21, 20, 19, 18] hHeld ?_
         refine Still.t 18 [23, 22, 21, 20, 19] hHeld ?_
         refine Still.t 19 [23, 22, 21, 20] hHeld ?_
         refine Still.t 20 [23, 22, 21] hHeld ?_
         refine Still.all (rs := [21]) kr (by simp) (Still.oneG (i := 21) rfl (by rfl) (fun K hK => ?_) (by simp))
         refine xap 30 _ _ rfl xgr #[(⟨ef, et⟩ : Edg).v, (⟨pf, pt⟩ : Edg).v] (by first | rfl | simp [Act.eval, Act.put, Edg.v]) ((xg0 _ _ _).mono ?_)
         rintro e V1 ⟨rfl, b5⟩
         have HV : Hid (Below X.heap.size X V1) := hd ((Below.refl _ _).drew.trans b5)
         refine ⟨_, rfl, hK _ _ (fun _ => ⟨bcl b5 (by show g8 < X.heap.size; omega) x0, bcl b5 (by show g8 < X.heap.size; omega) x1, bcl b5 (by show w.heap.size + 1 < X.heap.size; omega) y0, bcl b5 (by show pb < X.heap.size; omega) y1, bcl b5 (by show pb < X.heap.size; omega) y2⟩) (fun hh => ?_)⟩
         have hHeld := hh (by decide)
         clear hK K hh b5
         try simp only [Act.put, l1, l2, l3, l4, l5, l6]
         rw [hls]
         refine Still.t 22 [23] hHeld ?_
         refine Still.t 23 [] hHeld ?_
         refine Still.o 24 rfl rfl (fun K hK => ?_)
         go_simp
         refine hK _ _ ab (fun _ => Still.vv ?_)
         clear hK K
         clear hHeld
         have HQ9 := hd (HQX.out.up HV.out)
         have RY9 := hd (RY.out.up HV.out RY.out.lt)
         have hgz9 : g8 < V1.heap.size := RY9.out.lt
         clear x0 x1 y0 HQX RY HV
         have p0 := HQ9.out.p.cell (j := 0) (v := .slice (some ⟨pb, 0, none⟩) k cap) rfl
         have y0 := RY9.out.cell (j := 0) (v := .int .i64 ef) rfl
         have y1 := RY9.out.cell (j := 1) (v := .int .i64 et) rfl
         have HQ4 := hd (HQ9.out.alloc (.cells #[.int .i64 ef, .int .i64 et] 53))
         have hzq := HQ9.out.z
         have HTL : Hid ((L.take k).length = k) := hd (by rw [List.length_take]; omega)
         go_wp2_with (at_builtin; refine wpList_append_lies _ rfl (.tmp 63) (.tmp 65) 25 rfl (w.heap.size + 2) 53 i1 _ 2 16 Tryz.underlying25 hi1 hy0 hy1 hy2 rfl (by decide) _ k (xbe Edg.cells (L.take k)) rfl (by have := HQ4.out.o; rw [HTL.out] at this; exact this) ⟨V1.heap.size, 0, none⟩ 1 1 [.int .i64 ef, .int .i64 et] rfl rfl (xbs _ _ _ _ rfl) (xi7 _ _) (by decide) (by unfold maxLen; omega) om so _ rfl ?_)
         intro g4 cap4 W4 hown hgrow hat hg4
         have hG := HQ4.out.grow (e := ⟨ef, et⟩) (v' := .slice (some ⟨g4, 0, none⟩) (k + 1) cap4) hgrow (by rw [xgm, List.length_append, HTL.out]; exact hown)
         have HG := hd hG.1
         have k0 := hG.2.cell (j := 0) (v := .slice (some ⟨pb, 0, none⟩) k cap) rfl
         have f0 := hG.2.fr 0
         clear hown hgrow hat hg4 hG HQ4 p0 y0 y1
         go_wp2
         go_roundw
         case rel => exact ⟨k + 1, some ⟨g4, 0, none⟩, cap4, by go_num, by omega, HS2, by rw [HTK.out]; exact HG⟩
         case measure => simp [intOf]; omega
        | false =>
         have HBAD := hd (HN2.out h0 hls)
         clear HST HN1 HN2 hpx hpd hkt
         generalize (L[k - 1]'om) = pd at y1 y2 hls
         obtain ⟨pf, pt⟩ := pd
         simp only [Nat.zero_add] at y1 y2
         have hwr : IntKind.i64.wrap ((k : Int) - 1) = ((k - 1 : Nat) : Int) := by simp [IntKind.wrap, IntKind.bits, IntKind.signed]; omega
         have hkl : ((k - 1 : Nat) : Int) < k := by omega
         generalize k - 1 = j at y1 y2 hwr hkl
         go_wp2
         refine xad (S := fun w' => w'.cell? ⟨g8, 0, none⟩ = some (.int .i64 ef) /\ w'.cell? ⟨g8, 1, none⟩ = some (.int .i64 et) /\ w'.cell? ⟨w.heap.size + 1, 0, none⟩ = some (.slice (some ⟨pb, 0, none⟩) k cap) /\ w'.cell? ⟨pb, j * 2, none⟩ = some (.int .i64 pf) /\ w'.cell? ⟨pb, j * 2 + 1, none⟩ = some (.int .i64 pt)) 24 kr ⟨x0, x1, y0, y1, y2⟩ (fun hHeld => ?_)
         refine Still.t 0 [10, 9, 4, 2, 1] hHeld ?_
         refine Still.t 1 [10, 9, 4, 2] hHeld ?_
         refine Still.o 2 rfl rfl (fun K hK => ?_)
         refine xap 21 _ _ rfl xa5 #[.int .i64 ef, .int .i64 0, .int .i64 3] (by first | rfl | simp [Act.eval, Act.put, Edg.v]) ((xao _ _ _ _).mono ?_)
         rintro e V ⟨rfl, rfl⟩
         refine ⟨_, rfl, hK _ _ (fun _ => hHeld) (fun hh => ?_)⟩
         clear hK K hh
         try simp only [Act.put, l1, l2, l3, l4, l5, l6]
         rw [hA]
         refine Still.t 3 [10, 9, 4] hHeld ?_
         refine Still.t 4 [10, 9] hHeld ?_
         refine Still.t 5 [10, 7, 6] hHeld ?_
         refine Still.t 6 [10, 7] hHeld ?_
         refine Still.all (rs := [7]) kr (by simp) (Still.oneG (i := 7) rfl (by rfl) (fun K hK => ?_) (by simp))
         refine xap 21 _ _ rfl xa5 #[.int .i64 et, .int .i64 0, .int .i64 3] (by first | rfl | simp [Act.eval, Act.put, Edg.v]) ((xao _ _ _ _).mono ?_)
         rintro e V ⟨rfl, rfl⟩
         refine ⟨_, rfl, hK _ _ (fun _ => hHeld) (fun hh => ?_)⟩
         clear hK K hh
         try simp only [Act.put, l1, l2, l3, l4, l5, l6]
         rw [hB]
         refine Still.t 8 [10, 9] hHeld ?_
         refine Still.t 9 [10] hHeld ?_
         refine Still.t 10 [] hHeld ?_
         refine Still.t 11 [23, 13, 12] hHeld ?_
         refine Still.t 12 [23, 13] hHeld ?_
         refine Still.t 13 [23] hHeld ?_
         refine Still.t 14 [23, 22, 21] hHeld ?_
         refine Still.t 15 [23, 22, 21, 20, 19, 16] hHeld ?_
         refine Still.t 16 [23, 22, 21, 20, 19] hHeld ?_
         refine Still.t 17 [23, 22, 21, 20, 19, 18] hHeld ?_
         refine Still.t 18 [23, 22, 21, 20, 19] hHeld ?_
         refine Still.t 19 [23, 22, 21, 20] hHeld ?_
         refine Still.t 20 [23, 22, 21] hHeld ?_
         refine Still.all (rs := [21]) kr (by simp) (Still.oneG (i := 21) rfl (by rfl) (fun K hK => ?_) (by simp))
         refine xap 30 _ _ rfl xgr #[(⟨ef, et⟩ : Edg).v, (⟨pf, pt⟩ : Edg).v] (by first | rfl | simp [Act.eval, Act.put, Edg.v]) ((xg0 _ _ _).mono ?_)
         rintro e V1 ⟨rfl, b5⟩
         have HV : Hid (Below X.heap.size X V1) := hd ((Below.refl _ _).drew.trans b5)
         refine ⟨_, rfl, hK _ _ (fun _ => ⟨bcl b5 (by show g8 < X.heap.size; omega) x0, bcl b5 (by show g8 < X.heap.size; omega) x1, bcl b5 (by show w.heap.size + 1 < X.heap.size; omega) y0, bcl b5 (by show pb < X.heap.size; omega) y1, bcl b5 (by show pb < X.heap.size; omega) y2⟩) (fun hh => ?_)⟩
         have hHeld := hh (by decide)
         clear hK K hh b5
         try simp only [Act.put, l1, l2, l3, l4, l5, l6]
         rw [hls]
         refine Still.t 22 [23] hHeld ?_
         refine Still.t 23 [] hHeld ?_
         refine Still.o 24 rfl rfl (fun K hK => ?_)
         go_simp
         refine hK _ _ ab (fun _ => Still.vv ?_)
         clear hK K
         clear hHeld
         have HQ9 := hd (HQX.out.up HV.out)
         clear x0 x1 y0
         go_wp2_with (refine xae rfl 27 (.tmp 2) (.tmp 61) rfl w.heap.size #[.slice none 0 0] rfl rfl 27 _ HQ9.out.r xbw rfl (by simp [Value.oneCell']) ?_)
         intro W9 HW9
         have r9 : Rw W9 w.heap.size 27 #[.slice none 0 0] := by rw [HW9.out]; exact HQ9.out.r.row _
         have HB9 := hd (show Below w.heap.size w W9 by rw [HW9.out]; exact xaa HQ9.out.b (Nat.le_refl _) _)
         clear HW9
         go_wp2
         refine bodyPost_ret (xam Tryz.results8 _ _ w.heap.size _ _ rfl rfl (run_loadVar_row _ _ 27 _ _ (0, 0) _ r9 Tryz.underlying27 rfl xbw)) rfl ⟨.slice none 0 0, by rw [HBAD.out] <;> rfl, by rw [HBAD.out]; exact World.ownsRow_nil _ _ _ _, HB9.out⟩
   .obtain rfl : k = ws.length := by omega
    have hli : ¬ ((ws.length : Int) < ws.length) := by omega
    have HUA : Hid (UpE L L.length) := hd (by rw [hLl]; exact HU.out)
    have hTA : L.take ws.length = L := by rw [<- hLl]; exact List.take_length
    rw [hTA] at HQ
    have H64 : Hid (∀ e ∈ L, xso e) := hd (fun e he => by
     obtain ⟨j, hj, rfl⟩ := List.getElem_of_mem he
     obtain ⟨⟨h1, h2⟩, _⟩ := HUA.out j hj hj
     unfold xaf at h1 h2
     rw [Bool.and_eq_true, decide_eq_true_eq, decide_eq_true_eq] at h1 h2
     exact ⟨⟨by omega, by omega⟩, ⟨by omega, by omega⟩⟩)
    have p0 := HQ.out.p.cell (j := 0) (v := .slice ao ws.length cap) rfl
    have HSQ : Hid (Sl wr 2 (.slice ao ws.length cap) L.length (xbe Edg.cells L)) := hd (xa7 HQ.out.o)
    go_wp2_with fail
    refine (xl0 L _ _ HSQ.out om H64.out).mono ?_
    rintro e w5 ⟨rfl, b5⟩
    have HQ5 := hd (HQ.out.up b5)
    clear b5 HQ HSQ p0
    by_cases ht : xfq L L.length = s
    .have HYES := hd (HYS.out HUA.out ht)
     have p5 := HQ5.out.p.cell (j := 0) (v := .slice ao ws.length cap) rfl
     rw [ht]
     clear ht
     go_wp2_with (refine xae rfl 27 (.tmp 2) (.tmp 73) rfl w.heap.size #[.slice ao ws.length cap] rfl rfl 27 _ HQ5.out.r xbw rfl (by simp [Value.oneCell']) ?_)
     intro W9 HW9
     have r9 : Rw W9 w.heap.size 27 #[.slice ao ws.length cap] := by rw [HW9.out]; exact HQ5.out.r.row _
     have HB9 := hd (show Below w.heap.size w W9 by rw [HW9.out]; exact xaa HQ5.out.b (Nat.le_refl _) _)
     have HO9 := hd (show W9.ownsRow (w.heap.size + 2) 53 2 (.slice ao ws.length cap) L.length (xbe Edg.cells L) by rw [HW9.out]; exact xan HQ5.out.o _ (fun e => by have := xab HQ5.out.o _ e; omega))
     clear HW9
     go_wp2
     refine bodyPost_ret (xam Tryz.results8 _ _ w.heap.size _ _ rfl rfl (run_loadVar_row _ _ 27 _ _ (0, 0) _ r9 Tryz.underlying27 rfl xbw)) rfl ⟨.slice ao ws.length cap, by rw [HYES.out] <;> rfl, by rw [HYES.out]; exact xau HO9.out om, HB9.out⟩
    .have HBAD := hd (HB2.out ht)
     have hte : (xfq L L.length == s) = false := by simpa using ht
     clear ht HYS HB2
     generalize xfq L L.length = y at *
     go_wp2_with (refine xae rfl 27 (.tmp 2) (.tmp 72) rfl w.heap.size #[.slice none 0 0] rfl rfl 27 _ HQ5.out.r xbw rfl (by simp [Value.oneCell']) ?_)
     intro W9 HW9
     have r9 : Rw W9 w.heap.size 27 #[.slice none 0 0] := by rw [HW9.out]; exact HQ5.out.r.row _
     have HB9 := hd (show Below w.heap.size w W9 by rw [HW9.out]; exact xaa HQ5.out.b (Nat.le_refl _) _)
     clear HW9
     go_wp2
     refine bodyPost_ret (xam Tryz.results8 _ _ w.heap.size _ _ rfl rfl (run_loadVar_row _ _ 27 _ _ (0, 0) _ r9 Tryz.underlying27 rfl xbw)) rfl ⟨.slice none 0 0, by rw [HBAD.out] <;> rfl, by rw [HBAD.out]; exact World.ownsRow_nil _ _ _ _, HB9.out⟩
end Go.Proofs.YtbkdoohhdkahiaaGreatDoor
