/- The reference's leads. -/
import Derived.Test.YtehhhiodfcdnmaaGreatDoorR23
import Derived.Test.YtehhhiodfcdnmaaGreatDoorR3
import Derived.Maps.OwnOps
import Derived.Maps.OwnSet
import Derived.Test.YtehhhiodfcdnmaaGreatDoorFlShelf
import Derived.ArgAppend
namespace Go.Proofs.YtehhhiodfcdnmaaGreatDoor
set_option linter.unusedSimpArgs false
set_option linter.unusedVariables false
set_option maxRecDepth 100000
set_option maxHeartbeats 8000000
open Go.RowKit Go.Sort Go.Shelf Go.Lib
def leadB (a b : Int) (c : Chn) : Bool := (c.fr == a && c.tt == b) || (c.kd == 2 && c.fr == b && c.tt == a)
def leadsB (S : SysD) (a b : Int) : Bool := S.chans.any (leadB a b)
theorem leads_yes {S : SysD} {a b : Int} {k : Nat} (hk : k < S.chans.length) (h : leadB a b S.chans[k] = true) : leadsB S a b = true := List.any_eq_true.2 ⟨_, List.getElem_mem hk, h⟩
theorem leads_no {S : SysD} {a b : Int} (h : ∀ j (hj : j < S.chans.length), leadB a b S.chans[j] = false) : leadsB S a b = false := by
 unfold leadsB
 rw [List.any_eq_false]
 intro c hc
 obtain ⟨j, hj, rfl⟩ := List.getElem_of_mem hc
 rw [h j hj]
 decide
theorem leads_any (S : SysD) (hl : S.chans.length ≤ 6) (a b : Int) (vp vc vs : Value) (w : World) (hS : Sys w vp vc vs S) : Calls Tryz.prog 130 #[.agg #[vp, vc, vs], .int .i64 a, .int .i64 b] w fun e w' => e = .returned (.bool (leadsB S a b)) ∧ Below w.heap.size w w' := by
 generalize hr : leadsB S a b = r
 have HR := hd hr
 obtain ⟨pa, pc, rfl⟩ := hS.p.form
 obtain ⟨ca, cc, rfl⟩ := hS.c.form
 obtain ⟨sa, sc, rfl⟩ := hS.s.form
 have HS := hd hS
 clear hS hr
 go_enter Tryz.func130, Tryz.ntmps130
 go_wp2
 go_loopw [7] (fun i wr => ∃ k : Nat, i = .int .i64 k ∧ k ≤ S.chans.length ∧ Hid (∀ j (h : j < S.chans.length), j < k → leadB a b S.chans[j] = false) ∧ Hid (Box wr w.heap.size (.slice pa S.parts.length pc) (.slice ca S.chans.length cc) (.slice sa S.slots.length sc)) ∧ Hid (Below w.heap.size w wr)) (fun i _ => S.chans.length - (intOf i).toNat)
 case atStart => exact ⟨0, rfl, Nat.zero_le _, fun j hj h => by omega, box_new w _ _ _ _ _ rfl, up0⟩
 case round =>
  obtain ⟨k, rfl, hk, HN, HB, HT⟩ := hrel
  have k0 := HB.out.c
  by_cases hlt : k < S.chans.length
  ·have hli : (k : Int) < S.chans.length := by omega
   have h0i : (0 : Int) ≤ k := by omega
   obtain ⟨b', off, cap, e1, hcap, hbw, hc⟩ := HS.out.c.open om
   cases e1
   obtain ⟨hkd, hfr, htt⟩ := chan_cells hc k hlt
   have hws := HT.out.size
   have c0 := bcl HT.out hbw hkd
   have c1 := bcl HT.out hbw hfr
   have c2 := bcl HT.out hbw htt
   have hbr : b' < wr.heap.size := by omega
   have hbr' : b' ≠ wr.heap.size := by omega
   have hyes := hd (fun (h : leadB a b S.chans[k] = true) => (HR.out.symm.trans (leads_yes hlt h)))
   have hno : Hid (leadB a b S.chans[k] = false → ∀ j (h : j < S.chans.length), j < k + 1 → leadB a b S.chans[j] = false) := hd (fun h j hj hjk => by
    by_cases e : j = k
    ·subst e; exact h
    ·exact HN.out j hj om)
   generalize S.chans[k] = ch at c0 c1 c2 hyes hno
   obtain ⟨kd, fr, tt⟩ := ch
   simp only at c0 c1 c2
   clear hkd hfr htt hc HN
   by_cases h1 : fr = a
   ·subst h1
    by_cases h2 : tt = b
    ·subst h2
     go_wp2
     go_ret
     exact ⟨by rw [hyes.out (by simp [leadB])]; rfl, HT.out.alloc hws _⟩
    ·by_cases h3 : kd = 2
     ·subst h3
      by_cases h4 : fr = b
      ·subst h4
       go_wp2
       go_roundw
       case rel => exact ⟨k + 1, by go_num, by omega, hd (hno.out (by simp [leadB, h2])), hd (HB.out.up ((Below.refl _ _).alloc (Nat.le_refl _) _)), hd (HT.out.alloc hws _)⟩
       case measure => simp [intOf]; omega
      ·go_wp2
       go_roundw
       case rel => exact ⟨k + 1, by go_num, by omega, hd (hno.out (by simp [leadB, h2, h4])), hd (HB.out.up ((Below.refl _ _).alloc (Nat.le_refl _) _)), hd (HT.out.alloc hws _)⟩
       case measure => simp [intOf]; omega
     ·go_wp2
      go_roundw
      case rel => exact ⟨k + 1, by go_num, by omega, hd (hno.out (by simp [leadB, h2, h3])), hd (HB.out.up ((Below.refl _ _).alloc (Nat.le_refl _) _)), hd (HT.out.alloc hws _)⟩
      case measure => simp [intOf]; omega
   ·by_cases h3 : kd = 2
    ·subst h3
     by_cases h4 : fr = b
     ·subst h4
      by_cases h5 : tt = a
      ·subst h5
       go_wp2
       go_ret
       exact ⟨by rw [hyes.out (by simp [leadB])]; rfl, HT.out.alloc hws _⟩
      ·go_wp2
       go_roundw
       case rel => exact ⟨k + 1, by go_num, by omega, hd (hno.out (by simp [leadB, h1, h5])), hd (HB.out.up ((Below.refl _ _).alloc (Nat.le_refl _) _)), hd (HT.out.alloc hws _)⟩
       case measure => simp [intOf]; omega
     ·go_wp2
      go_roundw
      case rel => exact ⟨k + 1, by go_num, by omega, hd (hno.out (by simp [leadB, h1, h4])), hd (HB.out.up ((Below.refl _ _).alloc (Nat.le_refl _) _)), hd (HT.out.alloc hws _)⟩
      case measure => simp [intOf]; omega
    ·go_wp2
     go_roundw
     case rel => exact ⟨k + 1, by go_num, by omega, hd (hno.out (by simp [leadB, h1, h3])), hd (HB.out.up ((Below.refl _ _).alloc (Nat.le_refl _) _)), hd (HT.out.alloc hws _)⟩
     case measure => simp [intOf]; omega
  ·have hli : ¬ (k : Int) < S.chans.length := by omega
   have hno := leads_no (fun j hj => HN.out j hj om)
   go_wp2
   go_ret
   exact ⟨by rw [← HR.out, hno]; rfl, HT.out⟩
def rowL (S : SysD) (a : Nat) (m : Nat) : List Edg := ((List.range m).filter fun (b : Nat) => leadsB S a b).map fun (b : Nat) => ⟨a, b⟩
def outL (S : SysD) (n : Nat) (k : Nat) : List Edg := (List.range k).flatMap fun a => rowL S a n
def edgesL (S : SysD) : List Edg := outL S S.parts.length S.parts.length
theorem rowL_step (S : SysD) (a m : Nat) : rowL S a (m + 1) = rowL S a m ++ if leadsB S a m then [⟨a, m⟩] else [] := by
 unfold rowL
 rw [List.range_succ, List.filter_append, List.map_append]
 congr 1
 by_cases h : leadsB S a m = true
 ·simp [h]
 ·simp [h]
theorem outL_step (S : SysD) (n k : Nat) : outL S n (k + 1) = outL S n k ++ rowL S k n := by
 unfold outL
 rw [List.range_succ, List.flatMap_append]
 simp
theorem own_upF {w w' : World} {base : Nat} {e : TypeId} {size : Nat} {v : Value} {n : Nat} {xs : List Value} (h : w.ownsRow base e size v n xs) (hb : Below w.heap.size w w') : w'.ownsRow base e size v n xs := by
 have hlt := h.lt
 refine ⟨h.1, ?_⟩
 rcases h.2 with hn | ⟨g, cap, cur, rfl, hg, hh, r⟩
 ·exact .inl hn
 ·exact .inr ⟨g, cap, cur, rfl, hg, by rw [hb.block g (hlt g rfl).2]; exact hh, r⟩
def ltE (x y : Edg) : Prop := x.fr < y.fr ∨ (x.fr = y.fr ∧ x.tt < y.tt)
theorem ltE_irr {x : Edg} (h : ltE x x) : False := by unfold ltE at h; omega
theorem ltE_trans {x y z : Edg} (h : ltE x y) (h2 : ltE y z) : ltE x z := by unfold ltE at *; omega
theorem ltOf_E (x y : Edg) : ltOf cmpE x y = true ↔ ltE x y := by
 unfold ltOf cmpE orI cmpI ltE
 rw [decide_eq_true_iff]
 repeat' split
 all_goals omega
theorem eq_of_rise : ∀ (l1 l2 : List Edg), l1.Pairwise ltE → l2.Pairwise ltE → (∀ x, x ∈ l1 ↔ x ∈ l2) → l1 = l2
 | [], [], _, _, _ => rfl
 | [], b :: r, _, _, h => absurd ((h b).2 (by simp)) (by simp)
 | a :: r, [], _, _, h => absurd ((h a).1 (by simp)) (by simp)
 | a :: r1, b :: r2, h1, h2, h => by
  rw [List.pairwise_cons] at h1 h2
  have ha : a ∈ b :: r2 := (h a).1 (by simp)
  have hb : b ∈ a :: r1 := (h b).2 (by simp)
  have hab : a = b := by
   rcases List.mem_cons.1 ha with e | ha
   ·exact e
   ·rcases List.mem_cons.1 hb with e | hb
    ·exact e.symm
    ·exact absurd (ltE_trans (h2.1 a ha) (h1.1 b hb)) (fun h => ltE_irr h)
  subst hab
  congr 1
  refine eq_of_rise r1 r2 h1.2 h2.2 fun x => ⟨fun hx => ?_, fun hx => ?_⟩
  ·rcases List.mem_cons.1 ((h x).1 (List.mem_cons_of_mem _ hx)) with e | hx2
   ·subst e
    exact absurd (h1.1 x hx) (fun h => ltE_irr h)
   ·exact hx2
  ·rcases List.mem_cons.1 ((h x).2 (List.mem_cons_of_mem _ hx)) with e | hx2
   ·subst e
    exact absurd (h2.1 x hx) (fun h => ltE_irr h)
   ·exact hx2
theorem uniq_mem : ∀ (l : List Edg) (x : Edg), x ∈ uniqE l ↔ x ∈ l
 | [], x => by simp [uniqE]
 | [a], x => by simp [uniqE]
 | a :: b :: r, x => by
  have ih := uniq_mem (b :: r) x
  rw [uniqE]
  split
  ·rename_i e
   subst e
   rw [ih]
   simp
  ·rw [List.mem_cons, ih, List.mem_cons (a := x) (b := a)]
def leE (x y : Edg) : Prop := ¬ ltE y x
theorem uniq_rise : ∀ (l : List Edg), l.Pairwise leE → (uniqE l).Pairwise ltE
 | [], _ => by simp [uniqE]
 | [a], _ => by simp [uniqE]
 | a :: b :: r, h => by
  have h' := List.pairwise_cons.1 h
  have ih := uniq_rise (b :: r) h'.2
  rw [uniqE]
  split
  ·exact ih
  ·rename_i hne
   rw [List.pairwise_cons]
   refine ⟨fun x hx => ?_, ih⟩
   have hx := (uniq_mem _ _).1 hx
   have hab : ltE a b := by
    have := h'.1 b (by simp)
    unfold leE ltE at this
    unfold ltE
    have hn : ¬ (a.fr = b.fr ∧ a.tt = b.tt) := fun e => hne (by cases a; cases b; simp at e; simp [e])
    omega
   rcases List.mem_cons.1 hx with e | hx2
   ·exact e ▸ hab
   ·have h3 := (List.pairwise_cons.1 h'.2).1 x hx2
    unfold leE at h3
    unfold ltE at *
    omega
theorem rise_pair {l : List Edg} (h : RiseE l) : l.Pairwise leE := by
 rw [List.pairwise_iff_getElem]
 intro i j hi hj hij
 have := h i j hij hj
 unfold leE
 intro h2
 have := (ltOf_E _ _).2 h2
 simp_all
theorem rowL_mem {S : SysD} {a m : Nat} {x : Edg} : x ∈ rowL S a m ↔ x.fr = a ∧ ∃ b : Nat, b < m ∧ x.tt = b ∧ leadsB S a b = true := by
 unfold rowL
 rw [List.mem_map]
 constructor
 ·rintro ⟨b, hb, rfl⟩
  rw [List.mem_filter, List.mem_range] at hb
  exact ⟨rfl, b, hb.1, rfl, hb.2⟩
 ·rintro ⟨h1, b, hb, h2, h3⟩
  exact ⟨b, by rw [List.mem_filter, List.mem_range]; exact ⟨hb, h3⟩, by cases x; simp at h1 h2; simp [h1, h2]⟩
theorem rowL_rise (S : SysD) (a : Nat) : ∀ m, (rowL S a m).Pairwise ltE
 | 0 => by simp [rowL]
 | m + 1 => by
  rw [rowL_step, List.pairwise_append]
  refine ⟨rowL_rise S a m, by split <;> simp, fun x hx y hy => ?_⟩
  obtain ⟨h1, b, hb, h2, _⟩ := rowL_mem.1 hx
  split at hy
  ·simp at hy
   subst hy
   unfold ltE
   simp only
   omega
  ·simp at hy
theorem outL_mem {S : SysD} {n k : Nat} {x : Edg} : x ∈ outL S n k ↔ ∃ a b : Nat, a < k ∧ b < n ∧ x = ⟨a, b⟩ ∧ leadsB S a b = true := by
 unfold outL
 rw [List.mem_flatMap]
 constructor
 ·rintro ⟨a, ha, hx⟩
  obtain ⟨h1, b, hb, h2, h3⟩ := rowL_mem.1 hx
  exact ⟨a, b, List.mem_range.1 ha, hb, by cases x; simp at h1 h2; simp [h1, h2], h3⟩
 ·rintro ⟨a, b, ha, hb, rfl, h3⟩
  exact ⟨a, List.mem_range.2 ha, rowL_mem.2 ⟨rfl, b, hb, rfl, h3⟩⟩
theorem outL_rise (S : SysD) (n : Nat) : ∀ k, (outL S n k).Pairwise ltE
 | 0 => by simp [outL]
 | k + 1 => by
  rw [outL_step, List.pairwise_append]
  refine ⟨outL_rise S n k, rowL_rise S k n, fun x hx y hy => ?_⟩
  obtain ⟨a, b, ha, hb, rfl, _⟩ := outL_mem.1 hx
  obtain ⟨h1, _⟩ := rowL_mem.1 hy
  unfold ltE
  simp only
  omega
theorem rawE_mem : ∀ {cs : List Chn} {x : Edg}, x ∈ rawE cs ↔ ∃ c ∈ cs, leadB x.fr x.tt c = true
 | [], x => by simp [rawE]
 | c :: r, x => by
  have ih := rawE_mem (cs := r) (x := x)
  rw [rawE, List.mem_append, ih]
  have hc : x ∈ chE c ↔ leadB x.fr x.tt c = true := by
   obtain ⟨kd, fr, tt⟩ := c
   obtain ⟨xf, xt⟩ := x
   unfold chE leadB
   by_cases h : kd = 2
   ·simp [h]
    omega
   ·simp [h]
    omega
  simp [hc]
def EndsIn (S : SysD) : Prop := ∀ c ∈ S.chans, 0 ≤ c.fr ∧ c.fr < S.parts.length ∧ 0 ≤ c.tt ∧ c.tt < S.parts.length
theorem edges_eq {S : SysD} (hE : EndsIn S) {l : List Edg} (h : IsEdges S.chans l) : l = edgesL S := by
 obtain ⟨r, hperm, hrise, rfl⟩ := h
 refine eq_of_rise _ _ (uniq_rise _ (rise_pair hrise)) (outL_rise S _ _) fun x => ?_
 rw [uniq_mem, hperm.mem_iff, rawE_mem, edgesL, outL_mem]
 constructor
 ·rintro ⟨c, hc, hl⟩
  obtain ⟨e1, e2, e3, e4⟩ := hE c hc
  have hx : 0 ≤ x.fr ∧ x.fr < S.parts.length ∧ 0 ≤ x.tt ∧ x.tt < S.parts.length := by
   unfold leadB at hl
   simp at hl
   omega
  refine ⟨x.fr.toNat, x.tt.toNat, by omega, by omega, by cases x; simp at hx; simp; omega, ?_⟩
  rw [Int.toNat_of_nonneg hx.1, Int.toNat_of_nonneg hx.2.2.1]
  exact List.any_eq_true.2 ⟨c, hc, hl⟩
 ·rintro ⟨a, b, ha, hb, rfl, hl⟩
  obtain ⟨c, hc, h2⟩ := List.any_eq_true.1 hl
  exact ⟨c, hc, h2⟩
open Go.RowKit Go.Sort Go.Shelf Go.Lib Go.Maps
theorem keyI : Keyed Tryz.prog 3 := int_keyed Tryz.underlying3
theorem zeroI (w : World) : (zeroValue 3).run Tryz.prog w = .ok (.int .i64 0) w := by kernel_rfl
abbrev wfI (x : Int) : Prop := (Lit.int .i64 x).wf = true
def SeenM (w : World) (b n : Nat) (V : List (Int × Int)) : Prop :=
 ∃ D : DataW Unit, w.ownsMap Tryz.prog 3 (plainElem Tryz.prog 3) b n D ∧ ∀ x, Maps.has D (.int .i64 x) = (V.lookup x).isSome ∧ D.atKey (.int .i64 x) (.lit (.int .i64 0)) = .lit (.int .i64 ((V.lookup x).getD 0))
theorem seen_made (w : World) : SeenM (w.alloc (.map #[] 0)) w.heap.size 0 [] := ⟨.map [], World.ownsMap_made _ _ _ _, fun x => ⟨rfl, rfl⟩⟩
theorem SeenM.lt {w : World} {b n : Nat} {V : List (Int × Int)} (h : SeenM w b n V) : b < w.heap.size := let ⟨_, h, _⟩ := h; h.lt
theorem SeenM.kept {w w' : World} {b n : Nat} {V : List (Int × Int)} {row : Option Nat} (h : SeenM w b n V) (hg : w.grownBy w' row) (hne : some b ≠ row) : SeenM w' b n V := let ⟨D, h, r⟩ := h; ⟨D, h.kept hg hne, r⟩
theorem SeenM.alloc {w : World} {b n : Nat} {V : List (Int × Int)} (h : SeenM w b n V) (o : Obj) : SeenM (w.alloc o) b n V := let ⟨D, h, r⟩ := h; ⟨D, h.alloc o, r⟩
theorem SeenM.up {w w' : World} {b n : Nat} {V : List (Int × Int)} (h : SeenM w b n V) (hb : Below w.heap.size w w') : SeenM w' b n V := by
 have hl := h.lt
 obtain ⟨D, ⟨es, clock, h1, h2⟩, r⟩ := h
 exact ⟨D, ⟨es, clock, by rw [hb.block _ hl]; exact h1, h2⟩, r⟩
theorem seen_put {D : DataW Unit} {V : List (Int × Int)} {x y : Int} (hm : IsMap D) (hn : V.lookup x = none)
  (h : ∀ x, Maps.has D (.int .i64 x) = (V.lookup x).isSome ∧ D.atKey (.int .i64 x) (.lit (.int .i64 0)) = .lit (.int .i64 ((V.lookup x).getD 0))) :
  ∀ z, Maps.has (D.put (.int .i64 x) (.lit (.int .i64 y))) (.int .i64 z) = ((V ++ [(x, y)]).lookup z).isSome ∧ (D.put (.int .i64 x) (.lit (.int .i64 y))).atKey (.int .i64 z) (.lit (.int .i64 0)) = .lit (.int .i64 (((V ++ [(x, y)]).lookup z).getD 0)) := by
 intro z
 rw [List.lookup_append]
 by_cases e : z = x
 ·subst e
  rw [hn, Maps.has_put_same hm (by trivial), Maps.atKey_put_same hm (by trivial)]
  simp
 ·have hne : (Lit.int .i64 z) ≠ .int .i64 x := fun h => e (by injection h)
  rw [Maps.has_put_other hne, Maps.atKey_put_other hne, (h z).1, (h z).2]
  have : (List.lookup z [(x, y)]) = none := by simp [e]
  rw [this, Option.or_none]
  exact ⟨rfl, rfl⟩
section
variable {w : World} {ops : Array Oper} {rest : List Oper} {o : Oper} {a : Act} {Q : Exit → Act → World → Prop}
theorem wpList_seen_put (hg : o.guard = none) (m x v : Operand) (hop : o.op = Op.mapUpdate 147 m x v ∨ o.op = Op.insert 147 m x v) (b n : Nat) (V : List (Int × Int)) (hm : a.eval m = .map (some b)) (hown : SeenM w b n V) (hn : n < 1000)
  (kx ky : Int) (hx : a.eval x = .int .i64 kx) (hv : a.eval v = .int .i64 ky) (wx : wfI kx) (wy : wfI ky) (hnew : V.lookup kx = none)
  (hK : ∀ w', SeenM w' b (n + 1) (V ++ [(kx, ky)]) → w.grownBy w' (some b) → wpList Tryz.prog ops Q rest (a.put o.dst undef) w') : wpList Tryz.prog ops Q (o :: rest) a w := by
 obtain ⟨D, h1, h2⟩ := hown
 refine wpList_plain hg fun K' hK' => ?_
 obtain ⟨w', hrun, r1, r2⟩ := h1.update keyI Tryz.underlying147 (by unfold maxLen; omega) (keyOf_int_mk Tryz.underlying3 wx) (plainElem_int Tryz.underlying3 wy)
 have hfin := hK w' ⟨_, r1, seen_put h1.isMap hnew h2⟩ r2
 unfold Oper.wp
 rcases hop with hop | hop
 ·simp [execOp, hop, hm, hx, hv, hrun, Result.andThen]
  exact hK' _ _ hfin
 ·simp [execOp, hop, hm, hx, hv, hrun, Result.andThen]
  exact hK' _ _ hfin
theorem wpList_seen_ok (hg : o.guard = none) (m x : Operand) (hop : o.op = Op.lookup 147 m x true) (b n : Nat) (V : List (Int × Int)) (hm : a.eval m = .map (some b)) (hown : SeenM w b n V)
  (kx : Int) (hx : a.eval x = .int .i64 kx) (wx : wfI kx)
  (hK : wpList Tryz.prog ops Q rest (a.put o.dst (.tuple #[.int .i64 ((V.lookup kx).getD 0), .bool (V.lookup kx).isSome])) w) : wpList Tryz.prog ops Q (o :: rest) a w := by
 obtain ⟨D, h1, h2⟩ := hown
 refine wpList_lookup_own_ok_int _ hg m x _ hop 3 3 .i64 keyI Tryz.underlying147 Tryz.underlying3 (zeroI _) b n D hm h1 _ _ hx (keyOf_int_mk Tryz.underlying3 wx) ?_
 intro c hat _
 rw [(h2 kx).2] at hat
 have : (V.lookup kx).getD 0 = c := by injection hat with hat; injection hat
 rw [(h2 kx).1, ← this]
 exact hK
theorem wpList_seen_at (hg : o.guard = none) (m x : Operand) (hop : o.op = Op.lookup 147 m x false) (b n : Nat) (V : List (Int × Int)) (hm : a.eval m = .map (some b)) (hown : SeenM w b n V)
  (kx : Int) (hx : a.eval x = .int .i64 kx) (wx : wfI kx)
  (hK : wpList Tryz.prog ops Q rest (a.put o.dst (.int .i64 ((V.lookup kx).getD 0))) w) : wpList Tryz.prog ops Q (o :: rest) a w := by
 obtain ⟨D, h1, h2⟩ := hown
 refine wpList_lookup_own_int _ hg m x _ hop 3 3 .i64 keyI Tryz.underlying147 Tryz.underlying3 (zeroI _) b n D hm h1 _ _ hx (keyOf_int_mk Tryz.underlying3 wx) ?_
 intro c hat _
 rw [(h2 kx).2] at hat
 have : (V.lookup kx).getD 0 = c := by injection hat with hat; injection hat
 rw [← this]
 exact hK
end
def slLen : Value → Nat
 | .slice _ n _ => n
 | _ => 0
inductive Back (V : List (Int × Int)) : Int → List Int → Prop
 | root {x : Int} (h : V.lookup x = some x) : Back V x [x]
 | step {x y : Int} {p : List Int} (h : V.lookup x = some y) (hne : y ≠ x) (hp : Back V y p) : Back V x (x :: p)
theorem Back.head {V : List (Int × Int)} {x : Int} {p : List Int} (h : Back V x p) : ∃ r, p = x :: r := by cases h <;> exact ⟨_, rfl⟩
theorem Back.cases {V : List (Int × Int)} {x : Int} {r : List Int} (h : Back V x (x :: r)) : (r = [] ∧ V.lookup x = some x) ∨ ∃ y r', r = y :: r' ∧ V.lookup x = some y ∧ y ≠ x ∧ Back V y (y :: r') := by
 cases h with
 | root h => exact .inl ⟨rfl, h⟩
 | step h hne hp =>
  obtain ⟨r', rfl⟩ := hp.head
  exact .inr ⟨_, r', rfl, h, hne, hp⟩
theorem wpList_seen_to {w : World} {ops : Array Oper} {rest : List Oper} {o : Oper} {a : Act} {Q : Exit → Act → World → Prop} (hg : o.guard = none) (m x : Operand) (hop : o.op = Op.lookup 147 m x false) (b n : Nat) (V : List (Int × Int)) (hm : a.eval m = .map (some b)) (hown : SeenM w b n V)
  (kx ky : Int) (hx : a.eval x = .int .i64 kx) (wx : wfI kx) (hk : V.lookup kx = some ky)
  (hK : wpList Tryz.prog ops Q rest (a.put o.dst (.int .i64 ky)) w) : wpList Tryz.prog ops Q (o :: rest) a w :=
 wpList_seen_at hg m x hop b n V hm hown kx hx wx (by rw [hk]; exact hK)
theorem own_holds {w : World} {base g cap : Nat} {zs : List Int} (h : w.ownsRow base 3 1 (.slice (some ⟨g, 0, none⟩) zs.length cap) zs.length (ints zs)) : Holds (Value.int .i64) w g 0 zs.toArray := by
 rcases h.2 with ⟨e0, _⟩ | ⟨g', cap', cur, e0, hg, hh, r⟩
 ·cases e0
 ·cases e0
  intro j hj
  have hj' : j < zs.length := by simpa using hj
  obtain ⟨r1, r2, r3, r4⟩ := r
  have hs := own_sl h
  obtain ⟨b, off, cap'', e, hcap, hb, hc⟩ := hs.open om
  cases e
  refine ⟨?_, ?_⟩
  ·rw [hc j (.int .i64 zs[j]) (by simp [ints, hj'])]
   simp [hj']
  ·have hf := (show Rw w g 3 cur from hh).fr (0 + j)
   exact hf
theorem rev_any {w : World} {base g cap : Nat} {zs : List Int} (h : w.ownsRow base 3 1 (.slice (some ⟨g, 0, none⟩) zs.length cap) zs.length (ints zs)) (h0 : zs.length ≤ 1000) :
  Calls Tryz.prog 134 #[.slice (some ⟨g, 0, none⟩) zs.length cap] w fun e w' => e = .returned (.tuple #[]) ∧ Sl w' 1 (.slice (some ⟨g, 0, none⟩) zs.length cap) zs.reverse.length (ints zs.reverse) ∧ ∀ B, B ≤ g → Below B w w' := by
 have hH := own_holds h
 have hlt := (h.lt g rfl).2
 refine (Tryz.slices_Reverse_int g 0 cap zs w hH om).mono ?_
 rintro e w' ⟨rfl, n, rfl⟩
 have hH2 : Holds (Value.int .i64) (putRow (Value.int .i64) (Sort.ahead w n) g 0 zs.reverse.toArray) g 0 zs.reverse.toArray := holds_putRow _ _ _ _ zs.toArray _ (holds_ahead _ w n g 0 _ hH) (by simp)
 obtain ⟨_, ao, cap', e, hcap, _⟩ := own_sl h
 cases e
 refine ⟨rfl, ⟨by simp [ints], some ⟨g, 0, none⟩, cap, by simp, by simpa using hcap, fun _ => ⟨g, 0, rfl, by simp; exact hlt, fun j u hj => ?_, fun j hj => (hH2 j (by simpa [ints] using hj)).2⟩⟩, fun B hB => ⟨rfl, rfl, rfl, by simp [Sort.ahead], fun k hk => ?_⟩⟩
 ·have hjl : j < zs.reverse.length := by
   have := (List.getElem?_eq_some_iff.1 hj).1
   simpa [ints] using this
  rw [(hH2 j (by simpa using hjl)).1]
  rw [← hj]
  simp at hjl
  simp [ints, hjl]
 ·show (w.heap.modify g _)[k]? = _
  rw [Array.getElem?_modify, if_neg om]
theorem own_one (w : World) (x : Int) : (w.alloc (.cells #[.int .i64 x] 3)).ownsRow w.heap.size 3 1 (.slice (some ⟨w.heap.size, 0, none⟩) 1 1) 1 (ints [x]) :=
 ⟨rfl, .inr ⟨w.heap.size, 1, #[.int .i64 x], rfl, Nat.le_refl _, (Rw.new w _ _ rfl : Rw _ _ _ _), Nat.le_refl _, by unfold maxLen; omega, rfl, rfl⟩⟩
theorem trail_any (V : List (Int × Int)) (b n : Nat) (x0 : Int) (p : List Int) (hp : Back V x0 p) (hwf : ∀ y ∈ p, wfI y) (hl : p.length ≤ 1000) (w : World) (hM : SeenM w b n V) :
  Calls Tryz.prog 100 #[.map (some b), .int .i64 x0] w fun e w' => ∃ v, e = .returned v ∧ Sl w' 1 v p.reverse.length (ints p.reverse) ∧ Below w.heap.size w w' := by
 obtain ⟨i1, hi1, hy0, hy1, hy2⟩ := info_parts info3
 have hbl := hM.lt
 have HM := hd hM
 have HWF := hd hwf
 obtain ⟨r0, hr0⟩ := hp.head
 subst hr0
 have HP := hd hp
 clear hM hwf hp
 go_enter Tryz.func100, Tryz.ntmps100
 go_wp2
 go_loopw [6, 5] (fun at_ l wr => ∃ (x : Int) (done rest : List Int), at_ = .int .i64 x ∧ Hid (Back V x (x :: rest)) ∧ Hid (done ++ x :: rest = x0 :: r0) ∧ Hid (wr.ownsRow w.heap.size 3 1 l (done ++ [x]).length (ints (done ++ [x]))) ∧ Hid (SeenM wr b n V) ∧ Hid (Below w.heap.size w wr)) (fun _ l _ => (x0 :: r0).length - slLen l)
 case atStart => exact ⟨x0, [], r0, rfl, HP, hd rfl, hd (own_one w x0), hd (HM.out.alloc _), up0⟩
 case round =>
  obtain ⟨x, done, rest, rfl, HP2, HE, HO, HM2, HB⟩ := hrel
  have hwx : wfI x := HWF.out x (by rw [← HE.out]; simp)
  obtain ⟨a3, c3, hform⟩ := own_form HO.out
  subst hform
  have hws := HB.out.size
  rcases HP2.out.cases with ⟨hr, hlk⟩ | ⟨y, r', hr, hlk, hne, hb2⟩
  ·subst hr
   clear HP2
   have hO := HO.out
   rw [HE.out] at hO
   have hln : (done ++ [x]).length = (x0 :: r0).length := by rw [HE.out]
   rw [hln]
   obtain ⟨g, cap, hv, hgw⟩ : ∃ g cap, Value.slice a3 (x0 :: r0).length c3 = .slice (some ⟨g, 0, none⟩) (x0 :: r0).length cap ∧ w.heap.size ≤ g := by
    rcases hO.2 with ⟨_, e0⟩ | ⟨g, cap, cur, e0, hg, _⟩
    ·simp at e0
    ·exact ⟨g, cap, e0, hg⟩
   cases hv
   have HO2 := hd hO
   clear hO HO
   go_wp2_with (first | (at_lookup; refine wpList_seen_to rfl _ _ rfl b n V rfl HM2.out x x rfl hwx hlk ?_) | (go_at_call 134; refine (rev_any HO2.out hl).mono ?_; rintro e w2 ⟨rfl, hsl, hbel⟩))
   go_ret
   exact ⟨_, rfl, hsl, HB.out.trans (hbel _ hgw)⟩
  ·subst hr
   have hwy : wfI y := HWF.out y (by rw [← HE.out]; simp)
   have HN := hd hb2
   have HLL : Hid ((done ++ [x]).length ≤ 1000) := hd (by have h := congrArg List.length HE.out; simp at h hl ⊢; omega)
   have HLT : Hid ((done ++ [x]).length < (x0 :: r0).length) := hd (by have h := congrArg List.length HE.out; simp at h ⊢; omega)
   have HO3 := hd (HO.out.alloc (.cells #[.int .i64 y] 3))
   have HE2 : Hid ((done ++ [x]) ++ y :: r' = x0 :: r0) := hd (by rw [← HE.out]; simp)
   clear HP2 hb2 HE
   generalize done ++ [x] = zs at HO HO3 HE2 HLL HLT
   go_wp2_with (first | (at_lookup; refine wpList_seen_to rfl _ _ rfl b n V rfl HM2.out x y rfl hwx hlk ?_) | (at_builtin; refine wpList_append_lies _ rfl (.tmp 18) (.tmp 22) 33 rfl w.heap.size 3 i1 (.int .i64 0) 1 8 Tryz.underlying33 hi1 hy0 hy1 hy2 rfl (by decide) _ zs.length (ints zs) rfl HO3.out ⟨wr.heap.size, 0, none⟩ 1 1 [.int .i64 y] rfl rfl (new_rangeE _ _ _ _ rfl) (int_cell _) (by decide) (by have := HLL.out; unfold maxLen; omega) (by have := HLL.out; omega) so _ rfl ?_; intro g4 cap4 W4 hown hgrow hat hg4; have R := ints_step HB.out HO.out hown hgrow; have HM4 := hd ((HM2.out.alloc _).kept hgrow (fun e => by have := own_block HO3.out _ e.symm; omega)); have HO4 := hd R.1; have HB4 := hd R.2; clear R hown hgrow hat) | (at_lookup; refine wpList_seen_to rfl _ _ rfl b n V rfl HM4.out x y rfl hwx hlk ?_))
   go_roundw
   case rel => exact ⟨y, zs, r', rfl, HN, HE2, HO4, HM4, HB4⟩
   case measure => simp only [slLen]; have := HLT.out; simp at this ⊢; omega
def QRow (w : World) (base : Nat) (v : Value) (zs : List Int) : Prop :=
 ∃ g off cap cur, v = .slice (some ⟨g, off, none⟩) zs.length cap ∧ base ≤ g ∧ Rw w g 3 cur ∧ zs.length ≤ cap ∧ (0 < cap → off + cap ≤ cur.size) ∧ ∀ j (hj : j < zs.length), cur[off + j]? = some (.int .i64 zs[j])
theorem QRow.block {w : World} {base : Nat} {v : Value} {zs : List Int} (h : QRow w base v zs) : ∀ k, v.ownBlock = some k → base ≤ k ∧ k < w.heap.size := by
 obtain ⟨g, off, cap, cur, rfl, hg, hr, _⟩ := h
 intro k hk
 simp [Value.ownBlock] at hk
 subst hk
 exact ⟨hg, hr.lt⟩
theorem QRow.kept {w w' : World} {base : Nat} {v : Value} {zs : List Int} {row : Option Nat} (h : QRow w base v zs) (hg : w.grownBy w' row) (hne : v.ownBlock ≠ row) : QRow w' base v zs := by
 obtain ⟨g, off, cap, cur, rfl, hb, hr, r⟩ := h
 exact ⟨g, off, cap, cur, rfl, hb, (hg.block g hr.lt (by simpa [Value.ownBlock] using hne)).trans hr, r⟩
theorem QRow.up {w w' : World} {base : Nat} {v : Value} {zs : List Int} (h : QRow w base v zs) (hb : Below w.heap.size w w') : QRow w' base v zs := by
 obtain ⟨g, off, cap, cur, rfl, hg, hr, r⟩ := h
 exact ⟨g, off, cap, cur, rfl, hg, (hb.block g hr.lt).trans hr, r⟩
theorem QRow.form {w : World} {base : Nat} {v : Value} {zs : List Int} (h : QRow w base v zs) : ∃ g off cap, v = .slice (some ⟨g, off, none⟩) zs.length cap ∧ zs.length ≤ cap ∧ base ≤ g ∧ g < w.heap.size ∧ ∀ j (hj : j < zs.length), w.cell? ⟨g, off + j, none⟩ = some (.int .i64 zs[j]) := by
 obtain ⟨g, off, cap, cur, rfl, hg, hr, h1, _, h2⟩ := h
 exact ⟨g, off, cap, rfl, h1, hg, hr.lt, fun j hj => hr.cell (h2 j hj)⟩
theorem q_one (w : World) (x : Int) : QRow (w.alloc (.cells #[.int .i64 x] 3)) w.heap.size (.slice (some ⟨w.heap.size, 0, none⟩) 1 1) [x] :=
 ⟨w.heap.size, 0, 1, #[.int .i64 x], rfl, Nat.le_refl _, Rw.new w _ _ rfl, Nat.le_refl _, fun _ => by simp, fun j hj => by
  have : j = 0 := by simp at hj; omega
  subst this
  rfl⟩
theorem q_pop {w : World} {base : Nat} {v : Value} {z : Int} {zs : List Int} (h : QRow w base v (z :: zs)) :
  ∃ v', (Instr.slice 33 v (some (.int .i64 1)) none none).run Tryz.prog w = .ok v' w ∧ QRow w base v' zs ∧ v'.ownBlock = v.ownBlock := by
 obtain ⟨g, off, cap, cur, rfl, hg, hr, h1, h2, h3⟩ := h
 have ht : Tryz.prog.underlying 33 = some (.slice (Tryz.prog.elem 33)) := by simp [Program.elem, Tryz.underlying33]
 have he : Tryz.prog.elem 33 = 3 := by simp [Program.elem, Tryz.underlying33]
 have hz : ∀ w, (Go.sizeOf 3).run Tryz.prog w = .ok 1 w := Tryz.sizeOf3
 have hl : (z :: zs).length = zs.length + 1 := rfl
 rw [hl] at h1
 have hrun := run_slice_l (P := Tryz.prog) w 33 (some ⟨g, off, none⟩) (z :: zs).length cap ht .i64 1 om (by rw [hl]; omega)
 rw [he, hz] at hrun
 by_cases hc : cap = 1
 ·subst hc
  have hz0 : zs = [] := List.eq_nil_of_length_eq_zero om
  subst hz0
  exact ⟨.slice (some ⟨g, off, none⟩) 0 0, by rw [hrun]; simp [Result.andThen, sliced], ⟨g, off, 0, cur, rfl, hg, hr, by simp, by simp, by simp⟩, rfl⟩
 ·have h4 := h2 om
  refine ⟨.slice (some ⟨g, off + 1, none⟩) zs.length (cap - 1), by rw [hrun]; simp [Result.andThen, sliced, Addr.add, hc], ⟨g, off + 1, cap - 1, cur, rfl, hg, hr, by omega, fun _ => by omega, fun j hj => ?_⟩, rfl⟩
  have := h3 (j + 1) (by rw [hl]; omega)
  rw [show off + 1 + j = off + (j + 1) by omega, this]
  rfl
theorem q_append {w : World} {base : Nat} {v : Value} {zs : List Int} (h : QRow w base v zs) (hl : zs.length ≤ 1000) (hb : base ≤ w.heap.size) {i1 : TypeInfo} (hi1 : Tryz.prog.info? 3 = some i1) (hy0 : i1.zero = some (.int .i64 0)) (hy1 : i1.size = 1) (hy2 : i1.bytes = 8)
  (ad : Addr) (c : Nat) (y : Int) (hn : ∀ j u, [Value.int .i64 y][j]? = some u → w.cell? (ad.add j) = some u) (ty : TypeId) :
  ∃ v' w', (Builtin.append_ #[33, 33] ty #[v, .slice (some ad) 1 c]).run Tryz.prog w = .ok v' w' ∧ QRow w' base v' (zs ++ [y]) ∧ w.grownBy w' v.ownBlock := by
 obtain ⟨g, off, cap, cur, rfl, hg, hr, h1, h2, h3⟩ := h
 by_cases hroom : zs.length + 1 ≤ cap
 ·have h4 := h2 om
  have hrun := run_append_room_cells (P := Tryz.prog) w 33 ty 3 i1 Tryz.underlying33 hi1 g off zs.length cap ad 1 c [.int .i64 y] (by simp [hy1]) hn (int_cell _) hroom
   (fun j hj => by
    have : j = 0 := by simp at hj; omega
    subst this
    rw [hy1, hr.cell (j := off + zs.length * 1 + 0) (v := cur[off + zs.length * 1 + 0]'om) (by rw [Array.getElem?_eq_getElem])]
    rfl)
   (fun j hj => hr.fr _)
  rw [hy1] at hrun
  refine ⟨_, _, hrun, ⟨g, off, cap, cur.setIfInBounds (off + zs.length) (.int .i64 y), by simp, hg, ?_, by simpa using hroom, fun _ => by simpa using h4, fun j hj => ?_⟩, ⟨rfl, rfl, rfl, by simp [World.setCells, World.setCell], fun k hk hne => ?_⟩⟩
  ·show (w.heap.modify g _)[g]? = _
   rw [Array.getElem?_modify, if_pos rfl, show w.heap[g]? = some _ from hr]
   simp
  ·by_cases e : j = zs.length
   ·subst e
    rw [Array.getElem?_setIfInBounds_self_of_lt om]
    simp
   ·have hj' : j < zs.length := by simp at hj; omega
    rw [Array.getElem?_setIfInBounds_ne om, h3 j hj']
    simp [List.getElem_append_left hj']
  ·show (w.heap.modify g _)[k]? = _
   rw [Array.getElem?_modify, if_neg (fun e => hne (by rw [e]; rfl))]
 ·obtain ⟨v', w', hrun, r1, r2⟩ := run_append_arg_grows (P := Tryz.prog) w 33 ty 3 i1 (.int .i64 0) 1 8 Tryz.underlying33 hi1 hy0 hy1 hy2 rfl (by decide) ⟨g, off, none⟩ zs.length cap (ints zs) (by simp [ints]) (fun j u hj => by
    rw [Addr.add_lit]
    have hjl : j < zs.length := by
     have := (List.getElem?_eq_some_iff.1 hj).1
     simpa [ints] using this
    rw [hr.cell (h3 j hjl)]
    simp [ints, hjl] at hj
    rw [hj]) ad 1 c [.int .i64 y] (by simp) hn om (by unfold maxLen; omega) om
  refine ⟨v', w', hrun, ?_, ⟨r2.os, r2.tape, r2.output, r2.size, fun k hk _ => r2.block k hk (by simp)⟩⟩
  rcases r1.2 with ⟨_, h0⟩ | ⟨g', cap', cur', e0, hg', hh, hc1, _, hc3, hc4⟩
  ·omega
  ·refine ⟨g', 0, cap', cur', by rw [e0]; simp, by omega, hh, by simpa using hc1, fun _ => by omega, fun j hj => ?_⟩
   have hj2 : j < zs.length + 1 := by simpa using hj
   have hcl : (ints (zs ++ [y]))[j]? = some (.int .i64 (zs ++ [y])[j]) := by unfold ints; rw [List.getElem?_map, List.getElem?_eq_getElem hj]; rfl
   have e1 : ints zs ++ [.int .i64 y] = ints (zs ++ [y]) := by simp [ints]
   rw [e1] at hc4
   rw [← hc4, List.getElem?_take] at hcl
   split at hcl
   ·rw [Nat.zero_add]
    simpa using hcl
   ·cases hcl
section
variable {w : World} {ops : Array Oper} {rest : List Oper} {o : Oper} {a : Act} {Q : Exit → Act → World → Prop}
theorem wpList_q_pop (hg : o.guard = none) (s : Operand) (hop : o.op = Op.slice 33 s (some (.const (.int .i64 1))) none none) (base : Nat) (v : Value) (z : Int) (zs : List Int) (hs : a.eval s = v) (hq : QRow w base v (z :: zs))
  (hK : ∀ v', QRow w base v' zs → wpList Tryz.prog ops Q rest (a.put o.dst v') w) : wpList Tryz.prog ops Q (o :: rest) a w := by
 obtain ⟨v', hrun, h1, _⟩ := q_pop hq
 refine wpList_plain hg fun K' hK' => ?_
 have hfin := hK v' h1
 unfold Oper.wp
 have ht : Tryz.prog.underlying 33 = some (.slice (Tryz.prog.elem 33)) := by simp [Program.elem, Tryz.underlying33]
 have hc : a.eval (.const (.int .i64 1)) = .int .i64 1 := rfl
 simp [execOp, hop, hs, hc, run_sliceAt_slice _ _ _ _ _ _ ht, hrun, Result.andThen]
 exact hK' _ _ hfin
theorem wpList_q_append (hg : o.guard = none) (s x : Operand) (hop : o.op = .call { callee := .builtin .append, args := #[s, x], argTypes := #[33, 33] }) (base : Nat) (v : Value) (zs : List Int) (hs : a.eval s = v) (hq : QRow w base v zs) (hl : zs.length ≤ 1000) (hb : base ≤ w.heap.size)
  (ad : Addr) (c : Nat) (y : Int) (hx : a.eval x = .slice (some ad) 1 c) (hn : ∀ j u, [Value.int .i64 y][j]? = some u → w.cell? (ad.add j) = some u)
  (hK : ∀ v' w', QRow w' base v' (zs ++ [y]) → w.grownBy w' v.ownBlock → wpList Tryz.prog ops Q rest (a.put o.dst v') w') : wpList Tryz.prog ops Q (o :: rest) a w := by
 obtain ⟨i1, hi1, hy0, hy1, hy2⟩ := info_parts info3
 obtain ⟨v', w', hrun, h1, h2⟩ := q_append hq hl hb hi1 hy0 hy1 hy2 ad c y hn o.type
 refine wpList_plain hg fun K' hK' => ?_
 have hfin := hK v' w' h1 h2
 unfold Oper.wp
 simp [execOp, hop, resolve, invoke, builtin, hs, hx, hrun, Result.andThen]
 exact hK' _ _ hfin
end
abbrev Vis := List (Int × Int)
def addE (x : Int) (V : Vis) (e : Edg) : Vis := if e.fr = x ∧ V.lookup e.tt = none then V ++ [(e.tt, x)] else V
def addAll (x : Int) (V : Vis) (E : List Edg) : Vis := E.foldl (addE x) V
theorem addAll_snoc (x : Int) (V : Vis) (E : List Edg) (e : Edg) : addAll x V (E ++ [e]) = addE x (addAll x V E) e := by simp [addAll]
inductive Bfs (E : List Edg) (a : Int) : Vis → Nat → Prop
 | start : Bfs E a [(a, a)] 0
 | pop {V : Vis} {k : Nat} {x y : Int} (h : Bfs E a V k) (hk : V[k]? = some (x, y)) : Bfs E a (addAll x V E) (k + 1)
structure Inv (E : List Edg) (a : Int) (V : Vis) : Prop where
 nd : (V.map Prod.fst).Nodup
 hd : V[0]? = some (a, a)
 par : ∀ (i : Nat) (x y : Int), V[i]? = some (x, y) → 0 < i → x ≠ y ∧ (⟨y, x⟩ : Edg) ∈ E ∧ ∃ j, j < i ∧ ∃ z, V[j]? = some (y, z)
theorem look_none : ∀ {V : Vis} {x : Int}, V.lookup x = none ↔ ∀ q ∈ V, q.1 ≠ x
 | [], x => by simp
 | (u, v) :: r, x => by
  rw [List.lookup_cons]
  by_cases h : x = u
  ·subst h
   simp
  ·have hb : (x == u) = false := by simpa using h
   rw [hb]
   simp only [List.mem_cons, forall_eq_or_imp]
   rw [look_none (V := r)]
   exact ⟨fun hr => ⟨fun e => h e.symm, hr⟩, fun hr => hr.2⟩
theorem look_at : ∀ {V : Vis} {i : Nat} {x y : Int}, (V.map Prod.fst).Nodup → V[i]? = some (x, y) → V.lookup x = some y
 | (u, v) :: r, 0, x, y, _, h => by
  simp at h
  rw [List.lookup_cons]
  simp [h]
 | (u, v) :: r, i + 1, x, y, hn, h => by
  simp at h hn
  rw [List.lookup_cons]
  have hne : ¬ x = u := by
   intro e
   subst e
   exact hn.1 y (List.mem_of_getElem? h)
  have hb : (x == u) = false := by simpa using hne
  rw [hb]
  exact look_at (by simpa using hn.2) h
theorem addE_at {x : Int} {V : Vis} {e : Edg} {i : Nat} {q : Int × Int} (h : V[i]? = some q) : (addE x V e)[i]? = some q := by
 unfold addE
 split
 ·rw [List.getElem?_append_left (List.getElem?_eq_some_iff.1 h).1]
  exact h
 ·exact h
theorem addE_len {x : Int} {V : Vis} {e : Edg} : V.length ≤ (addE x V e).length := by
 unfold addE
 split <;> simp
theorem Inv.add {E : List Edg} {a : Int} {V : Vis} (h : Inv E a V) {e : Edg} (he : e ∈ E) {x : Int} {k : Nat} {z : Int} (hk : V[k]? = some (x, z)) : Inv E a (addE x V e) := by
 by_cases hc : e.fr = x ∧ V.lookup e.tt = none
 ·have hadd : addE x V e = V ++ [(e.tt, x)] := if_pos hc
  have hkl := (List.getElem?_eq_some_iff.1 hk).1
  refine ⟨?_, addE_at h.hd, fun i u v hi h0 => ?_⟩
  ·rw [hadd, List.map_append, List.nodup_append]
   refine ⟨h.nd, by simp, fun p hp q hq => ?_⟩
   simp at hq
   subst hq
   obtain ⟨r, hr, rfl⟩ := List.mem_map.1 hp
   exact look_none.1 hc.2 r hr
  ·by_cases hl : i < V.length
   ·rw [hadd, List.getElem?_append_left hl] at hi
    obtain ⟨h1, h2, j, hj, w, hw⟩ := h.par i u v hi h0
    exact ⟨h1, h2, j, hj, w, addE_at hw⟩
   ·rw [hadd] at hi
    have hi2 : i = V.length := by
     have := (List.getElem?_eq_some_iff.1 hi).1
     simp at this
     omega
    subst hi2
    simp at hi
    obtain ⟨rfl, rfl⟩ := hi
    refine ⟨fun e2 => ?_, ?_, k, hkl, z, addE_at hk⟩
    ·exact look_none.1 hc.2 _ (List.mem_of_getElem? hk) e2.symm
    ·have : (⟨x, e.tt⟩ : Edg) = e := by cases e; simp at hc; simp [hc.1]
     rw [this]
     exact he
 ·have hadd : addE x V e = V := if_neg hc
  rw [hadd]
  exact h
theorem Inv.addAll {E : List Edg} {a : Int} {x : Int} {k : Nat} {z : Int} : ∀ (l : List Edg) {V : Vis}, Inv E a V → (∀ e ∈ l, e ∈ E) → V[k]? = some (x, z) → Inv E a (addAll x V l)
 | [], V, h, _, _ => h
 | e :: r, V, h, hl, hk => Inv.addAll r (h.add (hl e (by simp)) hk) (fun e' he => hl e' (by simp [he])) (addE_at hk)
theorem addAll_at {x : Int} {i : Nat} {q : Int × Int} : ∀ (l : List Edg) {V : Vis}, V[i]? = some q → (addAll x V l)[i]? = some q
 | [], V, h => h
 | e :: r, V, h => addAll_at r (addE_at h)
theorem addAll_len {x : Int} : ∀ (l : List Edg) {V : Vis}, V.length ≤ (addAll x V l).length
 | [], V => Nat.le_refl _
 | e :: r, V => Nat.le_trans addE_len (addAll_len r)
theorem Bfs.inv {E : List Edg} {a : Int} {V : Vis} {k : Nat} (h : Bfs E a V k) : Inv E a V ∧ k ≤ V.length := by
 induction h with
 | start => exact ⟨⟨by simp, rfl, fun i x y hi h0 => by
   have := (List.getElem?_eq_some_iff.1 hi).1
   simp at this
   omega⟩, by simp⟩
 | @pop V k x y h hk ih =>
  refine ⟨Inv.addAll E ih.1 (fun _ h => h) hk, ?_⟩
  have h1 := (List.getElem?_eq_some_iff.1 hk).1
  have h2 := addAll_len (x := x) E (V := V)
  omega
theorem nodup_len : ∀ (n : Nat) (l : List Int), l.Nodup → (∀ x ∈ l, 0 ≤ x ∧ x < n) → l.length ≤ n
 | 0, l, _, h => by
  cases l with
  | nil => simp
  | cons x r => have := h x (by simp); omega
 | n + 1, l, hn, h => by
  have := nodup_len n (l.erase n) (hn.erase _) (fun x hx => by
   have h1 := h x (List.mem_of_mem_erase hx)
   have h2 := (hn.mem_erase_iff).1 hx
   have := h2.1
   omega)
  have h3 := List.length_erase (a := (n : Int)) (l := l)
  split at h3 <;> omega
def EdgIn (E : List Edg) (n : Nat) : Prop := ∀ e ∈ E, 0 ≤ e.fr ∧ e.fr < n ∧ 0 ≤ e.tt ∧ e.tt < n
theorem Inv.within {E : List Edg} {a : Int} {V : Vis} {n : Nat} (h : Inv E a V) (hE : EdgIn E n) (ha : 0 ≤ a ∧ a < n) : ∀ q ∈ V, (0 ≤ q.1 ∧ q.1 < n) ∧ (0 ≤ q.2 ∧ q.2 < n) := by
 intro q hq
 obtain ⟨i, hi, he⟩ := List.getElem_of_mem hq
 have hi2 : V[i]? = some (q.1, q.2) := by rw [List.getElem?_eq_getElem hi, he]
 by_cases h0 : i = 0
 ·subst h0
  rw [h.hd] at hi2
  simp at hi2
  rw [← hi2.1, ← hi2.2]
  exact ⟨ha, ha⟩
 ·obtain ⟨_, h2, _⟩ := h.par i q.1 q.2 hi2 om
  have := hE _ h2
  simp at this
  omega
theorem Inv.len {E : List Edg} {a : Int} {V : Vis} {n : Nat} (h : Inv E a V) (hE : EdgIn E n) (ha : 0 ≤ a ∧ a < n) : V.length ≤ n := by
 have := nodup_len n (V.map Prod.fst) h.nd (fun x hx => by
  obtain ⟨q, hq, rfl⟩ := List.mem_map.1 hx
  exact (h.within hE ha q hq).1)
 simpa using this
theorem Inv.back {E : List Edg} {a : Int} {V : Vis} (h : Inv E a V) : ∀ (i : Nat) (x y : Int), V[i]? = some (x, y) → ∃ p, Back V x p ∧ p.length ≤ i + 1 ∧ ∀ u ∈ p, ∃ v, (u, v) ∈ V := by
 intro i
 induction i using Nat.strongRecOn with
 | _ i ih =>
  intro x y hi
  by_cases h0 : i = 0
  ·subst h0
   rw [h.hd] at hi
   simp at hi
   rw [← hi.1]
   exact ⟨[a], .root (look_at h.nd h.hd), by simp, fun u hu => by simp at hu; rw [hu]; exact ⟨a, List.mem_of_getElem? h.hd⟩⟩
  ·obtain ⟨h1, _, j, hj, z, hz⟩ := h.par i x y hi om
   obtain ⟨p, hp, hpl, hpm⟩ := ih j hj y z hz
   refine ⟨x :: p, .step (look_at h.nd hi) (fun e => h1 e.symm) hp, by simp; omega, fun u hu => ?_⟩
   rcases List.mem_cons.1 hu with rfl | hu
   ·exact ⟨y, List.mem_of_getElem? hi⟩
   ·exact hpm u hu
theorem wf_small {x : Int} (h0 : 0 ≤ x) (h1 : x < 1000) : wfI x := by
 have h2 : IntKind.min .i64 ≤ 0 := by decide
 have h3 : 1000 ≤ IntKind.max .i64 := by decide
 unfold wfI Lit.wf
 simp
 omega
end Go.Proofs.YtehhhiodfcdnmaaGreatDoor
