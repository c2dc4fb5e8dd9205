/- The law DeskSound, walked. -/
import Derived.Test.YtbkdoohhdkahiaaGreatDoorK28
import Derived.Test.YtbkdoohhdkahiaaGreatDoorK29
import Derived.WalkKit
import Derived.ProofKit
import Derived.OpenShut
import Derived.Carry
import Derived.Test.YtbkdoohhdkahiaaGreatDoorRows
import Derived.Test.YtbkdoohhdkahiaaGreatDoorK2
import Derived.Test.YtbkdoohhdkahiaaGreatDoorK3
import Derived.WideWitness
import Derived.LaidLaws
import Derived.Lib.SmallJoins
import Derived.Deep.DeepHandedRow
import Derived.Deep.Slices
import Derived.Deep.Strs
import Derived.SizedLaws
namespace Go.Proofs.YtbkdoohhdkahiaaGreatDoor
set_option linter.unusedSimpArgs false
set_option linter.unusedVariables false
open Go.RowKit Go.Sort
theorem ent_chooseD : Enters 12 := enters Tryz.func12 (by kernel_rfl) (by kernel_rfl)
theorem lineOf_next (l : List UInt8) (u : Nat) (hu : u ≤ 900) (hl : l.length ≤ 100000) (w : World) : Calls Tryz.prog 15 #[.string ⟨l.toArray⟩, .int .i64 ((u : Int) + 1)] w fun e w' => e = .returned (.string ⟨(lineN l (u + 1)).toArray⟩) ∧ w' = w := by
  have := lineOf_any l (u + 1) (by omega) (by omega) w
  rwa [show ((u + 1 : Nat) : Int) = (u : Int) + 1 by omega] at this
structure SndE (S Z : SysD) (rules : List UInt8) (n : Int) (u : Nat) (b1 b2 t1 t2 x : List UInt8) : Prop where
  k1 : chkS S = 0
  k2 : chkS Z = 0
  i1 : imgB S = b1
  i2 : imgB Z = b2
  l1 : b1.length ≤ 2000
  l2 : b2.length ≤ 2000
  j1 : judgeE b1 rules n = 0 ∧ judgeW b1 rules n = t1
  j2 : judgeE b2 rules n = 0 ∧ judgeW b2 rules n = t2
  m1 : t1.length ≤ 100000
  m2 : t2.length ≤ 100000
  x1 : lineN t1 (u + 1) = x
  x2 : lineN t2 (u + 1) = x
  z1 : lineN t1 0 = soundT
  z2 : lineN t2 0 = soundT
theorem sndE {S : SysD} {rules : List UInt8} {n : Int} {u v : Nat} {p : Prt} (hok : S.ok) (hok2 : S.ok2) (hpo : ∀ j (hj : j < p.code.length), p.code[j].ok) (hpi : ∀ x ∈ p.inn, in64 x) (hr : rulesE rules = 0) (hp : polE S (rulesL rules) = 0) (hl : leakL S (rulesL rules) = []) (h0 : 0 ≤ n) (h1 : n ≤ 300)
    (hu : u < S.parts.length) (hv : v < S.parts.length) (hne : u ≠ v) (hL : ∀ j (hj : j < (rulesL rules).length), (rulesL rules)[j] ≠ ⟨(v : Int), (u : Int)⟩) (ho : otherE S (v : Int) p = 0) : ∃ b1 b2 t1 t2 x, SndE S (otherR S (v : Int) p) rules n u b1 b2 t1 t2 x := by
  obtain ⟨k2, e2⟩ := otherE_okD ho
  have k1 := (polE_is hp).1
  have hal := other_alike k1 k2 (sound_alone hl hu hv hne hL)
  have q1 := other_ok (v := v) hok hpo
  have q2 := other_ok2 (v := v) hok2 hpi
  have p2 := other_pol hp k2
  have l2 := (other_leak S v p (rulesL rules)).trans hl
  rw [e2]
  exact ⟨_, _, _, _, _, k1, k2, rfl, rfl, imgB_len k1, imgB_len k2, judge_sound k1 hok hok2 hr hp hl h0 h1, judge_sound k2 q1 q2 hr p2 l2 h0 h1, judge_len k1 hok hok2 hp hl h0 h1, judge_len k2 q1 q2 p2 l2 h0 h1, rfl, line_same hal n h0 h1, written_zero _ _, written_zero _ _⟩
set_option maxRecDepth 100000 in
set_option maxHeartbeats 16000000 in
theorem deskSound_any (S : SysD) (hok : S.ok) (hok2 : S.ok2) (rules : List UInt8) (hrl : rules.length ≤ 281474976710656) (a b n : Int) (hab : in64 a) (hbb : in64 b) (p : Prt) (hpo : ∀ j (hj : j < p.code.length), p.code[j].ok) (hpi : ∀ x ∈ p.inn, in64 x) (vp vc vs pv iv : Value) (w : World) (he : Env w) (hS : Sys w vp vc vs S) (hp : PrtR w pv iv p) :
    Calls Tryz.prog 4 #[.agg #[vp, vc, vs], .string ⟨rules.toArray⟩, .int .i64 a, .int .i64 b, .int .i64 n, .agg #[pv, iv]] w fun e w' => e = .returned (.bool true) ∧ Below w.heap.size w w' := by
  obtain ⟨pa, pc, rfl⟩ := hS.p.form
  obtain ⟨ka, kc, rfl⟩ := hS.c.form
  obtain ⟨sa, sc, rfl⟩ := hS.s.form
  obtain ⟨qa, qc, rfl⟩ := hp.code.form
  obtain ⟨ia, ic, rfl⟩ := hp.inn.form
  have HE := Lib.hid he
  have HS := Lib.hid hS
  have HP := Lib.hid hp
  have HA := Lib.hid hab
  have HBB := Lib.hid hbb
  have HRL := Lib.hid hrl
  obtain ⟨L, hL⟩ : ∃ L, rulesL rules = L := ⟨_, rfl⟩
  obtain ⟨e1, he1⟩ : ∃ e1, rulesE rules = e1 := ⟨_, rfl⟩
  obtain ⟨e2, he2⟩ : ∃ e2, polE S L = e2 := ⟨_, rfl⟩
  obtain ⟨⟨ss, pp, is⟩, hC⟩ : ∃ C, certO S L = C := ⟨_, rfl⟩
  have HRu := Lib.hid (fun w he => rules_any rules w he hrl)
  rw [he1, hL] at HRu
  have HCe := Lib.hid (certify_any S L)
  rw [hC, he2] at HCe
  dsimp only at HCe
  have HEND : Hid (e1 = 0 → is = true → 0 ≤ n → n ≤ 300 → (polE S L = 0 ∧ leakL S L = [] ∧ ss.length = S.parts.length ∧ 1 ≤ S.parts.length ∧ S.parts.length ≤ 4 ∧ L.length ≤ 16) ∧ ∀ u v : Nat, u < S.parts.length → v < S.parts.length → u ≠ v → (∀ j (hj : j < L.length), L[j] ≠ ⟨(v : Int), (u : Int)⟩) → otherE S (v : Int) p = 0 → ∃ b1 b2 t1 t2 x, SndE S (otherR S (v : Int) p) rules n u b1 b2 t1 t2 x) := Lib.hid (by
    intro h1 h2 h3 h4
    subst h2
    obtain ⟨g1, g2⟩ := certO_sound (S := S) (L := L) (by rw [hC])
    have g3 := hC.symm.trans (certO_of g1 g2)
    injection g3 with g4 _ _
    obtain ⟨q1, q2⟩ := polE_is g1
    have q3 := chk_flow q1
    refine ⟨⟨g1, g2, by rw [g4, certS_len], q3.2.1, q3.1, polUp_len q3.1 q2 (Nat.le_refl _)⟩, fun u v hu hv hne hLL ho => ?_⟩
    subst hL
    exact sndE hok hok2 hpo hpi (he1.trans h1) g1 g2 h3 h4 hu hv hne hLL ho)
  clear he hS hp hab hbb hrl hok hok2 hpo hpi hL he1 he2 hC
  go_enter Tryz.func4, Tryz.ntmps4
  go_upto_region 1 with fail
  generalize hX : World.alloc _ _ = X
  have hXX : X = (w.alloc (.cells #[.slice pa S.parts.length pc, .slice ka S.chans.length kc, .slice sa S.slots.length sc] 39)).alloc (.cells #[.slice qa p.code.length qc, .slice ia p.inn.length ic] 43) := by rw [← hX] <;> rfl
  have d0 : Below w.heap.size w X := by rw [hXX]; exact up0
  have R0 : Hid (Rw X w.heap.size 39 #[.slice pa S.parts.length pc, .slice ka S.chans.length kc, .slice sa S.slots.length sc]) := Lib.hid (by rw [hXX]; exact (by repeat (first | exact Rw.new _ _ _ (by first | rfl | (simp; done) | omega | (simp; omega)) | refine Rw.alloc ?_ _)))
  have R13 : Hid (Rw X (w.heap.size + 1) 43 #[.slice qa p.code.length qc, .slice ia p.inn.length ic]) := Lib.hid (by rw [hXX]; exact (by repeat (first | exact Rw.new _ _ _ (by first | rfl | (simp; done) | omega | (simp; omega)) | refine Rw.alloc ?_ _)))
  have HB := Lib.hid d0
  clear hX hXX d0
  go_wp2_with fail
  refine (HRu.out _ (HE.out.up HB.out)).mono ?_
  rintro e w1 ⟨vL, rfl, o1, b1⟩
  obtain ⟨la, lc, rfl⟩ := (own_sl o1).form
  have HL := Lib.hid (own_sl o1)
  clear o1
  have R0' := Lib.hid (R0.out.up b1 R0.out.lt)
  have R13' := Lib.hid (R13.out.up b1 R13.out.lt)
  have HB' := Lib.hid (HB.out.trans (b1.mono HB.out.size))
  clear R0 R13 HB
  have R0 := R0'
  clear R0'
  have R13 := R13'
  clear R13'
  have HB := HB'
  clear HB'
  clear b1
  have X0 : Hid (Below w1.heap.size w1 (w1.alloc (.cells #[.slice la L.length lc] 27))) := Lib.hid ((Below.refl _ _).alloc (Nat.le_refl _) _)
  have R8 := Lib.hid (Rw.new w1 27 #[.slice la L.length lc] rfl)
  have R0' := Lib.hid (R0.out.alloc (.cells #[.slice la L.length lc] 27))
  have R13' := Lib.hid (R13.out.alloc (.cells #[.slice la L.length lc] 27))
  have HL' := Lib.hid (HL.out.up X0.out)
  have HB' := Lib.hid (HB.out.trans (X0.out.mono HB.out.size))
  clear X0 HB R0 R13 HL
  have R0 := R0'
  clear R0'
  have R13 := R13'
  clear R13'
  have HL := HL'
  clear HL'
  have HB := HB'
  clear HB'
  have s0 := R0.out.cell (j := 0) (v := .slice pa S.parts.length pc) rfl
  have s1 := R0.out.cell (j := 1) (v := .slice ka S.chans.length kc) rfl
  have s2 := R0.out.cell (j := 2) (v := .slice sa S.slots.length sc) rfl
  have l0 := R8.out.cell (j := 0) (v := .slice la L.length lc) rfl
  go_wp2_with fail
  refine (HCe.out _ _ _ _ _ (HE.out.up HB.out) (HS.out.up HB.out) HL.out).mono ?_
  rintro e w2 ⟨vS, vP, rfl, o3, p3, b3, _⟩
  obtain ⟨ta, tc, rfl⟩ := o3.form
  obtain ⟨ua, uc, rfl⟩ := p3.form
  have HL' := Lib.hid (HL.out.up b3)
  clear s0 s1 s2 l0 o3 p3 HL
  have HL := HL'
  clear HL'
  have R0' := Lib.hid (R0.out.up b3 R0.out.lt)
  have R8' := Lib.hid (R8.out.up b3 R8.out.lt)
  have R13' := Lib.hid (R13.out.up b3 R13.out.lt)
  have HB' := Lib.hid (HB.out.trans (b3.mono HB.out.size))
  clear R0 R8 R13 HB
  have R0 := R0'
  clear R0'
  have R8 := R8'
  clear R8'
  have R13 := R13'
  clear R13'
  have HB := HB'
  clear HB'
  clear b3
  have X0 : Hid (Below w2.heap.size w2 (w2.alloc (.cells #[.slice ta ss.length tc] 46))) := Lib.hid ((Below.refl _ _).alloc (Nat.le_refl _) _)
  have R15 := Lib.hid (Rw.new w2 46 #[.slice ta ss.length tc] rfl)
  have R0' := Lib.hid (R0.out.alloc (.cells #[.slice ta ss.length tc] 46))
  have R8' := Lib.hid (R8.out.alloc (.cells #[.slice ta ss.length tc] 46))
  have R13' := Lib.hid (R13.out.alloc (.cells #[.slice ta ss.length tc] 46))
  have HL' := Lib.hid (HL.out.up X0.out)
  have HB' := Lib.hid (HB.out.trans (X0.out.mono HB.out.size))
  clear X0 HB R0 R8 R13 HL
  have R0 := R0'
  clear R0'
  have R8 := R8'
  clear R8'
  have R13 := R13'
  clear R13'
  have HL := HL'
  clear HL'
  have HB := HB'
  clear HB'
  by_cases h1 : e1 = 0
  · subst h1
    by_cases h2 : e2 = 0
    · subst h2
      cases is with
      | false =>
        clear HEND
        go_wp2_with fail
        refine (deskBegun_any _ (HE.out.up HB.out)).mono ?_
        rintro e f1 ⟨rfl, bb⟩
        have HB' := Lib.hid (HB.out.trans (bb.mono HB.out.size))
        clear bb HB
        have HB := HB'
        clear HB'
        go_wp2
        go_ret
        exact ⟨rfl, HB.out⟩
      | true =>
        by_cases hn1 : n < 0
        · clear HEND
          go_wp2_with fail
          refine (deskBegun_any _ (HE.out.up HB.out)).mono ?_
          rintro e f1 ⟨rfl, bb⟩
          have HB' := Lib.hid (HB.out.trans (bb.mono HB.out.size))
          clear bb HB
          have HB := HB'
          clear HB'
          go_wp2
          go_ret
          exact ⟨rfl, HB.out⟩
        · by_cases hn2 : 300 < n
          · clear HEND
            go_wp2_with fail
            refine (deskBegun_any _ (HE.out.up HB.out)).mono ?_
            rintro e f1 ⟨rfl, bb⟩
            have HB' := Lib.hid (HB.out.trans (bb.mono HB.out.size))
            clear bb HB
            have HB := HB'
            clear HB'
            go_wp2
            go_ret
            exact ⟨rfl, HB.out⟩
          · obtain ⟨⟨-, -, hsl, h1p, h4p, h16⟩, hend⟩ := HEND.out rfl rfl (by omega) (by omega)
            have HEN := Lib.hid hend
            have hsb : ((ss.length : Int) != (S.parts.length : Int)) = false := by rw [hsl]; simp
            have h1i : ((S.parts.length : Int) == 0) = false := by rw [beq_eq_false_iff_ne]; omega
            clear HEND hend hsl
            have s0 := R0.out.cell (j := 0) (v := .slice pa S.parts.length pc) rfl
            have s1 := R0.out.cell (j := 1) (v := .slice ka S.chans.length kc) rfl
            have s2 := R0.out.cell (j := 2) (v := .slice sa S.slots.length sc) rfl
            have t0 := R15.out.cell (j := 0) (v := .slice ta ss.length tc) rfl
            go_upto_region 5 with fail
            clear t0 R15 hsb
            refine region_still (S := fun w' => w'.cell? ⟨w.heap.size, 0, none⟩ = some (.slice pa S.parts.length pc)) 11 (by kernel_rfl) s0 (fun hHeld => ?_)
            refine Still.t 0 [] hHeld ?_
            refine Still.t 1 [] hHeld ?_
            refine Still.t 2 [] hHeld ?_
            refine Still.t 3 [] hHeld ?_
            refine Still.t 5 [] hHeld ?_
            refine Still.t 6 [] hHeld ?_
            refine Still.t 7 [] hHeld ?_
            refine Still.t 8 [] hHeld ?_
            refine Still.o 4 rfl rfl (fun K hK => ?_)
            refine wp_call 12 _ _ rfl ent_chooseD #[.int .i64 a, .int .i64 (S.parts.length : Int)] (by first | rfl | simp [Act.eval, Act.put]) ((choose_any a HA.out S.parts.length h1p (by omega) _).mono ?_)
            rintro e V' ⟨u, rfl, hu, rfl⟩
            refine ⟨_, rfl, hK _ _ (fun _ => hHeld) (fun hh => ?_)⟩
            clear hK K hh
            try simp only [Act.put, List.getElem_toArray, List.getElem_cons_zero, List.getElem_cons_succ, List.setIfInBounds_toArray, List.set_cons_zero, List.set_cons_succ]
            refine Still.o 9 rfl rfl (fun K hK => ?_)
            refine wp_call 12 _ _ rfl ent_chooseD #[.int .i64 b, .int .i64 (S.parts.length : Int)] (by first | rfl | simp [Act.eval, Act.put]) ((choose_any b HBB.out S.parts.length h1p (by omega) _).mono ?_)
            rintro e V' ⟨v, rfl, hv, rfl⟩
            refine ⟨_, rfl, hK _ _ (fun _ => hHeld) (fun hh => ?_)⟩
            clear hK K hh
            try simp only [Act.put, List.getElem_toArray, List.getElem_cons_zero, List.getElem_cons_succ, List.setIfInBounds_toArray, List.set_cons_zero, List.set_cons_succ]
            refine Still.t 10 [] hHeld ?_
            refine Still.o 11 rfl rfl (fun K hK => ?_)
            go_simp
            refine hK _ _ (fun h => absurd rfl h) (fun _ => ?_)
            clear hK K
            refine Still.over (by kernel_rfl) ?_ _
            clear hHeld s0 s1 s2
            have hui : (u : Int) < S.parts.length := by omega
            have hvi : (v : Int) < S.parts.length := by omega
            obtain ⟨w3, hw3⟩ : ∃ w3, w3 = World.drew (World.alloc w2 (.cells #[.slice ta ss.length tc] 46)) := ⟨_, rfl⟩
            have bw : Below (World.alloc w2 (.cells #[.slice ta ss.length tc] 46)).heap.size (World.alloc w2 (.cells #[.slice ta ss.length tc] 46)) w3 := by rw [hw3]; exact (Below.refl _ _).drew
            have HL' := Lib.hid (HL.out.up bw)
            clear HL
            have HL := HL'
            clear HL'
            have R0' := Lib.hid (R0.out.up bw R0.out.lt)
            have R8' := Lib.hid (R8.out.up bw R8.out.lt)
            have R13' := Lib.hid (R13.out.up bw R13.out.lt)
            have HB' := Lib.hid (HB.out.trans (bw.mono HB.out.size))
            clear R0 R8 R13 HB
            have R0 := R0'
            clear R0'
            have R8 := R8'
            clear R8'
            have R13 := R13'
            clear R13'
            have HB := HB'
            clear HB'
            clear bw
            obtain ⟨e0, he0⟩ : ∃ e0, otherE S (v : Int) p = e0 := ⟨_, rfl⟩
            obtain ⟨Z, hZ⟩ : ∃ Z, otherR S (v : Int) p = Z := ⟨_, rfl⟩
            have HOT := Lib.hid fun w he hS hp => other_any S (v : Int) p (.slice pa S.parts.length pc) (.slice ka S.chans.length kc) (.slice sa S.slots.length sc) (.slice qa p.code.length qc) (.slice ia p.inn.length ic) w he hS hp e0 he0 Z hZ
            have HFIN : Hid (u ≠ v → (∀ j (hj : j < L.length), L[j] ≠ ⟨(v : Int), (u : Int)⟩) → e0 = 0 → ∃ b1 b2 t1 t2 x, SndE S Z rules n u b1 b2 t1 t2 x) := Lib.hid (fun h1 h2 h3 => hZ ▸ HEN.out u v hu hv h1 h2 (he0.trans h3))
            clear he0 hZ HEN HRu HCe
            go_upto_region 6 with fail
            rw [← hw3]
            clear hw3
            have s0 := R0.out.cell (j := 0) (v := .slice pa S.parts.length pc) rfl
            have s1 := R0.out.cell (j := 1) (v := .slice ka S.chans.length kc) rfl
            have s2 := R0.out.cell (j := 2) (v := .slice sa S.slots.length sc) rfl
            have p0 := R13.out.cell (j := 0) (v := .slice qa p.code.length qc) rfl
            have p1 := R13.out.cell (j := 1) (v := .slice ia p.inn.length ic) rfl
            go_wp2_with fail
            refine (HOT.out _ (HE.out.up HB.out) (HS.out.up HB.out) (HP.out.up HB.out)).mono ?_
            rintro e w5 ⟨yp, yk, ys, rfl, hN', b5⟩
            have hN := hN'.sys
            obtain ⟨ya, yc, rfl⟩ := hN.p.form
            obtain ⟨xa, xc, rfl⟩ := hN.c.form
            obtain ⟨za, zc, rfl⟩ := hN.s.form
            have HN := Lib.hid hN
            have HL' := Lib.hid (HL.out.up b5)
            clear hN hN' s0 s1 s2 p0 p1 R13 HOT HP HL
            have HL := HL'
            clear HL'
            have R0' := Lib.hid (R0.out.up b5 R0.out.lt)
            have R8' := Lib.hid (R8.out.up b5 R8.out.lt)
            have HB' := Lib.hid (HB.out.trans (b5.mono HB.out.size))
            clear R0 R8 HB
            have R0 := R0'
            clear R0'
            have R8 := R8'
            clear R8'
            have HB := HB'
            clear HB'
            clear b5
            have X0 : Hid (Below w5.heap.size w5 (w5.alloc (.cells #[.slice ya Z.parts.length yc, .slice xa Z.chans.length xc, .slice za Z.slots.length zc] 39))) := Lib.hid ((Below.refl _ _).alloc (Nat.le_refl _) _)
            have R21 := Lib.hid (Rw.new w5 39 #[.slice ya Z.parts.length yc, .slice xa Z.chans.length xc, .slice za Z.slots.length zc] rfl)
            have R0' := Lib.hid (R0.out.alloc (.cells #[.slice ya Z.parts.length yc, .slice xa Z.chans.length xc, .slice za Z.slots.length zc] 39))
            have R8' := Lib.hid (R8.out.alloc (.cells #[.slice ya Z.parts.length yc, .slice xa Z.chans.length xc, .slice za Z.slots.length zc] 39))
            have HL' := Lib.hid (HL.out.up X0.out)
            have HN' := Lib.hid (HN.out.up X0.out)
            have HB' := Lib.hid (HB.out.trans (X0.out.mono HB.out.size))
            clear X0 HB R0 R8 HL HN
            have R0 := R0'
            clear R0'
            have R8 := R8'
            clear R8'
            have HL := HL'
            clear HL'
            have HN := HN'
            clear HN'
            have HB := HB'
            clear HB'
            by_cases h3 : e0 = 0
            · subst h3
              by_cases huv : u = v
              · subst huv
                clear HFIN
                go_wp2_with fail
                refine (deskBegun_any _ (HE.out.up HB.out)).mono ?_
                rintro e f1 ⟨rfl, bb⟩
                have HB' := Lib.hid (HB.out.trans (bb.mono HB.out.size))
                clear bb HB
                have HB := HB'
                clear HB'
                go_wp2
                go_ret
                exact ⟨rfl, HB.out⟩
              · have huv' : ((u : Int) == (v : Int)) = false := by rw [beq_eq_false_iff_ne]; omega
                have HUV := Lib.hid huv
                clear huv
                go_wp2
                go_loopw [23] (fun i wr => ∃ k : Nat, i = .int .i64 k ∧ k ≤ L.length ∧ Hid (∀ j (hj : j < L.length), j < k → L[j] ≠ ⟨(v : Int), (u : Int)⟩) ∧ Hid (Below (w5.alloc (.cells #[.slice ya Z.parts.length yc, .slice xa Z.chans.length xc, .slice za Z.slots.length zc] 39)).heap.size (w5.alloc (.cells #[.slice ya Z.parts.length yc, .slice xa Z.chans.length xc, .slice za Z.slots.length zc] 39)) wr)) (fun i _ => L.length - (intOf i).toNat)
                case atStart => exact ⟨0, rfl, Nat.zero_le _, Lib.hid (fun j hj h => absurd h (Nat.not_lt_zero _)), Lib.hid (Below.refl _ _)⟩
                case round =>
                  obtain ⟨k, rfl, hk, HNE, HT⟩ := hrel
                  have HB' := Lib.hid (HB.out.trans (HT.out.mono HB.out.size))
                  have R0' := Lib.hid (R0.out.up HT.out R0.out.lt)
                  have R8' := Lib.hid (R8.out.up HT.out R8.out.lt)
                  have R21' := Lib.hid (R21.out.up HT.out R21.out.lt)
                  have HL' := Lib.hid (HL.out.up HT.out)
                  have HN' := Lib.hid (HN.out.up HT.out)
                  have l0 := R8'.out.cell (j := 0) (v := .slice la L.length lc) rfl
                  by_cases hlt : k < L.length
                  · have hli : (k : Int) < L.length := by omega
                    obtain ⟨lb, lo, lcap, e1, hlc, hlb, hlx⟩ := HL'.out.open (by omega)
                    cases e1
                    obtain ⟨c0, c1⟩ := edge_cells hlx k hlt
                    clear hlx
                    have HNX : Hid (L[k] ≠ ⟨(v : Int), (u : Int)⟩ → ∀ j (hj : j < L.length), j < k + 1 → L[j] ≠ ⟨(v : Int), (u : Int)⟩) := Lib.hid fun h j hj hjk => by
                      rcases Nat.lt_or_eq_of_le (Nat.le_of_lt_succ hjk) with h' | rfl
                      · exact HNE.out j hj h'
                      · exact h
                    generalize L[k] = ed at c0 c1 HNX
                    obtain ⟨ef, et⟩ := ed
                    simp only at c0 c1
                    clear HNE R0 R8 R21 HB HL HN
                    by_cases h1e : ef = (v : Int)
                    · by_cases h2e : et = (u : Int)
                      · subst h1e
                        subst h2e
                        have HB := HB'
                        clear HNX HFIN HB' R0' R8' R21' HL' HN'
                        go_wp2_with fail
                        refine (deskBegun_any _ (HE.out.up HB.out)).mono ?_
                        rintro e f1 ⟨rfl, bb⟩
                        have HB' := Lib.hid (HB.out.trans (bb.mono HB.out.size))
                        clear bb HB
                        have HB := HB'
                        clear HB'
                        go_wp2
                        go_ret
                        exact ⟨rfl, HB.out⟩
                      · have h2' : (et == (u : Int)) = false := by simpa using h2e
                        subst h1e
                        have HN2 := Lib.hid (HNX.out (by simpa using h2e))
                        clear HNX
                        go_wp2
                        go_roundw
                        case rel => exact ⟨k + 1, by go_num, by omega, HN2, HT⟩
                        case measure => simp [intOf]; omega
                    · have h1' : (ef == (v : Int)) = false := by simpa using h1e
                      have HN2 := Lib.hid (HNX.out (by simp [h1e]))
                      clear HNX
                      go_wp2
                      go_roundw
                      case rel => exact ⟨k + 1, by go_num, by omega, HN2, HT⟩
                      case measure => simp [intOf]; omega
                  · obtain rfl : k = L.length := by omega
                    have hnl : ¬ ((L.length : Int) < L.length) := by omega
                    obtain ⟨i1, i2, t1, t2, x, hEnd⟩ := HFIN.out HUV.out (fun j hj => HNE.out j hj hj) (by first | rfl | trivial)
                    clear HNE R0 R8 R21 HB HL HN HFIN HL' HT
                    have R0 := R0'
                    have R21 := R21'
                    have HB := HB'
                    have HN := HN'
                    clear R0' R8' R21' HB' HN'
                    have HW1 := Lib.hid (imageWrite_any S)
                    have HW2 := Lib.hid (imageWrite_any Z)
                    rw [hEnd.k1, hEnd.i1] at HW1
                    rw [hEnd.k2, hEnd.i2] at HW2
                    have HJ1 := Lib.hid (fun w he => judge_any i1 rules n w he HRL.out)
                    have HJ2 := Lib.hid (fun w he => judge_any i2 rules n w he HRL.out)
                    rw [hEnd.j1.1, hEnd.j1.2] at HJ1
                    rw [hEnd.j2.1, hEnd.j2.2] at HJ2
                    have HL1 := Lib.hid (fun w => lineOf_next t1 u (by omega) hEnd.m1 w)
                    have HL2 := Lib.hid (fun w => lineOf_next t2 u (by omega) hEnd.m2 w)
                    have HL3 := Lib.hid (fun w => lineOf_any t1 0 (by omega) (by have := hEnd.m1; omega) w)
                    have HL4 := Lib.hid (fun w => lineOf_any t2 0 (by omega) (by have := hEnd.m2; omega) w)
                    rw [hEnd.x1] at HL1
                    rw [hEnd.x2] at HL2
                    rw [hEnd.z1] at HL3
                    rw [hEnd.z2] at HL4
                    dsimp only [soundT] at HL3 HL4
                    have hi1 : i1.length ≤ 2000 := hEnd.l1
                    have hi2 : i2.length ≤ 2000 := hEnd.l2
                    clear hEnd HUV
                    have s0 := R0.out.cell (j := 0) (v := .slice pa S.parts.length pc) rfl
                    have s1 := R0.out.cell (j := 1) (v := .slice ka S.chans.length kc) rfl
                    have s2 := R0.out.cell (j := 2) (v := .slice sa S.slots.length sc) rfl
                    go_wp2_with fail
                    refine (HW1.out _ _ _ _ (HE.out.up HB.out) (HS.out.up HB.out)).mono ?_
                    rintro e w7 ⟨rfl, b7⟩
                    have HN' := Lib.hid (HN.out.up b7)
                    clear s0 s1 s2 HN
                    have HN := HN'
                    clear HN'
                    have R21' := Lib.hid (R21.out.up b7 R21.out.lt)
                    have HB' := Lib.hid (HB.out.trans (b7.mono HB.out.size))
                    clear R21 HB
                    have R21 := R21'
                    clear R21'
                    have HB := HB'
                    clear HB'
                    clear b7 R0 HW1
                    have s0 := R21.out.cell (j := 0) (v := .slice ya Z.parts.length yc) rfl
                    have s1 := R21.out.cell (j := 1) (v := .slice xa Z.chans.length xc) rfl
                    have s2 := R21.out.cell (j := 2) (v := .slice za Z.slots.length zc) rfl
                    go_wp2_with fail
                    refine (HW2.out _ _ _ _ (HE.out.up HB.out) HN.out).mono ?_
                    rintro e w8 ⟨rfl, b8⟩
                    clear s0 s1 s2 HN R21 HW2
                    have HB' := Lib.hid (HB.out.trans (b8.mono HB.out.size))
                    clear  HB
                    have HB := HB'
                    clear HB'
                    clear b8
                    go_wp2_with fail
                    refine (HJ1.out _ (HE.out.up HB.out)).mono ?_
                    rintro e w9 ⟨rfl, bj⟩
                    clear HJ1
                    have HB' := Lib.hid (HB.out.trans (bj.mono HB.out.size))
                    clear  HB
                    have HB := HB'
                    clear HB'
                    clear bj
                    go_wp2_with fail
                    refine (HJ2.out _ (HE.out.up HB.out)).mono ?_
                    rintro e w10 ⟨rfl, bj⟩
                    clear HJ2
                    have HB' := Lib.hid (HB.out.trans (bj.mono HB.out.size))
                    clear  HB
                    have HB := HB'
                    clear HB'
                    clear bj
                    go_wp2_with fail
                    refine (deskBegun_any _ (HE.out.up HB.out)).mono ?_
                    rintro e f1 ⟨rfl, bb⟩
                    have HB' := Lib.hid (HB.out.trans (bb.mono HB.out.size))
                    clear bb HB
                    have HB := HB'
                    clear HB'
                    go_wp2_with fail
                    refine (HL1.out _).mono ?_
                    rintro e f2 ⟨rfl, hf2⟩
                    subst hf2
                    go_wp2_with fail
                    refine (HL2.out _).mono ?_
                    rintro e f3 ⟨rfl, hf3⟩
                    subst hf3
                    go_wp2_with fail
                    refine (HL3.out _).mono ?_
                    rintro e f4 ⟨rfl, hf4⟩
                    subst hf4
                    go_wp2_with fail
                    refine (HL4.out _).mono ?_
                    rintro e f5 ⟨rfl, hf5⟩
                    subst hf5
                    go_wp2
                    go_ret
                    exact ⟨rfl, HB.out⟩
            · have h3' : (e0 != 0) = true := by simpa using h3
              clear h3 HFIN
              go_wp2_with fail
              refine (deskBegun_any _ (HE.out.up HB.out)).mono ?_
              rintro e f1 ⟨rfl, bb⟩
              have HB' := Lib.hid (HB.out.trans (bb.mono HB.out.size))
              clear bb HB
              have HB := HB'
              clear HB'
              go_wp2
              go_ret
              exact ⟨rfl, HB.out⟩
    · have h2' : (e2 != 0) = true := by simpa using h2
      clear h2 HEND
      go_wp2_with fail
      refine (deskBegun_any _ (HE.out.up HB.out)).mono ?_
      rintro e f1 ⟨rfl, bb⟩
      have HB' := Lib.hid (HB.out.trans (bb.mono HB.out.size))
      clear bb HB
      have HB := HB'
      clear HB'
      go_wp2
      go_ret
      exact ⟨rfl, HB.out⟩
  · have h1' : (e1 != 0) = true := by simpa using h1
    clear h1 HEND
    go_wp2_with fail
    refine (deskBegun_any _ (HE.out.up HB.out)).mono ?_
    rintro e f1 ⟨rfl, bb⟩
    have HB' := Lib.hid (HB.out.trans (bb.mono HB.out.size))
    clear bb HB
    have HB := HB'
    clear HB'
    go_wp2
    go_ret
    exact ⟨rfl, HB.out⟩
end Go.Proofs.YtbkdoohhdkahiaaGreatDoor
namespace Go.Proofs.YtbkdoohhdkahiaaGreatDoor
set_option linter.unusedSimpArgs false
set_option linter.unusedVariables false
open Go.ChangeShapes Go.WideShapes Go.ChangeAt Go.RowKit
theorem trodAll_below {H : Type} {enc : TypeId × Value → H} {P : Program} (hl : laidOutB P = true) {W W' : World} (hb : Below W.heap.size W W') :
    ∀ (ts : List TypeId) (vs : List Value) (ds : List (DataW H)) (ps : List MemPlace), (∀ t ∈ ts, P.readableRec t = true ∧ t < P.types.size) → DataW.TrodAll enc P W 0 (fun _ => true) true ts vs ds ps → (∀ x ∈ ps, x.block < W.heap.size) →
      DataW.TrodAll enc P W' 0 (fun b => decide (b < W.heap.size)) true ts vs ds ps
  | [], [], [], _, _, h, _ => h
  | t :: ts, v :: vs, d :: ds, ps, hr, h, hlt => by
    obtain ⟨p, q, h1, h2, rfl⟩ := h
    exact ⟨p, q, Below.trod hl (hr t (by simp)).1 (hr t (by simp)).2 h1 hb (fun x hx => hlt x (by simp [hx])), trodAll_below hl hb ts vs ds q (fun t ht => hr t (by simp [ht])) h2 (fun x hx => hlt x (by simp [hx])), rfl⟩
  | [], _ :: _, _, _, _, h, _ => by cases h
  | [], [], _ :: _, _, _, h, _ => by cases h
  | _ :: _, [], _, _, _, h, _ => by cases h
  | _ :: _, _ :: _, [], _, _, h, _ => by cases h
theorem law_post {H : Type} {enc : TypeId × Value → H} {P : Program} {fn : Func} {s : ChangeSpec} {W W' : World} {args : Array Value} {ds gs : List (DataW H)} {before : List MemPlace} {tb : TypeId}
    (hl : laidOutB P = true) (hp : ∀ t ∈ fn.params.toList, P.readableRec t = true ∧ t < P.types.size) (hvars : s.vars = []) (hres : fn.resultTypes = #[tb]) (hbool : P.underlying tb = some .bool)
    (hW : DataW.Whole enc P fn.params.toList s.vars false W args.toList ds gs before)
    (hfn : gs = [] → (s.fn H (ds ++ gs)).results = [.lit (.bool true)] ∧ (s.fn H (ds ++ gs)).args = ds ∧ (s.fn H (ds ++ gs)).vars = [])
    (hb : Below W.heap.size W W') : s.post enc P fn false true false false W args (.bool true) W' := by
  have hW' := hW
  have hlt := hW.lt
  obtain ⟨p, q, hA, hV, rfl, hfz, hnd⟩ := hW
  rw [hvars] at hV
  obtain ⟨rfl, rfl⟩ := trodVars_none hV
  obtain ⟨e1, e2, e3⟩ := hfn rfl
  refine ⟨ds, [], p ++ [], [], p, [], hW', ?_, ?_, ?_, hb.frame _, fun h => by cases h⟩
  · rw [e1, hres]
    exact trodAll_cons_mk (shut_bool hbool _) trodAll_mk0
  · rw [e2]
    exact trodAll_below hl hb _ _ _ _ hp hA (fun x hx => hlt x (by simp [hx]))
  · rw [e3, hvars]
    rfl
end Go.Proofs.YtbkdoohhdkahiaaGreatDoor
namespace Go.Proofs.YtbkdoohhdkahiaaGreatDoor
set_option linter.unusedSimpArgs false
set_option linter.unusedVariables false
open Go.ChangeShapes Go.WideShapes Go.ChangeAt Go.RowKit Go.Joins Go.Deep
theorem own : ownKnob Tryz.prog.godebug = none := by kernel_rfl
theorem laidOut : laidOutB Tryz.prog = true := by kernel_rfl
theorem in64_of {n : Int} (h : (Lit.int .i64 n).wf = true) : in64 n := by
  have := bounds_i64 h
  exact ⟨this.1, this.2⟩
set_option maxRecDepth 100000 in
theorem sl_of {H : Type} {enc : TypeId × Value → H} {P : Program} {W : World} {base : Nat} {sp : Nat → Bool} {held : Bool} {t e : TypeId} {size : Nat} {α : Type} [Inhabited α] (f : α → List Value) (Q : α → Prop)
    (ht : P.underlying t = some (.slice e)) (hc : P.cellsOf e = size) (hs0 : 0 < size) (hfl : ∀ x, (f x).length = size)
    (elem : ∀ (n : Nat) (cs : List Value) (y : DataW H × List MemPlace), cs.length = size → DataW.trod enc P W base sp held n e cs = some y → ∃ q, cs = f q ∧ Q q)
    {v : Value} {fuel : Nat} {x : DataW H × List MemPlace} (hf : DataW.trod enc P W base sp held fuel t [v] = some x) : ∃ l : List α, Sl W size v l.length (rowC f l) ∧ ∀ j (hj : j < l.length), Q l[j] := by
  rcases open_slice ht hf with ⟨h1, _⟩ | ⟨a, len, cap, m, n, D, Pl, e1, hb, hl, hm, hmm, _, hx⟩
  · obtain rfl : v = .slice none 0 0 := by simpa using h1
    exact ⟨[], Sl.nil W size, fun j hj => absurd hj (by simp)⟩
  · obtain rfl : v = .slice (some a) len cap := by simpa using e1
    have hlm : len ≤ m := by rw [hmm]; split <;> omega
    have each : ∀ i, i < len → ∃ q : α, (∀ k, k < size → W.cell? (a.add (i * size + k)) = (f q)[k]?) ∧ Q q := by
      intro i hi
      obtain ⟨cs', h1, h2⟩ := hx i (by omega)
      rw [hc] at h1
      obtain ⟨_, hlen, hcell⟩ := World.cells?_some h1
      obtain ⟨q, rfl, hq⟩ := elem _ _ _ hlen h2
      refine ⟨q, fun k hk => ?_, hq⟩
      have := hcell k hk
      rwa [add_add] at this
    obtain ⟨q, hq⟩ := choose_lt each
    refine ⟨(List.range len).map q, ?_, fun j hj => by simpa using (hq j (by simpa using hj)).2⟩
    have hlen : ((List.range len).map q).length = len := by simp
    refine ⟨rowC_len hfl _, some a, cap, by rw [hlen], by omega, fun hpos => ?_⟩
    have h00 := (hq 0 (by omega)).1 0 hs0
    obtain ⟨v0, hv0⟩ : ∃ v0, (f (q 0))[0]? = some v0 := ⟨(f (q 0))[0]'(by rw [hfl]; exact hs0), List.getElem?_eq_getElem _⟩
    rw [hv0, Nat.zero_mul] at h00
    have hs : a.spot = none := by
      have := World.cell?_spot h00
      simpa [Addr.add] using this
    obtain ⟨b, off, s⟩ := a
    simp only at hs
    subst hs
    refine ⟨b, off, rfl, ?_, fun j u hj => ?_⟩
    · simp only [Addr.add, if_true] at h00
      unfold World.cell? at h00
      by_cases hlt : b < W.heap.size
      · exact hlt
      · simp [Array.getElem?_eq_none (Nat.le_of_not_lt hlt)] at h00
    · have hjl : j < len * size := by
        have := (List.getElem?_eq_some_iff.1 hj).1
        rw [rowC_len hfl, hlen] at this
        exact this
      have hdm : j / size * size + j % size = j := by rw [Nat.mul_comm]; exact Nat.div_add_mod j size
      have hdl : j / size < len := Nat.div_lt_of_lt_mul (by rw [Nat.mul_comm]; exact hjl)
      have hml : j % size < size := Nat.mod_lt _ hs0
      rw [← hdm, rowC_at hfl _ _ _ (by rw [hlen]; exact hdl) hml] at hj
      simp only [List.getElem_map, List.getElem_range] at hj
      have key : ∀ x : Nat, (⟨b, off + x, none⟩ : Addr) = (⟨b, off, none⟩ : Addr).add x := fun x => by
        unfold Addr.add
        by_cases h0 : x = 0 <;> simp [h0]
      rw [key, ← hdm, (hq (j / size) hdl).1 _ hml]
      exact hj
theorem codeC_row : ∀ l : List Ins, codeC l = rowC Ins.cells l
  | [] => rfl
  | i :: r => by rw [codeC, codeC_row r]; rfl
theorem ints_row (l : List Int) : ints l = rowC (fun z : Int => [Value.int .i64 z]) l := by
  unfold ints rowC
  induction l with
  | nil => rfl
  | cons z r ih => rw [List.map_cons, List.flatMap_cons, ih]; rfl
instance : Inhabited Ins := ⟨⟨0, 0, 0, 0⟩⟩
theorem cellsInt : Tryz.prog.cellsOf 3 = 1 := by kernel_rfl
theorem cellsCode : Tryz.prog.cellsOf 40 = 1 := by kernel_rfl
theorem cellsInts : Tryz.prog.cellsOf 41 = 1 := by kernel_rfl
set_option maxRecDepth 100000 in
theorem code_of {H : Type} {enc : TypeId × Value → H} {W : World} {base : Nat} {sp : Nat → Bool} {held : Bool} {v : Value} {fuel : Nat} {x : DataW H × List MemPlace} (hf : DataW.trod enc Tryz.prog W base sp held fuel 40 [v] = some x) :
    ∃ l : List Ins, Sl W 4 v l.length (codeC l) ∧ ∀ j (hj : j < l.length), l[j].ok := by
  obtain ⟨l, h1, h2⟩ := sl_of (size := 4) Ins.cells Ins.ok Tryz.underlying40 (by kernel_rfl) (by decide) (fun _ => rfl) (fun n cs y hl h => by
    obtain ⟨y0, y1, y2, y3, k, hxy, _, g0, g1, g2, g3⟩ := trod_struct4 Tryz.underlying124 h
    match cs, hl with
    | [v0, v1, v2, v3], _ =>
      obtain ⟨op, e0, -, w0⟩ := DataW.trod_int Tryz.underlying3 g0
      obtain ⟨a', e1, -, w1⟩ := DataW.trod_int Tryz.underlying3 g1
      obtain ⟨b, e2, -, w2⟩ := DataW.trod_int Tryz.underlying3 g2
      obtain ⟨n', e3, -, w3⟩ := DataW.trod_int Tryz.underlying3 g3
      simp [cellsInt] at e0 e1 e2 e3
      subst e0 e1 e2 e3
      exact ⟨⟨op, a', b, n'⟩, rfl, in64_of w0, in64_of w1, in64_of w2, in64_of w3⟩) hf
  exact ⟨l, by rw [codeC_row]; exact h1, h2⟩
set_option maxRecDepth 100000 in
theorem ints_of {H : Type} {enc : TypeId × Value → H} {W : World} {base : Nat} {sp : Nat → Bool} {held : Bool} {v : Value} {fuel : Nat} {x : DataW H × List MemPlace} (hf : DataW.trod enc Tryz.prog W base sp held fuel 41 [v] = some x) :
    ∃ l : List Int, Sl W 1 v l.length (ints l) ∧ ∀ j (hj : j < l.length), in64 l[j] := by
  obtain ⟨l, h1, h2⟩ := sl_of (fun z : Int => [Value.int .i64 z]) in64 Tryz.underlying41 (by kernel_rfl) (by decide) (fun _ => rfl) (fun n cs y hl h => by
    obtain ⟨q, e0, -, w0⟩ := DataW.trod_int Tryz.underlying3 h
    exact ⟨q, e0, in64_of w0⟩) hf
  exact ⟨l, by rw [ints_row]; exact h1, h2⟩
set_option maxRecDepth 100000 in
theorem open_int {H : Type} {enc : TypeId × Value → H} {W : World} {r : Reach} {b0 base : Nat} {sp : Nat → Bool} {held : Bool} {v : Value} {d : DataW H} {p : List MemPlace} (hv : Value.okWide Tryz.prog W r b0 3 v) (h : DataW.Trod enc Tryz.prog W base sp held 3 v d p) :
    ∃ n : Int, v = .int .i64 n ∧ in64 n := by
  obtain ⟨fuel, hf⟩ := h
  obtain ⟨n, e, -, w0⟩ := DataW.trod_int Tryz.underlying3 hf
  obtain ⟨m, rfl⟩ := okWide_int Tryz.underlying3 hv
  obtain rfl : m = n := by simpa [Value.cells] using e
  exact ⟨m, rfl, in64_of w0⟩
end Go.Proofs.YtbkdoohhdkahiaaGreatDoor
namespace Go.Proofs.YtbkdoohhdkahiaaGreatDoor
set_option linter.unusedSimpArgs false
set_option linter.unusedVariables false
open Go.ChangeShapes Go.WideShapes Go.ChangeAt Go.RowKit Go.Joins Go.Deep
instance : Inhabited Chn := ⟨⟨0, 0, 0⟩⟩
instance : Inhabited Slt := ⟨⟨0, 0⟩⟩
instance : Inhabited Prt := ⟨⟨[], []⟩⟩
set_option maxRecDepth 100000 in
theorem chans_of {H : Type} {enc : TypeId × Value → H} {W : World} {base : Nat} {sp : Nat → Bool} {held : Bool} {v : Value} {fuel : Nat} {x : DataW H × List MemPlace} (hf : DataW.trod enc Tryz.prog W base sp held fuel 36 [v] = some x) :
    ∃ l : List Chn, Sl W 3 v l.length (rowC chC l) ∧ ∀ j (hj : j < l.length), in64 l[j].kd ∧ in64 l[j].fr ∧ in64 l[j].tt :=
  sl_of chC (fun c => in64 c.kd ∧ in64 c.fr ∧ in64 c.tt) Tryz.underlying36 (by kernel_rfl) (by decide) (fun _ => rfl) (fun n cs y hl h => by
    obtain ⟨y0, y1, y2, k, hxy, _, g0, g1, g2⟩ := trod_struct3 Tryz.underlying126 h
    match cs, hl with
    | [v0, v1, v2], _ =>
      obtain ⟨a, e0, -, w0⟩ := DataW.trod_int Tryz.underlying3 g0
      obtain ⟨b, e1, -, w1⟩ := DataW.trod_int Tryz.underlying3 g1
      obtain ⟨c, e2, -, w2⟩ := DataW.trod_int Tryz.underlying3 g2
      simp [cellsInt] at e0 e1 e2
      subst e0 e1 e2
      exact ⟨⟨a, b, c⟩, rfl, in64_of w0, in64_of w1, in64_of w2⟩) hf
set_option maxRecDepth 100000 in
theorem slots_of {H : Type} {enc : TypeId × Value → H} {W : World} {base : Nat} {sp : Nat → Bool} {held : Bool} {v : Value} {fuel : Nat} {x : DataW H × List MemPlace} (hf : DataW.trod enc Tryz.prog W base sp held fuel 37 [v] = some x) :
    ∃ l : List Slt, Sl W 2 v l.length (rowC slC l) ∧ ∀ j (hj : j < l.length), in64 l[j].pt ∧ in64 l[j].tk :=
  sl_of slC (fun c => in64 c.pt ∧ in64 c.tk) Tryz.underlying37 (by kernel_rfl) (by decide) (fun _ => rfl) (fun n cs y hl h => by
    obtain ⟨y0, y1, k, hxy, _, g0, g1⟩ := trod_struct2 Tryz.underlying128 h
    match cs, hl with
    | [v0, v1], _ =>
      obtain ⟨a, e0, -, w0⟩ := DataW.trod_int Tryz.underlying3 g0
      obtain ⟨b, e1, -, w1⟩ := DataW.trod_int Tryz.underlying3 g1
      simp [cellsInt] at e0 e1
      subst e0 e1
      exact ⟨⟨a, b⟩, rfl, in64_of w0, in64_of w1⟩) hf
def Prt.ok (p : Prt) : Prop := (∀ j (hj : j < p.code.length), p.code[j].ok) ∧ ∀ j (hj : j < p.inn.length), in64 p.inn[j]
set_option maxRecDepth 100000 in
theorem parts_of {H : Type} {enc : TypeId × Value → H} {W : World} {base : Nat} {sp : Nat → Bool} {held : Bool} {v : Value} {fuel : Nat} {x : DataW H × List MemPlace} (hf : DataW.trod enc Tryz.prog W base sp held fuel 35 [v] = some x) :
    ∃ ps : List Prt, PartsR W v ps ∧ ∀ p ∈ ps, p.ok := by
  obtain ⟨l, h1, h2⟩ := sl_of (size := 2) prC (fun q => ∃ p : Prt, PrtR W q.1 q.2 p ∧ p.ok) Tryz.underlying35 (by kernel_rfl) (by decide) (fun _ => rfl) (fun n cs y hl h => by
    obtain ⟨y0, y1, k, hxy, _, g0, g1⟩ := trod_struct2 Tryz.underlying43 h
    match cs, hl with
    | [v0, v1], _ =>
      simp only [List.drop, cellsCode, List.take] at g0
      simp only [List.drop, cellsInts, List.take] at g1
      obtain ⟨c, hc, hc2⟩ := code_of g0
      obtain ⟨i, hi, hi2⟩ := ints_of g1
      exact ⟨(v0, v1), rfl, ⟨c, i⟩, ⟨hc, hi⟩, hc2, hi2⟩) hf
  obtain ⟨g, hg⟩ := choose_lt (n := l.length) (p := fun j p => ∀ hj : j < l.length, PrtR W l[j].1 l[j].2 p ∧ p.ok) (fun j hj => by
    obtain ⟨p, hp⟩ := h2 j hj
    exact ⟨p, fun _ => hp⟩)
  refine ⟨(List.range l.length).map g, ⟨l, by simp, by simpa using h1, fun k hk hk' => ?_⟩, fun p hp => ?_⟩
  · have := (hg k hk' hk').1
    simpa using this
  · obtain ⟨j, hj, rfl⟩ := List.mem_map.1 hp
    have hj : j < l.length := by simpa using hj
    exact (hg j hj hj).2
end Go.Proofs.YtbkdoohhdkahiaaGreatDoor
namespace Go.Proofs.YtbkdoohhdkahiaaGreatDoor
set_option linter.unusedSimpArgs false
set_option linter.unusedVariables false
open Go.ChangeShapes Go.WideShapes Go.ChangeAt Go.RowKit Go.Joins
open Go.ChangeMaps (open_string)
set_option maxRecDepth 100000 in
theorem open_strW {H : Type} {enc : TypeId × Value → H} {W : World} {r : Reach} {b0 base : Nat} {sp : Nat → Bool} {held : Bool} {v : Value} {d : DataW H} {p : List MemPlace} (hv : Value.okWide Tryz.prog W r b0 9 v) (h : DataW.Trod enc Tryz.prog W base sp held 9 v d p)
    (hw : ∀ n ∈ d.weights Tryz.prog 9, n ≤ reachBytes) : ∃ l : List UInt8, v = .string ⟨l.toArray⟩ ∧ l.length ≤ 281474976710656 := by
  obtain ⟨s, rfl, rfl, -, -⟩ := open_string Tryz.underlying9 hv h
  have hr : reachBytes ≤ 140737488355328 := by decide
  have := hw s.data.toList.length (by simp [DataW.weights])
  exact ⟨s.data.toList, by simp, by omega⟩
end Go.Proofs.YtbkdoohhdkahiaaGreatDoor
namespace Go.Proofs.YtbkdoohhdkahiaaGreatDoor
set_option linter.unusedSimpArgs false
set_option linter.unusedVariables false
open Go.ChangeShapes Go.WideShapes Go.ChangeAt Go.RowKit Go.Joins
open Go.ChangeMaps (open_string)
set_option maxRecDepth 100000 in
theorem open_system2 {H : Type} {enc : TypeId × Value → H} {W : World} {r : Reach} {b0 base : Nat} {sp : Nat → Bool} {held : Bool} {v : Value} {d : DataW H} {p : List MemPlace} (hv : Value.okWide Tryz.prog W r b0 39 v) (h : DataW.Trod enc Tryz.prog W base sp held 39 v d p) :
    ∃ (vp vc vs : Value) (S : SysD), v = .agg #[vp, vc, vs] ∧ Sys W vp vc vs S ∧ S.ok ∧ S.ok2 := by
  obtain ⟨c0, c1, c2, y0, y1, y2, m, rfl, rfl, rfl, h0, h1, h2⟩ := open_agg3 Tryz.underlying39 (by kernel_rfl) (by kernel_rfl) hv h
  obtain ⟨ps, hp, hpo⟩ := parts_of h0
  obtain ⟨cs, hc, hco⟩ := chans_of h1
  obtain ⟨ss, hs, hso⟩ := slots_of h2
  refine ⟨c0, c1, c2, ⟨ps, cs, ss⟩, rfl, ⟨hp, hc, hs⟩, fun p hp' => (hpo p hp').1, fun p hp' x hx => ?_⟩
  obtain ⟨j, hj, rfl⟩ := List.mem_iff_getElem.1 hx
  exact (hpo p hp').2 j hj
end Go.Proofs.YtbkdoohhdkahiaaGreatDoor
namespace Go.Proofs.YtbkdoohhdkahiaaGreatDoor
set_option linter.unusedSimpArgs false
set_option linter.unusedVariables false
open Go.ChangeShapes Go.WideShapes Go.ChangeAt Go.RowKit Go.Joins Go.Deep
set_option maxRecDepth 100000 in
theorem open_part2 {H : Type} {enc : TypeId × Value → H} {W : World} {r : Reach} {b0 base : Nat} {sp : Nat → Bool} {held : Bool} {v : Value} {d : DataW H} {p : List MemPlace} (hv : Value.okWide Tryz.prog W r b0 43 v) (h : DataW.Trod enc Tryz.prog W base sp held 43 v d p) :
    ∃ (cv iv : Value) (l : List Ins) (inn : List Int), v = .agg #[cv, iv] ∧ Sl W 4 cv l.length (codeC l) ∧ Sl W 1 iv inn.length (ints inn) ∧ (∀ j (hj : j < l.length), l[j].ok) ∧ ∀ x ∈ inn, in64 x := by
  obtain ⟨c0, c1, y0, y1, m, rfl, rfl, rfl, h0, h1⟩ := open_agg2 Tryz.underlying43 (by kernel_rfl) (by kernel_rfl) hv h
  obtain ⟨l, hl, hlo⟩ := code_of h0
  obtain ⟨inn, hi, hio⟩ := ints_of h1
  refine ⟨c0, c1, l, inn, rfl, hl, hi, hlo, fun x hx => ?_⟩
  obtain ⟨j, hj, rfl⟩ := List.mem_iff_getElem.1 hx
  exact hio j hj
end Go.Proofs.YtbkdoohhdkahiaaGreatDoor
