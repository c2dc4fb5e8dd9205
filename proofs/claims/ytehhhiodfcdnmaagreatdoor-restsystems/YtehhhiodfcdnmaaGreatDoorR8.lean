/- Channels: the reference's GetOf of a queue of one. -/
import Derived.Test.YtehhhiodfcdnmaaGreatDoorR7
import Derived.Test.YtehhhiodfcdnmaaGreatDoorR5
import Derived.Deep.RegionWith
namespace Go.Proofs.YtehhhiodfcdnmaaGreatDoor
set_option linter.unusedSimpArgs false
set_option linter.unusedVariables false
set_option maxRecDepth 100000
set_option maxHeartbeats 4000000
open Go.RowKit Go.Sort
theorem getRef_last (x : Int) (v : Value) (w : World) (hS : Sl w 1 v 1 (ints [x])) :
  Calls Tryz.prog 71 #[.int .i64 2, .agg #[v]] w fun e w' => ∃ v', e = .returned (.tuple #[.agg #[v'], .int .i64 x, .bool true]) ∧ SlN w w' v' 0 (ints []) ∧ Below w.heap.size w w' := by
 obtain ⟨b, off, cap, rfl, hcap, hbw, hcs⟩ := hS.open om
 have x0 : w.cell? ⟨b, off, none⟩ = some (.int .i64 x) := hcs 0 _ rfl
 have hb1 : b ≠ w.heap.size + 1 := by omega
 have hb2 : b ≠ w.heap.size := by omega
 clear hS hcs
 have main : ∀ cap, 1 ≤ cap → ((cap = 1) ∨ ¬ cap = 1) → Calls Tryz.prog 71 #[.int .i64 2, .agg #[.slice (some ⟨b, off, none⟩) 1 cap]] w fun e w' => ∃ v', e = .returned (.tuple #[.agg #[v'], .int .i64 x, .bool true]) ∧ SlN w w' v' 0 (ints []) ∧ Below w.heap.size w w' := by
  intro cap hcap hor
  have xA : ((w.alloc (.cells #[.slice (some ⟨b, off, none⟩) 1 cap] 81)).alloc (.cells #[.slice none 0 0] 81)).cell? ⟨b, off, none⟩ = some (.int .i64 x) := cl_alloc _ so (cl_alloc _ hbw x0)
  have xB : (((w.alloc (.cells #[.slice (some ⟨b, off, none⟩) 1 cap] 81)).alloc (.cells #[.slice none 0 0] 81)).alloc (.cells #[] 3)).cell? ⟨b, off, none⟩ = some (.int .i64 x) := cl_alloc _ so xA
  have kB : (((w.alloc (.cells #[.slice (some ⟨b, off, none⟩) 1 cap] 81)).alloc (.cells #[.slice none 0 0] 81)).alloc (.cells #[] 3)).cell? ⟨w.heap.size, 0, none⟩ = some (.slice (some ⟨b, off, none⟩) 1 cap) := cl_alloc _ so (cl_alloc _ (by simp) (by simp))
  have zB : (((w.alloc (.cells #[.slice (some ⟨b, off, none⟩) 1 cap] 81)).alloc (.cells #[.slice none 0 0] 81)).alloc (.cells #[] 3)).cell? ⟨w.heap.size + 1, 0, none⟩ = some (.slice none 0 0) := cl_alloc _ (by simp) (by simp)
  have yB : (((w.alloc (.cells #[.slice (some ⟨b, off, none⟩) 1 cap] 81)).alloc (.cells #[.slice none 0 0] 81)).alloc (.cells #[] 3)).frozen? ⟨w.heap.size + 1, 0, none⟩ = false := fr_alloc _ (by simp) (by simp)
  have xC : (((w.alloc (.cells #[.slice (some ⟨b, off, none⟩) 1 cap] 81)).alloc (.cells #[.slice (some ⟨w.heap.size + 2, 0, none⟩) 0 0] 81)).alloc (.cells #[] 3)).cell? ⟨b, off, none⟩ = some (.int .i64 x) := cl_alloc _ so (cl_alloc _ so (cl_alloc _ hbw x0))
  have kC : (((w.alloc (.cells #[.slice (some ⟨b, off, none⟩) 1 cap] 81)).alloc (.cells #[.slice (some ⟨w.heap.size + 2, 0, none⟩) 0 0] 81)).alloc (.cells #[] 3)).cell? ⟨w.heap.size, 0, none⟩ = some (.slice (some ⟨b, off, none⟩) 1 cap) := cl_alloc _ so (cl_alloc _ (by simp) (by simp))
  have xD : (((w.alloc (.cells #[.slice (some ⟨b, off, none⟩) 1 cap] 81)).alloc (.cells #[.slice (some ⟨w.heap.size + 1 + 1, 0, none⟩) 0 0] 81)).alloc (.cells #[] 3)).cell? ⟨b, off, none⟩ = some (.int .i64 x) := cl_alloc _ so (cl_alloc _ so (cl_alloc _ hbw x0))
  have kD : (((w.alloc (.cells #[.slice (some ⟨b, off, none⟩) 1 cap] 81)).alloc (.cells #[.slice (some ⟨w.heap.size + 1 + 1, 0, none⟩) 0 0] 81)).alloc (.cells #[] 3)).cell? ⟨w.heap.size, 0, none⟩ = some (.slice (some ⟨b, off, none⟩) 1 cap) := cl_alloc _ so (cl_alloc _ (by simp) (by simp))
  rcases hor with hc1 | hc1
  ·subst hc1
   go_enter Tryz.func71, Tryz.ntmps71
   go_wp2
   go_region
   all_goals go_wp2
   all_goals
    refine bodyPost_ret (v := .tuple #[.agg #[.slice (some ⟨w.heap.size + 2, 0, none⟩) 0 0], .int .i64 x, .bool true]) ?_ rfl ⟨_, rfl, ⟨⟨rfl, _, _, rfl, Nat.le_refl _, fun h => by omega⟩, fun k hk => by simp [Value.ownBlock] at hk; omega⟩, ?_⟩
    ·simp [results, Tryz.results71, go_sem, *]
    ·exact up0
  ·go_enter Tryz.func71, Tryz.ntmps71
   go_wp2
   go_region
   all_goals go_wp2
   all_goals
    refine bodyPost_ret (v := .tuple #[.agg #[.slice (some ⟨w.heap.size + 2, 0, none⟩) 0 0], .int .i64 x, .bool true]) ?_ rfl ⟨_, rfl, ⟨⟨rfl, _, _, rfl, Nat.le_refl _, fun h => by omega⟩, fun k hk => by simp [Value.ownBlock] at hk; omega⟩, ?_⟩
    ·simp [results, Tryz.results71, go_sem, *]
    ·exact up0
 exact main cap hcap (Decidable.em _)
def putR (kind : Int) (xs : List Int) (val : Int) : List Int × Bool := if chkL kind xs.length = 0 then putS kind xs val else ([], false)
def getR (kind : Int) (xs : List Int) : List Int × Int × Bool := if chkL kind xs.length = 0 then (match xs with | [] => ([], 0, false) | x :: r => (if kind = 1 then x :: r else r, x, true)) else ([], 0, false)
theorem put_c (kind : Int) (xs : List Int) (v : Value) (val : Int) (w : World) (hS : Sl w 1 v xs.length (ints xs)) (c : Int) (hc : chkL kind xs.length = c) (zs : List Int) (t : Bool) (hz : putR kind xs val = (zs, t)) :
  Calls Tryz.prog 142 #[.int .i64 kind, .agg #[v], .int .i64 val] w fun e w' => ∃ v', e = .returned (.tuple #[.agg #[v'], .bool t, .int .i64 c]) ∧ SlN w w' v' zs.length (ints zs) ∧ Below w.heap.size w w' := by
 unfold putR at hz
 by_cases h0 : c = 0
 ·rw [hc, if_pos h0] at hz
  subst h0
  rcases chkL_zero hc with ⟨rfl, hn⟩ | ⟨rfl, hn⟩
  ·unfold putS at hz
   rw [if_pos rfl] at hz
   cases hz
   obtain ⟨ao, cap, rfl⟩ := hS.form
   exact put_one xs ao cap val w hn
  ·unfold putS at hz
   rw [if_neg (by decide)] at hz
   by_cases h3 : xs.length = 3
   ·rw [if_pos h3] at hz
    cases hz
    exact put_full xs v val w h3 hS
   ·rw [if_neg h3] at hz
    cases hz
    exact put_room xs v val w om hS
 ·rw [hc, if_neg h0] at hz
  cases hz
  obtain ⟨ao, cap, rfl⟩ := hS.form
  refine (put_no kind ao xs.length cap val w c hc h0).mono ?_
  rintro e w' ⟨rfl, hb⟩
  exact ⟨_, rfl, sln_nil _ _, hb⟩
theorem get_c (kind : Int) (xs : List Int) (v : Value) (w : World) (hS : Sl w 1 v xs.length (ints xs)) (c : Int) (hc : chkL kind xs.length = c) (zs : List Int) (n : Int) (t : Bool) (hz : getR kind xs = (zs, n, t)) :
  Calls Tryz.prog 143 #[.int .i64 kind, .agg #[v]] w fun e w' => ∃ v', e = .returned (.tuple #[.agg #[v'], .int .i64 n, .bool t, .int .i64 c]) ∧ SlN w w' v' zs.length (ints zs) ∧ Below w.heap.size w w' := by
 unfold getR at hz
 by_cases h0 : c = 0
 ·rw [hc, if_pos h0] at hz
  subst h0
  have hk := chkL_zero hc
  cases xs with
  | nil =>
   cases hz
   obtain ⟨ao, cap, rfl⟩ := hS.form
   refine (get_none kind om ao cap w).mono ?_
   rintro e w' ⟨rfl, hb⟩
   exact ⟨_, rfl, sln_nil _ _, hb⟩
  | cons x r =>
   simp only [List.length_cons] at hk
   rcases hk with ⟨rfl, hn⟩ | ⟨rfl, hn⟩
   ·obtain rfl : r = [] := List.length_eq_zero_iff.1 om
    cases hz
    exact get_sample _ v w hS
   ·have hz : (r, x, true) = (zs, n, t) := hz
    cases hz
    exact get_queue _ _ om v w hS
 ·rw [hc, if_neg h0] at hz
  cases hz
  obtain ⟨ao, cap, rfl⟩ := hS.form
  refine (get_no kind ao xs.length cap w c hc h0).mono ?_
  rintro e w' ⟨rfl, hb⟩
  exact ⟨_, rfl, sln_nil _ _, hb⟩
theorem putRef_c (kind : Int) (xs : List Int) (v : Value) (val : Int) (w : World) (hS : Sl w 1 v xs.length (ints xs)) (hc : chkL kind xs.length = 0) (zs : List Int) (t : Bool) (hz : putR kind xs val = (zs, t)) :
  Calls Tryz.prog 70 #[.int .i64 kind, .agg #[v], .int .i64 val] w fun e w' => ∃ v', e = .returned (.tuple #[.agg #[v'], .bool t]) ∧ SlN w w' v' zs.length (ints zs) ∧ Below w.heap.size w w' := by
 unfold putR at hz
 rw [if_pos hc] at hz
 rcases chkL_zero hc with ⟨rfl, hn⟩ | ⟨rfl, hn⟩
 ·unfold putS at hz
  rw [if_pos rfl] at hz
  cases hz
  obtain ⟨ao, cap, rfl⟩ := hS.form
  exact putRef_one ao xs.length cap val w
 ·unfold putS at hz
  rw [if_neg (by decide)] at hz
  by_cases h3 : xs.length = 3
  ·rw [if_pos h3] at hz
   cases hz
   exact putRef_full xs v val w h3 hS
  ·rw [if_neg h3] at hz
   cases hz
   by_cases h1 : 0 < xs.length
   ·exact putRef_more xs v val w h1 om hS
   ·obtain rfl : xs = [] := List.length_eq_zero_iff.1 om
    obtain ⟨ao, cap, rfl⟩ := hS.form
    exact putRef_first ao cap val w
theorem getRef_c (kind : Int) (xs : List Int) (v : Value) (w : World) (hS : Sl w 1 v xs.length (ints xs)) (hc : chkL kind xs.length = 0) (zs : List Int) (n : Int) (t : Bool) (hz : getR kind xs = (zs, n, t)) :
  Calls Tryz.prog 71 #[.int .i64 kind, .agg #[v]] w fun e w' => ∃ v', e = .returned (.tuple #[.agg #[v'], .int .i64 n, .bool t]) ∧ SlN w w' v' zs.length (ints zs) ∧ Below w.heap.size w w' := by
 unfold getR at hz
 rw [if_pos hc] at hz
 have hk := chkL_zero hc
 cases xs with
 | nil =>
  cases hz
  obtain ⟨ao, cap, rfl⟩ := hS.form
  refine (getRef_none kind ao cap w).mono ?_
  rintro e w' ⟨rfl, hb⟩
  exact ⟨_, rfl, sln_nil _ _, hb⟩
 | cons x r =>
  simp only [List.length_cons] at hk
  rcases hk with ⟨rfl, hn⟩ | ⟨rfl, hn⟩
  ·obtain rfl : r = [] := List.length_eq_zero_iff.1 om
   cases hz
   exact getRef_sample _ v w hS
  ·have hz : (r, x, true) = (zs, n, t) := hz
   cases hz
   by_cases h1 : 0 < zs.length
   ·exact getRef_queue _ _ om h1 v w hS
   ·obtain rfl := List.length_eq_zero_iff.1 (show zs.length = 0 by omega)
    exact getRef_last _ v w hS
def Cel.reg (c : Cel) (k : Int) : Int := if k = 0 then c.r0 else if k = 1 then c.r1 else if k = 2 then c.r2 else c.r3
def Cel.setReg (c : Cel) (k v : Int) : Cel := if k = 0 then { c with r0 := v } else if k = 1 then { c with r1 := v } else if k = 2 then { c with r2 := v } else { c with r3 := v }
def Cel.memo (c : Cel) (k : Int) : Int := if k = 0 then c.m0 else if k = 1 then c.m1 else if k = 2 then c.m2 else if k = 3 then c.m3 else if k = 4 then c.m4 else if k = 5 then c.m5 else if k = 6 then c.m6 else c.m7
def Cel.setMem (c : Cel) (k v : Int) : Cel := if k = 0 then { c with m0 := v } else if k = 1 then { c with m1 := v } else if k = 2 then { c with m2 := v } else if k = 3 then { c with m3 := v } else if k = 4 then { c with m4 := v } else if k = 5 then { c with m5 := v } else if k = 6 then { c with m6 := v } else { c with m7 := v }
theorem lt4 {k : Int} (h0 : 0 ≤ k) (h1 : k < 4) : k = 0 ∨ k = 1 ∨ k = 2 ∨ k = 3 := by omega
theorem lt8 {k : Int} (h0 : 0 ≤ k) (h1 : k < 8) : k = 0 ∨ k = 1 ∨ k = 2 ∨ k = 3 ∨ k = 4 ∨ k = 5 ∨ k = 6 ∨ k = 7 := by omega
theorem cs_reg (c : Cel) (o : Value) {k : Int} (h0 : 0 ≤ k) (h1 : k < 4) : (c.cs o)[1 + k.toNat]? = some (.int .i64 (c.reg k)) := by
 rcases lt4 h0 h1 with rfl | rfl | rfl | rfl <;> rfl
theorem cs_setReg (c : Cel) (o : Value) {k : Int} (h0 : 0 ≤ k) (h1 : k < 4) (v : Int) : (c.cs o).setIfInBounds (1 + k.toNat) (.int .i64 v) = (c.setReg k v).cs o := by
 rcases lt4 h0 h1 with rfl | rfl | rfl | rfl <;> rfl
theorem cs_mem (c : Cel) (o : Value) {k : Int} (h0 : 0 ≤ k) (h1 : k < 8) : (c.cs o)[5 + k.toNat]? = some (.int .i64 (c.memo k)) := by
 rcases lt8 h0 h1 with rfl | rfl | rfl | rfl | rfl | rfl | rfl | rfl <;> rfl
theorem cs_setMem (c : Cel) (o : Value) {k : Int} (h0 : 0 ≤ k) (h1 : k < 8) (v : Int) : (c.cs o).setIfInBounds (5 + k.toNat) (.int .i64 v) = (c.setMem k v).cs o := by
 rcases lt8 h0 h1 with rfl | rfl | rfl | rfl | rfl | rfl | rfl | rfl <;> rfl
def truthI (b : Bool) : Int := if b then 1 else 0
theorem bit_t (b : Bool) (w : World) : Calls Tryz.prog 145 #[.bool b] w fun e w' => e = .returned (.int .i64 (truthI b)) ∧ w' = w := bit_any b w
theorem truth_t (b : Bool) (w : World) : Calls Tryz.prog 114 #[.bool b] w fun e w' => e = .returned (.int .i64 (truthI b)) ∧ w' = w := truth_any b w
def Cel.replied (c : Cel) (k reg flag kind val : Int) (is : Bool) : Cel :=
 if k = 12 ∧ kind = 2 then c.setReg reg (truthI is) else if k = 13 then (if is then c.setReg reg val else c).setReg flag (truthI is) else c
theorem sizeWant : (Tryz.prog.info? 124).map (·.size) = some 5 := by kernel_rfl
def wantCs (k ch reg flag val : Int) : Array Value := #[.int .i64 k, .int .i64 ch, .int .i64 reg, .int .i64 flag, .int .i64 val]
theorem reply_in {k reg flag kind : Int} (he : replyE true k reg flag kind = 0) : (k = 12 ∨ k = 13) ∧ (kind = 1 ∨ kind = 2) ∧ (0 ≤ reg ∧ reg < 4) ∧ 0 ≤ flag ∧ flag < 4 := by
 unfold replyE at he
 simp only [Bool.not_true, Bool.false_eq_true, if_false] at he
 split at he
 ·omega
 ·rename_i h1
  split at he
  ·omega
  ·rename_i h2
   simp [regB, kindB] at h1 h2
   omega
theorem sizeInt : (Tryz.prog.info? 3).map (·.size) = some 1 := by kernel_rfl
structure Rp (w : World) (B : Nat) (W : World) (gd gr : Nat) (c : Cel) (o : Value) (xs : List Int) : Prop where
 rd : Rw W gd 35 (c.cs o)
 rr : Rw W gr 35 (celZ.cs (.slice none 0 0))
 d : Below w.heap.size w W
 own : W.ownsRow B 3 1 o xs.length (ints xs)
 gd0 : w.heap.size ≤ gd
 gr0 : w.heap.size ≤ gr
 bs : w.heap.size ≤ B
 ne : gd ≠ gr
 no : ∀ k, o.ownBlock = some k → k ≠ gd ∧ k ≠ gr
theorem Rp.reg {w : World} {B : Nat} {W : World} {gd gr : Nat} {c : Cel} {o : Value} {xs : List Int} (h : Rp w B W gd gr c o xs) {k : Int} (h0 : 0 ≤ k) (h1 : k < 4) (v : Int) :
  Rp w B (W.setCell ⟨gd, 1 + k.toNat, none⟩ (.int .i64 v)) gd gr (c.setReg k v) o xs :=
 ⟨by rw [← cs_setReg c o h0 h1 v]; exact h.rd.set _ _, h.rr.set_other _ (Ne.symm h.ne), h.d.setCell h.gd0 _, own_set h.own _ (fun e => (h.no _ e).1 rfl), h.gd0, h.gr0, h.bs, h.ne, h.no⟩
theorem Rp.drew {w : World} {B : Nat} {W : World} {gd gr : Nat} {c : Cel} {o : Value} {xs : List Int} (h : Rp w B W gd gr c o xs) : Rp w B W.drew gd gr c o xs :=
 ⟨h.rd, h.rr, h.d.drew, h.own, h.gd0, h.gr0, h.bs, h.ne, h.no⟩
theorem reply_ok (c : Cel) (xs : List Int) (v : Value) (k ch reg flag val kind vl : Int) (is : Bool) (hf : c.fine xs.length = true) (he : replyE true k reg flag kind = 0) (w : World) (hS : Sl w 1 v xs.length (ints xs)) :
  Calls Tryz.prog 111 #[c.v v, wantV k ch reg flag val, .int .i64 kind, .int .i64 vl, .bool is] w fun e w' => ∃ v', e = .returned (.tuple #[(c.replied k reg flag kind vl is).v v', .int .i64 0]) ∧ w'.ownsRow w.heap.size 3 1 v' xs.length (ints xs) ∧ Below w.heap.size w w' := by
 have hl := ((fine_iff c _).1 hf).2.2.2.2.2.2
 obtain ⟨ao, cap, rfl⟩ := hS.form
 have HC := hd fun w => he ▸ checkReply_any c ao xs.length cap k ch reg flag val kind true hf w
 obtain ⟨hk, hkd, ⟨hr0, hr1⟩, hf0, hf1⟩ := reply_in he
 have HS := hd hS
 clear hf he hS
 rw [Cel.v_cs] at HC
 rw [Cel.v_cs]
 unfold wantV at HC
 unfold wantV
 go_enter Tryz.func111, Tryz.ntmps111
 go_wp2_with (refine wpList_load_row rfl 35 (.tmp 5) rfl w.heap.size rfl 35 (c.cs (.slice ao xs.length cap)) (0, 0) _ rn0 Tryz.underlying35 rfl sizeCell ?_)
 refine (HC.out _).mono ?_
 rintro e w1 ⟨rfl, b1⟩
 have D : Below w.heap.size w w1 := by
  refine Below.trans ?_ (b1.mono o3)
  exact up0
 have z : w.heap.size + 3 ≤ w1.heap.size := by have := b1.size; simp at this; omega
 have R0 : Rw w1 w.heap.size 35 (c.cs (.slice ao xs.length cap)) := Rw.up rn0 b1 o3
 have R1 : Rw w1 (w.heap.size + 1) 124 (wantCs k ch reg flag val) := Rw.up rn0 b1 o3
 have R2 : Rw w1 (w.heap.size + 2) 35 (celZ.cs (.slice none 0 0)) := Rw.up rn0 b1 o3
 have HD := hd D
 have H0 := hd R0
 have H1 := hd R1
 have H2 := hd R2
 clear b1 HC D R0 R1 R2
 go_wp2_with (refine wpList_load_row rfl 35 (.tmp 5) rfl w.heap.size rfl 35 (c.cs (.slice ao xs.length cap)) (0, 0) _ H0.out Tryz.underlying35 rfl sizeCell ?_)
 refine (copied_any c xs om _ _ (HS.out.up HD.out)).mono ?_
 rintro e w2 ⟨v', rfl, o2, b2⟩
 have h2 : w1.heap.size ≤ w2.heap.size := b2.size
 have HDa := HD
 have H1a := H1
 have H2a := H2
 clear HD H1 H2
 have HD := hd (HDa.out.trans (b2.mono om))
 have H1 := hd (H1a.out.up b2 om)
 have H2 := hd (H2a.out.up b2 om)
 have o2l := own_lt o2
 have o2b := own_block o2
 obtain ⟨ao', cap', rfl⟩ := own_form o2
 have HO := hd o2
 clear b2 o2 H0 HS
 rw [Cel.v_cs]
 go_wp2_with (refine wpList_store_rowW rfl 35 (.tmp 13) (.tmp 23) rfl w2.heap.size (c.cs (.slice ao' xs.length cap')) rfl rfl 35 (celZ.cs (.slice none 0 0)) rn0 sizeCell rfl (c.cs_one _ rfl) ?_)
 intro W HW
 have hW := HW.out
 have hne : ∀ k, (Value.slice ao' xs.length cap').ownBlock = some k → k < w2.heap.size := o2l
 have RD : Rw W w2.heap.size 35 (c.cs (.slice ao' xs.length cap')) := by
  rw [hW]
  exact Rw.row (cs := celZ.cs (.slice none 0 0)) rn0 _
 have R1 : Rw W (w.heap.size + 1) 124 (wantCs k ch reg flag val) := by
  rw [hW]
  exact (H1.out.alloc _).row_other _ om
 have R2 : Rw W (w.heap.size + 2) 35 (celZ.cs (.slice none 0 0)) := by
  rw [hW]
  exact (H2.out.alloc _).row_other _ om
 have D : Below w.heap.size w W := by
  rw [hW]
  exact below_row (HD.out.alloc om _) om _
 have O : W.ownsRow w1.heap.size 3 1 (.slice ao' xs.length cap') xs.length (ints xs) := by
  rw [hW]
  refine own_row (own_up HO.out ((Below.refl w2.heap.size w2).alloc (Nat.le_refl _) _) o2l) _ (fun e => by have := o2l _ e; omega)
 have hz : W.heap.size = w2.heap.size + 1 := by rw [hW]; simp
 have w0 := R1.cell (j := 0) (v := .int .i64 k) rfl
 have w2' := R1.cell (j := 2) (v := .int .i64 reg) rfl
 have w3 := R1.cell (j := 3) (v := .int .i64 flag) rfl
 have hw1 : w.heap.size + 1 ≠ w2.heap.size := by omega
 have HR : Hid (Rp w w1.heap.size W w2.heap.size (w.heap.size + 2) c (.slice ao' xs.length cap') xs) := ⟨RD, R2, D, O, by omega, by omega, by omega, by omega, fun k e => by have := o2l k e; have := o2b k e; omega⟩
 clear H1 H2 HD HO RD R2 D O hW HW R1 hne o2l o2b hz H2a H1a HDa
 by_cases h12 : k = 12
 ·subst h12
  have ya : W.cell? ⟨w2.heap.size, 1 + reg.toNat, none⟩ = some (.int .i64 (Cel.reg c reg)) := HR.out.rd.cell (cs_reg _ _ hr0 hr1)
  have yb : W.frozen? ⟨w2.heap.size, 1 + reg.toNat, none⟩ = false := HR.out.rd.fr _
  by_cases hq : kind = 2
  ·subst hq
   go_wp2
   go_region_with (go_at_call 145; refine (bit_t _ _).mono ?_; rintro e w' ⟨rfl, rfl⟩)
   all_goals
    have HR1 := hd ((HR.out.reg hr0 hr1 (truthI is)).drew)
    clear HR ya yb
    generalize World.drew _ = W1 at HR1 ⊢
    go_wp2_with (first | (refine wpList_load_row rfl 35 (.tmp 13) rfl (w2.heap.size) rfl 35 (Cel.cs (c.setReg reg (truthI is)) (.slice ao' xs.length cap')) (0, 0) _ HR1.out.rd Tryz.underlying35 rfl sizeCell ?_) | (refine wpList_store_row rfl 35 (.tmp 10) (.tmp 54) rfl (w.heap.size + 2) (Cel.cs (c.setReg reg (truthI is)) (.slice ao' xs.length cap')) rfl rfl 35 _ HR1.out.rr sizeCell rfl (Cel.cs_one _ _ rfl) ?_))
    refine bodyPost_ret (results_row_tmp Tryz.results111 _ _ (w.heap.size + 2) _ _ rfl rfl (run_loadVar_row _ _ 35 _ (Cel.cs (c.setReg reg (truthI is)) (.slice ao' xs.length cap')) (0, 0) _ (HR1.out.rr.row _) Tryz.underlying35 rfl sizeCell)) rfl ⟨_, by simp [Cel.replied, Cel.v_cs, *], own_low (own_row HR1.out.own _ (fun e => (HR1.out.no _ e).2 rfl)) HR1.out.bs, below_row HR1.out.d HR1.out.gr0 _⟩
  ·have hq' : (kind == 2) = false := by simpa using hq
   clear ya yb
   go_wp2_with (first | (refine wpList_load_row rfl 35 (.tmp 13) rfl (w2.heap.size) rfl 35 (Cel.cs c (.slice ao' xs.length cap')) (0, 0) _ HR.out.rd Tryz.underlying35 rfl sizeCell ?_) | (refine wpList_store_row rfl 35 (.tmp 10) (.tmp 54) rfl (w.heap.size + 2) (Cel.cs c (.slice ao' xs.length cap')) rfl rfl 35 _ HR.out.rr sizeCell rfl (Cel.cs_one _ _ rfl) ?_))
   refine bodyPost_ret (results_row_tmp Tryz.results111 _ _ (w.heap.size + 2) _ _ rfl rfl (run_loadVar_row _ _ 35 _ (Cel.cs c (.slice ao' xs.length cap')) (0, 0) _ (HR.out.rr.row _) Tryz.underlying35 rfl sizeCell)) rfl ⟨_, by simp [Cel.replied, Cel.v_cs, *], own_low (own_row HR.out.own _ (fun e => (HR.out.no _ e).2 rfl)) HR.out.bs, below_row HR.out.d HR.out.gr0 _⟩
 ·have h13 : k = 13 := by omega
  subst h13
  cases is
  ·have ya : W.cell? ⟨w2.heap.size, 1 + flag.toNat, none⟩ = some (.int .i64 (Cel.reg c flag)) := HR.out.rd.cell (cs_reg _ _ hf0 hf1)
   have yb : W.frozen? ⟨w2.heap.size, 1 + flag.toNat, none⟩ = false := HR.out.rd.fr _
   go_wp2
   go_region_with (go_at_call 145; refine (bit_t _ _).mono ?_; rintro e w' ⟨rfl, rfl⟩)
   all_goals
    have HR1 := hd ((HR.out.reg hf0 hf1 (truthI false)).drew)
    clear HR ya yb
    generalize World.drew _ = W1 at HR1 ⊢
    go_wp2_with (first | (refine wpList_load_row rfl 35 (.tmp 13) rfl (w2.heap.size) rfl 35 (Cel.cs (c.setReg flag (truthI false)) (.slice ao' xs.length cap')) (0, 0) _ HR1.out.rd Tryz.underlying35 rfl sizeCell ?_) | (refine wpList_store_row rfl 35 (.tmp 10) (.tmp 54) rfl (w.heap.size + 2) (Cel.cs (c.setReg flag (truthI false)) (.slice ao' xs.length cap')) rfl rfl 35 _ HR1.out.rr sizeCell rfl (Cel.cs_one _ _ rfl) ?_))
    refine bodyPost_ret (results_row_tmp Tryz.results111 _ _ (w.heap.size + 2) _ _ rfl rfl (run_loadVar_row _ _ 35 _ (Cel.cs (c.setReg flag (truthI false)) (.slice ao' xs.length cap')) (0, 0) _ (HR1.out.rr.row _) Tryz.underlying35 rfl sizeCell)) rfl ⟨_, by simp [Cel.replied, Cel.v_cs, *], own_low (own_row HR1.out.own _ (fun e => (HR1.out.no _ e).2 rfl)) HR1.out.bs, below_row HR1.out.d HR1.out.gr0 _⟩
  ·have w3a : (W.setCell ⟨w2.heap.size, 1 + reg.toNat, none⟩ (.int .i64 vl)).cell? ⟨w.heap.size + 1, 3, none⟩ = some (.int .i64 flag) := cl_set (.inl hw1) w3
   go_wp2_with (refine wpList_store_cellW rfl 3 (.tmp 47) (.tmp 45) rfl (w2.heap.size) (1 + reg.toNat) (.int .i64 vl) rfl rfl rfl 35 (c.cs (.slice ao' xs.length cap')) HR.out.rd (by simp [Cel.cs]; omega) sizeInt ?_)
   intro W2 HW2
   rw [← HW2.out] at w3a
   have HR1 : Hid (Rp w w1.heap.size W2 (w2.heap.size) (w.heap.size + 2) (c.setReg reg vl) (.slice ao' xs.length cap') xs) := by
    rw [HW2.out]
    exact HR.out.reg hr0 hr1 vl
   have ya : W2.cell? ⟨w2.heap.size, 1 + flag.toNat, none⟩ = some (.int .i64 (Cel.reg (c.setReg reg vl) flag)) := HR1.out.rd.cell (cs_reg _ _ hf0 hf1)
   have yb : W2.frozen? ⟨w2.heap.size, 1 + flag.toNat, none⟩ = false := HR1.out.rd.fr _
   clear HR w3 w2' HW2
   go_wp2
   go_region_with (go_at_call 145; refine (bit_t _ _).mono ?_; rintro e w' ⟨rfl, rfl⟩)
   all_goals
    have HR2 := hd ((HR1.out.reg hf0 hf1 (truthI true)).drew)
    clear HR1 ya yb
    generalize World.drew _ = W1 at HR2 ⊢
    go_wp2_with (first | (refine wpList_load_row rfl 35 (.tmp 13) rfl (w2.heap.size) rfl 35 (Cel.cs ((c.setReg reg vl).setReg flag (truthI true)) (.slice ao' xs.length cap')) (0, 0) _ HR2.out.rd Tryz.underlying35 rfl sizeCell ?_) | (refine wpList_store_row rfl 35 (.tmp 10) (.tmp 54) rfl (w.heap.size + 2) (Cel.cs ((c.setReg reg vl).setReg flag (truthI true)) (.slice ao' xs.length cap')) rfl rfl 35 _ HR2.out.rr sizeCell rfl (Cel.cs_one _ _ rfl) ?_))
    refine bodyPost_ret (results_row_tmp Tryz.results111 _ _ (w.heap.size + 2) _ _ rfl rfl (run_loadVar_row _ _ 35 _ (Cel.cs ((c.setReg reg vl).setReg flag (truthI true)) (.slice ao' xs.length cap')) (0, 0) _ (HR2.out.rr.row _) Tryz.underlying35 rfl sizeCell)) rfl ⟨_, by simp [Cel.replied, Cel.v_cs, *], own_low (own_row HR2.out.own _ (fun e => (HR2.out.no _ e).2 rfl)) HR2.out.bs, below_row HR2.out.d HR2.out.gr0 _⟩
theorem replyOf_any (c : Cel) (xs : List Int) (v : Value) (k ch reg flag val kind vl : Int) (is : Bool) (hl : xs.length ≤ 16) (he : replyE true k reg flag kind = 0) (w : World) (hS : Sl w 1 v xs.length (ints xs)) :
  Calls Tryz.prog 72 #[c.v v, wantV k ch reg flag val, .int .i64 kind, .int .i64 vl, .bool is] w fun e w' => ∃ v', e = .returned ((c.replied k reg flag kind vl is).v v') ∧ w'.ownsRow w.heap.size 3 1 v' xs.length (ints xs) ∧ Below w.heap.size w w' := by
 obtain ⟨ao, cap, rfl⟩ := hS.form
 obtain ⟨hk, hkd, ⟨hr0, hr1⟩, hf0, hf1⟩ := reply_in he
 have HS := hd hS
 clear he hS
 rw [Cel.v_cs]
 unfold wantV
 go_enter Tryz.func72, Tryz.ntmps72
 go_wp2_with (refine wpList_load_row rfl 35 (.tmp 5) rfl w.heap.size rfl 35 (c.cs (.slice ao xs.length cap)) (0, 0) _ rn0 Tryz.underlying35 rfl sizeCell ?_)
 refine (ownCell_any c xs om _ _ (HS.out.up up0)).mono ?_
 rintro e w1 ⟨v', rfl, o2, b1⟩
 have D : Below w.heap.size w w1 := by
  refine Below.trans ?_ (b1.mono o3)
  exact up0
 have z : w.heap.size + 3 ≤ w1.heap.size := by have := b1.size; simp at this; omega
 have R0 : Rw w1 w.heap.size 35 (c.cs (.slice ao xs.length cap)) := Rw.up rn0 b1 o3
 have R1 : Rw w1 (w.heap.size + 1) 124 (wantCs k ch reg flag val) := Rw.up rn0 b1 o3
 have R2 : Rw w1 (w.heap.size + 2) 35 (celZ.cs (.slice none 0 0)) := Rw.up rn0 b1 o3
 have o2b := own_block o2
 obtain ⟨ao', cap', rfl⟩ := own_form o2
 have HD := hd D
 have H0 := hd R0
 have H1 := hd R1
 have H2 := hd R2
 have HO := hd o2
 clear b1 D R0 R1 R2 HS o2
 rw [Cel.v_cs]
 go_wp2_with (refine wpList_store_rowW rfl 35 (.tmp 5) (.tmp 12) rfl w.heap.size (c.cs (.slice ao' xs.length cap')) rfl rfl 35 (c.cs (.slice ao xs.length cap)) H0.out sizeCell rfl (c.cs_one _ rfl) ?_)
 intro W HW
 have hW := HW.out
 have o2c : ∀ k, (Value.slice ao' xs.length cap').ownBlock = some k → w.heap.size + 3 ≤ k := fun k e => by have := o2b k e; simp at this; omega
 have HR : Hid (Rp w (w.heap.size + 3) W w.heap.size (w.heap.size + 2) c (.slice ao' xs.length cap') xs) := by
  rw [hW]
  exact ⟨H0.out.row _, H2.out.row_other _ om, below_row HD.out (Nat.le_refl _) _, own_row (by simpa using HO.out) _ (fun e => by have := o2c _ e; omega), Nat.le_refl _, by omega, by omega, by omega, fun k e => by have := o2c k e; omega⟩
 have R1 : Rw W (w.heap.size + 1) 124 (wantCs k ch reg flag val) := by
  rw [hW]
  exact H1.out.row_other _ om
 have w0 := R1.cell (j := 0) (v := .int .i64 k) rfl
 have w2' := R1.cell (j := 2) (v := .int .i64 reg) rfl
 have w3 := R1.cell (j := 3) (v := .int .i64 flag) rfl
 have hw1 : w.heap.size + 1 ≠ w.heap.size := by omega
 clear H0 H1 H2 HD HO hW HW R1 o2b o2c
 by_cases h12 : k = 12
 ·subst h12
  have ya : W.cell? ⟨w.heap.size, 1 + reg.toNat, none⟩ = some (.int .i64 (Cel.reg c reg)) := HR.out.rd.cell (cs_reg _ _ hr0 hr1)
  have yb : W.frozen? ⟨w.heap.size, 1 + reg.toNat, none⟩ = false := HR.out.rd.fr _
  by_cases hq : kind = 2
  ·subst hq
   go_wp2
   go_region_with (go_at_call 114; refine (truth_t _ _).mono ?_; rintro e w' ⟨rfl, rfl⟩)
   all_goals
    have HR1 := hd ((HR.out.reg hr0 hr1 (truthI is)).drew)
    clear HR ya yb
    generalize World.drew _ = W1 at HR1 ⊢
    go_wp2_with (first | (refine wpList_load_row rfl 35 (.tmp 5) rfl (w.heap.size) rfl 35 (Cel.cs (c.setReg reg (truthI is)) (.slice ao' xs.length cap')) (0, 0) _ HR1.out.rd Tryz.underlying35 rfl sizeCell ?_) | (refine wpList_store_row rfl 35 (.tmp 10) (.tmp 43) rfl (w.heap.size + 2) (Cel.cs (c.setReg reg (truthI is)) (.slice ao' xs.length cap')) rfl rfl 35 _ HR1.out.rr sizeCell rfl (Cel.cs_one _ _ rfl) ?_))
    refine bodyPost_ret (results_cell_row Tryz.results72 _ _ (w.heap.size + 2) 35 (Cel.cs (c.setReg reg (truthI is)) (.slice ao' xs.length cap')) (0, 0) _ rfl (HR1.out.rr.row _) Tryz.underlying35 rfl sizeCell) rfl ⟨_, by simp [Cel.replied, Cel.v_cs, *], own_low (own_row HR1.out.own _ (fun e => (HR1.out.no _ e).2 rfl)) HR1.out.bs, below_row HR1.out.d HR1.out.gr0 _⟩
  ·have hq' : (kind == 2) = false := by simpa using hq
   clear ya yb
   go_wp2_with (first | (refine wpList_load_row rfl 35 (.tmp 5) rfl (w.heap.size) rfl 35 (Cel.cs c (.slice ao' xs.length cap')) (0, 0) _ HR.out.rd Tryz.underlying35 rfl sizeCell ?_) | (refine wpList_store_row rfl 35 (.tmp 10) (.tmp 43) rfl (w.heap.size + 2) (Cel.cs c (.slice ao' xs.length cap')) rfl rfl 35 _ HR.out.rr sizeCell rfl (Cel.cs_one _ _ rfl) ?_))
   refine bodyPost_ret (results_cell_row Tryz.results72 _ _ (w.heap.size + 2) 35 (Cel.cs c (.slice ao' xs.length cap')) (0, 0) _ rfl (HR.out.rr.row _) Tryz.underlying35 rfl sizeCell) rfl ⟨_, by simp [Cel.replied, Cel.v_cs, *], own_low (own_row HR.out.own _ (fun e => (HR.out.no _ e).2 rfl)) HR.out.bs, below_row HR.out.d HR.out.gr0 _⟩
 ·have h13 : k = 13 := by omega
  subst h13
  cases is
  ·have ya : W.cell? ⟨w.heap.size, 1 + flag.toNat, none⟩ = some (.int .i64 (Cel.reg c flag)) := HR.out.rd.cell (cs_reg _ _ hf0 hf1)
   have yb : W.frozen? ⟨w.heap.size, 1 + flag.toNat, none⟩ = false := HR.out.rd.fr _
   go_wp2
   go_region_with (go_at_call 114; refine (truth_t _ _).mono ?_; rintro e w' ⟨rfl, rfl⟩)
   all_goals
    have HR1 := hd ((HR.out.reg hf0 hf1 (truthI false)).drew)
    clear HR ya yb
    generalize World.drew _ = W1 at HR1 ⊢
    go_wp2_with (first | (refine wpList_load_row rfl 35 (.tmp 5) rfl (w.heap.size) rfl 35 (Cel.cs (c.setReg flag (truthI false)) (.slice ao' xs.length cap')) (0, 0) _ HR1.out.rd Tryz.underlying35 rfl sizeCell ?_) | (refine wpList_store_row rfl 35 (.tmp 10) (.tmp 43) rfl (w.heap.size + 2) (Cel.cs (c.setReg flag (truthI false)) (.slice ao' xs.length cap')) rfl rfl 35 _ HR1.out.rr sizeCell rfl (Cel.cs_one _ _ rfl) ?_))
    refine bodyPost_ret (results_cell_row Tryz.results72 _ _ (w.heap.size + 2) 35 (Cel.cs (c.setReg flag (truthI false)) (.slice ao' xs.length cap')) (0, 0) _ rfl (HR1.out.rr.row _) Tryz.underlying35 rfl sizeCell) rfl ⟨_, by simp [Cel.replied, Cel.v_cs, *], own_low (own_row HR1.out.own _ (fun e => (HR1.out.no _ e).2 rfl)) HR1.out.bs, below_row HR1.out.d HR1.out.gr0 _⟩
  ·have w3a : (W.setCell ⟨w.heap.size, 1 + reg.toNat, none⟩ (.int .i64 vl)).cell? ⟨w.heap.size + 1, 3, none⟩ = some (.int .i64 flag) := cl_set (.inl hw1) w3
   go_wp2_with (refine wpList_store_cellW rfl 3 (.tmp 36) (.tmp 34) rfl (w.heap.size) (1 + reg.toNat) (.int .i64 vl) rfl rfl rfl 35 (c.cs (.slice ao' xs.length cap')) HR.out.rd (by simp [Cel.cs]; omega) sizeInt ?_)
   intro W2 HW2
   rw [← HW2.out] at w3a
   have HR1 : Hid (Rp w (w.heap.size + 3) W2 (w.heap.size) (w.heap.size + 2) (c.setReg reg vl) (.slice ao' xs.length cap') xs) := by
    rw [HW2.out]
    exact HR.out.reg hr0 hr1 vl
   have ya : W2.cell? ⟨w.heap.size, 1 + flag.toNat, none⟩ = some (.int .i64 (Cel.reg (c.setReg reg vl) flag)) := HR1.out.rd.cell (cs_reg _ _ hf0 hf1)
   have yb : W2.frozen? ⟨w.heap.size, 1 + flag.toNat, none⟩ = false := HR1.out.rd.fr _
   clear HR w3 w2' HW2
   go_wp2
   go_region_with (go_at_call 114; refine (truth_t _ _).mono ?_; rintro e w' ⟨rfl, rfl⟩)
   all_goals
    have HR2 := hd ((HR1.out.reg hf0 hf1 (truthI true)).drew)
    clear HR1 ya yb
    generalize World.drew _ = W1 at HR2 ⊢
    go_wp2_with (first | (refine wpList_load_row rfl 35 (.tmp 5) rfl (w.heap.size) rfl 35 (Cel.cs ((c.setReg reg vl).setReg flag (truthI true)) (.slice ao' xs.length cap')) (0, 0) _ HR2.out.rd Tryz.underlying35 rfl sizeCell ?_) | (refine wpList_store_row rfl 35 (.tmp 10) (.tmp 43) rfl (w.heap.size + 2) (Cel.cs ((c.setReg reg vl).setReg flag (truthI true)) (.slice ao' xs.length cap')) rfl rfl 35 _ HR2.out.rr sizeCell rfl (Cel.cs_one _ _ rfl) ?_))
    refine bodyPost_ret (results_cell_row Tryz.results72 _ _ (w.heap.size + 2) 35 (Cel.cs ((c.setReg reg vl).setReg flag (truthI true)) (.slice ao' xs.length cap')) (0, 0) _ rfl (HR2.out.rr.row _) Tryz.underlying35 rfl sizeCell) rfl ⟨_, by simp [Cel.replied, Cel.v_cs, *], own_low (own_row HR2.out.own _ (fun e => (HR2.out.no _ e).2 rfl)) HR2.out.bs, below_row HR2.out.d HR2.out.gr0 _⟩
end Go.Proofs.YtehhhiodfcdnmaaGreatDoor
