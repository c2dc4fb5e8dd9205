/- cell.Reply and the reference's ReplyOf. -/
import Derived.Test.YtehhhiodfcdnmaaGreatDoorR6
import Derived.Deep.RegionWith
import Derived.BigRegion
import Derived.Deep.QuietTactic
import Derived.BigQuiet
namespace Go.Proofs.YtehhhiodfcdnmaaGreatDoor
set_option linter.unusedSimpArgs false
set_option linter.unusedVariables false
set_option maxRecDepth 100000
set_option maxHeartbeats 4000000
open Go.RowKit Go.Sort
def Cel.reg (c : Cel) (k : Int) : Int := if k = 0 then c.r0 else if k = 1 then c.r1 else if k = 2 then c.r2 else c.r3
def Cel.setReg (c : Cel) (k v : Int) : Cel := if k = 0 then { c with r0 := v } else if k = 1 then { c with r1 := v } else if k = 2 then { c with r2 := v } else { c with r3 := v }
def Cel.memo (c : Cel) (k : Int) : Int := if k = 0 then c.m0 else if k = 1 then c.m1 else if k = 2 then c.m2 else if k = 3 then c.m3 else if k = 4 then c.m4 else if k = 5 then c.m5 else if k = 6 then c.m6 else c.m7
def Cel.setMem (c : Cel) (k v : Int) : Cel := if k = 0 then { c with m0 := v } else if k = 1 then { c with m1 := v } else if k = 2 then { c with m2 := v } else if k = 3 then { c with m3 := v } else if k = 4 then { c with m4 := v } else if k = 5 then { c with m5 := v } else if k = 6 then { c with m6 := v } else { c with m7 := v }
theorem lt4 {k : Int} (h0 : 0 ≤ k) (h1 : k < 4) : k = 0 ∨ k = 1 ∨ k = 2 ∨ k = 3 := by omega
theorem lt8 {k : Int} (h0 : 0 ≤ k) (h1 : k < 8) : k = 0 ∨ k = 1 ∨ k = 2 ∨ k = 3 ∨ k = 4 ∨ k = 5 ∨ k = 6 ∨ k = 7 := by omega
theorem cs_reg (c : Cel) (o : Value) {k : Int} (h0 : 0 ≤ k) (h1 : k < 4) : (c.cs o)[1 + k.toNat]? = some (.int .i64 (c.reg k)) := by
 rcases lt4 h0 h1 with rfl | rfl | rfl | rfl <;> rfl
theorem cs_setReg (c : Cel) (o : Value) {k : Int} (h0 : 0 ≤ k) (h1 : k < 4) (v : Int) : (c.cs o).setIfInBounds (1 + k.toNat) (.int .i64 v) = (c.setReg k v).cs o := by
 rcases lt4 h0 h1 with rfl | rfl | rfl | rfl <;> rfl
theorem cs_mem (c : Cel) (o : Value) {k : Int} (h0 : 0 ≤ k) (h1 : k < 8) : (c.cs o)[5 + k.toNat]? = some (.int .i64 (c.memo k)) := by
 rcases lt8 h0 h1 with rfl | rfl | rfl | rfl | rfl | rfl | rfl | rfl <;> rfl
theorem cs_setMem (c : Cel) (o : Value) {k : Int} (h0 : 0 ≤ k) (h1 : k < 8) (v : Int) : (c.cs o).setIfInBounds (5 + k.toNat) (.int .i64 v) = (c.setMem k v).cs o := by
 rcases lt8 h0 h1 with rfl | rfl | rfl | rfl | rfl | rfl | rfl | rfl <;> rfl
def truthI (b : Bool) : Int := if b then 1 else 0
theorem bit_t (b : Bool) (w : World) : Calls Tryz.prog 145 #[.bool b] w fun e w' => e = .returned (.int .i64 (truthI b)) ∧ w' = w := bit_any b w
theorem truth_t (b : Bool) (w : World) : Calls Tryz.prog 114 #[.bool b] w fun e w' => e = .returned (.int .i64 (truthI b)) ∧ w' = w := truth_any b w
def Cel.replied (c : Cel) (k reg flag kind val : Int) (is : Bool) : Cel :=
 if k = 12 ∧ kind = 2 then c.setReg reg (truthI is) else if k = 13 then (if is then c.setReg reg val else c).setReg flag (truthI is) else c
theorem sizeWant : (Tryz.prog.info? 124).map (·.size) = some 5 := by kernel_rfl
def wantCs (k ch reg flag val : Int) : Array Value := #[.int .i64 k, .int .i64 ch, .int .i64 reg, .int .i64 flag, .int .i64 val]
theorem reply_in {k reg flag kind : Int} (he : replyE true k reg flag kind = 0) : (k = 12 ∨ k = 13) ∧ (kind = 1 ∨ kind = 2) ∧ (0 ≤ reg ∧ reg < 4) ∧ 0 ≤ flag ∧ flag < 4 := by
 unfold replyE at he
 simp only [Bool.not_true, Bool.false_eq_true, if_false] at he
 split at he
 ·omega
 ·rename_i h1
  split at he
  ·omega
  ·rename_i h2
   simp [regB, kindB] at h1 h2
   omega
theorem sizeInt : (Tryz.prog.info? 3).map (·.size) = some 1 := by kernel_rfl
structure Rp (w : World) (B : Nat) (W : World) (gd gr : Nat) (c : Cel) (o : Value) (xs : List Int) : Prop where
 rd : Rw W gd 35 (c.cs o)
 rr : Rw W gr 35 (celZ.cs (.slice none 0 0))
 d : Below w.heap.size w W
 own : W.ownsRow B 3 1 o xs.length (ints xs)
 gd0 : w.heap.size ≤ gd
 gr0 : w.heap.size ≤ gr
 bs : w.heap.size ≤ B
 ne : gd ≠ gr
 no : ∀ k, o.ownBlock = some k → k ≠ gd ∧ k ≠ gr
theorem Rp.reg {w : World} {B : Nat} {W : World} {gd gr : Nat} {c : Cel} {o : Value} {xs : List Int} (h : Rp w B W gd gr c o xs) {k : Int} (h0 : 0 ≤ k) (h1 : k < 4) (v : Int) :
  Rp w B (W.setCell ⟨gd, 1 + k.toNat, none⟩ (.int .i64 v)) gd gr (c.setReg k v) o xs :=
 ⟨by rw [← cs_setReg c o h0 h1 v]; exact h.rd.set _ _, h.rr.set_other _ (Ne.symm h.ne), h.d.setCell h.gd0 _, own_set h.own _ (fun e => (h.no _ e).1 rfl), h.gd0, h.gr0, h.bs, h.ne, h.no⟩
theorem Rp.drew {w : World} {B : Nat} {W : World} {gd gr : Nat} {c : Cel} {o : Value} {xs : List Int} (h : Rp w B W gd gr c o xs) : Rp w B W.drew gd gr c o xs :=
 ⟨h.rd, h.rr, h.d.drew, h.own, h.gd0, h.gr0, h.bs, h.ne, h.no⟩
theorem reply_ok (c : Cel) (xs : List Int) (v : Value) (k ch reg flag val kind vl : Int) (is : Bool) (hf : c.fine xs.length = true) (he : replyE true k reg flag kind = 0) (w : World) (hS : Sl w 1 v xs.length (ints xs)) :
  Calls Tryz.prog 111 #[c.v v, wantV k ch reg flag val, .int .i64 kind, .int .i64 vl, .bool is] w fun e w' => ∃ v', e = .returned (.tuple #[(c.replied k reg flag kind vl is).v v', .int .i64 0]) ∧ w'.ownsRow w.heap.size 3 1 v' xs.length (ints xs) ∧ Below w.heap.size w w' := by
 have hl := ((fine_iff c _).1 hf).2.2.2.2.2.2
 obtain ⟨ao, cap, rfl⟩ := hS.form
 have HC := hd fun w => he ▸ checkReply_any c ao xs.length cap k ch reg flag val kind true hf w
 obtain ⟨hk, hkd, ⟨hr0, hr1⟩, hf0, hf1⟩ := reply_in he
 have HS := hd hS
 clear hf he hS
 rw [Cel.v_cs] at HC
 rw [Cel.v_cs]
 unfold wantV at HC
 unfold wantV
 go_enter Tryz.func111, Tryz.ntmps111
 go_wp2_with (refine wpList_load_row rfl 35 (.tmp 5) rfl w.heap.size rfl 35 (c.cs (.slice ao xs.length cap)) (0, 0) _ rn0 Tryz.underlying35 rfl sizeCell ?_)
 refine (HC.out _).mono ?_
 rintro e w1 ⟨rfl, b1⟩
 have D : Below w.heap.size w w1 := by
  refine Below.trans ?_ (b1.mono o3)
  exact up0
 have z : w.heap.size + 3 ≤ w1.heap.size := by have := b1.size; simp at this; omega
 have R0 : Rw w1 w.heap.size 35 (c.cs (.slice ao xs.length cap)) := Rw.up rn0 b1 o3
 have R1 : Rw w1 (w.heap.size + 1) 124 (wantCs k ch reg flag val) := Rw.up rn0 b1 o3
 have R2 : Rw w1 (w.heap.size + 2) 35 (celZ.cs (.slice none 0 0)) := Rw.up rn0 b1 o3
 have HD := hd D
 have H0 := hd R0
 have H1 := hd R1
 have H2 := hd R2
 clear b1 HC D R0 R1 R2
 go_wp2_with (refine wpList_load_row rfl 35 (.tmp 5) rfl w.heap.size rfl 35 (c.cs (.slice ao xs.length cap)) (0, 0) _ H0.out Tryz.underlying35 rfl sizeCell ?_)
 refine (copied_any c xs om _ _ (HS.out.up HD.out)).mono ?_
 rintro e w2 ⟨v', rfl, o2, b2⟩
 have h2 : w1.heap.size ≤ w2.heap.size := b2.size
 have HDa := HD
 have H1a := H1
 have H2a := H2
 clear HD H1 H2
 have HD := hd (HDa.out.trans (b2.mono om))
 have H1 := hd (H1a.out.up b2 om)
 have H2 := hd (H2a.out.up b2 om)
 have o2l := own_lt o2
 have o2b := own_block o2
 obtain ⟨ao', cap', rfl⟩ := own_form o2
 have HO := hd o2
 clear b2 o2 H0 HS
 rw [Cel.v_cs]
 go_wp2_with (refine wpList_store_rowW rfl 35 (.tmp 13) (.tmp 23) rfl w2.heap.size (c.cs (.slice ao' xs.length cap')) rfl rfl 35 (celZ.cs (.slice none 0 0)) rn0 sizeCell rfl (c.cs_one _ rfl) ?_)
 intro W HW
 have hW := HW.out
 have hne : ∀ k, (Value.slice ao' xs.length cap').ownBlock = some k → k < w2.heap.size := o2l
 have RD : Rw W w2.heap.size 35 (c.cs (.slice ao' xs.length cap')) := by
  rw [hW]
  exact Rw.row (cs := celZ.cs (.slice none 0 0)) rn0 _
 have R1 : Rw W (w.heap.size + 1) 124 (wantCs k ch reg flag val) := by
  rw [hW]
  exact (H1.out.alloc _).row_other _ om
 have R2 : Rw W (w.heap.size + 2) 35 (celZ.cs (.slice none 0 0)) := by
  rw [hW]
  exact (H2.out.alloc _).row_other _ om
 have D : Below w.heap.size w W := by
  rw [hW]
  exact below_row (HD.out.alloc om _) om _
 have O : W.ownsRow w1.heap.size 3 1 (.slice ao' xs.length cap') xs.length (ints xs) := by
  rw [hW]
  refine own_row (own_up HO.out ((Below.refl w2.heap.size w2).alloc (Nat.le_refl _) _) o2l) _ (fun e => by have := o2l _ e; omega)
 have hz : W.heap.size = w2.heap.size + 1 := by rw [hW]; simp
 have w0 := R1.cell (j := 0) (v := .int .i64 k) rfl
 have w2' := R1.cell (j := 2) (v := .int .i64 reg) rfl
 have w3 := R1.cell (j := 3) (v := .int .i64 flag) rfl
 have hw1 : w.heap.size + 1 ≠ w2.heap.size := by omega
 have HR : Hid (Rp w w1.heap.size W w2.heap.size (w.heap.size + 2) c (.slice ao' xs.length cap') xs) := ⟨RD, R2, D, O, by omega, by omega, by omega, by omega, fun k e => by have := o2l k e; have := o2b k e; omega⟩
 clear H1 H2 HD HO RD R2 D O hW HW R1 hne o2l o2b hz H2a H1a HDa
 by_cases h12 : k = 12
 ·subst h12
  have ya : W.cell? ⟨w2.heap.size, 1 + reg.toNat, none⟩ = some (.int .i64 (Cel.reg c reg)) := HR.out.rd.cell (cs_reg _ _ hr0 hr1)
  have yb : W.frozen? ⟨w2.heap.size, 1 + reg.toNat, none⟩ = false := HR.out.rd.fr _
  by_cases hq : kind = 2
  ·subst hq
   go_wp2
   go_region_with (go_at_call 145; refine (bit_t _ _).mono ?_; rintro e w' ⟨rfl, rfl⟩)
   all_goals
    have HR1 := hd ((HR.out.reg hr0 hr1 (truthI is)).drew)
    clear HR ya yb
    generalize World.drew _ = W1 at HR1 ⊢
    go_wp2_with (first | (refine wpList_load_row rfl 35 (.tmp 13) rfl (w2.heap.size) rfl 35 (Cel.cs (c.setReg reg (truthI is)) (.slice ao' xs.length cap')) (0, 0) _ HR1.out.rd Tryz.underlying35 rfl sizeCell ?_) | (refine wpList_store_row rfl 35 (.tmp 10) (.tmp 54) rfl (w.heap.size + 2) (Cel.cs (c.setReg reg (truthI is)) (.slice ao' xs.length cap')) rfl rfl 35 _ HR1.out.rr sizeCell rfl (Cel.cs_one _ _ rfl) ?_))
    refine bodyPost_ret (results_row_tmp Tryz.results111 _ _ (w.heap.size + 2) _ _ rfl rfl (run_loadVar_row _ _ 35 _ (Cel.cs (c.setReg reg (truthI is)) (.slice ao' xs.length cap')) (0, 0) _ (HR1.out.rr.row _) Tryz.underlying35 rfl sizeCell)) rfl ⟨_, by simp [Cel.replied, Cel.v_cs, *], own_low (own_row HR1.out.own _ (fun e => (HR1.out.no _ e).2 rfl)) HR1.out.bs, below_row HR1.out.d HR1.out.gr0 _⟩
  ·have hq' : (kind == 2) = false := by simpa using hq
   clear ya yb
   go_wp2_with (first | (refine wpList_load_row rfl 35 (.tmp 13) rfl (w2.heap.size) rfl 35 (Cel.cs c (.slice ao' xs.length cap')) (0, 0) _ HR.out.rd Tryz.underlying35 rfl sizeCell ?_) | (refine wpList_store_row rfl 35 (.tmp 10) (.tmp 54) rfl (w.heap.size + 2) (Cel.cs c (.slice ao' xs.length cap')) rfl rfl 35 _ HR.out.rr sizeCell rfl (Cel.cs_one _ _ rfl) ?_))
   refine bodyPost_ret (results_row_tmp Tryz.results111 _ _ (w.heap.size + 2) _ _ rfl rfl (run_loadVar_row _ _ 35 _ (Cel.cs c (.slice ao' xs.length cap')) (0, 0) _ (HR.out.rr.row _) Tryz.underlying35 rfl sizeCell)) rfl ⟨_, by simp [Cel.replied, Cel.v_cs, *], own_low (own_row HR.out.own _ (fun e => (HR.out.no _ e).2 rfl)) HR.out.bs, below_row HR.out.d HR.out.gr0 _⟩
 ·have h13 : k = 13 := by omega
  subst h13
  cases is
  ·have ya : W.cell? ⟨w2.heap.size, 1 + flag.toNat, none⟩ = some (.int .i64 (Cel.reg c flag)) := HR.out.rd.cell (cs_reg _ _ hf0 hf1)
   have yb : W.frozen? ⟨w2.heap.size, 1 + flag.toNat, none⟩ = false := HR.out.rd.fr _
   go_wp2
   go_region_with (go_at_call 145; refine (bit_t _ _).mono ?_; rintro e w' ⟨rfl, rfl⟩)
   all_goals
    have HR1 := hd ((HR.out.reg hf0 hf1 (truthI false)).drew)
    clear HR ya yb
    generalize World.drew _ = W1 at HR1 ⊢
    go_wp2_with (first | (refine wpList_load_row rfl 35 (.tmp 13) rfl (w2.heap.size) rfl 35 (Cel.cs (c.setReg flag (truthI false)) (.slice ao' xs.length cap')) (0, 0) _ HR1.out.rd Tryz.underlying35 rfl sizeCell ?_) | (refine wpList_store_row rfl 35 (.tmp 10) (.tmp 54) rfl (w.heap.size + 2) (Cel.cs (c.setReg flag (truthI false)) (.slice ao' xs.length cap')) rfl rfl 35 _ HR1.out.rr sizeCell rfl (Cel.cs_one _ _ rfl) ?_))
    refine bodyPost_ret (results_row_tmp Tryz.results111 _ _ (w.heap.size + 2) _ _ rfl rfl (run_loadVar_row _ _ 35 _ (Cel.cs (c.setReg flag (truthI false)) (.slice ao' xs.length cap')) (0, 0) _ (HR1.out.rr.row _) Tryz.underlying35 rfl sizeCell)) rfl ⟨_, by simp [Cel.replied, Cel.v_cs, *], own_low (own_row HR1.out.own _ (fun e => (HR1.out.no _ e).2 rfl)) HR1.out.bs, below_row HR1.out.d HR1.out.gr0 _⟩
  ·have w3a : (W.setCell ⟨w2.heap.size, 1 + reg.toNat, none⟩ (.int .i64 vl)).cell? ⟨w.heap.size + 1, 3, none⟩ = some (.int .i64 flag) := cl_set (.inl hw1) w3
   go_wp2_with (refine wpList_store_cellW rfl 3 (.tmp 47) (.tmp 45) rfl (w2.heap.size) (1 + reg.toNat) (.int .i64 vl) rfl rfl rfl 35 (c.cs (.slice ao' xs.length cap')) HR.out.rd (by simp [Cel.cs]; omega) sizeInt ?_)
   intro W2 HW2
   rw [← HW2.out] at w3a
   have HR1 : Hid (Rp w w1.heap.size W2 (w2.heap.size) (w.heap.size + 2) (c.setReg reg vl) (.slice ao' xs.length cap') xs) := by
    rw [HW2.out]
    exact HR.out.reg hr0 hr1 vl
   have ya : W2.cell? ⟨w2.heap.size, 1 + flag.toNat, none⟩ = some (.int .i64 (Cel.reg (c.setReg reg vl) flag)) := HR1.out.rd.cell (cs_reg _ _ hf0 hf1)
   have yb : W2.frozen? ⟨w2.heap.size, 1 + flag.toNat, none⟩ = false := HR1.out.rd.fr _
   clear HR w3 w2' HW2
   go_wp2
   go_region_with (go_at_call 145; refine (bit_t _ _).mono ?_; rintro e w' ⟨rfl, rfl⟩)
   all_goals
    have HR2 := hd ((HR1.out.reg hf0 hf1 (truthI true)).drew)
    clear HR1 ya yb
    generalize World.drew _ = W1 at HR2 ⊢
    go_wp2_with (first | (refine wpList_load_row rfl 35 (.tmp 13) rfl (w2.heap.size) rfl 35 (Cel.cs ((c.setReg reg vl).setReg flag (truthI true)) (.slice ao' xs.length cap')) (0, 0) _ HR2.out.rd Tryz.underlying35 rfl sizeCell ?_) | (refine wpList_store_row rfl 35 (.tmp 10) (.tmp 54) rfl (w.heap.size + 2) (Cel.cs ((c.setReg reg vl).setReg flag (truthI true)) (.slice ao' xs.length cap')) rfl rfl 35 _ HR2.out.rr sizeCell rfl (Cel.cs_one _ _ rfl) ?_))
    refine bodyPost_ret (results_row_tmp Tryz.results111 _ _ (w.heap.size + 2) _ _ rfl rfl (run_loadVar_row _ _ 35 _ (Cel.cs ((c.setReg reg vl).setReg flag (truthI true)) (.slice ao' xs.length cap')) (0, 0) _ (HR2.out.rr.row _) Tryz.underlying35 rfl sizeCell)) rfl ⟨_, by simp [Cel.replied, Cel.v_cs, *], own_low (own_row HR2.out.own _ (fun e => (HR2.out.no _ e).2 rfl)) HR2.out.bs, below_row HR2.out.d HR2.out.gr0 _⟩
theorem replyOf_any (c : Cel) (xs : List Int) (v : Value) (k ch reg flag val kind vl : Int) (is : Bool) (hl : xs.length ≤ 16) (he : replyE true k reg flag kind = 0) (w : World) (hS : Sl w 1 v xs.length (ints xs)) :
  Calls Tryz.prog 72 #[c.v v, wantV k ch reg flag val, .int .i64 kind, .int .i64 vl, .bool is] w fun e w' => ∃ v', e = .returned ((c.replied k reg flag kind vl is).v v') ∧ w'.ownsRow w.heap.size 3 1 v' xs.length (ints xs) ∧ Below w.heap.size w w' := by
 obtain ⟨ao, cap, rfl⟩ := hS.form
 obtain ⟨hk, hkd, ⟨hr0, hr1⟩, hf0, hf1⟩ := reply_in he
 have HS := hd hS
 clear he hS
 rw [Cel.v_cs]
 unfold wantV
 go_enter Tryz.func72, Tryz.ntmps72
 go_wp2_with (refine wpList_load_row rfl 35 (.tmp 5) rfl w.heap.size rfl 35 (c.cs (.slice ao xs.length cap)) (0, 0) _ rn0 Tryz.underlying35 rfl sizeCell ?_)
 refine (ownCell_any c xs om _ _ (HS.out.up up0)).mono ?_
 rintro e w1 ⟨v', rfl, o2, b1⟩
 have D : Below w.heap.size w w1 := by
  refine Below.trans ?_ (b1.mono o3)
  exact up0
 have z : w.heap.size + 3 ≤ w1.heap.size := by have := b1.size; simp at this; omega
 have R0 : Rw w1 w.heap.size 35 (c.cs (.slice ao xs.length cap)) := Rw.up rn0 b1 o3
 have R1 : Rw w1 (w.heap.size + 1) 124 (wantCs k ch reg flag val) := Rw.up rn0 b1 o3
 have R2 : Rw w1 (w.heap.size + 2) 35 (celZ.cs (.slice none 0 0)) := Rw.up rn0 b1 o3
 have o2b := own_block o2
 obtain ⟨ao', cap', rfl⟩ := own_form o2
 have HD := hd D
 have H0 := hd R0
 have H1 := hd R1
 have H2 := hd R2
 have HO := hd o2
 clear b1 D R0 R1 R2 HS o2
 rw [Cel.v_cs]
 go_wp2_with (refine wpList_store_rowW rfl 35 (.tmp 5) (.tmp 12) rfl w.heap.size (c.cs (.slice ao' xs.length cap')) rfl rfl 35 (c.cs (.slice ao xs.length cap)) H0.out sizeCell rfl (c.cs_one _ rfl) ?_)
 intro W HW
 have hW := HW.out
 have o2c : ∀ k, (Value.slice ao' xs.length cap').ownBlock = some k → w.heap.size + 3 ≤ k := fun k e => by have := o2b k e; simp at this; omega
 have HR : Hid (Rp w (w.heap.size + 3) W w.heap.size (w.heap.size + 2) c (.slice ao' xs.length cap') xs) := by
  rw [hW]
  exact ⟨H0.out.row _, H2.out.row_other _ om, below_row HD.out (Nat.le_refl _) _, own_row (by simpa using HO.out) _ (fun e => by have := o2c _ e; omega), Nat.le_refl _, by omega, by omega, by omega, fun k e => by have := o2c k e; omega⟩
 have R1 : Rw W (w.heap.size + 1) 124 (wantCs k ch reg flag val) := by
  rw [hW]
  exact H1.out.row_other _ om
 have w0 := R1.cell (j := 0) (v := .int .i64 k) rfl
 have w2' := R1.cell (j := 2) (v := .int .i64 reg) rfl
 have w3 := R1.cell (j := 3) (v := .int .i64 flag) rfl
 have hw1 : w.heap.size + 1 ≠ w.heap.size := by omega
 clear H0 H1 H2 HD HO hW HW R1 o2b o2c
 by_cases h12 : k = 12
 ·subst h12
  have ya : W.cell? ⟨w.heap.size, 1 + reg.toNat, none⟩ = some (.int .i64 (Cel.reg c reg)) := HR.out.rd.cell (cs_reg _ _ hr0 hr1)
  have yb : W.frozen? ⟨w.heap.size, 1 + reg.toNat, none⟩ = false := HR.out.rd.fr _
  by_cases hq : kind = 2
  ·subst hq
   go_wp2
   go_region_with (go_at_call 114; refine (truth_t _ _).mono ?_; rintro e w' ⟨rfl, rfl⟩)
   all_goals
    have HR1 := hd ((HR.out.reg hr0 hr1 (truthI is)).drew)
    clear HR ya yb
    generalize World.drew _ = W1 at HR1 ⊢
    go_wp2_with (first | (refine wpList_load_row rfl 35 (.tmp 5) rfl (w.heap.size) rfl 35 (Cel.cs (c.setReg reg (truthI is)) (.slice ao' xs.length cap')) (0, 0) _ HR1.out.rd Tryz.underlying35 rfl sizeCell ?_) | (refine wpList_store_row rfl 35 (.tmp 10) (.tmp 43) rfl (w.heap.size + 2) (Cel.cs (c.setReg reg (truthI is)) (.slice ao' xs.length cap')) rfl rfl 35 _ HR1.out.rr sizeCell rfl (Cel.cs_one _ _ rfl) ?_))
    refine bodyPost_ret (results_cell_row Tryz.results72 _ _ (w.heap.size + 2) 35 (Cel.cs (c.setReg reg (truthI is)) (.slice ao' xs.length cap')) (0, 0) _ rfl (HR1.out.rr.row _) Tryz.underlying35 rfl sizeCell) rfl ⟨_, by simp [Cel.replied, Cel.v_cs, *], own_low (own_row HR1.out.own _ (fun e => (HR1.out.no _ e).2 rfl)) HR1.out.bs, below_row HR1.out.d HR1.out.gr0 _⟩
  ·have hq' : (kind == 2) = false := by simpa using hq
   clear ya yb
   go_wp2_with (first | (refine wpList_load_row rfl 35 (.tmp 5) rfl (w.heap.size) rfl 35 (Cel.cs c (.slice ao' xs.length cap')) (0, 0) _ HR.out.rd Tryz.underlying35 rfl sizeCell ?_) | (refine wpList_store_row rfl 35 (.tmp 10) (.tmp 43) rfl (w.heap.size + 2) (Cel.cs c (.slice ao' xs.length cap')) rfl rfl 35 _ HR.out.rr sizeCell rfl (Cel.cs_one _ _ rfl) ?_))
   refine bodyPost_ret (results_cell_row Tryz.results72 _ _ (w.heap.size + 2) 35 (Cel.cs c (.slice ao' xs.length cap')) (0, 0) _ rfl (HR.out.rr.row _) Tryz.underlying35 rfl sizeCell) rfl ⟨_, by simp [Cel.replied, Cel.v_cs, *], own_low (own_row HR.out.own _ (fun e => (HR.out.no _ e).2 rfl)) HR.out.bs, below_row HR.out.d HR.out.gr0 _⟩
 ·have h13 : k = 13 := by omega
  subst h13
  cases is
  ·have ya : W.cell? ⟨w.heap.size, 1 + flag.toNat, none⟩ = some (.int .i64 (Cel.reg c flag)) := HR.out.rd.cell (cs_reg _ _ hf0 hf1)
   have yb : W.frozen? ⟨w.heap.size, 1 + flag.toNat, none⟩ = false := HR.out.rd.fr _
   go_wp2
   go_region_with (go_at_call 114; refine (truth_t _ _).mono ?_; rintro e w' ⟨rfl, rfl⟩)
   all_goals
    have HR1 := hd ((HR.out.reg hf0 hf1 (truthI false)).drew)
    clear HR ya yb
    generalize World.drew _ = W1 at HR1 ⊢
    go_wp2_with (first | (refine wpList_load_row rfl 35 (.tmp 5) rfl (w.heap.size) rfl 35 (Cel.cs (c.setReg flag (truthI false)) (.slice ao' xs.length cap')) (0, 0) _ HR1.out.rd Tryz.underlying35 rfl sizeCell ?_) | (refine wpList_store_row rfl 35 (.tmp 10) (.tmp 43) rfl (w.heap.size + 2) (Cel.cs (c.setReg flag (truthI false)) (.slice ao' xs.length cap')) rfl rfl 35 _ HR1.out.rr sizeCell rfl (Cel.cs_one _ _ rfl) ?_))
    refine bodyPost_ret (results_cell_row Tryz.results72 _ _ (w.heap.size + 2) 35 (Cel.cs (c.setReg flag (truthI false)) (.slice ao' xs.length cap')) (0, 0) _ rfl (HR1.out.rr.row _) Tryz.underlying35 rfl sizeCell) rfl ⟨_, by simp [Cel.replied, Cel.v_cs, *], own_low (own_row HR1.out.own _ (fun e => (HR1.out.no _ e).2 rfl)) HR1.out.bs, below_row HR1.out.d HR1.out.gr0 _⟩
  ·have w3a : (W.setCell ⟨w.heap.size, 1 + reg.toNat, none⟩ (.int .i64 vl)).cell? ⟨w.heap.size + 1, 3, none⟩ = some (.int .i64 flag) := cl_set (.inl hw1) w3
   go_wp2_with (refine wpList_store_cellW rfl 3 (.tmp 36) (.tmp 34) rfl (w.heap.size) (1 + reg.toNat) (.int .i64 vl) rfl rfl rfl 35 (c.cs (.slice ao' xs.length cap')) HR.out.rd (by simp [Cel.cs]; omega) sizeInt ?_)
   intro W2 HW2
   rw [← HW2.out] at w3a
   have HR1 : Hid (Rp w (w.heap.size + 3) W2 (w.heap.size) (w.heap.size + 2) (c.setReg reg vl) (.slice ao' xs.length cap') xs) := by
    rw [HW2.out]
    exact HR.out.reg hr0 hr1 vl
   have ya : W2.cell? ⟨w.heap.size, 1 + flag.toNat, none⟩ = some (.int .i64 (Cel.reg (c.setReg reg vl) flag)) := HR1.out.rd.cell (cs_reg _ _ hf0 hf1)
   have yb : W2.frozen? ⟨w.heap.size, 1 + flag.toNat, none⟩ = false := HR1.out.rd.fr _
   clear HR w3 w2' HW2
   go_wp2
   go_region_with (go_at_call 114; refine (truth_t _ _).mono ?_; rintro e w' ⟨rfl, rfl⟩)
   all_goals
    have HR2 := hd ((HR1.out.reg hf0 hf1 (truthI true)).drew)
    clear HR1 ya yb
    generalize World.drew _ = W1 at HR2 ⊢
    go_wp2_with (first | (refine wpList_load_row rfl 35 (.tmp 5) rfl (w.heap.size) rfl 35 (Cel.cs ((c.setReg reg vl).setReg flag (truthI true)) (.slice ao' xs.length cap')) (0, 0) _ HR2.out.rd Tryz.underlying35 rfl sizeCell ?_) | (refine wpList_store_row rfl 35 (.tmp 10) (.tmp 43) rfl (w.heap.size + 2) (Cel.cs ((c.setReg reg vl).setReg flag (truthI true)) (.slice ao' xs.length cap')) rfl rfl 35 _ HR2.out.rr sizeCell rfl (Cel.cs_one _ _ rfl) ?_))
    refine bodyPost_ret (results_cell_row Tryz.results72 _ _ (w.heap.size + 2) 35 (Cel.cs ((c.setReg reg vl).setReg flag (truthI true)) (.slice ao' xs.length cap')) (0, 0) _ rfl (HR2.out.rr.row _) Tryz.underlying35 rfl sizeCell) rfl ⟨_, by simp [Cel.replied, Cel.v_cs, *], own_low (own_row HR2.out.own _ (fun e => (HR2.out.no _ e).2 rfl)) HR2.out.bs, below_row HR2.out.d HR2.out.gr0 _⟩
structure Wnt where
 k : Int
 ch : Int
 reg : Int
 flag : Int
 val : Int
def Wnt.v (x : Wnt) : Value := wantV x.k x.ch x.reg x.flag x.val
def wntZ : Wnt := ⟨0, 0, 0, 0, 0⟩
def rcs (c : Cel) (o i : Value) (x : Wnt) : Array Value := #[.int .i64 c.at_, .int .i64 c.r0, .int .i64 c.r1, .int .i64 c.r2, .int .i64 c.r3, .int .i64 c.m0, .int .i64 c.m1, .int .i64 c.m2, .int .i64 c.m3, .int .i64 c.m4, .int .i64 c.m5, .int .i64 c.m6, .int .i64 c.m7, .int .i64 c.read, o, .int .i64 c.en, i, .int .i64 x.k, .int .i64 x.ch, .int .i64 x.reg, .int .i64 x.flag, .int .i64 x.val]
theorem rcs_reg (c : Cel) (o i : Value) (x : Wnt) {k : Int} (h0 : 0 ≤ k) (h1 : k < 4) : (rcs c o i x)[1 + k.toNat]? = some (.int .i64 (c.reg k)) := by
 rcases lt4 h0 h1 with rfl | rfl | rfl | rfl <;> rfl
theorem rcs_setReg (c : Cel) (o i : Value) (x : Wnt) {k : Int} (h0 : 0 ≤ k) (h1 : k < 4) (v : Int) : (rcs c o i x).setIfInBounds (1 + k.toNat) (.int .i64 v) = rcs (c.setReg k v) o i x := by
 rcases lt4 h0 h1 with rfl | rfl | rfl | rfl <;> rfl
theorem rcs_mem (c : Cel) (o i : Value) (x : Wnt) {k : Int} (h0 : 0 ≤ k) (h1 : k < 8) : (rcs c o i x)[5 + k.toNat]? = some (.int .i64 (c.memo k)) := by
 rcases lt8 h0 h1 with rfl | rfl | rfl | rfl | rfl | rfl | rfl | rfl <;> rfl
theorem rcs_setMem (c : Cel) (o i : Value) (x : Wnt) {k : Int} (h0 : 0 ≤ k) (h1 : k < 8) (v : Int) : (rcs c o i x).setIfInBounds (5 + k.toNat) (.int .i64 v) = rcs (c.setMem k v) o i x := by
 rcases lt8 h0 h1 with rfl | rfl | rfl | rfl | rfl | rfl | rfl | rfl <;> rfl
structure Rn (B : Nat) (w W : World) (g base : Nat) (c : Cel) (o i : Value) (x : Wnt) (xs : List Int) : Prop where
 r : Rw W g 185 (rcs c o i x)
 d : Below B w W
 own : W.ownsRow base 3 1 o xs.length (ints xs)
 g0 : B ≤ g
 b0 : B ≤ base
 no : ∀ k, o.ownBlock = some k → k ≠ g
 bs : base ≤ W.heap.size
theorem Rn.reg {B : Nat} {w W : World} {g base : Nat} {c : Cel} {o i : Value} {x : Wnt} {xs : List Int} (h : Rn B w W g base c o i x xs) {k : Int} (h0 : 0 ≤ k) (h1 : k < 4) (v : Int) :
  Rn B w (W.setCell ⟨g, 1 + k.toNat, none⟩ (.int .i64 v)) g base (c.setReg k v) o i x xs :=
 ⟨by rw [← rcs_setReg c o i x h0 h1 v]; exact h.r.set _ _, h.d.setCell h.g0 _, own_set h.own _ (fun e => h.no _ e rfl), h.g0, h.b0, h.no, by rw [size_set]; exact h.bs⟩
theorem Rn.mem {B : Nat} {w W : World} {g base : Nat} {c : Cel} {o i : Value} {x : Wnt} {xs : List Int} (h : Rn B w W g base c o i x xs) {k : Int} (h0 : 0 ≤ k) (h1 : k < 8) (v : Int) :
  Rn B w (W.setCell ⟨g, 5 + k.toNat, none⟩ (.int .i64 v)) g base (c.setMem k v) o i x xs :=
 ⟨by rw [← rcs_setMem c o i x h0 h1 v]; exact h.r.set _ _, h.d.setCell h.g0 _, own_set h.own _ (fun e => h.no _ e rfl), h.g0, h.b0, h.no, by rw [size_set]; exact h.bs⟩
theorem Rn.setAt {B : Nat} {w W : World} {g base : Nat} {c : Cel} {o i : Value} {x : Wnt} {xs : List Int} (h : Rn B w W g base c o i x xs) (v : Int) :
  Rn B w (W.setCell ⟨g, 0, none⟩ (.int .i64 v)) g base { c with at_ := v } o i x xs :=
 ⟨h.r.set _ _, h.d.setCell h.g0 _, own_set h.own _ (fun e => h.no _ e rfl), h.g0, h.b0, h.no, by rw [size_set]; exact h.bs⟩
theorem Rn.setEn {B : Nat} {w W : World} {g base : Nat} {c : Cel} {o i : Value} {x : Wnt} {xs : List Int} (h : Rn B w W g base c o i x xs) (v : Int) :
  Rn B w (W.setCell ⟨g, 15, none⟩ (.int .i64 v)) g base { c with en := v } o i x xs :=
 ⟨h.r.set _ _, h.d.setCell h.g0 _, own_set h.own _ (fun e => h.no _ e rfl), h.g0, h.b0, h.no, by rw [size_set]; exact h.bs⟩
theorem Rn.setRead {B : Nat} {w W : World} {g base : Nat} {c : Cel} {o i : Value} {x : Wnt} {xs : List Int} (h : Rn B w W g base c o i x xs) (v : Int) :
  Rn B w (W.setCell ⟨g, 13, none⟩ (.int .i64 v)) g base { c with read := v } o i x xs :=
 ⟨h.r.set _ _, h.d.setCell h.g0 _, own_set h.own _ (fun e => h.no _ e rfl), h.g0, h.b0, h.no, by rw [size_set]; exact h.bs⟩
theorem Rn.drew {B : Nat} {w W : World} {g base : Nat} {c : Cel} {o i : Value} {x : Wnt} {xs : List Int} (h : Rn B w W g base c o i x xs) : Rn B w W.drew g base c o i x xs :=
 ⟨h.r, h.d.drew, h.own, h.g0, h.b0, h.no, h.bs⟩
theorem Rn.lt {B : Nat} {w W : World} {g base : Nat} {c : Cel} {o i : Value} {x : Wnt} {xs : List Int} (h : Rn B w W g base c o i x xs) : g < W.heap.size := h.r.lt
theorem Rn.alloc {B : Nat} {w W : World} {g base : Nat} {c : Cel} {o i : Value} {x : Wnt} {xs : List Int} (h : Rn B w W g base c o i x xs) (ob : Obj) : Rn B w (W.alloc ob) g base c o i x xs :=
 ⟨h.r.alloc _, h.d.alloc (Nat.le_of_lt (Nat.lt_of_le_of_lt h.g0 h.lt)) _, own_up h.own ((Below.refl W.heap.size W).alloc (Nat.le_refl _) _) (own_lt h.own), h.g0, h.b0, h.no, by have := h.bs; simp; omega⟩
theorem Rn.wnt {B : Nat} {w W : World} {g base : Nat} {c : Cel} {o i : Value} {x : Wnt} {xs : List Int} (h : Rn B w W g base c o i x xs) (k ch reg flag val : Int) :
  Rn B w (((((W.setCell ⟨g, 17, none⟩ (.int .i64 k)).setCell ⟨g, 18, none⟩ (.int .i64 ch)).setCell ⟨g, 19, none⟩ (.int .i64 reg)).setCell ⟨g, 20, none⟩ (.int .i64 flag)).setCell ⟨g, 21, none⟩ (.int .i64 val)) g base c o i ⟨k, ch, reg, flag, val⟩ xs :=
 ⟨((((h.r.set _ _).set _ _).set _ _).set _ _).set _ _, ((((h.d.setCell h.g0 _).setCell h.g0 _).setCell h.g0 _).setCell h.g0 _).setCell h.g0 _,
  own_set (own_set (own_set (own_set (own_set h.own _ (fun e => h.no _ e rfl)) _ (fun e => h.no _ e rfl)) _ (fun e => h.no _ e rfl)) _ (fun e => h.no _ e rfl)) _ (fun e => h.no _ e rfl), h.g0, h.b0, h.no, by simp only [size_set]; exact h.bs⟩
theorem Rn.drewN {B : Nat} {w W : World} {g base : Nat} {c : Cel} {o i : Value} {x : Wnt} {xs : List Int} (h : Rn B w W g base c o i x xs) (n : Nat) : Rn B w (W.drewN n) g base c o i x xs :=
 ⟨h.r, ⟨h.d.os, h.d.tape, h.d.output, h.d.size, h.d.block⟩, h.own, h.g0, h.b0, h.no, h.bs⟩
def faultE : List PanicEntry := [{ v := .iface 9 (.string ⟨#[102, 97, 117, 108, 116]⟩), recovered := false }]
theorem post_panic {fn : Func} {R : Ending → World → Prop} {ch : List PanicEntry} {a : Act} {w : World} (hd : a.defers = []) (h : R (.panicked ch) w) : bodyPost Tryz.prog fn R (.panic ch) a w := by
 unfold bodyPost
 simp_all
theorem word_ok (W : World) (g : Nat) (b v : Int) (hb0 : 0 ≤ b) (hb1 : b < 4) (h0 : 0 ≤ v) (h1 : v < 8) (hc : W.cell? ⟨g, 1 + b.toNat, none⟩ = some (.int .i64 v)) :
  Calls Tryz.prog 173 #[.pointer (some ⟨g, 0, none⟩), .int .i64 b] W fun e W' => e = .returned (.int .i64 v) ∧ W' = W := by
 go_enter Tryz.func173, Tryz.ntmps173
 go_wp2
 go_ret
 exact ⟨rfl, rfl⟩
theorem word_bad (W : World) (g : Nat) (b v : Int) (hb0 : 0 ≤ b) (hb1 : b < 4) (h0 : v < 0 ∨ 8 ≤ v) (hc : W.cell? ⟨g, 1 + b.toNat, none⟩ = some (.int .i64 v)) :
  Calls Tryz.prog 173 #[.pointer (some ⟨g, 0, none⟩), .int .i64 b] W fun e W' => e = .panicked faultE ∧ W' = W := by
 by_cases hn : v < 0
 ·go_enter Tryz.func173, Tryz.ntmps173
  go_wp2
  exact post_panic rfl ⟨rfl, rfl⟩
 ·have h2 : 8 ≤ v := by omega
  clear h0
  go_enter Tryz.func173, Tryz.ntmps173
  go_wp2
  exact post_panic rfl ⟨rfl, rfl⟩
theorem codes_at {W : World} {v : Value} {l : List Ins} (h : Sl W 4 v l.length (codeC l)) (k : Nat) (hk : k < l.length) : ∃ b off cap, v = .slice (some ⟨b, off, none⟩) l.length cap ∧ b < W.heap.size ∧ W.cell? ⟨b, off + k * 4, none⟩ = some (.int .i64 l[k].op) ∧ W.cell? ⟨b, off + k * 4 + 1, none⟩ = some (.int .i64 l[k].a) ∧ W.cell? ⟨b, off + k * 4 + 2, none⟩ = some (.int .i64 l[k].b) ∧ W.cell? ⟨b, off + k * 4 + 3, none⟩ = some (.int .i64 l[k].n) := by
 obtain ⟨b, off, cap, rfl, h1, h2, h3⟩ := h.open om
 exact ⟨b, off, cap, rfl, h2, code_cells h3 k hk⟩
theorem fetch_ok (W : World) (g : Nat) (l : List Ins) (v : Value) (n : Nat) (hn : n < l.length) (hc : W.cell? ⟨g, 0, none⟩ = some (.int .i64 n)) (hg : g < W.heap.size) (hS : Sl W 4 v l.length (codeC l)) :
  Calls Tryz.prog 164 #[.pointer (some ⟨g, 0, none⟩), v] W fun e W' => e = .returned l[n].v ∧ Below W.heap.size W W' := by
 obtain ⟨b, off, cap, rfl, hb, c0, c1, c2, c3⟩ := codes_at hS n hn
 have h1 : (n : Int) < l.length := by omega
 have hg' : g ≠ W.heap.size := Nat.ne_of_lt hg
 have hb' : b ≠ W.heap.size := Nat.ne_of_lt hb
 clear hS
 go_enter Tryz.func164, Tryz.ntmps164
 go_wp2
 refine bodyPost_ret (v := l[n].v) ?_ rfl ⟨rfl, up0⟩
 unfold Ins.v
 simp [results, Tryz.results164, go_sem]
theorem fetch_bad (W : World) (g : Nat) (ao : Option Addr) (m cap : Nat) (n : Int) (hn : (m : Int) ≤ n) (hc : W.cell? ⟨g, 0, none⟩ = some (.int .i64 n)) (hg : g < W.heap.size) :
  Calls Tryz.prog 164 #[.pointer (some ⟨g, 0, none⟩), .slice ao m cap] W fun e W' => e = .panicked faultE ∧ Below W.heap.size W W' := by
 have hg' : g ≠ W.heap.size := Nat.ne_of_lt hg
 go_enter Tryz.func164, Tryz.ntmps164
 go_wp2
 exact post_panic rfl ⟨rfl, up0⟩
def takeI (inn : List Int) (r : Int) : Int := if r < inn.length then inn.getD r.toNat 0 else 0
def takeC (c : Cel) (n : Nat) : Cel := if c.read < n then { c with read := c.read + 1 } else c
def tellL (xs : List Int) (n : Int) : List Int := if xs.length < 16 then xs ++ [n] else xs
theorem take_any (B : Nat) (w V : World) (g base : Nat) (c : Cel) (o i : Value) (x : Wnt) (xs inn : List Int) (h : Rn B w V g base c o i x xs) (hS : Sl V 1 i inn.length (ints inn)) (hr0 : 0 ≤ c.read) (hr1 : c.read ≤ 12) :
  Calls Tryz.prog 174 #[.pointer (some ⟨g, 0, none⟩)] V fun e V' => e = .returned (.int .i64 (takeI inn c.read)) ∧ Rn B w V' g base (takeC c inn.length) o i x xs ∧ ∀ k, k ≠ g → V'.heap[k]? = V.heap[k]? := by
 have k13 : V.cell? ⟨g, 13, none⟩ = some (.int .i64 c.read) := h.r.cell rfl
 have k16 : V.cell? ⟨g, 16, none⟩ = some i := h.r.cell rfl
 have f13 : V.frozen? ⟨g, 13, none⟩ = false := h.r.fr _
 by_cases hlt : c.read < inn.length
 ·obtain ⟨r, hr⟩ : ∃ r : Nat, c.read = r := ⟨c.read.toNat, by omega⟩
  have hr2 : r < inn.length := by omega
  obtain ⟨b, off, cap, rfl, hcap, hb, hcc⟩ := hS.open om
  have kr := hcc r _ (ints_at inn r hr2)
  have e1 : takeI inn c.read = inn[r] := by simp [takeI, hr, hr2]
  have e2 : takeC c inn.length = { c with read := c.read + 1 } := by simp [takeC, hlt]
  rw [e1, e2]
  rw [hr] at k13 hlt ⊢
  have hrr : (r : Int) ≤ 12 := by omega
  have hr0' : (0 : Int) ≤ r := by omega
  have H := hd h
  clear h hS hcc e1 e2 hr hr0 hr1
  go_enter Tryz.func174, Tryz.ntmps174
  go_wp2
  go_quiet (fail)
  go_wp2
  go_quiet (fail)
  go_wp2
  go_ret
  exact ⟨rfl, (H.out.drewN _).setRead _, fun k hk => heap_setCell_other _ _ _ _ hk⟩
 ·obtain ⟨ao, cap, rfl⟩ := hS.form
  have e1 : takeI inn c.read = 0 := by simp [takeI, hlt]
  have e2 : takeC c inn.length = c := by simp [takeC, hlt]
  rw [e1, e2]
  have H := hd h
  clear h hS e1 e2
  go_enter Tryz.func174, Tryz.ntmps174
  go_wp2
  go_quiet (fail)
  go_wp2
  go_ret
  exact ⟨rfl, H.out.drewN _, fun k hk => rfl⟩
theorem tell_any (B : Nat) (w V : World) (g base : Nat) (c : Cel) (o i : Value) (x : Wnt) (xs : List Int) (n : Int) (h : Rn B w V g base c o i x xs) (hx : xs.length ≤ 16) :
  Calls Tryz.prog 175 #[.pointer (some ⟨g, 0, none⟩), .int .i64 n] V fun e V' => e = .returned (.tuple #[]) ∧ ∃ o', Rn B w V' g base c o' i x (tellL xs n) := by
 obtain ⟨i0, hi, hz0, hz1, hz2⟩ := info_parts infoInt
 have k14 : V.cell? ⟨g, 14, none⟩ = some o := h.r.cell rfl
 have hg : g < V.heap.size := h.lt
 have hg' : g ≠ V.heap.size := Nat.ne_of_lt hg
 obtain ⟨ao, cap, rfl⟩ := own_form h.own
 have H := hd h
 clear h
 by_cases hlt : xs.length < 16
 ·have hli : (xs.length : Int) < 16 := by omega
  go_enter Tryz.func175, Tryz.ntmps175
  go_wp2_with (at_builtin; refine wpList_append_sl rfl (.tmp 16) (.tmp 18) 33 rfl base 3 i0 _ 1 8 Tryz.underlying33 hi hz0 hz1 hz2 rfl (by decide) _ xs.length (ints xs) rfl (own_up H.out.own ((Below.refl V.heap.size V).alloc (Nat.le_refl _) _) (own_lt H.out.own)) _ 1 (ints [n]) rfl (sl_one_at V n 3 1 V.heap.size rfl (Nat.le_refl _)) (ints_cell _) (by unfold maxLen; omega) om (by have := H.out.bs; simp; omega) ?_)
  intro v' W ho hgr hat
  have hno := H.out.no
  have hr1 : Rw W g 185 (rcs c (.slice ao xs.length cap) i x) := (hgr.block g so (fun e => hno g e.symm rfl)).trans (H.out.r.alloc _)
  have hD : Below B w W := (H.out.alloc (.cells #[.int .i64 n] 3)).d.grown hgr (by have := H.out.g0; simp; omega) (fun k hk => Nat.le_trans H.out.b0 (own_block H.out.own k hk))
  have hgl : g < V.heap.size := hg
  have hno' : ∀ k, v'.ownBlock = some k → k ≠ g := fun k e => by
   rcases hat with h1 | h1
   ·exact hno k (h1 ▸ e)
   ·rw [h1] at e; simp at e; omega
  have hbs : base ≤ W.heap.size := by have := hgr.size; have := H.out.bs; simp at *; omega
  have h1 := hr1.cell (j := 14) (v := .slice ao xs.length cap) rfl
  have h2 := hr1.fr 14
  obtain ⟨ao', cap', rfl⟩ := own_form ho
  have e : tellL xs n = xs ++ [n] := by simp [tellL, hlt]
  have HR : Hid (Rn B w (W.setCell ⟨g, 14, none⟩ (.slice ao' (xs.length + 1) cap')) g base c (.slice ao' (xs.length + 1) cap') i x (xs ++ [n])) :=
   ⟨hr1.set _ _, hD.setCell H.out.g0 _, own_set (by simpa [ints] using ho) _ (fun e => hno' _ e rfl), H.out.g0, H.out.b0, hno', by rw [size_set]; exact hbs⟩
  have HE := hd e
  clear e hno hr1 hD hno' hbs ho hgr hat H
  go_wp2
  go_end0
  exact ⟨rfl, _, by rw [HE.out]; exact HR.out⟩
 ·have hli : ¬ (xs.length : Int) < 16 := by omega
  have e : tellL xs n = xs := by simp [tellL, hlt]
  rw [e]
  go_enter Tryz.func175, Tryz.ntmps175
  go_wp2
  go_end0
  exact ⟨rfl, _, H.out⟩
end Go.Proofs.YtehhhiodfcdnmaaGreatDoor
