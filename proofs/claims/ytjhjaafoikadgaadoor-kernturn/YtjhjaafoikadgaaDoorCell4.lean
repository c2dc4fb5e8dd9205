/- cell.Reply and the reference's ReplyOf. -/
import Derived.Test.YtjhjaafoikadgaaDoorJd
import Derived.Deep.RegionWith
namespace Go.Proofs.YtjhjaafoikadgaaDoor
set_option linter.unusedSimpArgs false
set_option linter.unusedVariables false
open Go.RowKit Go.Sort

def Cel.reg (c : Cel) (k : Int) : Int := if k = 0 then c.r0 else if k = 1 then c.r1 else if k = 2 then c.r2 else c.r3
def Cel.setReg (c : Cel) (k v : Int) : Cel := if k = 0 then { c with r0 := v } else if k = 1 then { c with r1 := v } else if k = 2 then { c with r2 := v } else { c with r3 := v }
def Cel.memo (c : Cel) (k : Int) : Int := if k = 0 then c.m0 else if k = 1 then c.m1 else if k = 2 then c.m2 else if k = 3 then c.m3 else if k = 4 then c.m4 else if k = 5 then c.m5 else if k = 6 then c.m6 else c.m7
def Cel.setMem (c : Cel) (k v : Int) : Cel := if k = 0 then { c with m0 := v } else if k = 1 then { c with m1 := v } else if k = 2 then { c with m2 := v } else if k = 3 then { c with m3 := v } else if k = 4 then { c with m4 := v } else if k = 5 then { c with m5 := v } else if k = 6 then { c with m6 := v } else { c with m7 := v }
theorem lt4 {k : Int} (h0 : 0 ≤ k) (h1 : k < 4) : k = 0 ∨ k = 1 ∨ k = 2 ∨ k = 3 := by omega
theorem lt8 {k : Int} (h0 : 0 ≤ k) (h1 : k < 8) : k = 0 ∨ k = 1 ∨ k = 2 ∨ k = 3 ∨ k = 4 ∨ k = 5 ∨ k = 6 ∨ k = 7 := by omega
theorem cs_reg (c : Cel) (o : Value) {k : Int} (h0 : 0 ≤ k) (h1 : k < 4) : (c.cs o)[1 + k.toNat]? = some (.int .i64 (c.reg k)) := by
  rcases lt4 h0 h1 with rfl | rfl | rfl | rfl <;> rfl
theorem cs_setReg (c : Cel) (o : Value) {k : Int} (h0 : 0 ≤ k) (h1 : k < 4) (v : Int) : (c.cs o).setIfInBounds (1 + k.toNat) (.int .i64 v) = (c.setReg k v).cs o := by
  rcases lt4 h0 h1 with rfl | rfl | rfl | rfl <;> rfl
theorem cs_mem (c : Cel) (o : Value) {k : Int} (h0 : 0 ≤ k) (h1 : k < 8) : (c.cs o)[5 + k.toNat]? = some (.int .i64 (c.memo k)) := by
  rcases lt8 h0 h1 with rfl | rfl | rfl | rfl | rfl | rfl | rfl | rfl <;> rfl
theorem cs_setMem (c : Cel) (o : Value) {k : Int} (h0 : 0 ≤ k) (h1 : k < 8) (v : Int) : (c.cs o).setIfInBounds (5 + k.toNat) (.int .i64 v) = (c.setMem k v).cs o := by
  rcases lt8 h0 h1 with rfl | rfl | rfl | rfl | rfl | rfl | rfl | rfl <;> rfl

def truthI (b : Bool) : Int := if b then 1 else 0
theorem bit_t (b : Bool) (w : World) : Calls Tryd.prog 90 #[.bool b] w fun e w' => e = .returned (.int .i64 (truthI b)) ∧ w' = w := bit_any b w
theorem truth_t (b : Bool) (w : World) : Calls Tryd.prog 67 #[.bool b] w fun e w' => e = .returned (.int .i64 (truthI b)) ∧ w' = w := truth_any b w
/-- The cell behind an answer. -/
def Cel.replied (c : Cel) (k reg flag kind val : Int) (is : Bool) : Cel :=
  if k = 12 ∧ kind = 2 then c.setReg reg (truthI is) else if k = 13 then (if is then c.setReg reg val else c).setReg flag (truthI is) else c
theorem sizeWant : (Tryd.prog.info? 83).map (·.size) = some 5 := by kernel_rfl
def wantCs (k ch reg flag val : Int) : Array Value := #[.int .i64 k, .int .i64 ch, .int .i64 reg, .int .i64 flag, .int .i64 val]

theorem reply_in {k reg flag kind : Int} (he : replyE true k reg flag kind = 0) : (k = 12 ∨ k = 13) ∧ (kind = 1 ∨ kind = 2) ∧ (0 ≤ reg ∧ reg < 4) ∧ 0 ≤ flag ∧ flag < 4 := by
  unfold replyE at he
  simp only [Bool.not_true, Bool.false_eq_true, if_false] at he
  split at he
  · omega
  · rename_i h1
    split at he
    · omega
    · rename_i h2
      simp [regB, kindB] at h1 h2
      omega
theorem sizeInt : (Tryd.prog.info? 3).map (·.size) = some 1 := by kernel_rfl
/-- While a cell is turned: it lies in block gd, what comes back will lie in block gr. -/
structure Rp (w : World) (B : Nat) (W : World) (gd gr : Nat) (c : Cel) (o : Value) (xs : List Int) : Prop where
  rd : Rw W gd 54 (c.cs o)
  rr : Rw W gr 54 (celZ.cs (.slice none 0 0))
  d : Below w.heap.size w W
  own : W.ownsRow B 3 1 o xs.length (ints xs)
  gd0 : w.heap.size ≤ gd
  gr0 : w.heap.size ≤ gr
  bs : w.heap.size ≤ B
  ne : gd ≠ gr
  no : ∀ k, o.ownBlock = some k → k ≠ gd ∧ k ≠ gr
theorem Rp.reg {w : World} {B : Nat} {W : World} {gd gr : Nat} {c : Cel} {o : Value} {xs : List Int} (h : Rp w B W gd gr c o xs) {k : Int} (h0 : 0 ≤ k) (h1 : k < 4) (v : Int) :
    Rp w B (W.setCell ⟨gd, 1 + k.toNat, none⟩ (.int .i64 v)) gd gr (c.setReg k v) o xs :=
  ⟨by rw [← cs_setReg c o h0 h1 v]; exact h.rd.set _ _, h.rr.set_other _ (Ne.symm h.ne), h.d.setCell h.gd0 _, own_set h.own _ (fun e => (h.no _ e).1 rfl), h.gd0, h.gr0, h.bs, h.ne, h.no⟩
theorem Rp.drew {w : World} {B : Nat} {W : World} {gd gr : Nat} {c : Cel} {o : Value} {xs : List Int} (h : Rp w B W gd gr c o xs) : Rp w B W.drew gd gr c o xs :=
  ⟨h.rd, h.rr, h.d.drew, h.own, h.gd0, h.gr0, h.bs, h.ne, h.no⟩

set_option maxRecDepth 100000 in
set_option maxHeartbeats 4000000 in
theorem reply_bad (c : Cel) (ao : Option Addr) (n cap : Nat) (k ch reg flag val kind vl : Int) (is : Bool) (f : Bool) (hf : c.fine n = f) (e0 : Int) (he : replyE f k reg flag kind = e0) (hne : e0 ≠ 0) (w : World) :
    Calls Tryd.prog 64 #[c.v (.slice ao n cap), wantV k ch reg flag val, .int .i64 kind, .int .i64 vl, .bool is] w fun e w' => e = .returned (.tuple #[celZ.v (.slice none 0 0), .int .i64 e0]) ∧ Below w.heap.size w w' := by
  have hne' : (e0 != 0) = true := by simpa using hne
  have HC := Lib.hid fun w => he ▸ checkReply_any c ao n cap k ch reg flag val kind f hf w
  clear hf he hne
  rw [Cel.v_cs] at HC
  rw [Cel.v_cs]
  unfold wantV at HC
  unfold wantV
  go_enter Tryd.func64, Tryd.ntmps64
  go_wp2_with (refine wpList_load_row rfl 54 (.tmp 5) rfl w.heap.size rfl 54 (c.cs (.slice ao n cap)) (0, 0) _ (by repeat (first | exact Rw.new _ _ _ (by first | rfl | (simp; done) | omega | (simp; omega)) | refine Rw.alloc ?_ _)) Tryd.underlying54 rfl sizeCell ?_)
  refine (HC.out _).mono ?_
  rintro e w1 ⟨rfl, b1⟩
  have D : Below w.heap.size w w1 := by
    refine Below.trans ?_ (b1.mono (by first | omega | (simp; done) | (simp; omega)))
    exact (by repeat (first | exact Below.refl _ _ | assumption | refine Below.drew ?_ | refine Below.alloc ?_ (by first | (simp; done) | (simp; omega)) _ | refine Below.setCell ?_ (by first | (simp; done) | (simp; omega)) _))
  have z : w.heap.size + 3 ≤ w1.heap.size := by have := b1.size; simp at this; omega
  have r2 : Rw w1 (w.heap.size + 2) 54 (celZ.cs (.slice none 0 0)) := Rw.up (by repeat (first | exact Rw.new _ _ _ (by first | rfl | (simp; done) | omega | (simp; omega)) | refine Rw.alloc ?_ _)) b1 (by first | omega | (simp; done) | (simp; omega))
  have R2 := Lib.hid r2
  clear b1 HC r2
  go_wp2_with (refine wpList_store_row rfl 54 (.tmp 10) (.tmp 20) rfl (w.heap.size + 2) (celZ.cs (.slice none 0 0)) rfl rfl 54 _ R2.out sizeCell rfl (celZ.cs_one _ rfl) ?_)
  refine bodyPost_ret (results_row_tmp Tryd.results64 _ _ (w.heap.size + 2) _ _ rfl rfl (run_loadVar_row _ _ 54 _ (celZ.cs (.slice none 0 0)) (0, 0) _ (R2.out.row _) Tryd.underlying54 rfl sizeCell)) rfl ⟨rfl, below_row D (by omega) _⟩

set_option maxRecDepth 100000 in
set_option maxHeartbeats 4000000 in
theorem reply_ok (c : Cel) (xs : List Int) (v : Value) (k ch reg flag val kind vl : Int) (is : Bool) (hf : c.fine xs.length = true) (he : replyE true k reg flag kind = 0) (w : World) (hS : Sl w 1 v xs.length (ints xs)) :
    Calls Tryd.prog 64 #[c.v v, wantV k ch reg flag val, .int .i64 kind, .int .i64 vl, .bool is] w fun e w' => ∃ v', e = .returned (.tuple #[(c.replied k reg flag kind vl is).v v', .int .i64 0]) ∧ w'.ownsRow w.heap.size 3 1 v' xs.length (ints xs) ∧ Below w.heap.size w w' := by
  have hl := ((fine_iff c _).1 hf).2.2.2.2.2.2
  obtain ⟨ao, cap, rfl⟩ := hS.form
  have HC := Lib.hid fun w => he ▸ checkReply_any c ao xs.length cap k ch reg flag val kind true hf w
  obtain ⟨hk, hkd, ⟨hr0, hr1⟩, hf0, hf1⟩ := reply_in he
  have HS := Lib.hid hS
  clear hf he hS
  rw [Cel.v_cs] at HC
  rw [Cel.v_cs]
  unfold wantV at HC
  unfold wantV
  go_enter Tryd.func64, Tryd.ntmps64
  go_wp2_with (refine wpList_load_row rfl 54 (.tmp 5) rfl w.heap.size rfl 54 (c.cs (.slice ao xs.length cap)) (0, 0) _ (by repeat (first | exact Rw.new _ _ _ (by first | rfl | (simp; done) | omega | (simp; omega)) | refine Rw.alloc ?_ _)) Tryd.underlying54 rfl sizeCell ?_)
  refine (HC.out _).mono ?_
  rintro e w1 ⟨rfl, b1⟩
  have D : Below w.heap.size w w1 := by
    refine Below.trans ?_ (b1.mono (by first | omega | (simp; done) | (simp; omega)))
    exact (by repeat (first | exact Below.refl _ _ | assumption | refine Below.drew ?_ | refine Below.alloc ?_ (by first | (simp; done) | (simp; omega)) _ | refine Below.setCell ?_ (by first | (simp; done) | (simp; omega)) _))
  have z : w.heap.size + 3 ≤ w1.heap.size := by have := b1.size; simp at this; omega
  have R0 : Rw w1 w.heap.size 54 (c.cs (.slice ao xs.length cap)) := Rw.up (by repeat (first | exact Rw.new _ _ _ (by first | rfl | (simp; done) | omega | (simp; omega)) | refine Rw.alloc ?_ _)) b1 (by first | omega | (simp; done) | (simp; omega))
  have R1 : Rw w1 (w.heap.size + 1) 83 (wantCs k ch reg flag val) := Rw.up (by repeat (first | exact Rw.new _ _ _ (by first | rfl | (simp; done) | omega | (simp; omega)) | refine Rw.alloc ?_ _)) b1 (by first | omega | (simp; done) | (simp; omega))
  have R2 : Rw w1 (w.heap.size + 2) 54 (celZ.cs (.slice none 0 0)) := Rw.up (by repeat (first | exact Rw.new _ _ _ (by first | rfl | (simp; done) | omega | (simp; omega)) | refine Rw.alloc ?_ _)) b1 (by first | omega | (simp; done) | (simp; omega))
  have HD := Lib.hid D
  have H0 := Lib.hid R0
  have H1 := Lib.hid R1
  have H2 := Lib.hid R2
  clear b1 HC D R0 R1 R2
  go_wp2_with (refine wpList_load_row rfl 54 (.tmp 5) rfl w.heap.size rfl 54 (c.cs (.slice ao xs.length cap)) (0, 0) _ H0.out Tryd.underlying54 rfl sizeCell ?_)
  refine (copied_any c xs (by omega) _ _ (HS.out.up HD.out)).mono ?_
  rintro e w2 ⟨v', rfl, o2, b2⟩
  have h2 : w1.heap.size ≤ w2.heap.size := b2.size
  have HDa := HD
  have H1a := H1
  have H2a := H2
  clear HD H1 H2
  have HD := Lib.hid (HDa.out.trans (b2.mono (by omega)))
  have H1 := Lib.hid (H1a.out.up b2 (by omega))
  have H2 := Lib.hid (H2a.out.up b2 (by omega))
  have o2l := own_lt o2
  have o2b := own_block o2
  obtain ⟨ao', cap', rfl⟩ := own_form o2
  have HO := Lib.hid o2
  clear b2 o2 H0 HS
  rw [Cel.v_cs]
  go_wp2_with (refine wpList_store_rowW rfl 54 (.tmp 13) (.tmp 23) rfl w2.heap.size (c.cs (.slice ao' xs.length cap')) rfl rfl 54 (celZ.cs (.slice none 0 0)) (by repeat (first | exact Rw.new _ _ _ (by first | rfl | (simp; done) | omega | (simp; omega)) | refine Rw.alloc ?_ _)) sizeCell rfl (c.cs_one _ rfl) ?_)
  intro W HW
  have hW := HW.out
  have hne : ∀ k, (Value.slice ao' xs.length cap').ownBlock = some k → k < w2.heap.size := o2l
  have RD : Rw W w2.heap.size 54 (c.cs (.slice ao' xs.length cap')) := by
    rw [hW]
    exact Rw.row (cs := celZ.cs (.slice none 0 0)) (by repeat (first | exact Rw.new _ _ _ (by first | rfl | (simp; done) | omega | (simp; omega)) | refine Rw.alloc ?_ _)) _
  have R1 : Rw W (w.heap.size + 1) 83 (wantCs k ch reg flag val) := by
    rw [hW]
    exact (H1.out.alloc _).row_other _ (by omega)
  have R2 : Rw W (w.heap.size + 2) 54 (celZ.cs (.slice none 0 0)) := by
    rw [hW]
    exact (H2.out.alloc _).row_other _ (by omega)
  have D : Below w.heap.size w W := by
    rw [hW]
    exact below_row (HD.out.alloc (by omega) _) (by omega) _
  have O : W.ownsRow w1.heap.size 3 1 (.slice ao' xs.length cap') xs.length (ints xs) := by
    rw [hW]
    refine own_row (own_up HO.out ((Below.refl w2.heap.size w2).alloc (Nat.le_refl _) _) o2l) _ (fun e => by have := o2l _ e; omega)
  have hz : W.heap.size = w2.heap.size + 1 := by rw [hW]; simp
  have w0 := R1.cell (j := 0) (v := .int .i64 k) rfl
  have w2' := R1.cell (j := 2) (v := .int .i64 reg) rfl
  have w3 := R1.cell (j := 3) (v := .int .i64 flag) rfl
  have hw1 : w.heap.size + 1 ≠ w2.heap.size := by omega
  have HR : Hid (Rp w w1.heap.size W w2.heap.size (w.heap.size + 2) c (.slice ao' xs.length cap') xs) := ⟨RD, R2, D, O, by omega, by omega, by omega, by omega, fun k e => by have := o2l k e; have := o2b k e; omega⟩
  clear H1 H2 HD HO RD R2 D O hW HW R1 hne o2l o2b hz H2a H1a HDa
  by_cases h12 : k = 12
  · subst h12
    have ya : W.cell? ⟨w2.heap.size, 1 + reg.toNat, none⟩ = some (.int .i64 (Cel.reg c reg)) := HR.out.rd.cell (cs_reg _ _ hr0 hr1)
    have yb : W.frozen? ⟨w2.heap.size, 1 + reg.toNat, none⟩ = false := HR.out.rd.fr _
    by_cases hq : kind = 2
    · subst hq
      go_wp2
      go_region_with (go_at_call 90; refine (bit_t _ _).mono ?_; rintro e w' ⟨rfl, rfl⟩)
      all_goals
        have HR1 := Lib.hid ((HR.out.reg hr0 hr1 (truthI is)).drew)
        clear HR ya yb
        generalize World.drew _ = W1 at HR1 ⊢
        go_wp2_with (first | (refine wpList_load_row rfl 54 (.tmp 13) rfl (w2.heap.size) rfl 54 (Cel.cs (c.setReg reg (truthI is)) (.slice ao' xs.length cap')) (0, 0) _ HR1.out.rd Tryd.underlying54 rfl sizeCell ?_) | (refine wpList_store_row rfl 54 (.tmp 10) (.tmp 54) rfl (w.heap.size + 2) (Cel.cs (c.setReg reg (truthI is)) (.slice ao' xs.length cap')) rfl rfl 54 _ HR1.out.rr sizeCell rfl (Cel.cs_one _ _ rfl) ?_))
        refine bodyPost_ret (results_row_tmp Tryd.results64 _ _ (w.heap.size + 2) _ _ rfl rfl (run_loadVar_row _ _ 54 _ (Cel.cs (c.setReg reg (truthI is)) (.slice ao' xs.length cap')) (0, 0) _ (HR1.out.rr.row _) Tryd.underlying54 rfl sizeCell)) rfl ⟨_, by simp [Cel.replied, Cel.v_cs, *], own_low (own_row HR1.out.own _ (fun e => (HR1.out.no _ e).2 rfl)) HR1.out.bs, below_row HR1.out.d HR1.out.gr0 _⟩
    · have hq' : (kind == 2) = false := by simpa using hq
      clear ya yb
      go_wp2_with (first | (refine wpList_load_row rfl 54 (.tmp 13) rfl (w2.heap.size) rfl 54 (Cel.cs c (.slice ao' xs.length cap')) (0, 0) _ HR.out.rd Tryd.underlying54 rfl sizeCell ?_) | (refine wpList_store_row rfl 54 (.tmp 10) (.tmp 54) rfl (w.heap.size + 2) (Cel.cs c (.slice ao' xs.length cap')) rfl rfl 54 _ HR.out.rr sizeCell rfl (Cel.cs_one _ _ rfl) ?_))
      refine bodyPost_ret (results_row_tmp Tryd.results64 _ _ (w.heap.size + 2) _ _ rfl rfl (run_loadVar_row _ _ 54 _ (Cel.cs c (.slice ao' xs.length cap')) (0, 0) _ (HR.out.rr.row _) Tryd.underlying54 rfl sizeCell)) rfl ⟨_, by simp [Cel.replied, Cel.v_cs, *], own_low (own_row HR.out.own _ (fun e => (HR.out.no _ e).2 rfl)) HR.out.bs, below_row HR.out.d HR.out.gr0 _⟩
  · have h13 : k = 13 := by omega
    subst h13
    cases is
    · have ya : W.cell? ⟨w2.heap.size, 1 + flag.toNat, none⟩ = some (.int .i64 (Cel.reg c flag)) := HR.out.rd.cell (cs_reg _ _ hf0 hf1)
      have yb : W.frozen? ⟨w2.heap.size, 1 + flag.toNat, none⟩ = false := HR.out.rd.fr _
      go_wp2
      go_region_with (go_at_call 90; refine (bit_t _ _).mono ?_; rintro e w' ⟨rfl, rfl⟩)
      all_goals
        have HR1 := Lib.hid ((HR.out.reg hf0 hf1 (truthI false)).drew)
        clear HR ya yb
        generalize World.drew _ = W1 at HR1 ⊢
        go_wp2_with (first | (refine wpList_load_row rfl 54 (.tmp 13) rfl (w2.heap.size) rfl 54 (Cel.cs (c.setReg flag (truthI false)) (.slice ao' xs.length cap')) (0, 0) _ HR1.out.rd Tryd.underlying54 rfl sizeCell ?_) | (refine wpList_store_row rfl 54 (.tmp 10) (.tmp 54) rfl (w.heap.size + 2) (Cel.cs (c.setReg flag (truthI false)) (.slice ao' xs.length cap')) rfl rfl 54 _ HR1.out.rr sizeCell rfl (Cel.cs_one _ _ rfl) ?_))
        refine bodyPost_ret (results_row_tmp Tryd.results64 _ _ (w.heap.size + 2) _ _ rfl rfl (run_loadVar_row _ _ 54 _ (Cel.cs (c.setReg flag (truthI false)) (.slice ao' xs.length cap')) (0, 0) _ (HR1.out.rr.row _) Tryd.underlying54 rfl sizeCell)) rfl ⟨_, by simp [Cel.replied, Cel.v_cs, *], own_low (own_row HR1.out.own _ (fun e => (HR1.out.no _ e).2 rfl)) HR1.out.bs, below_row HR1.out.d HR1.out.gr0 _⟩
    · have w3a : (W.setCell ⟨w2.heap.size, 1 + reg.toNat, none⟩ (.int .i64 vl)).cell? ⟨w.heap.size + 1, 3, none⟩ = some (.int .i64 flag) := cl_set (.inl hw1) w3
      go_wp2_with (refine wpList_store_cellW rfl 3 (.tmp 47) (.tmp 45) rfl (w2.heap.size) (1 + reg.toNat) (.int .i64 vl) rfl rfl rfl 54 (c.cs (.slice ao' xs.length cap')) HR.out.rd (by simp [Cel.cs]; omega) sizeInt ?_)
      intro W2 HW2
      rw [← HW2.out] at w3a
      have HR1 : Hid (Rp w w1.heap.size W2 (w2.heap.size) (w.heap.size + 2) (c.setReg reg vl) (.slice ao' xs.length cap') xs) := by
        rw [HW2.out]
        exact HR.out.reg hr0 hr1 vl
      have ya : W2.cell? ⟨w2.heap.size, 1 + flag.toNat, none⟩ = some (.int .i64 (Cel.reg (c.setReg reg vl) flag)) := HR1.out.rd.cell (cs_reg _ _ hf0 hf1)
      have yb : W2.frozen? ⟨w2.heap.size, 1 + flag.toNat, none⟩ = false := HR1.out.rd.fr _
      clear HR w3 w2' HW2
      go_wp2
      go_region_with (go_at_call 90; refine (bit_t _ _).mono ?_; rintro e w' ⟨rfl, rfl⟩)
      all_goals
        have HR2 := Lib.hid ((HR1.out.reg hf0 hf1 (truthI true)).drew)
        clear HR1 ya yb
        generalize World.drew _ = W1 at HR2 ⊢
        go_wp2_with (first | (refine wpList_load_row rfl 54 (.tmp 13) rfl (w2.heap.size) rfl 54 (Cel.cs ((c.setReg reg vl).setReg flag (truthI true)) (.slice ao' xs.length cap')) (0, 0) _ HR2.out.rd Tryd.underlying54 rfl sizeCell ?_) | (refine wpList_store_row rfl 54 (.tmp 10) (.tmp 54) rfl (w.heap.size + 2) (Cel.cs ((c.setReg reg vl).setReg flag (truthI true)) (.slice ao' xs.length cap')) rfl rfl 54 _ HR2.out.rr sizeCell rfl (Cel.cs_one _ _ rfl) ?_))
        refine bodyPost_ret (results_row_tmp Tryd.results64 _ _ (w.heap.size + 2) _ _ rfl rfl (run_loadVar_row _ _ 54 _ (Cel.cs ((c.setReg reg vl).setReg flag (truthI true)) (.slice ao' xs.length cap')) (0, 0) _ (HR2.out.rr.row _) Tryd.underlying54 rfl sizeCell)) rfl ⟨_, by simp [Cel.replied, Cel.v_cs, *], own_low (own_row HR2.out.own _ (fun e => (HR2.out.no _ e).2 rfl)) HR2.out.bs, below_row HR2.out.d HR2.out.gr0 _⟩

set_option maxRecDepth 100000 in
set_option maxHeartbeats 4000000 in
/-- The reference's ReplyOf. -/
theorem replyOf_any (c : Cel) (xs : List Int) (v : Value) (k ch reg flag val kind vl : Int) (is : Bool) (hl : xs.length ≤ 16) (he : replyE true k reg flag kind = 0) (w : World) (hS : Sl w 1 v xs.length (ints xs)) :
    Calls Tryd.prog 42 #[c.v v, wantV k ch reg flag val, .int .i64 kind, .int .i64 vl, .bool is] w fun e w' => ∃ v', e = .returned ((c.replied k reg flag kind vl is).v v') ∧ w'.ownsRow w.heap.size 3 1 v' xs.length (ints xs) ∧ Below w.heap.size w w' := by
  obtain ⟨ao, cap, rfl⟩ := hS.form
  obtain ⟨hk, hkd, ⟨hr0, hr1⟩, hf0, hf1⟩ := reply_in he
  have HS := Lib.hid hS
  clear he hS
  rw [Cel.v_cs]
  unfold wantV
  go_enter Tryd.func42, Tryd.ntmps42
  go_wp2_with (refine wpList_load_row rfl 54 (.tmp 5) rfl w.heap.size rfl 54 (c.cs (.slice ao xs.length cap)) (0, 0) _ (by repeat (first | exact Rw.new _ _ _ (by first | rfl | (simp; done) | omega | (simp; omega)) | refine Rw.alloc ?_ _)) Tryd.underlying54 rfl sizeCell ?_)
  refine (ownCell_any c xs (by omega) _ _ (HS.out.up (by repeat (first | exact Below.refl _ _ | assumption | refine Below.drew ?_ | refine Below.alloc ?_ (by first | (simp; done) | (simp; omega)) _ | refine Below.setCell ?_ (by first | (simp; done) | (simp; omega)) _)))).mono ?_
  rintro e w1 ⟨v', rfl, o2, b1⟩
  have D : Below w.heap.size w w1 := by
    refine Below.trans ?_ (b1.mono (by first | omega | (simp; done) | (simp; omega)))
    exact (by repeat (first | exact Below.refl _ _ | assumption | refine Below.drew ?_ | refine Below.alloc ?_ (by first | (simp; done) | (simp; omega)) _ | refine Below.setCell ?_ (by first | (simp; done) | (simp; omega)) _))
  have z : w.heap.size + 3 ≤ w1.heap.size := by have := b1.size; simp at this; omega
  have R0 : Rw w1 w.heap.size 54 (c.cs (.slice ao xs.length cap)) := Rw.up (by repeat (first | exact Rw.new _ _ _ (by first | rfl | (simp; done) | omega | (simp; omega)) | refine Rw.alloc ?_ _)) b1 (by first | omega | (simp; done) | (simp; omega))
  have R1 : Rw w1 (w.heap.size + 1) 83 (wantCs k ch reg flag val) := Rw.up (by repeat (first | exact Rw.new _ _ _ (by first | rfl | (simp; done) | omega | (simp; omega)) | refine Rw.alloc ?_ _)) b1 (by first | omega | (simp; done) | (simp; omega))
  have R2 : Rw w1 (w.heap.size + 2) 54 (celZ.cs (.slice none 0 0)) := Rw.up (by repeat (first | exact Rw.new _ _ _ (by first | rfl | (simp; done) | omega | (simp; omega)) | refine Rw.alloc ?_ _)) b1 (by first | omega | (simp; done) | (simp; omega))
  have o2b := own_block o2
  obtain ⟨ao', cap', rfl⟩ := own_form o2
  have HD := Lib.hid D
  have H0 := Lib.hid R0
  have H1 := Lib.hid R1
  have H2 := Lib.hid R2
  have HO := Lib.hid o2
  clear b1 D R0 R1 R2 HS o2
  rw [Cel.v_cs]
  go_wp2_with (refine wpList_store_rowW rfl 54 (.tmp 5) (.tmp 12) rfl w.heap.size (c.cs (.slice ao' xs.length cap')) rfl rfl 54 (c.cs (.slice ao xs.length cap)) H0.out sizeCell rfl (c.cs_one _ rfl) ?_)
  intro W HW
  have hW := HW.out
  have o2c : ∀ k, (Value.slice ao' xs.length cap').ownBlock = some k → w.heap.size + 3 ≤ k := fun k e => by have := o2b k e; simp at this; omega
  have HR : Hid (Rp w (w.heap.size + 3) W w.heap.size (w.heap.size + 2) c (.slice ao' xs.length cap') xs) := by
    rw [hW]
    exact ⟨H0.out.row _, H2.out.row_other _ (by omega), below_row HD.out (Nat.le_refl _) _, own_row (by simpa using HO.out) _ (fun e => by have := o2c _ e; omega), Nat.le_refl _, by omega, by omega, by omega, fun k e => by have := o2c k e; omega⟩
  have R1 : Rw W (w.heap.size + 1) 83 (wantCs k ch reg flag val) := by
    rw [hW]
    exact H1.out.row_other _ (by omega)
  have w0 := R1.cell (j := 0) (v := .int .i64 k) rfl
  have w2' := R1.cell (j := 2) (v := .int .i64 reg) rfl
  have w3 := R1.cell (j := 3) (v := .int .i64 flag) rfl
  have hw1 : w.heap.size + 1 ≠ w.heap.size := by omega
  clear H0 H1 H2 HD HO hW HW R1 o2b o2c
  by_cases h12 : k = 12
  · subst h12
    have ya : W.cell? ⟨w.heap.size, 1 + reg.toNat, none⟩ = some (.int .i64 (Cel.reg c reg)) := HR.out.rd.cell (cs_reg _ _ hr0 hr1)
    have yb : W.frozen? ⟨w.heap.size, 1 + reg.toNat, none⟩ = false := HR.out.rd.fr _
    by_cases hq : kind = 2
    · subst hq
      go_wp2
      go_region_with (go_at_call 67; refine (truth_t _ _).mono ?_; rintro e w' ⟨rfl, rfl⟩)
      all_goals
        have HR1 := Lib.hid ((HR.out.reg hr0 hr1 (truthI is)).drew)
        clear HR ya yb
        generalize World.drew _ = W1 at HR1 ⊢
        go_wp2_with (first | (refine wpList_load_row rfl 54 (.tmp 5) rfl (w.heap.size) rfl 54 (Cel.cs (c.setReg reg (truthI is)) (.slice ao' xs.length cap')) (0, 0) _ HR1.out.rd Tryd.underlying54 rfl sizeCell ?_) | (refine wpList_store_row rfl 54 (.tmp 10) (.tmp 43) rfl (w.heap.size + 2) (Cel.cs (c.setReg reg (truthI is)) (.slice ao' xs.length cap')) rfl rfl 54 _ HR1.out.rr sizeCell rfl (Cel.cs_one _ _ rfl) ?_))
        refine bodyPost_ret (results_cell_row Tryd.results42 _ _ (w.heap.size + 2) 54 (Cel.cs (c.setReg reg (truthI is)) (.slice ao' xs.length cap')) (0, 0) _ rfl (HR1.out.rr.row _) Tryd.underlying54 rfl sizeCell) rfl ⟨_, by simp [Cel.replied, Cel.v_cs, *], own_low (own_row HR1.out.own _ (fun e => (HR1.out.no _ e).2 rfl)) HR1.out.bs, below_row HR1.out.d HR1.out.gr0 _⟩
    · have hq' : (kind == 2) = false := by simpa using hq
      clear ya yb
      go_wp2_with (first | (refine wpList_load_row rfl 54 (.tmp 5) rfl (w.heap.size) rfl 54 (Cel.cs c (.slice ao' xs.length cap')) (0, 0) _ HR.out.rd Tryd.underlying54 rfl sizeCell ?_) | (refine wpList_store_row rfl 54 (.tmp 10) (.tmp 43) rfl (w.heap.size + 2) (Cel.cs c (.slice ao' xs.length cap')) rfl rfl 54 _ HR.out.rr sizeCell rfl (Cel.cs_one _ _ rfl) ?_))
      refine bodyPost_ret (results_cell_row Tryd.results42 _ _ (w.heap.size + 2) 54 (Cel.cs c (.slice ao' xs.length cap')) (0, 0) _ rfl (HR.out.rr.row _) Tryd.underlying54 rfl sizeCell) rfl ⟨_, by simp [Cel.replied, Cel.v_cs, *], own_low (own_row HR.out.own _ (fun e => (HR.out.no _ e).2 rfl)) HR.out.bs, below_row HR.out.d HR.out.gr0 _⟩
  · have h13 : k = 13 := by omega
    subst h13
    cases is
    · have ya : W.cell? ⟨w.heap.size, 1 + flag.toNat, none⟩ = some (.int .i64 (Cel.reg c flag)) := HR.out.rd.cell (cs_reg _ _ hf0 hf1)
      have yb : W.frozen? ⟨w.heap.size, 1 + flag.toNat, none⟩ = false := HR.out.rd.fr _
      go_wp2
      go_region_with (go_at_call 67; refine (truth_t _ _).mono ?_; rintro e w' ⟨rfl, rfl⟩)
      all_goals
        have HR1 := Lib.hid ((HR.out.reg hf0 hf1 (truthI false)).drew)
        clear HR ya yb
        generalize World.drew _ = W1 at HR1 ⊢
        go_wp2_with (first | (refine wpList_load_row rfl 54 (.tmp 5) rfl (w.heap.size) rfl 54 (Cel.cs (c.setReg flag (truthI false)) (.slice ao' xs.length cap')) (0, 0) _ HR1.out.rd Tryd.underlying54 rfl sizeCell ?_) | (refine wpList_store_row rfl 54 (.tmp 10) (.tmp 43) rfl (w.heap.size + 2) (Cel.cs (c.setReg flag (truthI false)) (.slice ao' xs.length cap')) rfl rfl 54 _ HR1.out.rr sizeCell rfl (Cel.cs_one _ _ rfl) ?_))
        refine bodyPost_ret (results_cell_row Tryd.results42 _ _ (w.heap.size + 2) 54 (Cel.cs (c.setReg flag (truthI false)) (.slice ao' xs.length cap')) (0, 0) _ rfl (HR1.out.rr.row _) Tryd.underlying54 rfl sizeCell) rfl ⟨_, by simp [Cel.replied, Cel.v_cs, *], own_low (own_row HR1.out.own _ (fun e => (HR1.out.no _ e).2 rfl)) HR1.out.bs, below_row HR1.out.d HR1.out.gr0 _⟩
    · have w3a : (W.setCell ⟨w.heap.size, 1 + reg.toNat, none⟩ (.int .i64 vl)).cell? ⟨w.heap.size + 1, 3, none⟩ = some (.int .i64 flag) := cl_set (.inl hw1) w3
      go_wp2_with (refine wpList_store_cellW rfl 3 (.tmp 36) (.tmp 34) rfl (w.heap.size) (1 + reg.toNat) (.int .i64 vl) rfl rfl rfl 54 (c.cs (.slice ao' xs.length cap')) HR.out.rd (by simp [Cel.cs]; omega) sizeInt ?_)
      intro W2 HW2
      rw [← HW2.out] at w3a
      have HR1 : Hid (Rp w (w.heap.size + 3) W2 (w.heap.size) (w.heap.size + 2) (c.setReg reg vl) (.slice ao' xs.length cap') xs) := by
        rw [HW2.out]
        exact HR.out.reg hr0 hr1 vl
      have ya : W2.cell? ⟨w.heap.size, 1 + flag.toNat, none⟩ = some (.int .i64 (Cel.reg (c.setReg reg vl) flag)) := HR1.out.rd.cell (cs_reg _ _ hf0 hf1)
      have yb : W2.frozen? ⟨w.heap.size, 1 + flag.toNat, none⟩ = false := HR1.out.rd.fr _
      clear HR w3 w2' HW2
      go_wp2
      go_region_with (go_at_call 67; refine (truth_t _ _).mono ?_; rintro e w' ⟨rfl, rfl⟩)
      all_goals
        have HR2 := Lib.hid ((HR1.out.reg hf0 hf1 (truthI true)).drew)
        clear HR1 ya yb
        generalize World.drew _ = W1 at HR2 ⊢
        go_wp2_with (first | (refine wpList_load_row rfl 54 (.tmp 5) rfl (w.heap.size) rfl 54 (Cel.cs ((c.setReg reg vl).setReg flag (truthI true)) (.slice ao' xs.length cap')) (0, 0) _ HR2.out.rd Tryd.underlying54 rfl sizeCell ?_) | (refine wpList_store_row rfl 54 (.tmp 10) (.tmp 43) rfl (w.heap.size + 2) (Cel.cs ((c.setReg reg vl).setReg flag (truthI true)) (.slice ao' xs.length cap')) rfl rfl 54 _ HR2.out.rr sizeCell rfl (Cel.cs_one _ _ rfl) ?_))
        refine bodyPost_ret (results_cell_row Tryd.results42 _ _ (w.heap.size + 2) 54 (Cel.cs ((c.setReg reg vl).setReg flag (truthI true)) (.slice ao' xs.length cap')) (0, 0) _ rfl (HR2.out.rr.row _) Tryd.underlying54 rfl sizeCell) rfl ⟨_, by simp [Cel.replied, Cel.v_cs, *], own_low (own_row HR2.out.own _ (fun e => (HR2.out.no _ e).2 rfl)) HR2.out.bs, below_row HR2.out.d HR2.out.gr0 _⟩
end Go.Proofs.YtjhjaafoikadgaaDoor
