/- The errors of Step: checkStep and the reference's StepError. -/
import Derived.Test.YtbmocfgkocncpaaDoorCell1
namespace Go.Proofs.YtbmocfgkocncpaaDoor
set_option linter.unusedSimpArgs false
set_option linter.unusedVariables false
open Go.RowKit Go.Sort

/-- d: the program's error; i: how many come in; f: is the cell right; r: how many it has read. -/
def stepE (d : Int) (i : Nat) (f : Bool) (r : Int) : Int := if d != 0 then d else if 12 < i then 2 else if !f then 1 else if (i : Int) < r then 1 else 0
def partV (v u : Value) : Value := .agg #[v, u]

set_option maxRecDepth 100000 in
set_option maxHeartbeats 4000000 in
theorem checkStep_any (l : List Ins) (v : Value) (iao : Option Addr) (i icap : Nat) (c : Cel) (ao : Option Addr) (n cap : Nat) (d : Int) (hd : chkC l = d) (f : Bool) (hf : c.fine n = f) (w : World) (he : Env w) (hS : Sl w 4 v l.length (codeC l)) :
    Calls Tryd.prog 17 #[partV v (.slice iao i icap), c.v (.slice ao n cap)] w fun e w' => e = .returned (.int .i64 (stepE d i f c.read)) ∧ Below w.heap.size w w' := by
  have hE : c.err n = if f then 0 else 1 := by rw [← hf]; rfl
  have hcc : ∀ w, Calls Tryd.prog 10 #[c.v (.slice ao n cap)] w fun e w' => e = .returned (.int .i64 (if f then 0 else 1)) ∧ Below w.heap.size w w' := fun w => hE ▸ cellCheck_any c ao n cap w
  have hkk : ∀ w, Env w → Sl w 4 v l.length (codeC l) → Calls Tryd.prog 29 #[v] w fun e w' => e = .returned (.int .i64 d) ∧ Below w.heap.size w w' := fun w he hS => hd ▸ codeCheck_any l v w he hS
  have HC := Lib.hid hcc
  have HK := Lib.hid hkk
  have HS := Lib.hid hS
  clear hE hf hcc hkk hS hd
  unfold Cel.v at HC
  unfold Cel.v partV
  go_enter Tryd.func17, Tryd.ntmps17
  go_wp2_with fail
  refine (HK.out _ (he.up (by repeat (first | exact Below.refl _ _ | assumption | refine Below.drew ?_ | refine Below.alloc ?_ (by first | (simp; done) | (simp; omega)) _ | refine Below.setCell ?_ (by first | (simp; done) | (simp; omega)) _))) (HS.out.up (by repeat (first | exact Below.refl _ _ | assumption | refine Below.drew ?_ | refine Below.alloc ?_ (by first | (simp; done) | (simp; omega)) _ | refine Below.setCell ?_ (by first | (simp; done) | (simp; omega)) _)))).mono ?_
  rintro e w1 ⟨rfl, b1⟩
  have k0 : w1.cell? ⟨w.heap.size + 1, 0, none⟩ = some (.int .i64 c.at_) := bcl b1 (by simp) (by simp)
  have k1 : w1.cell? ⟨w.heap.size + 1, 1, none⟩ = some (.int .i64 c.r0) := bcl b1 (by simp) (by simp)
  have k2 : w1.cell? ⟨w.heap.size + 1, 2, none⟩ = some (.int .i64 c.r1) := bcl b1 (by simp) (by simp)
  have k3 : w1.cell? ⟨w.heap.size + 1, 3, none⟩ = some (.int .i64 c.r2) := bcl b1 (by simp) (by simp)
  have k4 : w1.cell? ⟨w.heap.size + 1, 4, none⟩ = some (.int .i64 c.r3) := bcl b1 (by simp) (by simp)
  have k5 : w1.cell? ⟨w.heap.size + 1, 5, none⟩ = some (.int .i64 c.m0) := bcl b1 (by simp) (by simp)
  have k6 : w1.cell? ⟨w.heap.size + 1, 6, none⟩ = some (.int .i64 c.m1) := bcl b1 (by simp) (by simp)
  have k7 : w1.cell? ⟨w.heap.size + 1, 7, none⟩ = some (.int .i64 c.m2) := bcl b1 (by simp) (by simp)
  have k8 : w1.cell? ⟨w.heap.size + 1, 8, none⟩ = some (.int .i64 c.m3) := bcl b1 (by simp) (by simp)
  have k9 : w1.cell? ⟨w.heap.size + 1, 9, none⟩ = some (.int .i64 c.m4) := bcl b1 (by simp) (by simp)
  have k10 : w1.cell? ⟨w.heap.size + 1, 10, none⟩ = some (.int .i64 c.m5) := bcl b1 (by simp) (by simp)
  have k11 : w1.cell? ⟨w.heap.size + 1, 11, none⟩ = some (.int .i64 c.m6) := bcl b1 (by simp) (by simp)
  have k12 : w1.cell? ⟨w.heap.size + 1, 12, none⟩ = some (.int .i64 c.m7) := bcl b1 (by simp) (by simp)
  have k13 : w1.cell? ⟨w.heap.size + 1, 13, none⟩ = some (.int .i64 c.read) := bcl b1 (by simp) (by simp)
  have k14 : w1.cell? ⟨w.heap.size + 1, 14, none⟩ = some (.slice ao n cap) := bcl b1 (by simp) (by simp)
  have k15 : w1.cell? ⟨w.heap.size + 1, 15, none⟩ = some (.int .i64 c.en) := bcl b1 (by simp) (by simp)
  have p1 : w1.cell? ⟨w.heap.size, 1, none⟩ = some (.slice iao i icap) := bcl b1 (by simp; omega) (cl_alloc _ (by simp) (by simp))
  have hz1 : w.heap.size + 1 < w1.heap.size := by have := b1.size; simp at this; omega
  have u1 : Below w.heap.size w w1 := by
    refine Below.trans ?_ (b1.mono (by simp; omega))
    exact (by repeat (first | exact Below.refl _ _ | assumption | refine Below.drew ?_ | refine Below.alloc ?_ (by first | (simp; done) | (simp; omega)) _ | refine Below.setCell ?_ (by first | (simp; done) | (simp; omega)) _))
  clear b1 HK
  by_cases h0 : d = 0
  · subst h0
    by_cases h1 : 12 < i
    · have h1' : (12 : Int) < i := by omega
      go_wp2
      go_ret
      exact ⟨ret_int (by simp [stepE, h1]), u1⟩
    · have h1' : ¬ (12 : Int) < i := by omega
      go_wp2_with fail
      refine (HC.out _).mono ?_
      rintro e w2 ⟨rfl, b2⟩
      have k13 := bcl b2 hz1 k13
      have p1 := bcl b2 (Nat.lt_of_succ_lt hz1) p1
      have u2 := u1.trans (b2.mono u1.size)
      clear b2 HC k0 k1 k2 k3 k4 k5 k6 k7 k8 k9 k10 k11 k12 k14 k15
      cases f
      all_goals go_wp2
      all_goals go_ret
      all_goals refine ⟨ret_int ?_, u2⟩
      all_goals first
        | (simp_all [stepE]; done)
        | (unfold stepE; rw [if_neg (by simp), if_neg h1, if_neg (by simp), if_neg (by omega)])
  · have h0' : (d != 0) = true := by simpa using h0
    go_wp2
    go_ret
    exact ⟨ret_int (by simp [stepE, h0]), u1⟩

set_option maxRecDepth 100000 in
set_option maxHeartbeats 4000000 in
theorem stepError_any (l : List Ins) (hok : ∀ j (hj : j < l.length), l[j].ok) (v : Value) (iao : Option Addr) (i icap : Nat) (c : Cel) (ao : Option Addr) (n cap : Nat) (d : Int) (hd : chkC l = d) (f : Bool) (hf : c.fine n = f) (w : World) (hS : Sl w 4 v l.length (codeC l)) :
    Calls Tryd.prog 7 #[partV v (.slice iao i icap), c.v (.slice ao n cap)] w fun e w' => e = .returned (.int .i64 (stepE d i f c.read)) ∧ Below w.heap.size w w' := by
  have hcc : ∀ w, Calls Tryd.prog 11 #[c.v (.slice ao n cap)] w fun e w' => e = .returned (.bool f) ∧ Below w.heap.size w w' := fun w => hf ▸ cellFine_any c ao n cap w
  have hkk : ∀ w, Sl w 4 v l.length (codeC l) → Calls Tryd.prog 20 #[v] w fun e w' => e = .returned (.int .i64 d) ∧ Below w.heap.size w w' := fun w hS => hd ▸ codeRef_any l hok v w hS
  have HC := Lib.hid hcc
  have HK := Lib.hid hkk
  have HS := Lib.hid hS
  clear hf hcc hkk hS hd hok
  unfold Cel.v at HC
  unfold Cel.v partV
  go_enter Tryd.func7, Tryd.ntmps7
  go_wp2_with fail
  refine (HK.out _ (HS.out.up (by repeat (first | exact Below.refl _ _ | assumption | refine Below.drew ?_ | refine Below.alloc ?_ (by first | (simp; done) | (simp; omega)) _ | refine Below.setCell ?_ (by first | (simp; done) | (simp; omega)) _)))).mono ?_
  rintro e w1 ⟨rfl, b1⟩
  have k0 : w1.cell? ⟨w.heap.size + 1, 0, none⟩ = some (.int .i64 c.at_) := bcl b1 (by simp) (by simp)
  have k1 : w1.cell? ⟨w.heap.size + 1, 1, none⟩ = some (.int .i64 c.r0) := bcl b1 (by simp) (by simp)
  have k2 : w1.cell? ⟨w.heap.size + 1, 2, none⟩ = some (.int .i64 c.r1) := bcl b1 (by simp) (by simp)
  have k3 : w1.cell? ⟨w.heap.size + 1, 3, none⟩ = some (.int .i64 c.r2) := bcl b1 (by simp) (by simp)
  have k4 : w1.cell? ⟨w.heap.size + 1, 4, none⟩ = some (.int .i64 c.r3) := bcl b1 (by simp) (by simp)
  have k5 : w1.cell? ⟨w.heap.size + 1, 5, none⟩ = some (.int .i64 c.m0) := bcl b1 (by simp) (by simp)
  have k6 : w1.cell? ⟨w.heap.size + 1, 6, none⟩ = some (.int .i64 c.m1) := bcl b1 (by simp) (by simp)
  have k7 : w1.cell? ⟨w.heap.size + 1, 7, none⟩ = some (.int .i64 c.m2) := bcl b1 (by simp) (by simp)
  have k8 : w1.cell? ⟨w.heap.size + 1, 8, none⟩ = some (.int .i64 c.m3) := bcl b1 (by simp) (by simp)
  have k9 : w1.cell? ⟨w.heap.size + 1, 9, none⟩ = some (.int .i64 c.m4) := bcl b1 (by simp) (by simp)
  have k10 : w1.cell? ⟨w.heap.size + 1, 10, none⟩ = some (.int .i64 c.m5) := bcl b1 (by simp) (by simp)
  have k11 : w1.cell? ⟨w.heap.size + 1, 11, none⟩ = some (.int .i64 c.m6) := bcl b1 (by simp) (by simp)
  have k12 : w1.cell? ⟨w.heap.size + 1, 12, none⟩ = some (.int .i64 c.m7) := bcl b1 (by simp) (by simp)
  have k13 : w1.cell? ⟨w.heap.size + 1, 13, none⟩ = some (.int .i64 c.read) := bcl b1 (by simp) (by simp)
  have k14 : w1.cell? ⟨w.heap.size + 1, 14, none⟩ = some (.slice ao n cap) := bcl b1 (by simp) (by simp)
  have k15 : w1.cell? ⟨w.heap.size + 1, 15, none⟩ = some (.int .i64 c.en) := bcl b1 (by simp) (by simp)
  have p1 : w1.cell? ⟨w.heap.size, 1, none⟩ = some (.slice iao i icap) := bcl b1 (by simp; omega) (cl_alloc _ (by simp) (by simp))
  have hz1 : w.heap.size + 1 < w1.heap.size := by have := b1.size; simp at this; omega
  have u1 : Below w.heap.size w w1 := by
    refine Below.trans ?_ (b1.mono (by simp; omega))
    exact (by repeat (first | exact Below.refl _ _ | assumption | refine Below.drew ?_ | refine Below.alloc ?_ (by first | (simp; done) | (simp; omega)) _ | refine Below.setCell ?_ (by first | (simp; done) | (simp; omega)) _))
  clear b1 HK
  by_cases h0 : d = 0
  · subst h0
    by_cases h1 : 12 < i
    · have h1' : (12 : Int) < i := by omega
      go_wp2
      go_ret
      exact ⟨ret_int (by simp [stepE, h1]), u1⟩
    · have h1' : ¬ (12 : Int) < i := by omega
      go_wp2_with fail
      refine (HC.out _).mono ?_
      rintro e w2 ⟨rfl, b2⟩
      have k13 := bcl b2 hz1 k13
      have p1 := bcl b2 (Nat.lt_of_succ_lt hz1) p1
      have u2 := u1.trans (b2.mono u1.size)
      clear b2 HC k0 k1 k2 k3 k4 k5 k6 k7 k8 k9 k10 k11 k12 k14 k15
      cases f
      all_goals go_wp2
      all_goals go_ret
      all_goals refine ⟨ret_int ?_, u2⟩
      all_goals first
        | (simp_all [stepE]; done)
        | (unfold stepE; rw [if_neg (by simp), if_neg h1, if_neg (by simp), if_neg (by omega)])
  · have h0' : (d != 0) = true := by simpa using h0
    go_wp2
    go_ret
    exact ⟨ret_int (by simp [stepE, h0]), u1⟩
end Go.Proofs.YtbmocfgkocncpaaDoor
