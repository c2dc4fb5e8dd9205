/- How edges are held against each other. -/
import Derived.Test.YtbkdoohhdkahiaaGreatDoorK0
import Derived.Sort.Grow
import Derived.Deep.CutRange
namespace Go.Proofs.YtbkdoohhdkahiaaGreatDoor
set_option linter.unusedSimpArgs false
set_option linter.unusedVariables false
open Go.RowKit Go.Sort
def cmpI (x y : Int) : Int := if x < y then -1 else if y < x then 1 else 0
def orI (a b : Int) : Int := if a ≠ 0 then a else b
structure Edg where
  fr : Int
  tt : Int
  deriving DecidableEq
def Edg.cells (e : Edg) : List Value := [.int .i64 e.fr, .int .i64 e.tt]
def cmpE (a b : Edg) : Int := orI (cmpI a.fr b.fr) (cmpI a.tt b.tt)
theorem isNaN_any (x : Int) (w : World) : Calls Tryz.prog 173 #[.int .i64 x] w fun e w' => e = .returned (.bool false) ∧ w' = w := by
  have h : (x != x) = false := by simp
  go_enter Tryz.func173, Tryz.ntmps173
  go_wp2
  go_ret
  exact ⟨rfl, rfl⟩
set_option maxRecDepth 100000 in
theorem compare_any (x y : Int) (w : World) (r : Int) (hr : cmpI x y = r) : Calls Tryz.prog 122 #[.int .i64 x, .int .i64 y] w fun e w' => e = .returned (.int .i64 r) ∧ w' = w := by
  subst hr
  unfold cmpI
  by_cases h1 : x < y
  · rw [if_pos h1]
    go_enter Tryz.func122, Tryz.ntmps122
    go_wp2_with (go_at_call 173; refine (isNaN_any _ _).mono ?_; rintro e w2 ⟨rfl, rfl⟩)
    go_ret
    exact ⟨rfl, rfl⟩
  · rw [if_neg h1]
    by_cases h2 : y < x
    · rw [if_pos h2]
      go_enter Tryz.func122, Tryz.ntmps122
      go_wp2_with (go_at_call 173; refine (isNaN_any _ _).mono ?_; rintro e w2 ⟨rfl, rfl⟩)
      go_ret
      exact ⟨rfl, rfl⟩
    · rw [if_neg h2]
      go_enter Tryz.func122, Tryz.ntmps122
      go_wp2_with (go_at_call 173; refine (isNaN_any _ _).mono ?_; rintro e w2 ⟨rfl, rfl⟩)
      go_ret
      exact ⟨rfl, rfl⟩
set_option maxRecDepth 100000 in
theorem or_any (a b : Int) (g : Nat) (w : World) (h0 : w.cell? ⟨g, 0, none⟩ = some (.int .i64 a)) (h1 : w.cell? ⟨g, 1, none⟩ = some (.int .i64 b)) (r : Int) (hr : orI a b = r) : Calls Tryz.prog 121 #[.slice (some ⟨g, 0, none⟩) 2 2] w fun e w' => e = .returned (.int .i64 r) ∧ w' = w := by
  have H0 := Lib.hid h0
  have H1 := Lib.hid h1
  clear h0 h1
  go_enter Tryz.func121, Tryz.ntmps121
  go_wp2
  go_loopw [8] (fun i wr => ∃ k : Nat, i = .int .i64 k ∧ k ≤ 2 ∧ Hid (1 ≤ k → a = 0) ∧ Hid (2 ≤ k → b = 0) ∧ wr = w) (fun i _ => 2 - (intOf i).toNat)
  case atStart => exact ⟨0, rfl, by omega, Lib.hid (by omega), Lib.hid (by omega), rfl⟩
  case round =>
    obtain ⟨k, rfl, hk, HA, HB, rfl⟩ := hrel
    have hk3 : k = 0 ∨ k = 1 ∨ k = 2 := by omega
    rcases hk3 with rfl | rfl | rfl
    · have c0 := H0.out
      by_cases ha : a = 0
      · have ha' : (a != 0) = false := by simpa using ha
        have HZ := Lib.hid ha
        clear ha
        go_wp2
        go_roundw
        case rel => exact ⟨1, by go_num, by omega, Lib.hid (fun _ => HZ.out), Lib.hid (by omega), by first | rfl | trivial⟩
        case measure => simp [intOf]
      · have ha' : (a != 0) = true := by simpa using ha
        have HR : Hid (a = r) := by
          show _ = _
          rw [← hr, orI, if_pos ha]
        clear ha hr
        go_wp2
        go_ret
        exact ⟨ret_int HR.out, rfl⟩
    · have c1 := H1.out
      by_cases hb : b = 0
      · have hb' : (b != 0) = false := by simpa using hb
        have HZ := Lib.hid hb
        clear hb
        go_wp2
        go_roundw
        case rel => exact ⟨2, by go_num, by omega, Lib.hid (fun _ => HA.out (by omega)), Lib.hid (fun _ => HZ.out), by first | rfl | trivial⟩
        case measure => simp [intOf]
      · have hb' : (b != 0) = true := by simpa using hb
        have HR : Hid (b = r) := by
          show _ = _
          rw [← hr, orI, if_neg (by simpa using HA.out (by omega))]
        clear hb hr
        go_wp2
        go_ret
        exact ⟨ret_int HR.out, rfl⟩
    · have HR : Hid ((0 : Int) = r) := by
        show _ = _
        rw [← hr, orI, if_neg (by simpa using HA.out (by omega)), HB.out (by omega)]
      go_wp2
      go_ret
      exact ⟨ret_int HR.out, rfl⟩
theorem ent_compare : Enters 122 := enters Tryz.func122 (by kernel_rfl) (by kernel_rfl)
theorem ent_or : Enters 121 := enters Tryz.func121 (by kernel_rfl) (by kernel_rfl)
set_option maxRecDepth 100000 in
set_option maxHeartbeats 2000000 in
theorem edges1_any (x y : Edg) (w : World) : Calls Tryz.prog 120 #[.agg #[.int .i64 x.fr, .int .i64 x.tt], .agg #[.int .i64 y.fr, .int .i64 y.tt]] w fun e w' => e = .returned (.int .i64 (cmpE x y)) ∧ ∃ q os, w' = grow (w.drewN q) os := by
  obtain ⟨a, b⟩ := x
  obtain ⟨c, d⟩ := y
  obtain ⟨r1, h1⟩ : ∃ r, cmpI a c = r := ⟨_, rfl⟩
  obtain ⟨r2, h2⟩ : ∃ r, cmpI b d = r := ⟨_, rfl⟩
  obtain ⟨r3, h3⟩ : ∃ r, orI r1 r2 = r := ⟨_, rfl⟩
  have HR : Hid (cmpE ⟨a, b⟩ ⟨c, d⟩ = r3) := by
    show _ = _
    unfold cmpE
    rw [h1, h2, h3]
  have C1 := Lib.hid fun V => compare_any a c V r1 h1
  have C2 := Lib.hid fun V => compare_any b d V r2 h2
  have C3 := Lib.hid fun g V k0 k1 => or_any r1 r2 g V k0 k1 r3 h3
  rw [HR.out]
  simp only
  clear h1 h2 h3 HR
  go_enter Tryz.func120, Tryz.ntmps120
  go_upto_region 1 with fail
  generalize hW : World.alloc _ _ = W
  have RA : Hid (Rw W w.heap.size 53 #[.int .i64 a, .int .i64 b]) := by
    show Rw _ _ _ _
    rw [← hW]
    exact (by repeat (first | exact Rw.new _ _ _ (by first | rfl | (simp; done) | omega | (simp; omega)) | refine Rw.alloc ?_ _))
  have RB : Hid (Rw W (w.heap.size + 1) 53 #[.int .i64 c, .int .i64 d]) := by
    show Rw _ _ _ _
    rw [← hW]
    exact (by repeat (first | exact Rw.new _ _ _ (by first | rfl | (simp; done) | omega | (simp; omega)) | refine Rw.alloc ?_ _))
  have HW : Hid (W = grow w #[.cells #[.int .i64 a, .int .i64 b] 53, .cells #[.int .i64 c, .int .i64 d] 53]) := by
    show _ = _
    rw [← hW, alloc_eq_grow, alloc_eq_grow, grow_grow]
    rfl
  clear hW
  refine region_still (S := fun w' => Below W.heap.size W w') 12 (by kernel_rfl) (Below.refl _ _).drew (fun hHeld => ?_)
  have hq := fun w' (hSw : (fun w' => Below W.heap.size W w') w') => And.intro ((RA.out.up hSw RA.out.lt).cell (j := 0) (v := .int .i64 a) rfl) (And.intro ((RA.out.up hSw RA.out.lt).cell (j := 1) (v := .int .i64 b) rfl) (And.intro ((RB.out.up hSw RB.out.lt).cell (j := 0) (v := .int .i64 c) rfl) ((RB.out.up hSw RB.out.lt).cell (j := 1) (v := .int .i64 d) rfl)))
  refine Still.u 0 [] hHeld hq ?_
  refine Still.u 1 [] hHeld hq ?_
  refine Still.u 2 [] hHeld hq ?_
  refine Still.u 3 [] hHeld hq ?_
  refine Still.u 5 [] hHeld hq ?_
  refine Still.u 6 [] hHeld hq ?_
  refine Still.u 7 [] hHeld hq ?_
  refine Still.u 8 [] hHeld hq ?_
  refine Still.o 4 rfl rfl (fun K hK => ?_)
  refine wp_call 122 _ _ rfl ent_compare #[.int .i64 a, .int .i64 c] (by first | rfl | simp [Act.eval, Act.put]) ((C1.out _).mono ?_)
  rintro e V1 ⟨rfl, rfl⟩
  refine ⟨_, rfl, hK _ _ (fun _ => hHeld) (fun hh => ?_)⟩
  clear hK K hh
  try simp only [Act.put, List.getElem_toArray, List.getElem_cons_zero, List.getElem_cons_succ, List.setIfInBounds_toArray, List.set_cons_zero, List.set_cons_succ]
  refine Still.o 9 rfl rfl (fun K hK => ?_)
  refine wp_call 122 _ _ rfl ent_compare #[.int .i64 b, .int .i64 d] (by first | rfl | simp [Act.eval, Act.put]) ((C2.out _).mono ?_)
  rintro e V1 ⟨rfl, rfl⟩
  refine ⟨_, rfl, hK _ _ (fun _ => hHeld) (fun hh => ?_)⟩
  clear hK K hh
  try simp only [Act.put, List.getElem_toArray, List.getElem_cons_zero, List.getElem_cons_succ, List.setIfInBounds_toArray, List.set_cons_zero, List.set_cons_succ]
  refine Still.o 10 rfl rfl (fun K hK => ?_)
  go_simp
  refine hK _ _ (fun _ => Below.alloc hHeld hHeld.size _) (fun hh => ?_)
  have hHeld2 := hh (by decide)
  clear hK K hh hHeld
  try simp only [Act.put, List.getElem_toArray, List.getElem_cons_zero, List.getElem_cons_succ, List.setIfInBounds_toArray, List.set_cons_zero, List.set_cons_succ]
  refine Still.o 11 rfl rfl (fun K hK => ?_)
  refine wp_call 121 _ _ rfl ent_or #[.slice (some ⟨W.heap.size, 0, none⟩) 2 2] (by first | rfl | simp [Act.eval, Act.put]) ((C3.out W.heap.size _ (Rw.cell (j := 0) (Rw.drew (Rw.new W 3 #[.int .i64 r1, .int .i64 r2] rfl)) rfl) (Rw.cell (j := 1) (Rw.drew (Rw.new W 3 #[.int .i64 r1, .int .i64 r2] rfl)) rfl)).mono ?_)
  rintro e V1 ⟨rfl, rfl⟩
  refine ⟨_, rfl, hK _ _ (fun _ => hHeld2) (fun hh => ?_)⟩
  clear hK K hh
  try simp only [Act.put, List.getElem_toArray, List.getElem_cons_zero, List.getElem_cons_succ, List.setIfInBounds_toArray, List.set_cons_zero, List.set_cons_succ]
  refine Still.o 12 rfl rfl (fun K hK => ?_)
  go_simp
  refine hK _ _ (fun h => absurd rfl h) (fun _ => ?_)
  clear hK K
  refine Still.over (by kernel_rfl) ?_ _
  go_wp2
  go_ret
  refine ⟨rfl, 1, #[.cells #[.int .i64 a, .int .i64 b] 53, .cells #[.int .i64 c, .int .i64 d] 53, .cells #[.int .i64 r1, .int .i64 r2] 3], ?_⟩
  rw [alloc_eq_grow, HW.out, grow_grow]
  rfl
end Go.Proofs.YtbkdoohhdkahiaaGreatDoor
