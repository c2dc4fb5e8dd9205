/- How edges are held against each other. -/
import Derived.Test.YtehhhiodfcdnmaaGreatDoorR0
import Derived.Sort.Grow
import Derived.Deep.CutRange
namespace Go.Proofs.YtehhhiodfcdnmaaGreatDoor
set_option linter.unusedSimpArgs false
set_option linter.unusedVariables false
set_option maxRecDepth 100000
set_option maxHeartbeats 2000000
open Go.RowKit Go.Sort
def cmpI (x y : Int) : Int := if x < y then -1 else if y < x then 1 else 0
def orI (a b : Int) : Int := if a ≠ 0 then a else b
structure Edg where
 fr : Int
 tt : Int
 deriving DecidableEq
def Edg.cells (e : Edg) : List Value := [.int .i64 e.fr, .int .i64 e.tt]
def cmpE (a b : Edg) : Int := orI (cmpI a.fr b.fr) (cmpI a.tt b.tt)
theorem isNaN_any (x : Int) (w : World) : Calls Tryz.prog 133 #[.int .i64 x] w fun e w' => e = .returned (.bool false) ∧ w' = w := by
 have h : (x != x) = false := by simp
 go_enter Tryz.func133, Tryz.ntmps133
 go_wp2
 go_ret
 exact ⟨rfl, rfl⟩
theorem compare_any (x y : Int) (w : World) (r : Int) (hr : cmpI x y = r) : Calls Tryz.prog 98 #[.int .i64 x, .int .i64 y] w fun e w' => e = .returned (.int .i64 r) ∧ w' = w := by
 subst hr
 unfold cmpI
 by_cases h1 : x < y
 ·rw [if_pos h1]
  go_enter Tryz.func98, Tryz.ntmps98
  go_wp2_with (go_at_call 133; refine (isNaN_any _ _).mono ?_; rintro e w2 ⟨rfl, rfl⟩)
  go_ret
  exact ⟨rfl, rfl⟩
 ·rw [if_neg h1]
  by_cases h2 : y < x
  ·rw [if_pos h2]
   go_enter Tryz.func98, Tryz.ntmps98
   go_wp2_with (go_at_call 133; refine (isNaN_any _ _).mono ?_; rintro e w2 ⟨rfl, rfl⟩)
   go_ret
   exact ⟨rfl, rfl⟩
  ·rw [if_neg h2]
   go_enter Tryz.func98, Tryz.ntmps98
   go_wp2_with (go_at_call 133; refine (isNaN_any _ _).mono ?_; rintro e w2 ⟨rfl, rfl⟩)
   go_ret
   exact ⟨rfl, rfl⟩
theorem or_any (a b : Int) (g : Nat) (w : World) (h0 : w.cell? ⟨g, 0, none⟩ = some (.int .i64 a)) (h1 : w.cell? ⟨g, 1, none⟩ = some (.int .i64 b)) (r : Int) (hr : orI a b = r) : Calls Tryz.prog 97 #[.slice (some ⟨g, 0, none⟩) 2 2] w fun e w' => e = .returned (.int .i64 r) ∧ w' = w := by
 have H0 := hd h0
 have H1 := hd h1
 clear h0 h1
 go_enter Tryz.func97, Tryz.ntmps97
 go_wp2
 go_loopw [8] (fun i wr => ∃ k : Nat, i = .int .i64 k ∧ k ≤ 2 ∧ Hid (1 ≤ k → a = 0) ∧ Hid (2 ≤ k → b = 0) ∧ wr = w) (fun i _ => 2 - (intOf i).toNat)
 case atStart => exact ⟨0, rfl, by omega, hd om, hd om, rfl⟩
 case round =>
  obtain ⟨k, rfl, hk, HA, HB, rfl⟩ := hrel
  have hk3 : k = 0 ∨ k = 1 ∨ k = 2 := by omega
  rcases hk3 with rfl | rfl | rfl
  ·have c0 := H0.out
   by_cases ha : a = 0
   ·have ha' : (a != 0) = false := by simpa using ha
    have HZ := hd ha
    clear ha
    go_wp2
    go_roundw
    case rel => exact ⟨1, by go_num, by omega, hd (fun _ => HZ.out), hd om, by first | rfl | trivial⟩
    case measure => simp [intOf]
   ·have ha' : (a != 0) = true := by simpa using ha
    have HR : Hid (a = r) := by
     show _ = _
     rw [← hr, orI, if_pos ha]
    clear ha hr
    go_wp2
    go_ret
    exact ⟨ret_int HR.out, rfl⟩
  ·have c1 := H1.out
   by_cases hb : b = 0
   ·have hb' : (b != 0) = false := by simpa using hb
    have HZ := hd hb
    clear hb
    go_wp2
    go_roundw
    case rel => exact ⟨2, by go_num, by omega, hd (fun _ => HA.out om), hd (fun _ => HZ.out), by first | rfl | trivial⟩
    case measure => simp [intOf]
   ·have hb' : (b != 0) = true := by simpa using hb
    have HR : Hid (b = r) := by
     show _ = _
     rw [← hr, orI, if_neg (by simpa using HA.out om)]
    clear hb hr
    go_wp2
    go_ret
    exact ⟨ret_int HR.out, rfl⟩
  ·have HR : Hid ((0 : Int) = r) := by
    show _ = _
    rw [← hr, orI, if_neg (by simpa using HA.out om), HB.out om]
   go_wp2
   go_ret
   exact ⟨ret_int HR.out, rfl⟩
theorem ent_compare : Enters 98 := enters Tryz.func98 kr kr
theorem ent_or : Enters 97 := enters Tryz.func97 kr kr
theorem edges1_any (x y : Edg) (w : World) : Calls Tryz.prog 96 #[.agg #[.int .i64 x.fr, .int .i64 x.tt], .agg #[.int .i64 y.fr, .int .i64 y.tt]] w fun e w' => e = .returned (.int .i64 (cmpE x y)) ∧ ∃ q os, w' = grow (w.drewN q) os := by
 obtain ⟨a, b⟩ := x
 obtain ⟨c, d⟩ := y
 obtain ⟨r1, h1⟩ : ∃ r, cmpI a c = r := ⟨_, rfl⟩
 obtain ⟨r2, h2⟩ : ∃ r, cmpI b d = r := ⟨_, rfl⟩
 obtain ⟨r3, h3⟩ : ∃ r, orI r1 r2 = r := ⟨_, rfl⟩
 have HR : Hid (cmpE ⟨a, b⟩ ⟨c, d⟩ = r3) := by
  show _ = _
  unfold cmpE
  rw [h1, h2, h3]
 have C1 := hd fun V => compare_any a c V r1 h1
 have C2 := hd fun V => compare_any b d V r2 h2
 have C3 := hd fun g V k0 k1 => or_any r1 r2 g V k0 k1 r3 h3
 rw [HR.out]
 simp only
 clear h1 h2 h3 HR
 go_enter Tryz.func96, Tryz.ntmps96
 go_upto_region 1 with fail
 generalize hW : World.alloc _ _ = W
 have RA : Hid (Rw W w.heap.size 74 #[.int .i64 a, .int .i64 b]) := by
  show Rw _ _ _ _
  rw [← hW]
  exact rn0
 have RB : Hid (Rw W (w.heap.size + 1) 74 #[.int .i64 c, .int .i64 d]) := by
  show Rw _ _ _ _
  rw [← hW]
  exact rn0
 have HW : Hid (W = grow w #[.cells #[.int .i64 a, .int .i64 b] 74, .cells #[.int .i64 c, .int .i64 d] 74]) := by
  show _ = _
  rw [← hW, alloc_eq_grow, alloc_eq_grow, grow_grow]
  rfl
 clear hW
 refine region_still (S := fun w' => Below W.heap.size W w') 12 kr (Below.refl _ _).drew (fun hHeld => ?_)
 have hq := fun w' (hSw : (fun w' => Below W.heap.size W w') w') => And.intro ((RA.out.up hSw RA.out.lt).cell (j := 0) (v := .int .i64 a) rfl) (And.intro ((RA.out.up hSw RA.out.lt).cell (j := 1) (v := .int .i64 b) rfl) (And.intro ((RB.out.up hSw RB.out.lt).cell (j := 0) (v := .int .i64 c) rfl) ((RB.out.up hSw RB.out.lt).cell (j := 1) (v := .int .i64 d) rfl)))
 refine Still.u 0 [] hHeld hq ?_
 refine Still.u 1 [] hHeld hq ?_
 refine Still.u 2 [] hHeld hq ?_
 refine Still.u 3 [] hHeld hq ?_
 refine Still.u 5 [] hHeld hq ?_
 refine Still.u 6 [] hHeld hq ?_
 refine Still.u 7 [] hHeld hq ?_
 refine Still.u 8 [] hHeld hq ?_
 refine Still.o 4 rfl rfl (fun K hK => ?_)
 refine wp_call 98 _ _ rfl ent_compare #[.int .i64 a, .int .i64 c] ev ((C1.out _).mono ?_)
 rintro e V1 ⟨rfl, rfl⟩
 refine ⟨_, rfl, hK _ _ (fun _ => hHeld) (fun hh => ?_)⟩
 clear hK K hh
 try simp only [Act.put, l1, l2, l3, l4, l5, l6]
 refine Still.o 9 rfl rfl (fun K hK => ?_)
 refine wp_call 98 _ _ rfl ent_compare #[.int .i64 b, .int .i64 d] ev ((C2.out _).mono ?_)
 rintro e V1 ⟨rfl, rfl⟩
 refine ⟨_, rfl, hK _ _ (fun _ => hHeld) (fun hh => ?_)⟩
 clear hK K hh
 try simp only [Act.put, l1, l2, l3, l4, l5, l6]
 refine Still.o 10 rfl rfl (fun K hK => ?_)
 go_simp
 refine hK _ _ (fun _ => Below.alloc hHeld hHeld.size _) (fun hh => ?_)
 have hHeld2 := hh (by decide)
 clear hK K hh hHeld
 try simp only [Act.put, l1, l2, l3, l4, l5, l6]
 refine Still.o 11 rfl rfl (fun K hK => ?_)
 refine wp_call 97 _ _ rfl ent_or #[.slice (some ⟨W.heap.size, 0, none⟩) 2 2] ev ((C3.out W.heap.size _ (Rw.cell (j := 0) (Rw.drew (Rw.new W 3 #[.int .i64 r1, .int .i64 r2] rfl)) rfl) (Rw.cell (j := 1) (Rw.drew (Rw.new W 3 #[.int .i64 r1, .int .i64 r2] rfl)) rfl)).mono ?_)
 rintro e V1 ⟨rfl, rfl⟩
 refine ⟨_, rfl, hK _ _ (fun _ => hHeld2) (fun hh => ?_)⟩
 clear hK K hh
 try simp only [Act.put, l1, l2, l3, l4, l5, l6]
 refine Still.o 12 rfl rfl (fun K hK => ?_)
 go_simp
 refine hK _ _ ab (fun _ => Still.vv ?_)
 clear hK K
 go_wp2
 go_ret
 refine ⟨rfl, 1, #[.cells #[.int .i64 a, .int .i64 b] 74, .cells #[.int .i64 c, .int .i64 d] 74, .cells #[.int .i64 r1, .int .i64 r2] 3], ?_⟩
 rw [alloc_eq_grow, HW.out, grow_grow]
 rfl
end Go.Proofs.YtehhhiodfcdnmaaGreatDoor
