/- The reference: a system's bytes. -/
import Derived.Test.YtbhfnkbflikliaaDoorJ4
import Derived.Test.YtbhfnkbflikliaaDoorJ5
import Derived.Test.YtbhfnkbflikliaaDoorJ2
import Derived.Laws.IdiomStrings
import Derived.Deep.RegionLaw
import Derived.Deep.CutRange
import Derived.Test.YtbhfnkbflikliaaDoorJ3
namespace Go.Proofs.YtbhfnkbflikliaaDoor
set_option linter.unusedSimpArgs false
set_option linter.unusedVariables false
open Go.RowKit Go.Sort
structure Ib (w wr : World) (row : Array Value) (v : Value) (n : Nat) (l : List UInt8) : Prop where
  r : Rw wr w.heap.size 26 row
  o : wr.ownsRow (w.heap.size + 1) 5 1 v n (Lib.byteCells l)
  b : Below w.heap.size w wr
section
variable {w wr wr' : World} {row : Array Value} {v v' : Value} {n m : Nat} {l news : List UInt8}
theorem Ib.z (h : Ib w wr row v n l) : w.heap.size + 1 ≤ wr.heap.size := h.r.lt
theorem Ib.len (h : Ib w wr row v n l) : l.length = n := by have := h.o.1; rw [Lib.byteCells_length] at this; omega
theorem Ib.alloc (h : Ib w wr row v n l) (o : Obj) : Ib w (wr.alloc o) row v n l := ⟨h.r.alloc _, h.o.alloc _, h.b.alloc h.b.size _⟩
theorem Ib.drew (h : Ib w wr row v n l) : Ib w wr.drew row v n l := ⟨h.r, h.o, h.b.drew⟩
theorem keepB {c : Nat} {t : TypeId} {cs : Array Value} (hr : Rw wr c t cs) (ht : t ≠ 5) (h : Ib w wr row v n l) (hg : wr.grownBy wr' v.ownBlock) : Rw wr' c t cs := by
  refine (hg.block c hr.lt (fun e => ?_)).trans hr
  rcases h.o.2 with ⟨rfl, _⟩ | ⟨g', cap', cur', rfl, _, hh, _⟩
  · cases e
  · simp [Value.ownBlock] at e
    subst e
    have h5 := (show wr.heap[c]? = _ from hr).symm.trans hh
    injection h5 with h5
    injection h5 with _ h5
    exact ht h5
theorem Ib.grow (h : Ib w wr row v n l) (hg : wr.grownBy wr' v.ownBlock) (ho : wr'.ownsRow (w.heap.size + 1) 5 1 v' (n + m) (Lib.byteCells l ++ Lib.byteCells news)) : Ib w wr' row v' (n + m) (l ++ news) :=
  ⟨keepB h.r (by decide) h hg, by rw [byteCells_app]; exact ho, h.b.grown hg h.b.size (fun k e => by have := own_block h.o k e; omega)⟩
end
theorem byte_one (l : List UInt8) : ∀ u ∈ Lib.byteCells l, u.oneCell' = true := fun u hu => by
  simp [Lib.byteCells] at hu
  obtain ⟨b, _, rfl⟩ := hu
  rfl
theorem ib_start (w : World) (row : Array Value) (x : UInt8) : Ib w ((w.alloc (.cells row 26)).alloc (.cells #[.int .u8 x.toNat] 5)) row (.slice (some ⟨w.heap.size + 1, 0, none⟩) 1 1) 1 [x] := by
  refine ⟨Rw.alloc (Rw.new _ _ _ rfl) _, ?_, ((Below.refl _ _).alloc (Nat.le_refl _) _).alloc (by simp) _⟩
  have := World.ownsRow_lit (base := w.heap.size + 1) (e := 5) (size := 1) (w.alloc (.cells row 26)) #[.int .u8 x.toNat] 1 (by simp) (by unfold maxLen; omega) rfl
  simpa [Lib.byteCells] using this
set_option maxRecDepth 100000 in
set_option maxHeartbeats 8000000 in
theorem imageBytes_any (S : SysD) (hsm : SmallI S) (vp vc vs : Value) (w : World) (hS : Sys w vp vc vs S) :
    Calls Tryd.prog 7 #[.agg #[vp, vc, vs]] w fun e w' => e = .returned (.string ⟨(cS.enc S).toArray⟩) ∧ Below w.heap.size w w' := by
  obtain ⟨i0, hi, hz0, hz1, hz2⟩ := info_parts infoByte
  obtain ⟨pa, pc, rfl⟩ := hS.p.form
  obtain ⟨ka, kc, rfl⟩ := hS.c.form
  obtain ⟨sa, sc, rfl⟩ := hS.s.form
  have hp4 := hsm.p
  have hc6 := hsm.c
  have hs6 := hsm.s
  have HSM := Lib.hid hsm
  have HS := Lib.hid hS
  have hw1 := wrap8 S.parts.length
  obtain ⟨row, HROW⟩ : ∃ row : Array Value, Hid (row = #[.slice pa S.parts.length pc, .slice ka S.chans.length kc, .slice sa S.slots.length sc]) := ⟨_, Lib.hid rfl⟩
  have I0 : Hid (Ib w ((w.alloc (.cells #[.slice pa S.parts.length pc, .slice ka S.chans.length kc, .slice sa S.slots.length sc] 26)).alloc (.cells #[.int .u8 (by8 S.parts.length).toNat] 5)) row (.slice (some ⟨w.heap.size + 1, 0, none⟩) 1 1) 1 [by8 S.parts.length]) := Lib.hid (by rw [HROW.out]; exact ib_start w _ _)
  clear hS hsm
  go_enter Tryd.func7, Tryd.ntmps7
  go_wp2
  go_loopw [3, 4] (fun bv i wr => ∃ (k : Nat) (ao : Option Addr) (n cap : Nat), i = .int .i64 k ∧ bv = .slice ao n cap ∧ k ≤ S.parts.length ∧ n ≤ 1 + 400 * k ∧ Hid (Ib w wr row (.slice ao n cap) n ([by8 S.parts.length] ++ (S.parts.take k).flatMap cP.enc))) (fun _ i _ => S.parts.length - (intOf i).toNat)
  case atStart => exact ⟨0, _, _, _, rfl, rfl, by omega, by omega, by rw [List.take_zero, List.flatMap_nil, List.append_nil]; exact I0⟩
  case round =>
    obtain ⟨k, ao, n, cap, rfl, rfl, hk, hn, HI⟩ := hrel
    have q0 := HI.out.r.cell (j := 0) (v := .slice pa S.parts.length pc) (by rw [HROW.out]; rfl)
    clear I0
    by_cases hlt : k < S.parts.length
    · have hli : (k : Int) < S.parts.length := by omega
      have hbw0 := HI.out.b
      obtain ⟨sb, off, cap', e1, hcap, hbw, hcs⟩ := HS.out.p.open (by omega)
      cases e1
      obtain ⟨c, i, c0, c1, hp⟩ := hcs k hlt
      obtain ⟨ca, cc, rfl⟩ := hp.code.form
      obtain ⟨ia, ic, rfl⟩ := hp.inn.form
      have c0 := bcl hbw0 hbw c0
      have c1 := bcl hbw0 hbw c1
      have hx := HSM.out.x _ (List.getElem_mem hlt)
      have HT := Lib.hid (flat_take cP.enc S.parts k hlt)
      generalize S.parts[k] = p at *
      have hx1 := hx.1
      have hx2 := hx.2
      have HPR := Lib.hid hp
      have hw2 := wrap8 p.code.length
      have hw3 := wrap8 p.inn.length
      clear hcs hp hx hbw0
      have HA := Lib.hid ((HI.out.alloc (.cells #[.slice ca p.code.length cc, .slice ia p.inn.length ic] 51)).alloc (.cells #[.int .u8 (by8 p.code.length).toNat] 5))
      have HRX := Lib.hid ((Rw.new wr 51 #[.slice ca p.code.length cc, .slice ia p.inn.length ic] rfl).alloc (.cells #[.int .u8 (by8 p.code.length).toNat] 5))
      go_wp2_with (at_builtin; refine wpList_append_lies _ rfl (.tmp 28) (.tmp 33) 40 rfl (w.heap.size + 1) 5 i0 (.int .u8 0) 1 1 Tryd.underlying40 hi hz0 hz1 hz2 rfl (by decide) _ n (Lib.byteCells _) rfl HA.out.o ⟨wr.heap.size + 1, 0, none⟩ 1 1 (Lib.byteCells [by8 p.code.length]) rfl rfl (new_rangeI _ _ _ _ (by simp)) (byte_one _) (by decide) (by unfold maxLen; omega) (by omega) (by have := HA.out.z; omega) _ rfl ?_)
      intro g4 cap4 W4 hown hgrow hat hglt
      have I4 := Lib.hid (HA.out.grow hgrow hown)
      have R4 := Lib.hid (keepB HRX.out (by decide) HA.out hgrow)
      clear hown hgrow hat hglt
      clear q0 c0 c1 HA HRX
      have zp : w.heap.size + 1 ≤ wr.heap.size := HI.out.z
      have HL4 : Hid ([by8 S.parts.length] ++ (S.parts.take k).flatMap cP.enc ++ [by8 p.code.length] = [by8 S.parts.length] ++ (S.parts.take k).flatMap cP.enc ++ [by8 p.code.length]) := Lib.hid rfl
      obtain ⟨lA, HLA⟩ : ∃ lA, Hid ([by8 S.parts.length] ++ (S.parts.take k).flatMap cP.enc = lA) := ⟨_, Lib.hid rfl⟩
      rw [HLA.out] at I4
      clear HL4
      generalize hpx : wr.heap.size = px at *
      obtain ⟨rowp, HRWP⟩ : ∃ rowp : Array Value, Hid (rowp = #[.slice ca p.code.length cc, .slice ia p.inn.length ic]) := ⟨_, Lib.hid rfl⟩
      rw [← HRWP.out] at R4
      clear hpx HI
      go_wp2
      go_loopw [3, 6] (fun bv i wr' => ∃ (j : Nat) (ao' : Option Addr) (n' cap' : Nat), i = .int .i64 j ∧ bv = .slice ao' n' cap' ∧ j ≤ p.code.length ∧ n' ≤ n + 1 + 11 * j ∧ Hid (Ib w wr' row (.slice ao' n' cap') n' (lA ++ [by8 p.code.length] ++ (p.code.take j).flatMap cI.enc)) ∧ Hid (Rw wr' px 51 rowp)) (fun _ i _ => p.code.length - (intOf i).toNat)
      case atStart => exact ⟨0, _, _, _, rfl, rfl, by omega, by omega, by rw [List.take_zero, List.flatMap_nil, List.append_nil]; exact I4, R4⟩
      case round =>
        obtain ⟨j, ao', n', cap', rfl, rfl, hj, hn', HI', HX'⟩ := hrel
        obtain ⟨lB, HLB⟩ : ∃ lB, Hid (lA ++ [by8 p.code.length] ++ (p.code.take j).flatMap cI.enc = lB) := ⟨_, Lib.hid rfl⟩
        rw [HLB.out] at HI'
        have q0 := HX'.out.cell (j := 0) (v := .slice ca p.code.length cc) (by rw [HRWP.out]; rfl)
        clear I4 R4
        by_cases hjl : j < p.code.length
        · have hji : (j : Int) < p.code.length := by omega
          obtain ⟨sb, off, cap', e1, hcap, hbw, hc⟩ := HPR.out.code.open (by omega)
          cases e1
          obtain ⟨d0, d1, d2, d3⟩ := code_cells hc j hjl
          have d0 := bcl HI'.out.b hbw d0
          have d1 := bcl HI'.out.b hbw d1
          have d2 := bcl HI'.out.b hbw d2
          have d3 := bcl HI'.out.b hbw d3
          have HT' := Lib.hid (flat_take cI.enc p.code j hjl)
          generalize p.code[j] = y at *
          have hy1 := wrap8 y.op
          have hy2 := wrap8 y.a
          have hy3 := wrap8 y.b
          clear hc
          have HA := Lib.hid ((HI'.out.alloc (.cells #[.int .i64 y.op, .int .i64 y.a, .int .i64 y.b, .int .i64 y.n] 59)).alloc (.cells #[.int .u8 (by8 y.op).toNat, .int .u8 (by8 y.a).toNat, .int .u8 (by8 y.b).toNat] 5))
          have HRX := Lib.hid ((HX'.out.alloc (.cells #[.int .i64 y.op, .int .i64 y.a, .int .i64 y.b, .int .i64 y.n] 59)).alloc (.cells #[.int .u8 (by8 y.op).toNat, .int .u8 (by8 y.a).toNat, .int .u8 (by8 y.b).toNat] 5))
          have HRY := Lib.hid ((Rw.new wr 59 #[.int .i64 y.op, .int .i64 y.a, .int .i64 y.b, .int .i64 y.n] rfl).alloc (.cells #[.int .u8 (by8 y.op).toNat, .int .u8 (by8 y.a).toNat, .int .u8 (by8 y.b).toNat] 5))
          go_wp2_with (at_builtin; refine wpList_append_lies _ rfl (.tmp 47) (.tmp 57) 40 rfl (w.heap.size + 1) 5 i0 (.int .u8 0) 1 1 Tryd.underlying40 hi hz0 hz1 hz2 rfl (by decide) _ n' (Lib.byteCells _) rfl HA.out.o ⟨wr.heap.size + 1, 0, none⟩ 3 3 (Lib.byteCells [by8 y.op, by8 y.a, by8 y.b]) rfl rfl (new_rangeI _ _ _ _ (by simp)) (byte_one _) (by decide) (by unfold maxLen; omega) (by omega) (by have := HA.out.z; omega) _ rfl ?_)
          intro g5 cap5 W5 hown hgrow hat hglt
          have I5 := Lib.hid (HA.out.grow hgrow hown)
          have R5 := Lib.hid (keepB HRX.out (by decide) HA.out hgrow)
          have Y5 := Lib.hid (keepB HRY.out (by decide) HA.out hgrow)
          clear hown hgrow hat hglt
          have y3 := Y5.out.cell (j := 3) (v := .int .i64 y.n) rfl
          clear q0 d0 d1 d2 d3 HA HRX HRY HI' HX'
          go_wp2_with fail
          refine (eightRef_any y.n _).mono ?_
          rintro e w6 ⟨rfl, hw⟩
          have hw' := hw.symm
          clear hw
          have I6 := Lib.hid (I5.out.alloc (.cells (Lib.byteCells (eight y.n)).toArray 5))
          have R6 := Lib.hid (R5.out.alloc (.cells (Lib.byteCells (eight y.n)).toArray 5))
          clear I5 R5 Y5 y3
          subst hw'
          go_wp2_with (at_builtin; refine wpList_append_lies _ rfl (.tmp 59) (.tmp 62) 40 rfl (w.heap.size + 1) 5 i0 (.int .u8 0) 1 1 Tryd.underlying40 hi hz0 hz1 hz2 rfl (by decide) _ (n' + 3) (Lib.byteCells _) rfl I6.out.o ⟨W5.heap.size, 0, none⟩ 8 8 (Lib.byteCells (eight y.n)) rfl rfl (new_rangeI _ _ _ _ (by simp)) (byte_one _) (by decide) (by unfold maxLen; omega) (by omega) (by have := I6.out.z; omega) _ rfl ?_)
          intro g7 cap7 W7 hown hgrow hat hglt
          have I7 := Lib.hid (I6.out.grow hgrow hown)
          have R7 := Lib.hid (keepB R6.out (by decide) I6.out hgrow)
          clear hown hgrow hat hglt
          clear I6 R6
          go_wp2
          go_roundw
          case rel => exact ⟨j + 1, _, _, _, by go_num, rfl, by omega, by omega, by rw [HT'.out, ← List.append_assoc, HLB.out, show cI.enc y = [by8 y.op, by8 y.a, by8 y.b] ++ eight y.n from rfl, ← List.append_assoc]; exact I7, R7⟩
          case measure => simp [intOf]; omega
        · obtain rfl : j = p.code.length := by omega
          have hji : ¬ ((p.code.length : Int) < p.code.length) := by omega
          have q1 := HX'.out.cell (j := 1) (v := .slice ia p.inn.length ic) (by rw [HRWP.out]; rfl)
          have HA := Lib.hid (HI'.out.alloc (.cells #[.int .u8 (by8 p.inn.length).toNat] 5))
          have HRX := Lib.hid (HX'.out.alloc (.cells #[.int .u8 (by8 p.inn.length).toNat] 5))
          go_wp2_with (at_builtin; refine wpList_append_lies _ rfl (.tmp 64) (.tmp 69) 40 rfl (w.heap.size + 1) 5 i0 (.int .u8 0) 1 1 Tryd.underlying40 hi hz0 hz1 hz2 rfl (by decide) _ n' (Lib.byteCells _) rfl HA.out.o ⟨wr.heap.size, 0, none⟩ 1 1 (Lib.byteCells [by8 p.inn.length]) rfl rfl (new_rangeI _ _ _ _ (by simp)) (byte_one _) (by decide) (by unfold maxLen; omega) (by omega) (by have := HA.out.z; omega) _ rfl ?_)
          intro g5 cap5 W5 hown hgrow hat hglt
          have I5 := Lib.hid (HA.out.grow hgrow hown)
          have R5 := Lib.hid (keepB HRX.out (by decide) HA.out hgrow)
          clear hown hgrow hat hglt
          clear q0 q1 HA HRX HI' HX'
          have HL5 := I5.out
          rw [← HLB.out, List.take_length] at HL5
          have I5 := Lib.hid HL5
          clear HL5
          go_wp2
          go_loopw [3, 8] (fun bv i wr' => ∃ (j : Nat) (ao' : Option Addr) (n'' cap' : Nat), i = .int .i64 j ∧ bv = .slice ao' n'' cap' ∧ j ≤ p.inn.length ∧ n'' ≤ n' + 1 + 8 * j ∧ Hid (Ib w wr' row (.slice ao' n'' cap') n'' (lA ++ [by8 p.code.length] ++ p.code.flatMap cI.enc ++ [by8 p.inn.length] ++ (p.inn.take j).flatMap cN.enc)) ∧ Hid (Rw wr' px 51 rowp)) (fun _ i _ => p.inn.length - (intOf i).toNat)
          case atStart => exact ⟨0, _, _, _, rfl, rfl, by omega, by omega, by rw [List.take_zero, List.flatMap_nil, List.append_nil]; exact I5, R5⟩
          case round =>
            obtain ⟨j, ao', n'', cap', rfl, rfl, hj, hn'', HI', HX'⟩ := hrel
            obtain ⟨lC, HLC⟩ : ∃ lC, Hid (lA ++ [by8 p.code.length] ++ p.code.flatMap cI.enc ++ [by8 p.inn.length] ++ (p.inn.take j).flatMap cN.enc = lC) := ⟨_, Lib.hid rfl⟩
            rw [HLC.out] at HI'
            have q1 := HX'.out.cell (j := 1) (v := .slice ia p.inn.length ic) (by rw [HRWP.out]; rfl)
            clear I5 R5
            by_cases hjl : j < p.inn.length
            · have hji : (j : Int) < p.inn.length := by omega
              obtain ⟨sb, off, cap', e1, hcap, hbw, hc⟩ := HPR.out.inn.open (by omega)
              cases e1
              have d0 := bcl HI'.out.b hbw (hc j _ (ints_at p.inn j hjl))
              have HT' := Lib.hid (flat_take cN.enc p.inn j hjl)
              generalize p.inn[j] = y at *
              clear hc
              go_wp2_with fail
              refine (eightRef_any y _).mono ?_
              rintro e w6 ⟨rfl, hw⟩
              have hw' := hw.symm
              clear hw
              have I6 := Lib.hid (HI'.out.alloc (.cells (Lib.byteCells (eight y)).toArray 5))
              have R6 := Lib.hid (HX'.out.alloc (.cells (Lib.byteCells (eight y)).toArray 5))
              clear d0 q1
              subst hw'
              go_wp2_with (at_builtin; refine wpList_append_lies _ rfl (.tmp 78) (.tmp 84) 40 rfl (w.heap.size + 1) 5 i0 (.int .u8 0) 1 1 Tryd.underlying40 hi hz0 hz1 hz2 rfl (by decide) _ n'' (Lib.byteCells _) rfl I6.out.o ⟨wr.heap.size, 0, none⟩ 8 8 (Lib.byteCells (eight y)) rfl rfl (new_rangeI _ _ _ _ (by simp)) (byte_one _) (by decide) (by unfold maxLen; omega) (by omega) (by have := I6.out.z; omega) _ rfl ?_)
              intro g7 cap7 W7 hown hgrow hat hglt
              have I7 := Lib.hid (I6.out.grow hgrow hown)
              have R7 := Lib.hid (keepB R6.out (by decide) I6.out hgrow)
              clear hown hgrow hat hglt
              clear I6 R6 HI' HX'
              go_wp2
              go_roundw
              case rel => exact ⟨j + 1, _, _, _, by go_num, rfl, by omega, by omega, by rw [HT'.out, ← List.append_assoc, HLC.out]; exact I7, R7⟩
              case measure => simp [intOf]; omega
            · obtain rfl : j = p.inn.length := by omega
              have hji : ¬ ((p.inn.length : Int) < p.inn.length) := by omega
              have HL5 := HI'.out
              rw [← HLC.out, List.take_length] at HL5
              have I5 := Lib.hid HL5
              clear HL5 HI'
              go_wp2
              go_roundw
              case rel => exact ⟨k + 1, _, _, _, by go_num, rfl, by omega, by omega, by rw [HT.out, ← List.append_assoc, HLA.out, show cP.enc p = (by8 p.code.length :: p.code.flatMap cI.enc) ++ (by8 p.inn.length :: p.inn.flatMap cN.enc) from rfl]; simpa using I5⟩
              case measure => simp [intOf]; omega
    · obtain rfl : k = S.parts.length := by omega
      have hli : ¬ ((S.parts.length : Int) < S.parts.length) := by omega
      have q1 := HI.out.r.cell (j := 1) (v := .slice ka S.chans.length kc) (by rw [HROW.out]; rfl)
      have hw2 := wrap8 S.chans.length
      obtain ⟨lA, HLA⟩ : ∃ lA, Hid ([by8 S.parts.length] ++ (S.parts.take S.parts.length).flatMap cP.enc = lA) := ⟨_, Lib.hid rfl⟩
      rw [HLA.out] at HI
      have HA := Lib.hid (HI.out.alloc (.cells #[.int .u8 (by8 S.chans.length).toNat] 5))
      go_wp2_with (at_builtin; refine wpList_append_lies _ rfl (.tmp 86) (.tmp 91) 40 rfl (w.heap.size + 1) 5 i0 (.int .u8 0) 1 1 Tryd.underlying40 hi hz0 hz1 hz2 rfl (by decide) _ n (Lib.byteCells _) rfl HA.out.o ⟨wr.heap.size, 0, none⟩ 1 1 (Lib.byteCells [by8 S.chans.length]) rfl rfl (new_rangeI _ _ _ _ (by simp)) (byte_one _) (by decide) (by unfold maxLen; omega) (by omega) (by have := HA.out.z; omega) _ rfl ?_)
      intro g5 cap5 W5 hown hgrow hat hglt
      have I5 := Lib.hid (HA.out.grow hgrow hown)
      clear hown hgrow hat hglt
      clear q0 q1 HA HI
      go_wp2
      go_loopw [3, 9] (fun bv i wr' => ∃ (j : Nat) (ao' : Option Addr) (n'' cap' : Nat), i = .int .i64 j ∧ bv = .slice ao' n'' cap' ∧ j ≤ S.chans.length ∧ n'' ≤ n + 1 + 3 * j ∧ Hid (Ib w wr' row (.slice ao' n'' cap') n'' (lA ++ [by8 S.chans.length] ++ (S.chans.take j).flatMap cC.enc))) (fun _ i _ => S.chans.length - (intOf i).toNat)
      case atStart => exact ⟨0, _, _, _, rfl, rfl, by omega, by omega, by rw [List.take_zero, List.flatMap_nil, List.append_nil]; exact I5⟩
      case round =>
        obtain ⟨j, ao', n'', cap', rfl, rfl, hj, hn'', HI'⟩ := hrel
        obtain ⟨lC, HLC⟩ : ∃ lC, Hid (lA ++ [by8 S.chans.length] ++ (S.chans.take j).flatMap cC.enc = lC) := ⟨_, Lib.hid rfl⟩
        rw [HLC.out] at HI'
        have q1 := HI'.out.r.cell (j := 1) (v := .slice ka S.chans.length kc) (by rw [HROW.out]; rfl)
        clear I5
        by_cases hjl : j < S.chans.length
        · have hji : (j : Int) < S.chans.length := by omega
          obtain ⟨sb, off, cap', e1, hcap, hbw, hc⟩ := HS.out.c.open (by omega)
          cases e1
          obtain ⟨d0, d1, d2⟩ := chan_cells hc j hjl
          have HT' := Lib.hid (flat_take cC.enc S.chans j hjl)
          generalize S.chans[j] = y at *
          have hy1 := wrap8 y.kd
          have hy2 := wrap8 y.fr
          have hy3 := wrap8 y.tt
          have HA := Lib.hid (HI'.out.alloc (.cells #[.int .u8 (by8 y.kd).toNat, .int .u8 (by8 y.fr).toNat, .int .u8 (by8 y.tt).toNat] 5))
          have HKEEP : Hid (∀ (W : World) (v : Value) (m : Nat) (l : List UInt8), Ib w W row v m l → W.cell? ⟨w.heap.size, 1, none⟩ = some (.slice (some ⟨sb, off, none⟩) S.chans.length kc) ∧ W.cell? ⟨sb, off + j * 3, none⟩ = some (.int .i64 y.kd) ∧ W.cell? ⟨sb, off + j * 3 + 1, none⟩ = some (.int .i64 y.fr) ∧ W.cell? ⟨sb, off + j * 3 + 2, none⟩ = some (.int .i64 y.tt)) := Lib.hid (fun W v m l h => ⟨h.r.cell (by rw [HROW.out]; rfl), bcl h.b hbw d0, bcl h.b hbw d1, bcl h.b hbw d2⟩)
          clear hc d0 d1 d2
          go_wp2
          refine region_still (S := fun W => W.cell? ⟨w.heap.size, 1, none⟩ = some (.slice (some ⟨sb, off, none⟩) S.chans.length kc) ∧ W.cell? ⟨sb, off + j * 3, none⟩ = some (.int .i64 y.kd) ∧ W.cell? ⟨sb, off + j * 3 + 1, none⟩ = some (.int .i64 y.fr) ∧ W.cell? ⟨sb, off + j * 3 + 2, none⟩ = some (.int .i64 y.tt)) 24 (by kernel_rfl) (HKEEP.out _ _ _ _ HI'.out.drew) (fun hHeld => ?_)
          refine Still.takeBy (i := 0) [] (v := ?v1) (by kernel_rfl) (by kernel_rfl) rfl (by kernel_rfl) (by kernel_rfl) (by kernel_rfl) (fun _ _ _ h => h) (Or.inl ⟨by rfl, ?y1⟩) hHeld ?r1
          case y1 => (intro w' hSw; (try dsimp only at hSw); obtain ⟨x0, x1, x2, x3⟩ := hSw; go_simp; try with_reducible rfl)
          simp only [Act.put, List.getElem_toArray, List.getElem_cons_zero, List.getElem_cons_succ, List.setIfInBounds_toArray, List.set_cons_zero, List.set_cons_succ]
          refine Still.takeBy (i := 1) [] (v := ?v2) (by kernel_rfl) (by kernel_rfl) rfl (by kernel_rfl) (by kernel_rfl) (by kernel_rfl) (fun _ _ _ h => h) (Or.inl ⟨by rfl, ?y2⟩) hHeld ?r2
          case y2 => (intro w' hSw; (try dsimp only at hSw); obtain ⟨x0, x1, x2, x3⟩ := hSw; go_simp; try with_reducible rfl)
          simp only [Act.put, List.getElem_toArray, List.getElem_cons_zero, List.getElem_cons_succ, List.setIfInBounds_toArray, List.set_cons_zero, List.set_cons_succ]
          refine Still.takeBy (i := 2) [] (v := ?v3) (by kernel_rfl) (by kernel_rfl) rfl (by kernel_rfl) (by kernel_rfl) (by kernel_rfl) (fun _ _ _ h => h) (Or.inl ⟨by rfl, ?y3⟩) hHeld ?r3
          case y3 => (intro w' hSw; (try dsimp only at hSw); obtain ⟨x0, x1, x2, x3⟩ := hSw; go_simp; try with_reducible rfl)
          simp only [Act.put, List.getElem_toArray, List.getElem_cons_zero, List.getElem_cons_succ, List.setIfInBounds_toArray, List.set_cons_zero, List.set_cons_succ]
          refine Still.takeBy (i := 3) [] (v := ?v4) (by kernel_rfl) (by kernel_rfl) rfl (by kernel_rfl) (by kernel_rfl) (by kernel_rfl) (fun _ _ _ h => h) (Or.inl ⟨by rfl, ?y4⟩) hHeld ?r4
          case y4 => (intro w' hSw; (try dsimp only at hSw); obtain ⟨x0, x1, x2, x3⟩ := hSw; go_simp; try with_reducible rfl)
          simp only [Act.put, List.getElem_toArray, List.getElem_cons_zero, List.getElem_cons_succ, List.setIfInBounds_toArray, List.set_cons_zero, List.set_cons_succ]
          refine Still.takeBy (i := 4) [] (v := ?v5) (by kernel_rfl) (by kernel_rfl) rfl (by kernel_rfl) (by kernel_rfl) (by kernel_rfl) (fun _ _ _ h => h) (Or.inl ⟨by rfl, ?y5⟩) hHeld ?r5
          case y5 => (intro w' hSw; (try dsimp only at hSw); obtain ⟨x0, x1, x2, x3⟩ := hSw; go_simp; try with_reducible rfl)
          simp only [Act.put, List.getElem_toArray, List.getElem_cons_zero, List.getElem_cons_succ, List.setIfInBounds_toArray, List.set_cons_zero, List.set_cons_succ]
          refine Still.takeBy (i := 5) [] (v := ?v6) (by kernel_rfl) (by kernel_rfl) rfl (by kernel_rfl) (by kernel_rfl) (by kernel_rfl) (fun _ _ _ h => h) (Or.inl ⟨by rfl, ?y6⟩) hHeld ?r6
          case y6 => (intro w' hSw; (try dsimp only at hSw); obtain ⟨x0, x1, x2, x3⟩ := hSw; go_simp; try with_reducible rfl)
          simp only [Act.put, List.getElem_toArray, List.getElem_cons_zero, List.getElem_cons_succ, List.setIfInBounds_toArray, List.set_cons_zero, List.set_cons_succ]
          refine Still.takeBy (i := 6) [] (v := ?v7) (by kernel_rfl) (by kernel_rfl) rfl (by kernel_rfl) (by kernel_rfl) (by kernel_rfl) (fun _ _ _ h => h) (Or.inl ⟨by rfl, ?y7⟩) hHeld ?r7
          case y7 => (intro w' hSw; (try dsimp only at hSw); obtain ⟨x0, x1, x2, x3⟩ := hSw; go_simp; try with_reducible rfl)
          simp only [Act.put, List.getElem_toArray, List.getElem_cons_zero, List.getElem_cons_succ, List.setIfInBounds_toArray, List.set_cons_zero, List.set_cons_succ]
          refine Still.takeBy (i := 7) [] (v := ?v8) (by kernel_rfl) (by kernel_rfl) rfl (by kernel_rfl) (by kernel_rfl) (by kernel_rfl) (fun _ _ _ h => h) (Or.inl ⟨by rfl, ?y8⟩) hHeld ?r8
          case y8 => (intro w' hSw; (try dsimp only at hSw); obtain ⟨x0, x1, x2, x3⟩ := hSw; go_simp; try with_reducible rfl)
          simp only [Act.put, List.getElem_toArray, List.getElem_cons_zero, List.getElem_cons_succ, List.setIfInBounds_toArray, List.set_cons_zero, List.set_cons_succ]
          refine Still.takeBy (i := 8) [] (v := ?v9) (by kernel_rfl) (by kernel_rfl) rfl (by kernel_rfl) (by kernel_rfl) (by kernel_rfl) (fun _ _ _ h => h) (Or.inl ⟨by rfl, ?y9⟩) hHeld ?r9
          case y9 => (intro w' hSw; (try dsimp only at hSw); obtain ⟨x0, x1, x2, x3⟩ := hSw; go_simp; try with_reducible rfl)
          simp only [Act.put, List.getElem_toArray, List.getElem_cons_zero, List.getElem_cons_succ, List.setIfInBounds_toArray, List.set_cons_zero, List.set_cons_succ]
          refine Still.takeBy (i := 9) [] (v := ?v10) (by kernel_rfl) (by kernel_rfl) rfl (by kernel_rfl) (by kernel_rfl) (by kernel_rfl) (fun _ _ _ h => h) (Or.inl ⟨by rfl, ?y10⟩) hHeld ?r10
          case y10 => (intro w' hSw; (try dsimp only at hSw); obtain ⟨x0, x1, x2, x3⟩ := hSw; go_simp; try with_reducible rfl)
          simp only [Act.put, List.getElem_toArray, List.getElem_cons_zero, List.getElem_cons_succ, List.setIfInBounds_toArray, List.set_cons_zero, List.set_cons_succ]
          refine Still.takeBy (i := 10) [] (v := ?v11) (by kernel_rfl) (by kernel_rfl) rfl (by kernel_rfl) (by kernel_rfl) (by kernel_rfl) (fun _ _ _ h => h) (Or.inl ⟨by rfl, ?y11⟩) hHeld ?r11
          case y11 => (intro w' hSw; (try dsimp only at hSw); obtain ⟨x0, x1, x2, x3⟩ := hSw; go_simp; try with_reducible rfl)
          simp only [Act.put, List.getElem_toArray, List.getElem_cons_zero, List.getElem_cons_succ, List.setIfInBounds_toArray, List.set_cons_zero, List.set_cons_succ]
          refine Still.takeBy (i := 11) [] (v := ?v12) (by kernel_rfl) (by kernel_rfl) rfl (by kernel_rfl) (by kernel_rfl) (by kernel_rfl) (fun _ _ _ h => h) (Or.inl ⟨by rfl, ?y12⟩) hHeld ?r12
          case y12 => (intro w' hSw; (try dsimp only at hSw); obtain ⟨x0, x1, x2, x3⟩ := hSw; go_simp; try with_reducible rfl)
          simp only [Act.put, List.getElem_toArray, List.getElem_cons_zero, List.getElem_cons_succ, List.setIfInBounds_toArray, List.set_cons_zero, List.set_cons_succ]
          refine Still.takeBy (i := 12) [] (v := ?v13) (by kernel_rfl) (by kernel_rfl) rfl (by kernel_rfl) (by kernel_rfl) (by kernel_rfl) (fun _ _ _ h => h) (Or.inl ⟨by rfl, ?y13⟩) hHeld ?r13
          case y13 => (intro w' hSw; (try dsimp only at hSw); obtain ⟨x0, x1, x2, x3⟩ := hSw; go_simp; try with_reducible rfl)
          simp only [Act.put, List.getElem_toArray, List.getElem_cons_zero, List.getElem_cons_succ, List.setIfInBounds_toArray, List.set_cons_zero, List.set_cons_succ]
          refine Still.takeBy (i := 13) [] (v := ?v14) (by kernel_rfl) (by kernel_rfl) rfl (by kernel_rfl) (by kernel_rfl) (by kernel_rfl) (fun _ _ _ h => h) (Or.inl ⟨by rfl, ?y14⟩) hHeld ?r14
          case y14 => (intro w' hSw; (try dsimp only at hSw); obtain ⟨x0, x1, x2, x3⟩ := hSw; go_simp; try with_reducible rfl)
          simp only [Act.put, List.getElem_toArray, List.getElem_cons_zero, List.getElem_cons_succ, List.setIfInBounds_toArray, List.set_cons_zero, List.set_cons_succ]
          refine Still.takeBy (i := 14) [] (v := ?v15) (by kernel_rfl) (by kernel_rfl) rfl (by kernel_rfl) (by kernel_rfl) (by kernel_rfl) (fun _ _ _ h => h) (Or.inl ⟨by rfl, ?y15⟩) hHeld ?r15
          case y15 => (intro w' hSw; (try dsimp only at hSw); obtain ⟨x0, x1, x2, x3⟩ := hSw; go_simp; try with_reducible rfl)
          simp only [Act.put, List.getElem_toArray, List.getElem_cons_zero, List.getElem_cons_succ, List.setIfInBounds_toArray, List.set_cons_zero, List.set_cons_succ]
          refine Still.takeBy (i := 15) [] (v := ?v16) (by kernel_rfl) (by kernel_rfl) rfl (by kernel_rfl) (by kernel_rfl) (by kernel_rfl) (fun _ _ _ h => h) (Or.inl ⟨by rfl, ?y16⟩) hHeld ?r16
          case y16 => (intro w' hSw; (try dsimp only at hSw); obtain ⟨x0, x1, x2, x3⟩ := hSw; go_simp; try with_reducible rfl)
          simp only [Act.put, List.getElem_toArray, List.getElem_cons_zero, List.getElem_cons_succ, List.setIfInBounds_toArray, List.set_cons_zero, List.set_cons_succ]
          refine Still.takeBy (i := 16) [] (v := ?v17) (by kernel_rfl) (by kernel_rfl) rfl (by kernel_rfl) (by kernel_rfl) (by kernel_rfl) (fun _ _ _ h => h) (Or.inl ⟨by rfl, ?y17⟩) hHeld ?r17
          case y17 => (intro w' hSw; (try dsimp only at hSw); obtain ⟨x0, x1, x2, x3⟩ := hSw; go_simp; try with_reducible rfl)
          simp only [Act.put, List.getElem_toArray, List.getElem_cons_zero, List.getElem_cons_succ, List.setIfInBounds_toArray, List.set_cons_zero, List.set_cons_succ]
          refine Still.takeBy (i := 17) [] (v := ?v18) (by kernel_rfl) (by kernel_rfl) rfl (by kernel_rfl) (by kernel_rfl) (by kernel_rfl) (fun _ _ _ h => h) (Or.inl ⟨by rfl, ?y18⟩) hHeld ?r18
          case y18 => (intro w' hSw; (try dsimp only at hSw); obtain ⟨x0, x1, x2, x3⟩ := hSw; go_simp; try with_reducible rfl)
          simp only [Act.put, List.getElem_toArray, List.getElem_cons_zero, List.getElem_cons_succ, List.setIfInBounds_toArray, List.set_cons_zero, List.set_cons_succ]
          refine Still.takeBy (i := 18) [] (v := ?v19) (by kernel_rfl) (by kernel_rfl) rfl (by kernel_rfl) (by kernel_rfl) (by kernel_rfl) (fun _ _ _ h => h) (Or.inl ⟨by rfl, ?y19⟩) hHeld ?r19
          case y19 => (intro w' hSw; (try dsimp only at hSw); obtain ⟨x0, x1, x2, x3⟩ := hSw; go_simp; try with_reducible rfl)
          simp only [Act.put, List.getElem_toArray, List.getElem_cons_zero, List.getElem_cons_succ, List.setIfInBounds_toArray, List.set_cons_zero, List.set_cons_succ]
          refine Still.takeBy (i := 19) [] (v := ?v20) (by kernel_rfl) (by kernel_rfl) rfl (by kernel_rfl) (by kernel_rfl) (by kernel_rfl) (fun _ _ _ h => h) (Or.inl ⟨by rfl, ?y20⟩) hHeld ?r20
          case y20 => (intro w' hSw; (try dsimp only at hSw); obtain ⟨x0, x1, x2, x3⟩ := hSw; go_simp; try with_reducible rfl)
          simp only [Act.put, List.getElem_toArray, List.getElem_cons_zero, List.getElem_cons_succ, List.setIfInBounds_toArray, List.set_cons_zero, List.set_cons_succ]
          refine Still.takeBy (i := 20) [] (v := ?v21) (by kernel_rfl) (by kernel_rfl) rfl (by kernel_rfl) (by kernel_rfl) (by kernel_rfl) (fun _ _ _ h => h) (Or.inl ⟨by rfl, ?y21⟩) hHeld ?r21
          case y21 => (intro w' hSw; (try dsimp only at hSw); obtain ⟨x0, x1, x2, x3⟩ := hSw; go_simp; try with_reducible rfl)
          simp only [Act.put, List.getElem_toArray, List.getElem_cons_zero, List.getElem_cons_succ, List.setIfInBounds_toArray, List.set_cons_zero, List.set_cons_succ]
          refine Still.takeBy (i := 21) [] (v := ?v22) (by kernel_rfl) (by kernel_rfl) rfl (by kernel_rfl) (by kernel_rfl) (by kernel_rfl) (fun _ _ _ h => h) (Or.inl ⟨by rfl, ?y22⟩) hHeld ?r22
          case y22 => (intro w' hSw; (try dsimp only at hSw); obtain ⟨x0, x1, x2, x3⟩ := hSw; go_simp; try with_reducible rfl)
          simp only [Act.put, List.getElem_toArray, List.getElem_cons_zero, List.getElem_cons_succ, List.setIfInBounds_toArray, List.set_cons_zero, List.set_cons_succ]
          refine Still.all (rs := [22]) (by kernel_rfl) (by simp) (Still.one (i := 22) rfl rfl (fun K hK => ?_) (by simp))
          go_simp
          refine hK _ _ (fun _ => HKEEP.out _ _ _ _ HA.out.drew) (fun hh => ?_)
          have hHeld := hh (by decide)
          clear hh hK K
          try simp only [Act.put, List.getElem_toArray, List.getElem_cons_zero, List.getElem_cons_succ, List.setIfInBounds_toArray, List.set_cons_zero, List.set_cons_succ]
          refine Still.all (rs := [23]) (by kernel_rfl) (by simp) (Still.one (i := 23) rfl rfl (fun K hK => ?_) (by simp))
          refine wp_append_lies _ (.tmp 100) (.tmp 122) 40 (by rfl) (w.heap.size + 1) 5 i0 (.int .u8 0) 1 1 Tryd.underlying40 hi hz0 hz1 hz2 rfl (by decide) _ n'' (Lib.byteCells lC) (by first | rfl | simp [Act.eval, Act.put]) HA.out.drew.o ⟨wr.heap.size, 0, none⟩ 3 3 (Lib.byteCells [by8 y.kd, by8 y.fr, by8 y.tt]) (by first | rfl | simp [Act.eval, Act.put]) rfl (new_rangeI _ _ _ _ rfl) (byte_one _) (by decide) (by unfold maxLen; omega) (by omega) (by have := HA.out.drew.z; omega) _ rfl ?_
          intro g7 cap7 W7 hown hgrow hat hglt
          have I7 := Lib.hid (HA.out.drew.grow hgrow hown)
          clear hown hgrow hat hglt
          refine hK _ _ (fun _ => HKEEP.out _ _ _ _ I7.out) (fun hh => ?_)
          have hHeld := hh (by decide)
          clear hh hK K
          try simp only [Act.put, List.getElem_toArray, List.getElem_cons_zero, List.getElem_cons_succ, List.setIfInBounds_toArray, List.set_cons_zero, List.set_cons_succ]
          refine Still.all (rs := [24]) (by kernel_rfl) (by simp) (Still.one (i := 24) rfl rfl (fun K hK => ?_) (by simp))
          clear hHeld
          go_simp
          refine hK _ _ (fun h => absurd rfl h) (fun _ => ?_)
          clear hK K
          refine Still.over (by kernel_rfl) ?_ _
          go_wp2
          go_roundw
          case rel => exact ⟨j + 1, _, _, _, by go_num, rfl, by omega, by omega, by rw [HT'.out, ← List.append_assoc, HLC.out]; exact I7⟩
          case measure => simp [intOf]; omega
        · obtain rfl : j = S.chans.length := by omega
          have hji : ¬ ((S.chans.length : Int) < S.chans.length) := by omega
          have q2 := HI'.out.r.cell (j := 2) (v := .slice sa S.slots.length sc) (by rw [HROW.out]; rfl)
          have hw3 := wrap8 S.slots.length
          have HA := Lib.hid (HI'.out.alloc (.cells #[.int .u8 (by8 S.slots.length).toNat] 5))
          go_wp2_with (at_builtin; refine wpList_append_lies _ rfl (.tmp 124) (.tmp 129) 40 rfl (w.heap.size + 1) 5 i0 (.int .u8 0) 1 1 Tryd.underlying40 hi hz0 hz1 hz2 rfl (by decide) _ n'' (Lib.byteCells _) rfl HA.out.o ⟨wr.heap.size, 0, none⟩ 1 1 (Lib.byteCells [by8 S.slots.length]) rfl rfl (new_rangeI _ _ _ _ (by simp)) (byte_one _) (by decide) (by unfold maxLen; omega) (by omega) (by have := HA.out.z; omega) _ rfl ?_)
          intro g5 cap5 W5 hown hgrow hat hglt
          have I5 := Lib.hid (HA.out.grow hgrow hown)
          clear hown hgrow hat hglt
          clear q1 q2 HA HI'
          go_wp2
          go_loopw [3, 10] (fun bv i wr' => ∃ (j : Nat) (ao' : Option Addr) (n3 cap' : Nat), i = .int .i64 j ∧ bv = .slice ao' n3 cap' ∧ j ≤ S.slots.length ∧ n3 ≤ n'' + 1 + 2 * j ∧ Hid (Ib w wr' row (.slice ao' n3 cap') n3 (lC ++ [by8 S.slots.length] ++ (S.slots.take j).flatMap cT.enc))) (fun _ i _ => S.slots.length - (intOf i).toNat)
          case atStart => exact ⟨0, _, _, _, rfl, rfl, by omega, by omega, by rw [List.take_zero, List.flatMap_nil, List.append_nil]; exact I5⟩
          case round =>
            obtain ⟨j, ao', n3, cap', rfl, rfl, hj, hn3, HI'⟩ := hrel
            obtain ⟨lD, HLD⟩ : ∃ lD, Hid (lC ++ [by8 S.slots.length] ++ (S.slots.take j).flatMap cT.enc = lD) := ⟨_, Lib.hid rfl⟩
            rw [HLD.out] at HI'
            have q1 := HI'.out.r.cell (j := 2) (v := .slice sa S.slots.length sc) (by rw [HROW.out]; rfl)
            clear I5
            by_cases hjl : j < S.slots.length
            · have hji : (j : Int) < S.slots.length := by omega
              obtain ⟨sb, off, cap', e1, hcap, hbw, hc⟩ := HS.out.s.open (by omega)
              cases e1
              obtain ⟨d0, d1⟩ := slot_cells hc j hjl
              have HT' := Lib.hid (flat_take cT.enc S.slots j hjl)
              generalize S.slots[j] = y at *
              have hy1 := wrap8 y.pt
              have hy2 := wrap8 y.tk
              have HA := Lib.hid (HI'.out.alloc (.cells #[.int .u8 (by8 y.pt).toNat, .int .u8 (by8 y.tk).toNat] 5))
              have HKEEP : Hid (∀ (W : World) (v : Value) (m : Nat) (l : List UInt8), Ib w W row v m l → W.cell? ⟨w.heap.size, 2, none⟩ = some (.slice (some ⟨sb, off, none⟩) S.slots.length sc) ∧ W.cell? ⟨sb, off + j * 2, none⟩ = some (.int .i64 y.pt) ∧ W.cell? ⟨sb, off + j * 2 + 1, none⟩ = some (.int .i64 y.tk)) := Lib.hid (fun W v m l h => ⟨h.r.cell (by rw [HROW.out]; rfl), bcl h.b hbw d0, bcl h.b hbw d1⟩)
              clear hc d0 d1
              go_wp2
              refine region_still (S := fun W => W.cell? ⟨w.heap.size, 2, none⟩ = some (.slice (some ⟨sb, off, none⟩) S.slots.length sc) ∧ W.cell? ⟨sb, off + j * 2, none⟩ = some (.int .i64 y.pt) ∧ W.cell? ⟨sb, off + j * 2 + 1, none⟩ = some (.int .i64 y.tk)) 17 (by kernel_rfl) (HKEEP.out _ _ _ _ HI'.out.drew) (fun hHeld => ?_)
              refine Still.takeBy (i := 0) [] (v := ?v101) (by kernel_rfl) (by kernel_rfl) rfl (by kernel_rfl) (by kernel_rfl) (by kernel_rfl) (fun _ _ _ h => h) (Or.inl ⟨by rfl, ?y101⟩) hHeld ?r101
              case y101 => (intro w' hSw; (try dsimp only at hSw); obtain ⟨x0, x1, x2⟩ := hSw; go_simp; try with_reducible rfl)
              simp only [Act.put, List.getElem_toArray, List.getElem_cons_zero, List.getElem_cons_succ, List.setIfInBounds_toArray, List.set_cons_zero, List.set_cons_succ]
              refine Still.takeBy (i := 1) [] (v := ?v102) (by kernel_rfl) (by kernel_rfl) rfl (by kernel_rfl) (by kernel_rfl) (by kernel_rfl) (fun _ _ _ h => h) (Or.inl ⟨by rfl, ?y102⟩) hHeld ?r102
              case y102 => (intro w' hSw; (try dsimp only at hSw); obtain ⟨x0, x1, x2⟩ := hSw; go_simp; try with_reducible rfl)
              simp only [Act.put, List.getElem_toArray, List.getElem_cons_zero, List.getElem_cons_succ, List.setIfInBounds_toArray, List.set_cons_zero, List.set_cons_succ]
              refine Still.takeBy (i := 2) [] (v := ?v103) (by kernel_rfl) (by kernel_rfl) rfl (by kernel_rfl) (by kernel_rfl) (by kernel_rfl) (fun _ _ _ h => h) (Or.inl ⟨by rfl, ?y103⟩) hHeld ?r103
              case y103 => (intro w' hSw; (try dsimp only at hSw); obtain ⟨x0, x1, x2⟩ := hSw; go_simp; try with_reducible rfl)
              simp only [Act.put, List.getElem_toArray, List.getElem_cons_zero, List.getElem_cons_succ, List.setIfInBounds_toArray, List.set_cons_zero, List.set_cons_succ]
              refine Still.takeBy (i := 3) [] (v := ?v104) (by kernel_rfl) (by kernel_rfl) rfl (by kernel_rfl) (by kernel_rfl) (by kernel_rfl) (fun _ _ _ h => h) (Or.inl ⟨by rfl, ?y104⟩) hHeld ?r104
              case y104 => (intro w' hSw; (try dsimp only at hSw); obtain ⟨x0, x1, x2⟩ := hSw; go_simp; try with_reducible rfl)
              simp only [Act.put, List.getElem_toArray, List.getElem_cons_zero, List.getElem_cons_succ, List.setIfInBounds_toArray, List.set_cons_zero, List.set_cons_succ]
              refine Still.takeBy (i := 4) [] (v := ?v105) (by kernel_rfl) (by kernel_rfl) rfl (by kernel_rfl) (by kernel_rfl) (by kernel_rfl) (fun _ _ _ h => h) (Or.inl ⟨by rfl, ?y105⟩) hHeld ?r105
              case y105 => (intro w' hSw; (try dsimp only at hSw); obtain ⟨x0, x1, x2⟩ := hSw; go_simp; try with_reducible rfl)
              simp only [Act.put, List.getElem_toArray, List.getElem_cons_zero, List.getElem_cons_succ, List.setIfInBounds_toArray, List.set_cons_zero, List.set_cons_succ]
              refine Still.takeBy (i := 5) [] (v := ?v106) (by kernel_rfl) (by kernel_rfl) rfl (by kernel_rfl) (by kernel_rfl) (by kernel_rfl) (fun _ _ _ h => h) (Or.inl ⟨by rfl, ?y106⟩) hHeld ?r106
              case y106 => (intro w' hSw; (try dsimp only at hSw); obtain ⟨x0, x1, x2⟩ := hSw; go_simp; try with_reducible rfl)
              simp only [Act.put, List.getElem_toArray, List.getElem_cons_zero, List.getElem_cons_succ, List.setIfInBounds_toArray, List.set_cons_zero, List.set_cons_succ]
              refine Still.takeBy (i := 6) [] (v := ?v107) (by kernel_rfl) (by kernel_rfl) rfl (by kernel_rfl) (by kernel_rfl) (by kernel_rfl) (fun _ _ _ h => h) (Or.inl ⟨by rfl, ?y107⟩) hHeld ?r107
              case y107 => (intro w' hSw; (try dsimp only at hSw); obtain ⟨x0, x1, x2⟩ := hSw; go_simp; try with_reducible rfl)
              simp only [Act.put, List.getElem_toArray, List.getElem_cons_zero, List.getElem_cons_succ, List.setIfInBounds_toArray, List.set_cons_zero, List.set_cons_succ]
              refine Still.takeBy (i := 7) [] (v := ?v108) (by kernel_rfl) (by kernel_rfl) rfl (by kernel_rfl) (by kernel_rfl) (by kernel_rfl) (fun _ _ _ h => h) (Or.inl ⟨by rfl, ?y108⟩) hHeld ?r108
              case y108 => (intro w' hSw; (try dsimp only at hSw); obtain ⟨x0, x1, x2⟩ := hSw; go_simp; try with_reducible rfl)
              simp only [Act.put, List.getElem_toArray, List.getElem_cons_zero, List.getElem_cons_succ, List.setIfInBounds_toArray, List.set_cons_zero, List.set_cons_succ]
              refine Still.takeBy (i := 8) [] (v := ?v109) (by kernel_rfl) (by kernel_rfl) rfl (by kernel_rfl) (by kernel_rfl) (by kernel_rfl) (fun _ _ _ h => h) (Or.inl ⟨by rfl, ?y109⟩) hHeld ?r109
              case y109 => (intro w' hSw; (try dsimp only at hSw); obtain ⟨x0, x1, x2⟩ := hSw; go_simp; try with_reducible rfl)
              simp only [Act.put, List.getElem_toArray, List.getElem_cons_zero, List.getElem_cons_succ, List.setIfInBounds_toArray, List.set_cons_zero, List.set_cons_succ]
              refine Still.takeBy (i := 9) [] (v := ?v110) (by kernel_rfl) (by kernel_rfl) rfl (by kernel_rfl) (by kernel_rfl) (by kernel_rfl) (fun _ _ _ h => h) (Or.inl ⟨by rfl, ?y110⟩) hHeld ?r110
              case y110 => (intro w' hSw; (try dsimp only at hSw); obtain ⟨x0, x1, x2⟩ := hSw; go_simp; try with_reducible rfl)
              simp only [Act.put, List.getElem_toArray, List.getElem_cons_zero, List.getElem_cons_succ, List.setIfInBounds_toArray, List.set_cons_zero, List.set_cons_succ]
              refine Still.takeBy (i := 10) [] (v := ?v111) (by kernel_rfl) (by kernel_rfl) rfl (by kernel_rfl) (by kernel_rfl) (by kernel_rfl) (fun _ _ _ h => h) (Or.inl ⟨by rfl, ?y111⟩) hHeld ?r111
              case y111 => (intro w' hSw; (try dsimp only at hSw); obtain ⟨x0, x1, x2⟩ := hSw; go_simp; try with_reducible rfl)
              simp only [Act.put, List.getElem_toArray, List.getElem_cons_zero, List.getElem_cons_succ, List.setIfInBounds_toArray, List.set_cons_zero, List.set_cons_succ]
              refine Still.takeBy (i := 11) [] (v := ?v112) (by kernel_rfl) (by kernel_rfl) rfl (by kernel_rfl) (by kernel_rfl) (by kernel_rfl) (fun _ _ _ h => h) (Or.inl ⟨by rfl, ?y112⟩) hHeld ?r112
              case y112 => (intro w' hSw; (try dsimp only at hSw); obtain ⟨x0, x1, x2⟩ := hSw; go_simp; try with_reducible rfl)
              simp only [Act.put, List.getElem_toArray, List.getElem_cons_zero, List.getElem_cons_succ, List.setIfInBounds_toArray, List.set_cons_zero, List.set_cons_succ]
              refine Still.takeBy (i := 12) [] (v := ?v113) (by kernel_rfl) (by kernel_rfl) rfl (by kernel_rfl) (by kernel_rfl) (by kernel_rfl) (fun _ _ _ h => h) (Or.inl ⟨by rfl, ?y113⟩) hHeld ?r113
              case y113 => (intro w' hSw; (try dsimp only at hSw); obtain ⟨x0, x1, x2⟩ := hSw; go_simp; try with_reducible rfl)
              simp only [Act.put, List.getElem_toArray, List.getElem_cons_zero, List.getElem_cons_succ, List.setIfInBounds_toArray, List.set_cons_zero, List.set_cons_succ]
              refine Still.takeBy (i := 13) [] (v := ?v114) (by kernel_rfl) (by kernel_rfl) rfl (by kernel_rfl) (by kernel_rfl) (by kernel_rfl) (fun _ _ _ h => h) (Or.inl ⟨by rfl, ?y114⟩) hHeld ?r114
              case y114 => (intro w' hSw; (try dsimp only at hSw); obtain ⟨x0, x1, x2⟩ := hSw; go_simp; try with_reducible rfl)
              simp only [Act.put, List.getElem_toArray, List.getElem_cons_zero, List.getElem_cons_succ, List.setIfInBounds_toArray, List.set_cons_zero, List.set_cons_succ]
              refine Still.takeBy (i := 14) [] (v := ?v115) (by kernel_rfl) (by kernel_rfl) rfl (by kernel_rfl) (by kernel_rfl) (by kernel_rfl) (fun _ _ _ h => h) (Or.inl ⟨by rfl, ?y115⟩) hHeld ?r115
              case y115 => (intro w' hSw; (try dsimp only at hSw); obtain ⟨x0, x1, x2⟩ := hSw; go_simp; try with_reducible rfl)
              simp only [Act.put, List.getElem_toArray, List.getElem_cons_zero, List.getElem_cons_succ, List.setIfInBounds_toArray, List.set_cons_zero, List.set_cons_succ]
              refine Still.all (rs := [15]) (by kernel_rfl) (by simp) (Still.one (i := 15) rfl rfl (fun K hK => ?_) (by simp))
              go_simp
              refine hK _ _ (fun _ => HKEEP.out _ _ _ _ HA.out.drew) (fun hh => ?_)
              have hHeld := hh (by decide)
              clear hh hK K
              try simp only [Act.put, List.getElem_toArray, List.getElem_cons_zero, List.getElem_cons_succ, List.setIfInBounds_toArray, List.set_cons_zero, List.set_cons_succ]
              refine Still.all (rs := [16]) (by kernel_rfl) (by simp) (Still.one (i := 16) rfl rfl (fun K hK => ?_) (by simp))
              refine wp_append_lies _ (.tmp 138) (.tmp 153) 40 (by rfl) (w.heap.size + 1) 5 i0 (.int .u8 0) 1 1 Tryd.underlying40 hi hz0 hz1 hz2 rfl (by decide) _ n3 (Lib.byteCells lD) (by first | rfl | simp [Act.eval, Act.put]) HA.out.drew.o ⟨wr.heap.size, 0, none⟩ 2 2 (Lib.byteCells [by8 y.pt, by8 y.tk]) (by first | rfl | simp [Act.eval, Act.put]) rfl (new_rangeI _ _ _ _ rfl) (byte_one _) (by decide) (by unfold maxLen; omega) (by omega) (by have := HA.out.drew.z; omega) _ rfl ?_
              intro g7 cap7 W7 hown hgrow hat hglt
              have I7 := Lib.hid (HA.out.drew.grow hgrow hown)
              clear hown hgrow hat hglt
              refine hK _ _ (fun _ => HKEEP.out _ _ _ _ I7.out) (fun hh => ?_)
              have hHeld := hh (by decide)
              clear hh hK K
              try simp only [Act.put, List.getElem_toArray, List.getElem_cons_zero, List.getElem_cons_succ, List.setIfInBounds_toArray, List.set_cons_zero, List.set_cons_succ]
              refine Still.all (rs := [17]) (by kernel_rfl) (by simp) (Still.one (i := 17) rfl rfl (fun K hK => ?_) (by simp))
              clear hHeld
              go_simp
              refine hK _ _ (fun h => absurd rfl h) (fun _ => ?_)
              clear hK K
              refine Still.over (by kernel_rfl) ?_ _
              go_wp2
              go_roundw
              case rel => exact ⟨j + 1, _, _, _, by go_num, rfl, by omega, by omega, by rw [HT'.out, ← List.append_assoc, HLD.out]; exact I7⟩
              case measure => simp [intOf]; omega
            · obtain rfl : j = S.slots.length := by omega
              have hji : ¬ ((S.slots.length : Int) < S.slots.length) := by omega
              have HE : Hid (lD = cS.enc S) := Lib.hid (by
                rw [← HLD.out, ← HLC.out, ← HLA.out, List.take_length, List.take_length, List.take_length, cS_enc]
                simp [Cod.ls])
              have HLN := Lib.hid HI'.out.len
              have hn0 : 0 < n3 := by
                rw [← HLN.out, ← HLD.out]
                simp
                omega
              have HCB := Lib.hid (own_sl HI'.out.o)
              obtain ⟨gb, go_, gc, e1, _, hgb, hgc⟩ := HCB.out.open hn0
              cases e1
              have hcv : (convert 40 9 (.slice (some ⟨gb, go_, none⟩) n3 cap')).run Tryd.prog wr = .ok (.string ⟨lD.toArray⟩) wr := by
                rw [← HLN.out]
                exact run_convert_bytes_back wr 40 9 5 ⟨gb, go_, none⟩ cap' lD Tryd.underlying40 Tryd.underlying5 Tryd.underlying9 (fun q hq => by
                  have := sl_src hgc q (.int .u8 lD[q].toNat) (by simp [Lib.byteCells, hq])
                  exact this)
              have HB := Lib.hid HI'.out.b
              clear hgc HCB HI' hn0
              go_wp2
              go_ret
              exact ⟨by rw [← HE.out] <;> rfl, HB.out⟩
end Go.Proofs.YtbhfnkbflikliaaDoor

namespace Go.Proofs.YtbhfnkbflikliaaDoor
set_option linter.unusedSimpArgs false
set_option linter.unusedVariables false
open Go.RowKit Go.Sort
def sysZ : SysD := ⟨[], [], []⟩
def rdS (b : List UInt8) : SysD := if 8192 < b.length then sysZ else (readD b).getD sysZ
def rdE (b : List UInt8) : Int := if 8192 < b.length then 2 else if (readD b).isNone then 1 else 0
set_option maxRecDepth 100000 in
set_option maxHeartbeats 8000000 in
theorem imageRead_any (b : List UInt8) (w : World) (he : Env w) (v0 : Int) (hv : rdE b = v0) (S : SysD) (hS : rdS b = S) :
    Calls Tryd.prog 8 #[.string ⟨b.toArray⟩] w fun e w' => ∃ vp vc vs, e = .returned (.tuple #[.agg #[vp, vc, vs], .int .i64 v0]) ∧ SysO w.heap.size w' vp vc vs S ∧ Below w.heap.size w w' := by
  have HE := Lib.hid he
  have HB0 := Lib.hid ((Below.refl w.heap.size w).alloc (Nat.le_refl _) (.cells #[.slice none 0 0, .slice none 0 0, .slice none 0 0] 26))
  have R0 := Lib.hid (Rw.new w 26 #[.slice none 0 0, .slice none 0 0, .slice none 0 0] rfl)
  clear he
  by_cases hl : 8192 < b.length
  · have e1 : v0 = 2 := by rw [← hv]; unfold rdE; rw [if_pos hl]
    have e2 : S = sysZ := by rw [← hS]; unfold rdS; rw [if_pos hl]
    subst e1
    subst e2
    have hli : (8192 : Int) < b.length := by omega
    clear hv hS hl
    go_enter Tryd.func8, Tryd.ntmps8
    go_upto_region 2 with fail
    generalize hX : World.alloc _ _ = X
    rw [hX] at HB0 R0
    clear hX
    go_wp2_with (refine wpList_store_rowW rfl 26 (.tmp 2) (.tmp 9) rfl w.heap.size #[.slice none 0 0, .slice none 0 0, .slice none 0 0] rfl rfl 26 _ R0.out sizeSysR rfl (by simp [Value.oneCell']) ?_)
    intro W4 HW4
    have r5 : Rw W4 w.heap.size 26 #[.slice none 0 0, .slice none 0 0, .slice none 0 0] := by rw [HW4.out]; exact R0.out.row _
    have HB4 := Lib.hid (show Below w.heap.size w W4 by rw [HW4.out]; exact below_row HB0.out (Nat.le_refl _) _)
    clear HW4
    go_wp2
    refine bodyPost_ret (results_row_tmp Tryd.results8 _ _ w.heap.size _ _ rfl rfl (run_loadVar_row _ _ 26 _ _ (0, 0) _ r5 Tryd.underlying26 rfl sizeSysR)) rfl ⟨_, _, _, rfl, SysO.nil _ _, HB4.out⟩
  · have hli : ¬ (8192 : Int) < b.length := by omega
    have HV : Hid (v0 = if (readD b).isNone then 1 else 0) := Lib.hid (by rw [← hv]; unfold rdE; rw [if_neg hl])
    have HS : Hid (S = (readD b).getD sysZ) := Lib.hid (by rw [← hS]; unfold rdS; rw [if_neg hl])
    clear hv hS hl
    go_enter Tryd.func8, Tryd.ntmps8
    go_wp2_with fail
    refine (read_any b _ (HE.out.up HB0.out)).mono ?_
    rintro e w2 (⟨hn, rfl, b2⟩ | ⟨D, hn, vp, vc, vs, rfl, hN, b2⟩)
    · have e1 : v0 = 1 := by rw [HV.out, hn]; rfl
      have e2 : S = sysZ := by rw [HS.out, hn]; rfl
      subst e1
      subst e2
      have r4 := Lib.hid (R0.out.up b2 (by simp))
      have z2 := b2.size
      simp at z2
      have HB2 := Lib.hid (HB0.out.trans (b2.mono (by simp)))
      clear b2 HV HS hn R0 HB0
      go_upto_region 5 with fail
      generalize hW3 : World.alloc _ _ = W3
      have b3 : Below w2.heap.size w2 W3 := by rw [← hW3]; exact (Below.refl _ _).alloc (Nat.le_refl _) _
      have r4b := Lib.hid (r4.out.up b3 r4.out.lt)
      have HB3 := Lib.hid (HB2.out.trans (b3.mono (by omega)))
      clear hW3 b3 r4 HB2
      go_wp2_with (refine wpList_store_rowW rfl 26 (.tmp 2) (.tmp 17) rfl w.heap.size #[.slice none 0 0, .slice none 0 0, .slice none 0 0] rfl rfl 26 _ r4b.out sizeSysR rfl (by simp [Value.oneCell']) ?_)
      intro W4 HW4
      have r5 : Rw W4 w.heap.size 26 #[.slice none 0 0, .slice none 0 0, .slice none 0 0] := by rw [HW4.out]; exact r4b.out.row _
      have HB4 := Lib.hid (show Below w.heap.size w W4 by rw [HW4.out]; exact below_row HB3.out (Nat.le_refl _) _)
      clear HW4
      go_wp2
      refine bodyPost_ret (results_row_tmp Tryd.results8 _ _ w.heap.size _ _ rfl rfl (run_loadVar_row _ _ 26 _ _ (0, 0) _ r5 Tryd.underlying26 rfl sizeSysR)) rfl ⟨_, _, _, rfl, SysO.nil _ _, HB4.out⟩
    · have e1 : v0 = 0 := by rw [HV.out, hn]; rfl
      have e2 : S = D := by rw [HS.out, hn]; rfl
      subst e1
      subst e2
      obtain ⟨pa, pc, rfl⟩ := hN.p.form
      obtain ⟨ka, kc, rfl⟩ := own_form hN.c
      obtain ⟨sa, sc, rfl⟩ := own_form hN.s
      rw [World.size_alloc] at hN
      have r4 := Lib.hid (R0.out.up b2 (by simp))
      have z2 := b2.size
      simp at z2
      have HB2 := Lib.hid (HB0.out.trans (b2.mono (by simp)))
      have N2 := Lib.hid hN
      clear b2 HV HS hn R0 HB0 hN
      go_upto_region 4 with fail
      generalize hW3 : World.alloc _ _ = W3
      have b3 : Below w2.heap.size w2 W3 := by rw [← hW3]; exact (Below.refl _ _).alloc (Nat.le_refl _) _
      have r5 : Hid (Rw W3 w2.heap.size 26 #[.slice pa S.parts.length pc, .slice ka S.chans.length kc, .slice sa S.slots.length sc]) := Lib.hid (by rw [← hW3]; exact Rw.new _ _ _ rfl)
      have r4b := Lib.hid (r4.out.up b3 r4.out.lt)
      have HB3 := Lib.hid (HB2.out.trans (b3.mono (by omega)))
      have N3 := Lib.hid (N2.out.up b3)
      clear hW3 b3 r4 HB2 N2
      have q0 := r5.out.cell (j := 0) (v := .slice pa S.parts.length pc) rfl
      have q1 := r5.out.cell (j := 1) (v := .slice ka S.chans.length kc) rfl
      have q2 := r5.out.cell (j := 2) (v := .slice sa S.slots.length sc) rfl
      go_wp2_with (refine wpList_store_rowW rfl 26 (.tmp 2) (.tmp 18) rfl w.heap.size #[.slice pa S.parts.length pc, .slice ka S.chans.length kc, .slice sa S.slots.length sc] rfl rfl 26 _ r4b.out sizeSysR rfl (by simp [Value.oneCell']) ?_)
      intro W4 HW4
      have r6 : Rw W4 w.heap.size 26 #[.slice pa S.parts.length pc, .slice ka S.chans.length kc, .slice sa S.slots.length sc] := by rw [HW4.out]; exact r4b.out.row _
      have HB4 := Lib.hid (show Below w.heap.size w W4 by rw [HW4.out]; exact below_row HB3.out (Nat.le_refl _) _)
      have N4 := Lib.hid (show SysO (w.heap.size + 1) W4 (.slice pa S.parts.length pc) (.slice ka S.chans.length kc) (.slice sa S.slots.length sc) S by rw [HW4.out]; exact N3.out.row (by omega) _)
      clear HW4
      go_wp2
      refine bodyPost_ret (results_row_tmp Tryd.results8 _ _ w.heap.size _ _ rfl rfl (run_loadVar_row _ _ 26 _ _ (0, 0) _ r6 Tryd.underlying26 rfl sizeSysR)) rfl ⟨_, _, _, rfl, N4.out.low (by omega), HB4.out⟩
end Go.Proofs.YtbhfnkbflikliaaDoor

namespace Go.Proofs.YtbhfnkbflikliaaDoor
set_option linter.unusedSimpArgs false
set_option linter.unusedVariables false
open Go.RowKit Go.Sort
theorem Eye.alloc {W : World} {g : Nat} {q : List UInt8} (he : Eye W g q) (o : Obj) : Eye (W.alloc o) g q := Rw.alloc he o
theorem Eye.set {W : World} {g c i : Nat} {q : List UInt8} (he : Eye W g q) (v : Value) (hc : g ≠ c) : Eye (W.setCell ⟨c, i, none⟩ v) g q := Rw.set_other he v hc
theorem Rw.grownN {c : Nat} {t : TypeId} {cs : Array Value} {w1 w2 : World} (h : Rw w1 c t cs) {row : Option Nat} (hgr : w1.grownBy w2 row) (hrow : ∀ k, row = some k → c < k) : Rw w2 c t cs := (hgr.block c h.lt (fun e => by have := hrow c e.symm; omega)).trans h
theorem Eye.grown {g : Nat} {w1 w2 : World} {q : List UInt8} (h : Eye w1 g q) {row : Option Nat} (hgr : w1.grownBy w2 row) (hrow : ∀ k, row = some k → g < k) : Eye w2 g q := Rw.grownN h hgr hrow
theorem own_ne {w : World} {B : Nat} {e : TypeId} {size : Nat} {v : Value} {n : Nat} {xs : List Value} (h : w.ownsRow B e size v n xs) {c : Nat} (hc : c < B) : v.ownBlock ≠ some c := fun e => by have := own_block h c e; omega
structure Ic (ge px : Nat) (w0 wr : World) (v u : Value) (p : Prt) (q : List UInt8) : Prop where
  r : Rw wr px 51 #[v, u]
  o : PrtO (px + 1) wr v u p
  e : Eye wr ge q
  s : One ge w0 wr
section
variable {ge px : Nat} {w0 wr wr' : World} {v u v' : Value} {p p' : Prt} {q q' : List UInt8}
theorem Ic.call (h : Ic ge px w0 wr v u p q) (ho : One ge wr wr') (he : Eye wr' ge q') (hg : ge < px) : Ic ge px w0 wr' v u p q' := ⟨ho.rw h.r (by omega), h.o.one ho (by omega), he, h.s.trans ho⟩
theorem Ic.alloc (h : Ic ge px w0 wr v u p q) (hg : ge < px) (o : Obj) : Ic ge px w0 (wr.alloc o) v u p q := ⟨h.r.alloc _, h.o.alloc _, h.e.alloc _, h.s.alloc (by have := h.r.lt; omega) _⟩
theorem Ic.drew (h : Ic ge px w0 wr v u p q) : Ic ge px w0 wr.drew v u p q := ⟨h.r, ⟨h.o.code, h.o.inn⟩, h.e, ⟨h.s.b.drew, h.s.k⟩⟩
theorem Ic.code (h : Ic ge px w0 wr v u p q) (hg : ge < px) (hp : w0.heap.size ≤ px) (hw0 : ge < w0.heap.size) (hgr : wr.grownBy wr' v.ownBlock) {ds : List Ins} (ho : wr'.ownsRow (px + 1) 59 4 v' ds.length (codeC ds)) :
    Ic ge px w0 (wr'.setCell ⟨px, 0, none⟩ v') v' u ⟨ds, p.inn⟩ q ∧ Rw wr' px 51 #[v, u] := by
  have hb : ∀ k, v.ownBlock = some k → px + 1 ≤ k := own_block h.o.code
  have hr := h.r.grownN hgr (fun k e => by have := hb k e; omega)
  refine ⟨⟨hr.set 0 _, ⟨own_set ho _ (own_ne ho (show px < px + 1 by omega)), own_set (own_growT h.o.inn hgr h.o.code rfl (by decide)) _ (own_ne h.o.inn (show px < px + 1 by omega))⟩, (h.e.grown hgr (fun k e => by have := hb k e; omega)).set _ (by omega), (h.s.grown hgr (fun k e => by have := hb k e; omega) hw0).put hp (by omega) _ _⟩, hr⟩
theorem Ic.inn (h : Ic ge px w0 wr v u p q) (hg : ge < px) (hp : w0.heap.size ≤ px) (hw0 : ge < w0.heap.size) (hgr : wr.grownBy wr' u.ownBlock) {es : List Int} (ho : wr'.ownsRow (px + 1) 3 1 v' es.length (ints es)) :
    Ic ge px w0 (wr'.setCell ⟨px, 1, none⟩ v') v v' ⟨p.code, es⟩ q ∧ Rw wr' px 51 #[v, u] := by
  have hb : ∀ k, u.ownBlock = some k → px + 1 ≤ k := own_block h.o.inn
  have hr := h.r.grownN hgr (fun k e => by have := hb k e; omega)
  refine ⟨⟨hr.set 1 _, ⟨own_set (own_growT h.o.code hgr h.o.inn rfl (by decide)) _ (own_ne h.o.code (show px < px + 1 by omega)), own_set ho _ (own_ne ho (show px < px + 1 by omega))⟩, (h.e.grown hgr (fun k e => by have := hb k e; omega)).set _ (by omega), (h.s.grown hgr (fun k e => by have := hb k e; omega) hw0).put hp (by omega) _ _⟩, hr⟩
end
structure Iy (ge iy : Nat) (t : TypeId) (w0 wr : World) (cs : Array Value) (q : List UInt8) : Prop where
  y : Rw wr iy t cs
  e : Eye wr ge q
  s : One ge w0 wr
section
variable {ge iy : Nat} {t : TypeId} {w0 wr wr' : World} {cs : Array Value} {q q' : List UInt8}
theorem Iy.call (h : Iy ge iy t w0 wr cs q) (ho : One ge wr wr') (he : Eye wr' ge q') (hg : ge < iy) : Iy ge iy t w0 wr' cs q' := ⟨ho.rw h.y (by omega), he, h.s.trans ho⟩
theorem Iy.put (h : Iy ge iy t w0 wr cs q) (hg : ge < iy) (hi : w0.heap.size ≤ iy) (i : Nat) (v : Value) : Iy ge iy t w0 (wr.setCell ⟨iy, i, none⟩ v) (cs.setIfInBounds i v) q := ⟨h.y.set i v, h.e.set _ (by omega), h.s.put hi (by omega) _ _⟩
theorem Iy.new {w1 : World} (ho : One ge w0 w1) (he : Eye w1 ge q) (t : TypeId) (cs : Array Value) (hg : ge ≤ w1.heap.size) : Iy ge w1.heap.size t w0 (w1.alloc (.cells cs t)) cs q := ⟨Rw.new _ _ _ rfl, he.alloc _, ho.alloc hg _⟩
end
structure If (w wr : World) (vp vc vs : Value) (S : SysD) (q : List UInt8) : Prop where
  r2 : Rw wr w.heap.size 26 #[.slice none 0 0, .slice none 0 0, .slice none 0 0]
  e : Eye wr (w.heap.size + 1) q
  s : Rw wr (w.heap.size + 2) 26 #[vp, vc, vs]
  o : SysO (w.heap.size + 3) wr vp vc vs S
  b : Below w.heap.size w wr
section
variable {w wr wr' : World} {vp vc vs v' : Value} {S : SysD} {q q' : List UInt8}
theorem If.z (h : If w wr vp vc vs S q) : w.heap.size + 3 ≤ wr.heap.size := h.s.lt
theorem If.call (h : If w wr vp vc vs S q) (ho : One (w.heap.size + 1) wr wr') (he : Eye wr' (w.heap.size + 1) q') : If w wr' vp vc vs S q' :=
  ⟨ho.rw h.r2 (by omega), he, ho.rw h.s (by omega), h.o.one ho (by omega), h.b.trans (ho.b.mono (by omega))⟩
theorem If.alloc (h : If w wr vp vc vs S q) (o : Obj) : If w (wr.alloc o) vp vc vs S q := h.call (One.up ((Below.refl _ _).alloc (Nat.le_refl _) _) (by have := h.z; omega)) (h.e.alloc _)
theorem If.grow (h : If w wr vp vc vs S q) {row : Option Nat} (hgr : wr.grownBy wr' row) (hrow : ∀ k, row = some k → w.heap.size + 3 ≤ k) :
    Rw wr' w.heap.size 26 #[.slice none 0 0, .slice none 0 0, .slice none 0 0] ∧ Eye wr' (w.heap.size + 1) q ∧ Rw wr' (w.heap.size + 2) 26 #[vp, vc, vs] ∧ Below w.heap.size w wr' :=
  ⟨h.r2.grownN hgr (fun k e => by have := hrow k e; omega), h.e.grown hgr (fun k e => by have := hrow k e; omega), h.s.grownN hgr (fun k e => by have := hrow k e; omega), h.b.grown hgr h.b.size (fun k e => by have := hrow k e; omega)⟩
theorem If.putP (h : If w wr vp vc vs S q) (hgr : wr.grownBy wr' vp.ownBlock) (hrow : ∀ k, vp.ownBlock = some k → w.heap.size + 3 ≤ k) {S' : SysD} (ho : SysO (w.heap.size + 3) wr' v' vc vs S') : If w (wr'.setCell ⟨w.heap.size + 2, 0, none⟩ v') v' vc vs S' q :=
  let ⟨a, b, c, d⟩ := h.grow hgr hrow
  ⟨a.set_other _ (by simp), b.set _ (by omega), c.set 0 _, ho.setC (by simp) _, d.setCell (by simp) _⟩
theorem If.putC (h : If w wr vp vc vs S q) (hgr : wr.grownBy wr' vc.ownBlock) (hrow : ∀ k, vc.ownBlock = some k → w.heap.size + 3 ≤ k) {S' : SysD} (ho : SysO (w.heap.size + 3) wr' vp v' vs S') : If w (wr'.setCell ⟨w.heap.size + 2, 1, none⟩ v') vp v' vs S' q :=
  let ⟨a, b, c, d⟩ := h.grow hgr hrow
  ⟨a.set_other _ (by simp), b.set _ (by omega), c.set 1 _, ho.setC (by simp) _, d.setCell (by simp) _⟩
theorem If.putS (h : If w wr vp vc vs S q) (hgr : wr.grownBy wr' vs.ownBlock) (hrow : ∀ k, vs.ownBlock = some k → w.heap.size + 3 ≤ k) {S' : SysD} (ho : SysO (w.heap.size + 3) wr' vp vc v' S') : If w (wr'.setCell ⟨w.heap.size + 2, 2, none⟩ v') vp vc v' S' q :=
  let ⟨a, b, c, d⟩ := h.grow hgr hrow
  ⟨a.set_other _ (by simp), b.set _ (by omega), c.set 2 _, ho.setC (by simp) _, d.setCell (by simp) _⟩
theorem If.drew (h : If w wr vp vc vs S q) : If w wr.drew vp vc vs S q := ⟨h.r2, h.e, h.s, h.o.up (Below.refl _ _).drew, h.b.drew⟩
end
theorem PartsO.growT {B base : Nat} {w w' : World} {v u : Value} {ps : List Prt} {e : TypeId} {n size : Nat} {xs : List Value} (h : PartsO B w v ps) (hgr : w.grownBy w' u.ownBlock) (hu : w.ownsRow base e size u n xs) (h1 : 51 ≠ e) (h2 : 59 ≠ e) (h3 : 3 ≠ e) : PartsO B w' v ps := by
  obtain ⟨vs, a, b, c⟩ := h
  exact ⟨vs, a, own_growT b hgr hu rfl h1, fun k hk hk' => ⟨own_growT (c k hk hk').code hgr hu rfl h2, own_growT (c k hk hk').inn hgr hu rfl h3⟩⟩
theorem PartsO.snoc {B k cap : Nat} {w w' : World} {ao : Option Addr} {g cap' : Nat} {ds : List Prt} {d : Prt} {c i : Value} {us : List (Value × Value)} (hdl : ds.length = k) (hul : us.length = ds.length) (ho : w.ownsRow B 51 2 (.slice ao k cap) k (rowC prC us)) (hin : ∀ j (hj : j < ds.length) (hj' : j < us.length), PrtO B w us[j].1 us[j].2 ds[j]) (hd : PrtO B w c i d)
    (hgr : w.grownBy w' (Value.slice ao k cap).ownBlock) (hown : w'.ownsRow B 51 2 (.slice (some ⟨g, 0, none⟩) (k + 1) cap') (k + 1) (rowC prC us ++ [c, i])) : PartsO B w' (.slice (some ⟨g, 0, none⟩) (k + 1) cap') (ds ++ [d]) := by
  refine ⟨us ++ [(c, i)], by simp [hul], ?_, fun j hj hj' => ?_⟩
  · rw [show (ds ++ [d]).length = k + 1 by rw [List.length_append, hdl]; rfl, show rowC prC (us ++ [(c, i)]) = rowC prC us ++ [c, i] by simp [rowC, prC]]
    exact hown
  · by_cases hjl : j < ds.length
    · rw [List.getElem_append_left hjl]
      have := (hin j hjl (by omega)).grow hgr ho
      rw [List.getElem_append_left (by omega)]
      exact this
    · have ej : j = ds.length := by rw [List.length_append] at hj; simp at hj; omega
      subst ej
      rw [List.getElem_append_right (Nat.le_refl _), List.getElem_append_right (by omega)]
      simpa [hul] using hd.grow hgr ho
theorem eyeC_range (l : List UInt8) : (eyeB l).1 = ((eyeB l).1.toNat : Int) ∧ (eyeB l).1.toNat < 256 := by
  have := eyeB_range l
  omega
theorem manyE_succ {α : Type} (A : Cod α) (k : Nat) (l : List UInt8) : (manyE A (k + 1) l).1 = (manyE A k l).1 ++ [(A.eye (manyE A k l).2).1] ∧ (manyE A (k + 1) l).2 = (A.eye (manyE A k l).2).2 := ⟨rfl, rfl⟩
theorem good_ok {S : SysD} (h : cS.good S) : S.ok := by
  intro p hp j hj
  have h1 : cP.good p := h.1.2 p hp
  have h2 : cI.good p.code[j] := h1.1.2 _ (List.getElem_mem hj)
  obtain ⟨⟨a0, a1⟩, ⟨b0, b1⟩, ⟨c0, c1⟩, d⟩ := h2
  have f : ∀ {n : Int}, 0 ≤ n → n < 256 → in64 n := fun h1 h2 => ⟨by omega, by omega⟩
  exact ⟨f a0 a1, f b0 b1, f c0 c1, d⟩
def fromD (b : List UInt8) : Option SysD := if chkS (cS.eye b).1 = 0 ∧ cS.enc (cS.eye b).1 = b then some (cS.eye b).1 else none
end Go.Proofs.YtbhfnkbflikliaaDoor
