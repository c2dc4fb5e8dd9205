/- desk.Rules. -/
import Derived.Test.YtbkdoohhdkahiaaGreatDoorJ1
import Derived.Test.YtbkdoohhdkahiaaGreatDoorJ3
import Derived.Deep.CutRange
import Derived.Deep.AppendLies
import Derived.Deep.LoopGhost
import Derived.Test.YtbkdoohhdkahiaaGreatDoorJ0
import Derived.Shelf.RegionOpenPlain
import Derived.Lib.Builder
import Derived.Lib.UnsafeStr
import Derived.Lib.AppendStr
import Derived.Laws.Externs
import Derived.Shelf.RegionOpen
namespace Go.Proofs.YtbkdoohhdkahiaaGreatDoor
set_option linter.unusedSimpArgs false
set_option linter.unusedVariables false
set_option maxRecDepth 100000
set_option maxHeartbeats 8000000
open Go.RowKit Go.Sort
variable {l : List UInt8} {B b fr i most u : Nat} {c : UInt8} {ps : List (List UInt8)} {w w' w1 : World} {v : Value} {e : TypeId}
def xd4 (fuel : Nat) (last : Int × Int) (l : List UInt8) : Option (List Edg) :=
 match fuel with
 | 0 => none
 | fuel + 1 =>
  match xjo (xc2 32 l).1 with
  | none => none
  | some e =>
   if xiz last.1 last.2 e.1 e.2 = true then
    if (xc2 32 l).2.2 = true then
     match xd4 fuel e (xc2 32 l).2.1 with
     | none => none
     | some r => some (⟨e.1, e.2⟩ :: r)
    else some [⟨e.1, e.2⟩]
   else none
def xb8 (l : List UInt8) : Option (List Edg) := if l = [] then some [] else xd4 (l.length + 1) (-1, 0) l
theorem xie (c : UInt8) : ∀ l : List UInt8, (xc2 c l).2.2 = true -> (xc2 c l).2.1.length < l.length
 | [], h => by cases h
 | b :: r, h => by
  unfold xc2 at h ⊢
  by_cases hb : b = c
  .rw [if_pos hb]
   simp
  .rw [if_neg hb] at h ⊢
   have := xie c r h
   simp
   omega
theorem xpy (c : UInt8) : ∀ l : List UInt8, (xc2 c l).2.2 = false -> (xc2 c l).2.1 = []
 | [], _ => rfl
 | b :: r, h => by
  unfold xc2 at h ⊢
  by_cases hb : b = c
  .rw [if_pos hb] at h
   cases h
  .rw [if_neg hb] at h ⊢
   exact xpy c r h
theorem xlv : ∀ (f g : Nat) (last : Int × Int) (l : List UInt8), l.length < f -> l.length < g -> xd4 f last l = xd4 g last l
 | 0, _, _, _, h, _ => by omega
 | _, 0, _, _, _, h => by omega
 | f + 1, g + 1, last, l, hf, hg => by
  unfold xd4
  cases he : xjo (xc2 32 l).1 with
  | none => rfl
  | some e =>
   simp only
   split
   .split
    .rename_i hz
     have := xie 32 l hz
     rw [xlv f g e _ om om]
    .rfl
   .rfl
structure RuI (s : List UInt8) (L : List Edg) (last : Int × Int) (l : List UInt8) (more : Bool) : Prop where
 go : more = true -> xb8 s = (xd4 (l.length + 1) last l).map (L ++ ·)
 no : more = false -> xb8 s = some L
theorem RuI.start (s : List UInt8) : RuI s [] (-1, 0) s (!s.isEmpty) := by
 cases s with
 | nil => exact ⟨(fun h => by cases h), fun _ => rfl⟩
 | cons x r =>
  refine ⟨fun _ => ?_, fun h => by cases h⟩
  unfold xb8
  rw [if_neg (by simp)]
  cases xd4 ((x :: r).length + 1) (-1, 0) (x :: r) <;> rfl
theorem RuI.bad {s : List UInt8} {L : List Edg} {last : Int × Int} {l : List UInt8} (h : RuI s L last l true) {a b : Int} {is : Bool} (he : xjm (xc2 32 l).1 a b is) (hb : (is && xiz last.1 last.2 a b) = false) : xb8 s = none := by
 rw [h.go rfl]
 unfold xjm at he
 unfold xd4
 cases is with
 | false =>
  rw [he]
  rfl
 | true =>
  rw [he]
  have hb : xiz last.1 last.2 a b = false := by simpa using hb
  simp [hb]
theorem RuI.next {s : List UInt8} {L : List Edg} {last : Int × Int} {l : List UInt8} (h : RuI s L last l true) {a b : Int} (he : xjm (xc2 32 l).1 a b true) (hb : xiz last.1 last.2 a b = true) : RuI s (L ++ [⟨a, b⟩]) (a, b) (xc2 32 l).2.1 (xc2 32 l).2.2 := by
 have h0 := h.go rfl
 unfold xjm at he
 unfold xd4 at h0
 rw [he] at h0
 simp only [if_true, hb] at h0
 refine ⟨fun hm => ?_, fun hm => ?_⟩
 .rw [hm, if_pos rfl] at h0
  have hl := xie 32 l hm
  rw [h0, xlv l.length ((xc2 32 l).2.1.length + 1) (a, b) _ hl om]
  cases xd4 ((xc2 32 l).2.1.length + 1) (a, b) (xc2 32 l).2.1 with
  | none => rfl
  | some r => simp
 .rw [hm, if_neg (by decide)] at h0
  rw [h0]
  rfl
theorem xut {a b : Int} (h : xjm l a b true) : 0 <= a /\ a < 4 /\ 0 <= b /\ b < 4 := by
 have h : xjo l = some (a, b) := h
 unfold xjo at h
 split at h
 .split at h
  .rename_i x y hx hy
   injection h with h
   injection h with h1 h2
   subst h1
   subst h2
   have := xdh hx
   have := xdh hy
   omega
  .cases h
 .cases h
theorem x1w (l : List UInt8) : (⟨l.toArray⟩ : ByteArray).size = l.length := by simp [ByteArray.size]
theorem xbw : (Tryz.prog.info? 27).map (·.size) = some 1 := by kernel_rfl
theorem xov : (Tryz.prog.info? 53).map (fun i => (i.zero, i.size, i.bytes)) = some (some (.agg #[.int .i64 0, .int .i64 0]), 2, 16) := by kernel_rfl
structure Ru (w wr : World) (v : Value) (L : List Edg) (last : Int × Int) : Prop where
 r : Rw wr w.heap.size 27 #[.slice none 0 0]
 p : Rw wr (w.heap.size + 1) 27 #[v]
 l : Rw wr (w.heap.size + 2) 53 #[.int .i64 last.1, .int .i64 last.2]
 o : wr.ownsRow (w.heap.size + 3) 53 2 v L.length (xbe Edg.cells L)
 b : Below w.heap.size w wr
section
variable {w wr wr' : World} {v : Value} {L : List Edg} {last : Int × Int}
theorem Ru.z (h : Ru w wr v L last) : w.heap.size + 3 <= wr.heap.size := h.l.lt
theorem Ru.up (h : Ru w wr v L last) (hb : Below wr.heap.size wr wr') : Ru w wr' v L last :=
 ⟨h.r.up hb h.r.lt, h.p.up hb h.p.lt, h.l.up hb h.l.lt, xde h.o hb (xbc h.o), h.b.trans (hb.mono h.b.size)⟩
theorem Ru.alloc (h : Ru w wr v L last) (o : Obj) : Ru w (wr.alloc o) v L last := h.up ((Below.refl _ _).alloc (Nat.le_refl _) _)
theorem Ru.grow (h : Ru w wr v L last) {v' : Value} {a b : Int} (hg : wr.grownBy wr' v.ownBlock) (ho : wr'.ownsRow (w.heap.size + 3) 53 2 v' (L ++ [(⟨a, b⟩ : Edg)]).length (xbe Edg.cells (L ++ [(⟨a, b⟩ : Edg)]))) :
  Ru w ((wr'.setCell ⟨w.heap.size + 1, 0, none⟩ v').setRow (w.heap.size + 2) #[.int .i64 a, .int .i64 b]) v' (L ++ [⟨a, b⟩]) (a, b) /\ Rw wr' (w.heap.size + 1) 27 #[v] /\ Rw (wr'.setCell ⟨w.heap.size + 1, 0, none⟩ v') (w.heap.size + 2) 53 #[.int .i64 last.1, .int .i64 last.2] := by
 have hb : ∀ k, v.ownBlock = some k -> w.heap.size + 3 <= k := xab h.o
 have k : ∀ {c t cs}, Rw wr c t cs -> c < w.heap.size + 3 -> Rw wr' c t cs := fun hr hc => (hg.block _ hr.lt (fun e => by have := hb _ e.symm; omega)).trans hr
 have k1 := k h.p om
 have k2 := k h.l om
 have k3 := k2.set_other (a := ⟨w.heap.size + 1, 0, none⟩) v' (by simp)
 refine ⟨⟨((k h.r om).set_other _ (by simp)).row_other _ om, (k1.set 0 v').row_other _ om, k3.row _, xan (xa2 ho _ (fun e => by have := xab ho _ e; simp at this)) _ (fun e => by have := xab ho _ e; omega), ?_⟩, k1, k3⟩
 exact xaa ((h.b.grown hg h.b.size (fun q e => by have := hb q e; omega)).setCell (by simp) _) om _
end
def xcv (l : List UInt8) : Int := if (xb8 l).isNone then 1 else 0
def xco (l : List UInt8) : List Edg := (xb8 l).getD []
theorem xik (s : List UInt8) (w : World) (he : Env w) (hs : s.length <= 281474976710656) :
  Calls Tryz.prog 7 #[.string ⟨s.toArray⟩] w fun e w' => ∃ v, e = .returned (.tuple #[.agg #[v], .int .i64 (xcv s)]) /\ w'.ownsRow w.heap.size 53 2 v (xco s).length (xbe Edg.cells (xco s)) /\ Below w.heap.size w w' := by
 obtain ⟨i1, hi1, hy0, hy1, hy2⟩ := xaj xov
 have HE := hd he
 clear he
 have HRS := hd (RuI.start s)
 go_enter Tryz.func7, Tryz.ntmps7
 go_upto_region 3 with fail
 generalize hX : World.alloc _ _ = X
 have hXX : X = ((w.alloc (.cells #[.slice none 0 0] 27)).alloc (.cells #[.slice none 0 0] 27)).alloc (.cells #[.int .i64 (-1), .int .i64 0] 53) := by rw [<- hX]
 have HU : Hid (Ru w X (.slice none 0 0) [] (-1, 0)) := hd ⟨by rw [hXX]; exact rn0, by rw [hXX]; exact rn0, by rw [hXX]; exact rn0, World.ownsRow_nil _ _ _ _, by rw [hXX]; exact up0⟩
 clear hX hXX
 go_wp2
 go_loopw [0, 6] (fun sv mv wr => ∃ (l : List UInt8) (more : Bool) (L : List Edg) (last : Int × Int) (ao : Option Addr) (cap : Nat), sv = .string ⟨l.toArray⟩ /\ mv = .bool more /\ l.length <= s.length /\ Hid (RuI s L last l more) /\ ((L.length : Int) <= 4 * last.1 + last.2 + 4 /\ last.1 < 4 /\ 0 <= last.2 /\ last.2 < 4) /\ Hid (Ru w wr (.slice ao L.length cap) L last)) (fun sv mv _ => 2 * (match sv with | .string b => b.size | _ => 0) + (match mv with | .bool true => 1 | _ => 0))
 case atStart => exact ⟨s, _, [], (-1, 0), none, 0, rfl, rfl, Nat.le_refl _, HRS, by simp, HU⟩
 case round =>
  obtain ⟨l, more, L, last, ao, cap, rfl, rfl, hl, HR, hLl, HI⟩ := hrel
  cases more with
  | false =>
   have hy := HR.out.no rfl
   have HYES : Hid (xcv s = 0 /\ xco s = L) := hd (by unfold xcv xco; rw [hy]; exact ⟨rfl, rfl⟩)
   have q0 := HI.out.p.cell (j := 0) (v := .slice ao L.length cap) rfl
   clear hy HU HRS
   go_wp2_with (refine xae rfl 27 (.tmp 2) (.tmp 41) rfl w.heap.size #[.slice ao L.length cap] rfl rfl 27 _ HI.out.r xbw rfl (by simp [Value.oneCell']) ?_)
   intro W9 HW9
   have r9 : Rw W9 w.heap.size 27 #[.slice ao L.length cap] := by rw [HW9.out]; exact HI.out.r.row _
   have HB9 := hd (show Below w.heap.size w W9 by rw [HW9.out]; exact xaa HI.out.b (Nat.le_refl _) _)
   have HO9 := hd (show W9.ownsRow (w.heap.size + 3) 53 2 (.slice ao L.length cap) L.length (xbe Edg.cells L) by rw [HW9.out]; exact xan HI.out.o _ (fun e => by have := xab HI.out.o _ e; omega))
   clear HW9
   go_wp2
   refine bodyPost_ret (xam Tryz.results7 _ _ w.heap.size _ _ rfl rfl (run_loadVar_row _ _ 27 _ _ (0, 0) _ r9 Tryz.underlying27 rfl xbw)) rfl ⟨.slice ao L.length cap, by rw [HYES.out.1] <;> rfl, by rw [HYES.out.2]; exact xau HO9.out om, HB9.out⟩
  | true =>
   have hcl := xn9 32 l
   have hlt : (xc2 32 l).2.2 = true -> (xc2 32 l).2.1.length < l.length := xie 32 l
   have hz0 : (xc2 32 l).2.2 = false -> (xc2 32 l).2.1 = [] := xpy 32 l
   have HCU := hd (xsx l 32 om)
   have HBAD := hd (fun a b is => @RuI.bad s L last l HR.out a b is)
   have HNX := hd (fun a b => @RuI.next s L last l HR.out a b)
   generalize xc2 32 l = c at *
   obtain ⟨p, q, z⟩ := c
   dsimp only at hcl hlt hz0 HCU HBAD HNX
   have hz := HI.out.z
   clear HR HU HRS
   go_wp2_with fail
   refine (HCU.out _).mono ?_
   rintro e w1 ⟨rfl, b1⟩
   have HI1 := hd (HI.out.up b1)
   clear b1 HI HCU
   go_wp2_with fail
   refine (xyd p _ (HE.out.up HI1.out.b) om).mono ?_
   rintro e w2 ⟨a, b, is, rfl, he, b2⟩
   have HED := hd he
   have HOO := hd (HI1.out.up b2).o
   have HI2 := hd ((HI1.out.up b2).alloc (.cells #[.int .i64 a, .int .i64 b] 53))
   have RY := hd (Rw.new w2 53 #[.int .i64 a, .int .i64 b] rfl)
   have hz2 : w.heap.size + 3 <= w2.heap.size := (HI1.out.up b2).z
   clear b2 he HI1
   go_upto_region 8 with fail
   obtain ⟨X2, HX2⟩ : ∃ X2, Hid (w2.alloc (.cells #[.int .i64 a, .int .i64 b] 53) = X2) := ⟨_, hd rfl⟩
   obtain ⟨gy, HGY⟩ : ∃ gy, Hid (w2.heap.size = gy) := ⟨_, hd rfl⟩
   rw [HX2.out, HGY.out] at RY
   rw [HX2.out] at HI2
   rw [HX2.out, HGY.out]
   rw [HGY.out] at hz2
   cases is with
   | false =>
    have hno := HBAD.out a b false HED.out rfl
    have HNO : Hid (xcv s = 1 /\ xco s = []) := hd (by unfold xcv xco; rw [hno]; exact ⟨rfl, rfl⟩)
    clear hno
    go_wp2_with (refine xae rfl 27 (.tmp 2) (.tmp 33) rfl w.heap.size #[.slice none 0 0] rfl rfl 27 _ HI2.out.r xbw rfl (by simp [Value.oneCell']) ?_)
    intro W9 HW9
    have r9 : Rw W9 w.heap.size 27 #[.slice none 0 0] := by rw [HW9.out]; exact HI2.out.r.row _
    have HB9 := hd (show Below w.heap.size w W9 by rw [HW9.out]; exact xaa HI2.out.b (Nat.le_refl _) _)
    clear HW9
    go_wp2
    refine bodyPost_ret (xam Tryz.results7 _ _ w.heap.size _ _ rfl rfl (run_loadVar_row _ _ 27 _ _ (0, 0) _ r9 Tryz.underlying27 rfl xbw)) rfl ⟨.slice none 0 0, by rw [HNO.out.1] <;> rfl, by rw [HNO.out.2]; exact World.ownsRow_nil _ _ _ _, HB9.out⟩
   | true =>
    have l0 := HI2.out.l.cell (j := 0) (v := .int .i64 last.1) rfl
    have l1 := HI2.out.l.cell (j := 1) (v := .int .i64 last.2) rfl
    have y0 := RY.out.cell (j := 0) (v := .int .i64 a) rfl
    have y1 := RY.out.cell (j := 1) (v := .int .i64 b) rfl
    go_wp2_with fail
    refine (xyl last.1 last.2 a b _).mono ?_
    rintro e w3 ⟨rfl, b3⟩
    have HI3 := hd (HI2.out.up b3)
    have RY3 := hd (RY.out.up b3 RY.out.lt)
    clear b3 l0 l1 y0 y1 HI2 RY
    cases hls : xiz last.1 last.2 a b with
    | false =>
     have hno := HBAD.out a b true HED.out (by rw [hls]; rfl)
     have HNO : Hid (xcv s = 1 /\ xco s = []) := hd (by unfold xcv xco; rw [hno]; exact ⟨rfl, rfl⟩)
     clear hno
     go_wp2_with (refine xae rfl 27 (.tmp 2) (.tmp 33) rfl w.heap.size #[.slice none 0 0] rfl rfl 27 _ HI3.out.r xbw rfl (by simp [Value.oneCell']) ?_)
     intro W9 HW9
     have r9 : Rw W9 w.heap.size 27 #[.slice none 0 0] := by rw [HW9.out]; exact HI3.out.r.row _
     have HB9 := hd (show Below w.heap.size w W9 by rw [HW9.out]; exact xaa HI3.out.b (Nat.le_refl _) _)
     clear HW9
     go_wp2
     refine bodyPost_ret (xam Tryz.results7 _ _ w.heap.size _ _ rfl rfl (run_loadVar_row _ _ 27 _ _ (0, 0) _ r9 Tryz.underlying27 rfl xbw)) rfl ⟨.slice none 0 0, by rw [HNO.out.1] <;> rfl, by rw [HNO.out.2]; exact World.ownsRow_nil _ _ _ _, HB9.out⟩
    | true =>
     have HRN := hd (HNX.out a b HED.out hls)
     have HLN : Hid (((L ++ [(⟨a, b⟩ : Edg)]).length : Int) <= 4 * a + b + 4 /\ a < 4 /\ 0 <= b /\ b < 4) := hd (by
      obtain ⟨r1, r2, r3, r4⟩ := xut HED.out
      refine ⟨?_, r2, r3, r4⟩
      unfold xiz at hls
      simp only [Bool.or_eq_true, Bool.and_eq_true, decide_eq_true_eq, beq_iff_eq] at hls
      rw [List.length_append]
      simp
      omega)
     have RYN : Hid (∀ k, Value.ownBlock (.slice ao L.length cap) = some k -> k ≠ gy) := hd (fun k e => by
      have := xbc HOO.out k e
      rw [<- HGY.out]
      omega)
     clear hls HBAD HNX
     have p0 := HI3.out.p.cell (j := 0) (v := .slice ao L.length cap) rfl
     have y0 := RY3.out.cell (j := 0) (v := .int .i64 a) rfl
     have y1 := RY3.out.cell (j := 1) (v := .int .i64 b) rfl
     have HI4 := hd (HI3.out.alloc (.cells #[.int .i64 a, .int .i64 b] 53))
     have RY4 := hd (RY3.out.alloc (.cells #[.int .i64 a, .int .i64 b] 53))
     have hz3 := HI3.out.z
     go_wp2_with (at_builtin; refine wpList_append_lies _ rfl (.tmp 35) (.tmp 37) 25 rfl (w.heap.size + 3) 53 i1 _ 2 16 Tryz.underlying25 hi1 hy0 hy1 hy2 rfl (by decide) _ L.length (xbe Edg.cells L) rfl HI4.out.o ⟨w3.heap.size, 0, none⟩ 1 1 [.int .i64 a, .int .i64 b] rfl rfl (xbs _ _ _ _ rfl) (xi7 _ _) (by decide) (by unfold maxLen; omega) om so _ rfl ?_)
     intro g4 cap4 W4 hown hgrow hat hg4
     have hG := HI4.out.grow (a := a) (b := b) (v' := .slice (some ⟨g4, 0, none⟩) (L.length + 1) cap4) hgrow (by rw [xgm, List.length_append]; exact hown)
     have hy4 := (hgrow.block gy RY4.out.lt (fun e => by have := xab HI4.out.o gy e.symm; have := RY4.out; have hne := RYN.out gy e.symm; exact hne rfl)).trans RY4.out
     have HG := hd hG.1
     have k0 := hG.2.1.cell (j := 0) (v := .slice ao L.length cap) rfl
     have f0 := hG.2.1.fr 0
     have RL := hd hG.2.2
     have RYs : Hid (Rw (W4.setCell ⟨w.heap.size + 1, 0, none⟩ (.slice (some ⟨g4, 0, none⟩) (L.length + 1) cap4)) gy 53 #[.int .i64 a, .int .i64 b]) := hd (Rw.set_other hy4 _ (by show gy ≠ w.heap.size + 1; omega))
     clear hown hgrow hat hg4 hG hy4 HI4 HI3 RY3 RY4 p0 y0 y1
     go_upto_region 11 with fail
     obtain ⟨W5, HW5⟩ : ∃ W5, Hid (W4.setCell ⟨w.heap.size + 1, 0, none⟩ (.slice (some ⟨g4, 0, none⟩) (L.length + 1) cap4) = W5) := ⟨_, hd rfl⟩
     rw [HW5.out] at HG RL RYs
     rw [HW5.out]
     clear k0 f0
     have y0 := RYs.out.cell (j := 0) (v := .int .i64 a) rfl
     have y1 := RYs.out.cell (j := 1) (v := .int .i64 b) rfl
     go_wp2_with (refine xae rfl 53 (.tmp 5) (.tmp 40) rfl (w.heap.size + 2) #[.int .i64 a, .int .i64 b] rfl rfl 53 _ RL.out xlh rfl (by simp [Value.oneCell']) ?_)
     intro W6 HW6
     rw [<- HW6.out] at HG
     clear HW6 y0 y1
     go_wp2
     go_roundw
     case rel => exact ⟨q, z, L ++ [⟨a, b⟩], (a, b), some ⟨g4, 0, none⟩, cap4, rfl, rfl, by omega, HRN, HLN.out, by rw [List.length_append]; exact HG⟩
     case measure =>
      simp only [x1w]
      cases z with
      | true => have := hlt rfl; simp; omega
      | false => rw [hz0 rfl]; simp
def xca (c : UInt8) : Nat -> List UInt8 -> List UInt8 -> List (List UInt8)
 | m, cur, [] => if m = 0 then [] else [cur]
 | m, cur, x :: r => if m = 0 then [] else if x = c then cur :: xca c (m - 1) [] r else xca c m (cur ++ [x]) r
def xdt (c : UInt8) (most : Nat) (l : List UInt8) : List (List UInt8) := xca c most [] l
theorem xqw (c : UInt8) (cur l : List UInt8) : xca c 0 cur l = [] := by cases l <;> simp [xca]
theorem xms (c : UInt8) (m : Nat) (cur : List UInt8) (h : 0 < m) : xca c m cur [] = [cur] := by simp [xca]; omega
theorem xm6 (c : UInt8) (m : Nat) (cur r : List UInt8) (h : 0 < m) : xca c m cur (c :: r) = cur :: xca c (m - 1) [] r := by
 rw [xca, if_neg om, if_pos rfl]
theorem xhb (c x : UInt8) (m : Nat) (cur r : List UInt8) (h : 0 < m) (hx : x ≠ c) : xca c m cur (x :: r) = xca c m (cur ++ [x]) r := by
 rw [xca, if_neg om, if_neg hx]
def xqf (ps : List (List UInt8)) : List Value := ps.map fun p => .string ⟨p.toArray⟩
theorem x4n : (Tryz.prog.info? 9).map (fun i => (i.zero, i.size, i.bytes)) = some (some (.string ⟨#[]⟩), 1, 16) := by kernel_rfl
def xdn (c : UInt8) (most : Nat) (l : List UInt8) (ps : List (List UInt8)) (fr i : Nat) : Prop :=
 ps.length <= most /\ ((i <= l.length /\ fr <= i /\ ps ++ xca c (most - ps.length) ((l.drop fr).take (i - fr)) (l.drop i) = xdt c most l) \/ (i = l.length + 1 /\ ps = xdt c most l))
theorem xyz (c : UInt8) (most : Nat) (l : List UInt8) : xdn c most l [] 0 0 :=
 ⟨Nat.zero_le _, Or.inl ⟨Nat.zero_le _, Nat.le_refl _, by simp [xdt]⟩⟩
theorem xxh (h : xdn c most l ps fr i) (ho : l.length < i \/ most <= ps.length) : ps = xdt c most l := by
 rcases h.2 with ⟨h1, h2, h3⟩ | ⟨_, h3⟩
 .rcases ho with ho | ho
  .omega
  .rw [show most - ps.length = 0 by omega, xqw, List.append_nil] at h3
   exact h3
 .exact h3
theorem x34 (h : xdn c most l ps fr i) (hm : ps.length < most) (hi : i = l.length) : xdn c most l (ps ++ [(l.drop fr).take (i - fr)]) (i + 1) (i + 1) := by
 refine ⟨by simp; omega, Or.inr ⟨by omega, ?_⟩⟩
 rcases h.2 with ⟨h1, h2, h3⟩ | ⟨h3, _⟩
 .rw [<- h3, hi, List.drop_length, xms _ _ _ om]
 .omega
theorem x4e (h : xdn c most l ps fr i) (hm : ps.length < most) (hi : i < l.length) (hc : l[i] = c) : xdn c most l (ps ++ [(l.drop fr).take (i - fr)]) (i + 1) (i + 1) := by
 refine ⟨by simp; omega, Or.inl ⟨by omega, Nat.le_refl _, ?_⟩⟩
 rcases h.2 with ⟨h1, h2, h3⟩ | ⟨h3, _⟩
 .rw [List.drop_eq_getElem_cons hi, hc, xm6 _ _ _ _ om] at h3
  rw [<- h3]
  simp [Nat.sub_sub]
 .omega
theorem x02 (h : xdn c most l ps fr i) (hm : ps.length < most) (hi : i < l.length) (hc : l[i] ≠ c) : xdn c most l ps fr (i + 1) := by
 refine ⟨h.1, Or.inl ?_⟩
 rcases h.2 with ⟨h1, h2, h3⟩ | ⟨h3, _⟩
 .refine ⟨by omega, by omega, ?_⟩
  rw [List.drop_eq_getElem_cons hi, xhb _ _ _ _ _ om hc] at h3
  rw [<- h3, show i + 1 - fr = (i - fr) + 1 by omega, List.take_add_one]
  congr 3
  rw [List.getElem?_drop, show fr + (i - fr) = i by omega, List.getElem?_eq_getElem hi]
  rfl
 .omega
theorem x2c (h : xdn c most l ps fr i) (hi : i <= l.length) : fr <= i := by
 rcases h.2 with ⟨h1, h2, h3⟩ | ⟨h3, _⟩
 .exact h2
 .omega
theorem xmt {wr : World} {v' : Value} {pc : List UInt8} {o : Obj} (hbel : Below w.heap.size w wr) (hown0 : wr.ownsRow w.heap.size 9 1 v ps.length (xqf ps))
  (hown1 : w1.ownsRow w.heap.size 9 1 v' (ps.length + 1) (xqf ps ++ [.string ⟨pc.toArray⟩])) (hgrow : (wr.alloc o).grownBy w1 v.ownBlock) :
  w1.ownsRow w.heap.size 9 1 v' (ps ++ [pc]).length (xqf (ps ++ [pc])) /\ Below w.heap.size w w1 := by
 refine ⟨by simpa [xqf] using hown1, ?_⟩
 exact (hbel.alloc hbel.size o).grown hgrow (by have := hbel.size; simp; omega) (xab hown0)
theorem xqa (l : List UInt8) (c : UInt8) (most : Nat) (hm : most <= 100) (hs : l.length <= 281474976710656) (w : World) :
  Calls Tryz.prog 28 #[.string ⟨l.toArray⟩, .int .u8 c.toNat, .int .i64 most] w fun e w' => ∃ v, e = .returned v /\ w'.ownsRow w.heap.size 9 1 v (xdt c most l).length (xqf (xdt c most l)) /\ Below w.heap.size w w' := by
 obtain ⟨i0, hi, hz0, hz1, hz2⟩ := xaj x4n
 go_enter Tryz.func28, Tryz.ntmps28
 go_wp2
 go_loopw [7, 8, 9] (fun v f i wr => ∃ (ps : List (List UInt8)) (fr k : Nat), f = .int .i64 fr /\ i = .int .i64 k /\ k <= l.length + 1 /\ fr <= l.length + 1 /\ Hid (xdn c most l ps fr k) /\ ps.length <= most /\ wr.ownsRow w.heap.size 9 1 v ps.length (xqf ps) /\ Below w.heap.size w wr)
  (fun _ _ i _ => l.length + 2 - (intOf i).toNat)
 case atStart => exact ⟨[], 0, 0, rfl, rfl, by omega, by omega, xyz c most l, Nat.zero_le _, World.ownsRow_nil _ _ _ _, Below.refl _ _⟩
 case round =>
  obtain ⟨ps, fr, k, rfl, rfl, hk, hfr, hinv, hps, hown, hbel⟩ := hrel
  obtain ⟨ao, cap, rfl⟩ := xaq hown
  have hbs := hbel.size
  by_cases h1 : k <= l.length
  .by_cases h2 : ps.length < most
   .by_cases h3 : k = l.length
    .have h3' : ((k : Int) == (l.length : Int)) = true := by simp; omega
     have H3 := hd h3
     clear h3
     have hfk := x2c hinv h1
     obtain ⟨pc, hpc⟩ : ∃ pc, pc = (l.drop fr).take (k - fr) := ⟨_, rfl⟩
     have hext : (⟨l.toArray⟩ : ByteArray).extract fr k = ⟨pc.toArray⟩ := by rw [hpc]; exact xj8 l fr k
     have HPC := hd hpc
     clear hpc
     go_wp2_with (at_builtin; refine wpList_append_lies _ rfl (.tmp 33) (.tmp 38) 73 rfl w.heap.size 9 i0 (.string ⟨#[]⟩) 1 16 Tryz.underlying73 hi hz0 hz1 hz2 rfl (by decide) (.slice ao ps.length cap) ps.length (xqf ps) rfl (hown.alloc _) ⟨wr.heap.size, 0, none⟩ 1 1 [.string ⟨pc.toArray⟩] rfl rfl (xhj wr _ 9) (xn5 _) (by decide) (by unfold maxLen; omega) om so (wr.heap.size + 1) (by simp) ?_; intro g cap1 w1 hown1 hgrow hat hglt)
     have R := xmt hbel hown hown1 hgrow
     clear hown1 hgrow hown hat hext
     go_wp2
     go_roundw
     case rel => exact ⟨ps ++ [pc], k + 1, k + 1, by go_num, by go_num, by omega, by omega, by rw [HPC.out]; exact x34 hinv h2 H3.out, by simp; omega, R.1, R.2⟩
     case measure => simp [intOf]; omega
    .have h3' : ((k : Int) == (l.length : Int)) = false := by simp; omega
     have hlt : k < l.length := by omega
     by_cases h4 : l[k] = c
     .have h4' : ((((⟨l.toArray⟩ : ByteArray)[k]'hlt).toNat : Int) == (c.toNat : Int)) = true := by rw [x4d l k hlt, h4]; simp
      have H4 := hd h4
      clear h4
      have hfk := x2c hinv h1
      obtain ⟨pc, hpc⟩ : ∃ pc, pc = (l.drop fr).take (k - fr) := ⟨_, rfl⟩
      have hext : (⟨l.toArray⟩ : ByteArray).extract fr k = ⟨pc.toArray⟩ := by rw [hpc]; exact xj8 l fr k
      have HPC := hd hpc
      clear hpc
      go_wp2_with (at_builtin; refine wpList_append_lies _ rfl (.tmp 33) (.tmp 38) 73 rfl w.heap.size 9 i0 (.string ⟨#[]⟩) 1 16 Tryz.underlying73 hi hz0 hz1 hz2 rfl (by decide) (.slice ao ps.length cap) ps.length (xqf ps) rfl (hown.alloc _) ⟨wr.heap.size, 0, none⟩ 1 1 [.string ⟨pc.toArray⟩] rfl rfl (xhj wr _ 9) (xn5 _) (by decide) (by unfold maxLen; omega) om so (wr.heap.size + 1) (by simp) ?_; intro g cap1 w1 hown1 hgrow hat hglt)
      have R := xmt hbel hown hown1 hgrow
      clear hown1 hgrow hown hat hext
      go_wp2
      go_roundw
      case rel => exact ⟨ps ++ [pc], k + 1, k + 1, by go_num, by go_num, by omega, by omega, by rw [HPC.out]; exact x4e hinv h2 hlt H4.out, by simp; omega, R.1, R.2⟩
      case measure => simp [intOf]; omega
     .have h4' : ((((⟨l.toArray⟩ : ByteArray)[k]'hlt).toNat : Int) == (c.toNat : Int)) = false := by
       rw [x4d l k hlt]; simp; intro e; exact h4 (UInt8.toNat_inj.1 om)
      have H4 := hd h4
      clear h4
      go_wp2
      go_roundw
      case rel => exact ⟨ps, fr, k + 1, rfl, by go_num, by omega, by omega, x02 hinv h2 hlt H4.out, hps, hown, hbel⟩
      case measure => simp [intOf]; omega
   .have HO := hd (xxh hinv (Or.inr om))
    go_wp2
    go_ret
    exact ⟨_, rfl, by rw [<- HO.out]; exact hown, hbel⟩
  .have HO := hd (xxh hinv (Or.inl om))
   go_wp2
   go_ret
   exact ⟨_, rfl, by rw [<- HO.out]; exact hown, hbel⟩
def xl3 (z : Int) (b : UInt8) : Int := wrap64 (wrap64 (10 * z) - ((b.toNat : Int) - 48) % 256)
def xl4 (l : List UInt8) : Int := if l.length = 0 \/ 20 < l.length then 0 else if l.headD 0 = 45 then l.tail.foldl xl3 0 else wrap64 (-(l.foldl xl3 0))
theorem xz3 (l : List UInt8) (h : l.length = 0 \/ 20 < l.length) (w : World) : Calls Tryz.prog 29 #[.string ⟨l.toArray⟩] w fun e w' => e = .returned (.int .i64 0) /\ w' = w := by
 by_cases h0 : l.length = 0
 .have e0 : ((l.length : Int) == 0) = true := beq_iff_eq.2 om
  clear h
  go_enter Tryz.func29, Tryz.ntmps29
  go_wp2
  go_ret
  exact ⟨rfl, rfl⟩
 .have e0 : ((l.length : Int) == 0) = false := by rw [beq_eq_false_iff_ne]; omega
  have e1 : (20 : Int) < l.length := by omega
  clear h h0
  go_enter Tryz.func29, Tryz.ntmps29
  go_wp2
  go_ret
  exact ⟨rfl, rfl⟩
theorem x3i (c : UInt8) (r : List UInt8) (h20 : (c :: r).length <= 20) (mb : Bool) (hmb0 : ((c.toNat : Int) == 45) = mb) (w : World) :
  Calls Tryz.prog 29 #[.string ⟨(c :: r).toArray⟩] w fun e w' => e = .returned (.int .i64 (if mb then r.foldl xl3 0 else wrap64 (-((c :: r).foldl xl3 0)))) /\ w' = w := by
 obtain ⟨l, hl⟩ : ∃ l, l = c :: r := ⟨_, rfl⟩
 have h0 : 0 < l.length := by rw [hl]; simp
 have hmb : ((((⟨l.toArray⟩ : ByteArray)[0]'h0).toNat : Int) == 45) = mb := by rw [x4d l 0 h0]; subst hl; exact hmb0
 have hz : ∀ d, l.drop d = (c :: r).drop d := fun d => by rw [hl]
 rw [<- hl] at h20 ⊢
 have HL := hd hl
 clear hl hmb0 hz
 have e0 : ((l.length : Int) == 0) = false := by rw [beq_eq_false_iff_ne]; omega
 have e20 : ¬ (20 : Int) < l.length := by omega
 obtain ⟨res, hres⟩ : ∃ res : Int, res = (if mb then r.foldl xl3 0 else wrap64 (-(l.foldl xl3 0))) := ⟨_, rfl⟩
 rw [<- hres]
 have HR := hd hres
 clear hres
 go_enter Tryz.func29, Tryz.ntmps29
 go_wp2
 go_loop [3, 5] (fun n i => ∃ (k : Nat) (z : Int), k <= l.length /\ i = .int .i64 k /\ n = .int .i64 z /\ Hid (z = ((l.take k).drop (if mb then 1 else 0)).foldl xl3 0)) (fun _ i => l.length - (intOf i).toNat)
 case atStart => exact ⟨0, 0, Nat.zero_le _, rfl, rfl, by show (0 : Int) = _; cases mb <;> simp⟩
 case round =>
  obtain ⟨k, z, hk, rfl, rfl, HZ⟩ := hrel
  by_cases hlt : k < l.length
  .have hsn : l.take (k + 1) = l.take k ++ [l[k]] := by rw [List.take_add_one, List.getElem?_eq_getElem hlt]; rfl
   by_cases hk0 : k = 0
   .subst hk0
    cases mb
    .have HZ2 : Hid (wrap64 (wrap64 (10 * z) - ((((⟨l.toArray⟩ : ByteArray)[0]'h0).toNat : Int) - 48) % 256) = ((l.take (0 + 1)).drop 0).foldl xl3 0) := by
      show _ = _
      rw [hsn, HZ.out]; rfl
     clear hsn HZ
     go_wp2
     go_round
     case rel => exact ⟨1, _, by omega, by go_num, rfl, HZ2⟩
     case measure => simp [intOf]; omega
    .have HZ2 : Hid (z = ((l.take (0 + 1)).drop 1).foldl xl3 0) := by
      show _ = _
      rw [HZ.out]; simp
     clear hsn HZ
     go_wp2
     go_round
     case rel => exact ⟨1, _, by omega, by go_num, rfl, HZ2⟩
     case measure => simp [intOf]; omega
   .have hkp : (0 : Int) < k := by omega
    have HZ2 : Hid (wrap64 (wrap64 (10 * z) - ((((⟨l.toArray⟩ : ByteArray)[k]'hlt).toNat : Int) - 48) % 256) = ((l.take (k + 1)).drop (if mb then 1 else 0)).foldl xl3 0) := by
     show _ = _
     rw [hsn, HZ.out, List.drop_append_of_le_length (by simp; split <;> omega), List.foldl_append]
     rfl
    clear hsn HZ
    go_wp2
    go_round
    case rel => exact ⟨k + 1, _, by omega, by go_num, rfl, HZ2⟩
    case measure => simp [intOf]; omega
  .obtain rfl : k = l.length := by omega
   have hz := HZ.out
   rw [List.take_length] at hz
   have hr := HR.out
   have hl := HL.out
   cases mb
   .have HE : Hid (wrap64 (-z) = res) := by
     show _ = _
     rw [hr, hz]; simp
    clear hz hr hl HZ HR HL
    go_wp2
    go_ret
    exact ⟨xax HE.out, rfl⟩
   .have HE : Hid (z = res) := by
     show _ = _
     rw [hr, hz, hl]; simp
    clear hz hr hl HZ HR HL
    go_wp2
    go_ret
    exact ⟨xax HE.out, rfl⟩
theorem xia (l : List UInt8) (w : World) : Calls Tryz.prog 29 #[.string ⟨l.toArray⟩] w fun e w' => e = .returned (.int .i64 (xl4 l)) /\ w' = w := by
 unfold xl4
 by_cases h : l.length = 0 \/ 20 < l.length
 .rw [if_pos h]; exact xz3 l h w
 .rw [if_neg h]
  cases l with
  | nil => simp at h
  | cons c r =>
   refine (x3i c r om _ rfl w).mono ?_
   rintro e w' ⟨rfl, rfl⟩
   refine ⟨xax ?_, rfl⟩
   by_cases hc : c = 45
   .subst hc; rfl
   .have h1 : ((c.toNat : Int) == 45) = false := by
     rw [beq_eq_false_iff_ne]
     intro e
     exact hc (UInt8.toNat_inj.1 (by show c.toNat = 45; omega))
    rw [h1]
    simp [hc]
theorem xfu (l m : List UInt8) : (⟨l.toArray⟩ : ByteArray) ++ ⟨m.toArray⟩ = ⟨(l ++ m).toArray⟩ := by
 apply ByteArray.ext; simp
theorem x2t (c : UInt8) (m : List UInt8) : (⟨#[c]⟩ : ByteArray) ++ ⟨m.toArray⟩ = ⟨(c :: m).toArray⟩ := by
 apply ByteArray.ext; simp
theorem xew (l : List UInt8) (a : Array UInt8) : (⟨l.toArray⟩ : ByteArray) ++ ⟨a⟩ = ⟨(l ++ a.toList).toArray⟩ := by
 apply ByteArray.ext; simp
theorem xox (h : u < 10) : Lib.decDigits u = [UInt8.ofNat (48 + u)] := by rw [Lib.decDigits, dif_pos h]
theorem x3z (h : ¬ u < 10) : Lib.decDigits u = Lib.decDigits (u / 10) ++ [UInt8.ofNat (48 + u % 10)] := by rw [Lib.decDigits, dif_neg h]
theorem xlr {n : Int} (h : 0 <= n) : Lib.itoa n = Lib.decDigits n.toNat := by unfold Lib.itoa; rw [if_neg om]
theorem xwb (n : Int) (h0 : 0 <= n) (h : n < 10) : Lib.itoa n = [UInt8.ofNat (48 + n.toNat)] := by
 rw [xlr h0, xox om]
theorem xtb (n : Int) (h : 10 <= n) : Lib.itoa (n / 10) ++ Lib.itoa (n % 10) = Lib.itoa n := by
 rw [xlr (show 0 <= n by omega), xlr (show 0 <= n / 10 by omega), xlr (show 0 <= n % 10 by omega), x3z (u := n.toNat) om, xox (u := (n % 10).toNat) om]
 rw [show (n / 10).toNat = n.toNat / 10 by omega, show (n % 10).toNat = n.toNat % 10 by omega]
theorem xk8 (n : Int) (h : n < 0) : 45 :: Lib.itoa (-n) = Lib.itoa n := by
 rw [xlr (show 0 <= -n by omega)]; unfold Lib.itoa; rw [if_pos h, show (-n).toNat = n.natAbs by omega]
theorem xyk (n : Int) (h : n <= -10) (q r : Int) (hq : q = n.tdiv 10) (hr : r = -(n.tmod 10)) : Lib.itoa q ++ Lib.itoa r = Lib.itoa n := by
 have e1 : n = -(-n) := by omega
 have hd : n.tdiv 10 = -((-n) / 10) := by
  rw [e1, Int.neg_tdiv, Int.tdiv_eq_ediv_of_nonneg om]; simp
 have hm : n.tmod 10 = -((-n) % 10) := by
  rw [e1, Int.neg_tmod, Int.tmod_eq_emod_of_nonneg om]; simp
 rw [hd] at hq; rw [hm] at hr
 subst hq hr
 rw [<- xk8 n om, <- xk8 (-((-n) / 10)) om, Int.neg_neg, Int.neg_neg, List.cons_append, xtb (-n) om]
theorem xuf (n : Int) (w : World) (h0 : 0 <= n) (h : n < 10) :
  (convert 106 9 (Value.slice (some ⟨w.heap.size, 0, none⟩) 1 1)).run Tryz.prog (w.alloc (.cells #[.int .u8 (48 + n)] 5)) = .ok (.string ⟨[UInt8.ofNat (48 + n.toNat)].toArray⟩) (w.alloc (.cells #[.int .u8 (48 + n)] 5)) := by
 refine run_convert_bytes_back (P := Tryz.prog) (w.alloc (.cells #[.int .u8 (48 + n)] 5)) 106 9 5 ⟨w.heap.size, 0, none⟩ 1 [UInt8.ofNat (48 + n.toNat)] Tryz.underlying106 Tryz.underlying5 Tryz.underlying9 ?_
 intro j hj
 obtain rfl : j = 0 := by simpa using hj
 have : (48 + n.toNat) % 256 = 48 + n.toNat := by omega
 simp [Addr.add, this]
 omega
theorem xke (n : Int) (w : World) (h0 : 0 <= n) (h : n < 10) : Calls Tryz.prog 62 #[.int .i64 n] w fun e w' => e = .returned (.string ⟨(Lib.itoa n).toArray⟩) /\ Below w.heap.size w w' := by
 rw [xwb n h0 h]
 have hc := xuf n w h0 h
 go_enter Tryz.func62, Tryz.ntmps62
 go_wp2
 go_ret
 exact ⟨rfl, up0⟩
theorem x30 (n : Int) (hn : xb6 n) (h : 10 <= n) (ih : ∀ m : Int, 0 <= m -> m < n -> ∀ w : World, Calls Tryz.prog 62 #[.int .i64 m] w fun e w' => e = .returned (.string ⟨(Lib.itoa m).toArray⟩) /\ Below w.heap.size w w') (w : World) :
  Calls Tryz.prog 62 #[.int .i64 n] w fun e w' => e = .returned (.string ⟨(Lib.itoa n).toArray⟩) /\ Below w.heap.size w w' := by
 obtain ⟨hn1, hn2⟩ := hn
 have IH := hd ih
 clear ih
 have hl1 := Lib.itoa_length_le (n / 10) om om
 have hl2 := Lib.itoa_length_le (n % 10) om om
 have HE := hd (xtb n h)
 go_enter Tryz.func62, Tryz.ntmps62
 go_wp2_with fail
 refine (IH.out _ om om _).mono ?_
 rintro e w1 ⟨rfl, hb1⟩
 go_wp2_with fail
 refine (IH.out _ om om _).mono ?_
 rintro e w2 ⟨rfl, hb2⟩
 go_wp2
 go_ret
 refine ⟨?_, hb1.trans (hb2.mono hb1.size)⟩
 simp [xfu, HE.out]
theorem x1j (n : Int) (h : n < 0) (h2 : -10 < n) (w : World) :
  Calls Tryz.prog 62 #[.int .i64 n] w fun e w' => e = .returned (.string ⟨(Lib.itoa n).toArray⟩) /\ Below w.heap.size w w' := by
 have hl1 := Lib.itoa_length_le (-n) om om
 have HE := hd (xk8 n h)
 go_enter Tryz.func62, Tryz.ntmps62
 go_wp2_with fail
 refine (xke _ _ om om).mono ?_
 rintro e w1 ⟨rfl, hb1⟩
 go_wp2
 go_ret
 refine ⟨?_, hb1⟩
 simp [x2t, HE.out]
theorem xug (n : Int) (h : n < 0) : n <= n.tdiv 10 * 10 /\ n.tdiv 10 * 10 <= n + 9 /\ -9 <= n.tmod 10 /\ n.tmod 10 <= 0 := by
 have e1 : n = -(-n) := by omega
 have hd : n.tdiv 10 = -((-n) / 10) := by
  rw [e1, Int.neg_tdiv, Int.tdiv_eq_ediv_of_nonneg om]; simp
 have hm : n.tmod 10 = -((-n) % 10) := by
  rw [e1, Int.neg_tmod, Int.tmod_eq_emod_of_nonneg om]; simp
 rw [hd, hm]; omega
theorem xzy (n : Int) (hn : xb6 n) (h : n <= -10) (ih : ∀ m : Int, xb6 m -> m.natAbs < n.natAbs -> ∀ w : World, Calls Tryz.prog 62 #[.int .i64 m] w fun e w' => e = .returned (.string ⟨(Lib.itoa m).toArray⟩) /\ Below w.heap.size w w') (w : World) :
  Calls Tryz.prog 62 #[.int .i64 n] w fun e w' => e = .returned (.string ⟨(Lib.itoa n).toArray⟩) /\ Below w.heap.size w w' := by
 obtain ⟨hn1, hn2⟩ := hn
 have IH := hd ih
 clear ih
 obtain ⟨q1, q2, r1, r2⟩ := xug n om
 have HE := hd (xyk n h _ _ rfl rfl)
 have hl1 := Lib.itoa_length_le (n.tdiv 10) om om
 have hl2 := Lib.itoa_length_le (-(n.tmod 10)) om om
 go_enter Tryz.func62, Tryz.ntmps62
 go_wp2_with fail
 refine (IH.out _ ⟨by omega, by omega⟩ om _).mono ?_
 rintro e w1 ⟨rfl, hb1⟩
 go_wp2_with fail
 refine (IH.out _ ⟨by omega, by omega⟩ om _).mono ?_
 rintro e w2 ⟨rfl, hb2⟩
 go_wp2
 go_ret
 refine ⟨?_, hb1.trans (hb2.mono hb1.size)⟩
 simp [xfu, HE.out]
theorem xe6 (n : Int) (hn : xb6 n) (w : World) :
  Calls Tryz.prog 62 #[.int .i64 n] w fun e w' => e = .returned (.string ⟨(Lib.itoa n).toArray⟩) /\ Below w.heap.size w w' := by
 suffices h : ∀ k : Nat, ∀ n : Int, xb6 n -> n.natAbs <= k -> ∀ w : World, Calls Tryz.prog 62 #[.int .i64 n] w fun e w' => e = .returned (.string ⟨(Lib.itoa n).toArray⟩) /\ Below w.heap.size w w' from h n.natAbs n hn (Nat.le_refl _) w
 intro k
 induction k with
 | zero =>
  intro n hn hk w
  exact xke n w om om
 | succ k ih =>
  intro n hn hk w
  by_cases h1 : n <= -10
  .exact xzy n hn h1 (fun m hm hlt w => ih m hm om w) w
  by_cases h2 : n < 0
  .exact x1j n h2 om w
  by_cases h3 : n < 10
  .exact xke n w om h3
  .exact x30 n hn om (fun m h0 hlt w => ih m ⟨by have := hn.1; omega, by have := hn.2; omega⟩ om w) w
theorem xw0 : (Tryz.prog.info? 108).map (·.size) = some 2 := by kernel_rfl
theorem xnv : (Tryz.prog.info? 5).map (fun i => (i.zero, i.size, i.bytes)) = some (some (.int .u8 0), 1, 1) := by kernel_rfl
theorem xxo : Tryz.prog.cellsOf 5 = 1 := by kernel_rfl
def xvk (T : TypeId) : Prop := liesAt Tryz.prog Tryz.prog.depth T (2 / Tryz.prog.cellsOf T) 0 108 1 = true /\ T ≠ 5
structure Wr (B g : Nat) (w w' : World) : Prop where
 b : Below B w w'
 k : ∀ c t cs, c ≠ g -> t ≠ 5 -> Rw w c t cs -> Rw w' c t cs
theorem Wr.refl (B b : Nat) (w : World) : Wr B b w w := ⟨Below.refl _ _, fun _ _ _ _ _ h => h⟩
theorem Wr.trans {w2 : World} (h : Wr B b w w1) (h' : Wr B b w1 w2) : Wr B b w w2 := ⟨h.b.trans h'.b, fun c t cs h1 h2 h3 => h'.k c t cs h1 h2 (h.k c t cs h1 h2 h3)⟩
theorem Wr.up (h : Below w.heap.size w w') (hB : B <= w.heap.size) : Wr B b w w' := ⟨h.mono hB, fun _ _ _ _ _ h3 => h3.up h h3.lt⟩
theorem Wr.set (h : Wr B b w w') (hB : B <= b) (i : Nat) (v : Value) : Wr B b w (w'.setCell ⟨b, i, none⟩ v) :=
 ⟨h.b.setCell (p := ⟨b, i, none⟩) hB _, fun c t cs h1 h2 h3 => (h.k c t cs h1 h2 h3).set_other _ h1⟩
theorem Wr.size (h : Wr B b w w') : w.heap.size <= w'.heap.size := h.b.size
theorem xl9 (b : Nat) (w : World) (h0 : w.cell? ⟨b, 0, none⟩ = some (.pointer (some ⟨b, 0, none⟩))) :
  Calls Tryz.prog 158 #[.pointer (some ⟨b, 0, none⟩)] w fun e w' => e = .returned (.tuple #[]) /\ w' = w := by
 obtain ⟨j, hj, _⟩ := Option.map_eq_some_iff.1 xw0
 go_enter Tryz.func158, Tryz.ntmps158
 go_wp2
 rw [Lib.run_neq_ptr_same w _ Tryz.underlying105 hj]
 go_wp2
 go_end0
 exact ⟨rfl, rfl⟩
theorem xk4 (T : TypeId) (hT : xvk T) (b : Nat) (w : World) (h0 : w.cell? ⟨b, 0, none⟩ = some (.pointer none)) (hsh : w.shape? b = some (T, 2)) (hfz : w.frozen? ⟨b, 0, none⟩ = false) :
  Calls Tryz.prog 158 #[.pointer (some ⟨b, 0, none⟩)] w fun e w' => e = .returned (.tuple #[]) /\ w' = w.setCell ⟨b, 0, none⟩ (.pointer (some ⟨b, 0, none⟩)) := by
 obtain ⟨j, hj, hjs⟩ := Option.map_eq_some_iff.1 xw0
 go_enter Tryz.func158, Tryz.ntmps158
 go_wp2
 rw [Lib.run_to_unsafe w ⟨b, 0, none⟩ Tryz.underlying105 Tryz.underlying254 hj (by rw [hjs]; decide) hsh (Nat.zero_lt_succ 1)]
 simp only [Result.andThen]
 rw [Oper.upon_value]
 go_wp2
 rw [run_callFunc_extern Tryz.func191 kr kr kr (e := Extern.AbiNoEscape.same) kr]
 rw [Lib.run_noEscape]
 simp only [Result.andThen]
 rw [Oper.upon_value]
 go_wp2
 rw [Lib.run_from_unsafe w ⟨b, 0, none⟩ Tryz.underlying254 Tryz.underlying105 hj hsh hT.1]
 simp only [Result.andThen]
 rw [Oper.upon_value]
 go_wp2
 go_end0
 exact ⟨rfl, rfl⟩
theorem xhw (T : TypeId) (hT : xvk T) (B b : Nat) (bs : List Value) (w : World) (h : Lib.IsBuilder T 5 B b bs w) :
  Calls Tryz.prog 158 #[.pointer (some ⟨b, 0, none⟩)] w fun e w' => e = .returned (.tuple #[]) /\ (Lib.BuilderAt T 5 B b (.pointer (some ⟨b, 0, none⟩)) bs w' /\ Wr B b w w') := by
 rcases h with h | h
 .refine (xk4 T hT b w h.cell0 h.shape h.frozen0).mono ?_
  rintro e w' ⟨rfl, rfl⟩
  exact ⟨rfl, h.used _, (Wr.refl B b w).set h.1 _ _⟩
 .refine (xl9 b w h.cell0).mono ?_
  rintro e w' ⟨rfl, rfl⟩
  exact ⟨rfl, h, Wr.refl B b _⟩
theorem xd7 (T : TypeId) (hT : xvk T) (B b : Nat) (bs : List Value) (c : Int) (w : World) (h : Lib.IsBuilder T 5 B b bs w) (hlen : bs.length + 1 <= 140737488355328) (hBw : B <= w.heap.size) :
  Calls Tryz.prog 102 #[.pointer (some ⟨b, 0, none⟩), .int .u8 c] w fun e w' => e = .returned .nilIface /\ (Lib.IsBuilder T 5 B b (bs ++ [.int .u8 c]) w' /\ Wr B b w w') := by
 obtain ⟨i0, hi, hz0, hz1, hz2⟩ := xaj xnv
 go_enter Tryz.func102, Tryz.ntmps102
 go_wp2_with fail
 refine (xhw T hT B b bs _ h).mono ?_
 rintro e w1 ⟨rfl, h1, hb1⟩
 obtain ⟨hB, v, hbk, hown, hne⟩ := h1
 have c0 : w1.cell? ⟨b, 0, none⟩ = some (.pointer (some ⟨b, 0, none⟩)) := by rw [Lib.cell_of_heap hbk]; rfl
 have c1 : w1.cell? ⟨b, 1, none⟩ = some v := by rw [Lib.cell_of_heap hbk]; rfl
 go_wp2_with (at_builtin; refine wpList_append_own _ rfl _ _ 106 rfl B 5 i0 (.int .u8 0) 1 1 Tryz.underlying106 hi hz0 hz1 hz2 rfl (by decide) _ _ _ rfl (hown.alloc _) ⟨w1.heap.size, 0, none⟩ 1 1 [.int .u8 c] rfl rfl ?c1 ?c2 ?c3 ?c4 ?c5 ?_)
 case c1 =>
  intro j u hj
  match j, hj with
  | 0, hj => simp at hj; subst hj; simp [Addr.add]
 case c2 => intro u hu; simp at hu; subst hu; rfl
 case c3 => unfold maxLen; omega
 case c4 => omega
 case c5 => have := hb1.size; simp; omega
 intro v' w2 hown' hgrow _
 have hlt : b < w1.heap.size := by
  rcases Nat.lt_or_ge b w1.heap.size with h' | h'
  .exact h'
  .simp [Array.getElem?_eq_none h'] at hbk
 have hb2 : w2.heap[b]? = some (.cells #[.pointer (some ⟨b, 0, none⟩), v] T (0, 0)) := by
  rw [hgrow.block b so (fun e => hne e.symm), Lib.alloc_old w1 _ b hlt]
  exact hbk
 have d0 : w2.cell? ⟨b, 0, none⟩ = some (.pointer (some ⟨b, 0, none⟩)) := by rw [Lib.cell_of_heap hb2]; rfl
 have d1 : w2.cell? ⟨b, 1, none⟩ = some v := by rw [Lib.cell_of_heap hb2]; rfl
 have f1 : w2.frozen? ⟨b, 1, none⟩ = false := Lib.frozen_of_heap hb2 1
 obtain ⟨g, cap, rfl⟩ : ∃ g cap, v' = .slice (some ⟨g, 0, none⟩) (bs.length + 1) cap := by
  rcases hown'.2 with ⟨_, h0⟩ | ⟨g, cap, cur, hv, _⟩
  .omega
  .exact ⟨g, cap, hv⟩
 go_wp2
 go_ret
 refine ⟨rfl, ?_, ?_⟩
 .exact .inr (Lib.BuilderAt.put (T := T) (e := 5) hB hb2 (bs' := bs ++ [.int .u8 c]) (by simpa using hown') hT.2)
 .refine Wr.set ⟨(hb1.b.alloc (by have := hb1.size; omega) _).grown hgrow (by have := hb1.size; simp; omega) (fun k hk => (hown.lt k hk).1), fun c' t cs h1 h2 h3 => ?_⟩ hB _ _
  have h4 := (hb1.k c' t cs h1 h2 h3).alloc (.cells #[.int .u8 c] 5)
  refine (hgrow.block c' h4.lt ?_).trans h4
  intro e
  rcases hown.2 with ⟨rfl, _⟩ | ⟨g', cap', cur', rfl, _, hh, _⟩
  .cases e
  .simp [Value.ownBlock] at e
   subst e
   have h5 := (hb1.k c' t cs h1 h2 h3).symm.trans hh
   injection h5 with h5
   injection h5 with _ h5
   exact h2 h5
theorem xxn {base : Nat} {size : Nat} {n : Nat} {xs : List Value} (h : w.ownsRow base e size v n xs) (hb : Below w.heap.size w w') : w'.ownsRow base e size v n xs := xde h hb (xbc h)
theorem xtw {T : TypeId} {bs : List Value} (h : Lib.IsBuilder T e B b bs w) (hb : Below w.heap.size w w') : Lib.IsBuilder T e B b bs w' := by
 rcases h with h | h
 .obtain ⟨h1, v, h2, h3, h4⟩ := h
  have hlt := Lib.BuilderAt.lt ⟨h1, v, h2, h3, h4⟩
  exact Or.inl ⟨h1, v, by rw [hb.block b hlt]; exact h2, xxn h3 hb, h4⟩
 .obtain ⟨h1, v, h2, h3, h4⟩ := h
  have hlt := Lib.BuilderAt.lt ⟨h1, v, h2, h3, h4⟩
  exact Or.inr ⟨h1, v, by rw [hb.block b hlt]; exact h2, xxn h3 hb, h4⟩
theorem xcr (a b : List UInt8) : Lib.byteCells (a ++ b) = Lib.byteCells a ++ Lib.byteCells b := by simp [Lib.byteCells]
theorem xfj (T : TypeId) (B b : Nat) (l : List UInt8) (w : World) (h : Lib.IsBuilder T 5 B b (Lib.byteCells l) w) (h0 : l ≠ []) :
  Calls Tryz.prog 48 #[.pointer (some ⟨b, 0, none⟩)] w fun e w' => e = .returned (.string ⟨l.toArray⟩) /\ Below B w w' := by
 obtain ⟨p, hB, v, hbk, hown, hne⟩ : ∃ p, Lib.BuilderAt T 5 B b p (Lib.byteCells l) w := by
  rcases h with h | h
  .exact ⟨_, h⟩
  .exact ⟨_, h⟩
 have hl0 : l.length ≠ 0 := by simpa using h0
 rw [Lib.byteCells_length] at hown
 obtain ⟨g, cap, cur, rfl, hbg, hg, hnc, hcm, hcs, htake⟩ : ∃ g cap cur, v = .slice (some ⟨g, 0, none⟩) l.length cap /\ B <= g /\ w.heap[g]? = some (.cells cur 5 (0, 0)) /\ l.length <= cap /\ cap <= maxLen /\ cur.size = cap * 1 /\ cur.toList.take (l.length * 1) = Lib.byteCells l := by
  rcases hown.2 with ⟨_, hz⟩ | ⟨g, cap, cur, hv, r⟩
  .exact absurd hz hl0
  .exact ⟨g, cap, cur, hv, r⟩
 have c1 : w.drew.cell? ⟨b, 1, none⟩ = some (.slice (some ⟨g, 0, none⟩) l.length cap) := by
  have : w.drew.heap[b]? = some (.cells #[p, .slice (some ⟨g, 0, none⟩) l.length cap] T (0, 0)) := hbk
  rw [Lib.cell_of_heap this]; rfl
 have hSD : (Builtin.unsafeSliceData_ #[106] 159 #[.slice (some ⟨g, 0, none⟩) l.length cap]).run Tryz.prog w.drew = .ok (.pointer (some ⟨g, 0, none⟩)) w.drew :=
  Lib.run_unsafeSliceData_row _ _ _ _ _ _ om
 have hUS : (Builtin.unsafeString_ #[159, 3] 9 #[.pointer (some ⟨g, 0, none⟩), .int .i64 l.length]).run Tryz.prog w.drew = .ok (.string ⟨l.toArray⟩) (w.drew.freeze ⟨g, 0, none⟩ l.length) := by
  refine Lib.run_unsafeString_row w.drew 159 3 9 5 Tryz.underlying159 xxo g cur.size (by have hg' : w.drew.heap[g]? = some (.cells cur 5 (0, 0)) := hg; simp [World.shape?, hg']) l h0 om (by unfold maxLen at hcm; omega) ?_
  intro j x hx
  have := hown.cells (g := g) rfl j (.int .u8 x.toNat) (by simp [Lib.byteCells, hx])
  exact this
 have mixed : Tryz.prog.follows Departure.mixedOrders = true := by kernel_rfl
 clear hl0 hnc hcm hcs htake hown hbk hg h hne
 go_enter Tryz.func48, Tryz.ntmps48
 go_wp2
 go_region_o
 all_goals (go_wp2; go_ret; exact ⟨rfl, Lib.below_freeze (Below.drew (Below.refl B w)) (p := ⟨g, 0, none⟩) hbg _⟩)
theorem xgc (T : TypeId) (hT : xvk T) (B b : Nat) (l s : List UInt8) (w : World) (h : Lib.IsBuilder T 5 B b (Lib.byteCells l) w) (hlen : l.length + s.length <= 140737488355328) (hBw : B <= w.heap.size) :
  Calls Tryz.prog 101 #[.pointer (some ⟨b, 0, none⟩), .string ⟨s.toArray⟩] w fun e w' => e = .returned (.tuple #[.int .i64 s.length, .nilIface]) /\ (Lib.IsBuilder T 5 B b (Lib.byteCells (l ++ s)) w' /\ Wr B b w w') := by
 obtain ⟨i0, hi, hz0, hz1, hz2⟩ := xaj xnv
 have hsz : (⟨s.toArray⟩ : ByteArray).size = s.length := by simp [ByteArray.size]
 have hsc : Lib.strCells ⟨s.toArray⟩ = Lib.byteCells s := by simp [Lib.strCells, Lib.byteCells]
 have hbl := Lib.byteCells_length l
 go_enter Tryz.func101, Tryz.ntmps101
 go_wp2_with fail
 refine (xhw T hT B b (Lib.byteCells l) _ h).mono ?_
 rintro e w1 ⟨rfl, h1, hb1⟩
 obtain ⟨hB, v, hbk, hown, hne⟩ := h1
 have c0 : w1.cell? ⟨b, 0, none⟩ = some (.pointer (some ⟨b, 0, none⟩)) := by rw [Lib.cell_of_heap hbk]; rfl
 have c1 : w1.cell? ⟨b, 1, none⟩ = some v := by rw [Lib.cell_of_heap hbk]; rfl
 go_wp2_with (at_builtin; refine Lib.wpList_append_own_string _ rfl _ _ 106 9 rfl B 5 i0 Tryz.underlying106 Tryz.underlying9 hi hz0 hz1 hz2 _ _ _ rfl hown ⟨s.toArray⟩ rfl ?c3 ?c4 ?c5 ?_)
 case c3 => unfold maxLen; omega
 case c4 => omega
 case c5 => have := hb1.size; omega
 intro v' w2 hown' hgrow _
 have hlt : b < w1.heap.size := by
  rcases Nat.lt_or_ge b w1.heap.size with h' | h'
  .exact h'
  .simp [Array.getElem?_eq_none h'] at hbk
 have hb2 : w2.heap[b]? = some (.cells #[.pointer (some ⟨b, 0, none⟩), v] T (0, 0)) := by
  rw [hgrow.block b hlt (fun e => hne e.symm)]
  exact hbk
 have d0 : w2.cell? ⟨b, 0, none⟩ = some (.pointer (some ⟨b, 0, none⟩)) := by rw [Lib.cell_of_heap hb2]; rfl
 have d1 : w2.cell? ⟨b, 1, none⟩ = some v := by rw [Lib.cell_of_heap hb2]; rfl
 have f1 : w2.frozen? ⟨b, 1, none⟩ = false := Lib.frozen_of_heap hb2 1
 obtain ⟨ao, n', cap, rfl⟩ : ∃ ao n' cap, v' = .slice ao n' cap := by
  rcases hown'.2 with ⟨hv, _⟩ | ⟨g, cap, cur, hv, _⟩
  .exact ⟨_, _, _, hv⟩
  .exact ⟨_, _, _, hv⟩
 go_wp2
 go_ret2
 refine ⟨by rw [<- hsz] <;> rfl, ?_, ?_⟩
 .refine .inr (Lib.BuilderAt.put (T := T) (e := 5) hB hb2 (bs' := Lib.byteCells (l ++ s)) ?_ hT.2)
  have hL : (Lib.byteCells (l ++ s)).length = l.length + s.length := by rw [Lib.byteCells_length, List.length_append]
  rw [hL, xcr]
  simpa [hsc, hsz, hbl] using hown'
 .refine Wr.set ⟨hb1.b.grown hgrow (by have := hb1.size; omega) (fun k hk => (hown.lt k hk).1), fun c' t cs h1 h2 h3 => ?_⟩ hB _ _
  have h4 := hb1.k c' t cs h1 h2 h3
  refine (hgrow.block c' h4.lt ?_).trans h4
  intro e
  rcases hown.2 with ⟨rfl, _⟩ | ⟨g', cap', cur', rfl, _, hh, _⟩
  .cases e
  .simp [Value.ownBlock] at e
   subst e
   have h5 := (hb1.k c' t cs h1 h2 h3).symm.trans hh
   injection h5 with h5
   injection h5 with _ h5
   exact h2 h5
end Go.Proofs.YtbkdoohhdkahiaaGreatDoor
