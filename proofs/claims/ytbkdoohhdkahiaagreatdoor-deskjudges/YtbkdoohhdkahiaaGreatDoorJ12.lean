/- image.list: as many as the next byte tells. -/
import Derived.Test.YtbkdoohhdkahiaaGreatDoorJ11
import Derived.Test.YtbkdoohhdkahiaaGreatDoorJ0
import Derived.Deep.AppendLies
namespace Go.Proofs.YtbkdoohhdkahiaaGreatDoor
set_option linter.unusedSimpArgs false
set_option linter.unusedVariables false
set_option maxRecDepth 100000
set_option maxHeartbeats 4000000
open Go.RowKit Go.Sort
variable {w w' w1 w2 : World} {B B' base g n size : Nat} {e : TypeId} {c i u v : Value} {xs : List Value} {q : List UInt8} {p : Prt} {ps : List Prt}
theorem xdc (h : w.ownsRow base e size v n xs) (ho : One g w w') (hg : g < base) : w'.ownsRow base e size v n xs := by
 refine ⟨h.1, h.2.imp id ?_⟩
 rintro ⟨k, cap, cur, rfl, h2, h3, h4⟩
 exact ⟨k, cap, cur, rfl, h2, (ho.k k (Array.getElem?_eq_some_iff.1 h3).1 om).trans h3, h4⟩
theorem One.grown (h : One g w w1) {row : Option Nat} (hgr : w1.grownBy w2 row) (hrow : ∀ k, row = some k -> w.heap.size <= k) (hgw : g < w.heap.size) : One g w w2 :=
 ⟨h.b.grown hgr (by have := h.b.size; omega) (fun k e => by have := hrow k e; omega), fun c hc hg => (hgr.block c (Nat.lt_of_lt_of_le hc h.b.size) (fun e => by have := hrow c e.symm; omega)).trans (h.k c hc hg)⟩
theorem One.alloc (h : One g w w') (hg : g <= w'.heap.size) (o : Obj) : One g w (w'.alloc o) := h.trans (One.up ((Below.refl _ _).alloc (Nat.le_refl _) _) hg)
theorem Rdr.grown (h : Rdr w1 g q) {row : Option Nat} (hgr : w1.grownBy w2 row) (hrow : ∀ k, row = some k -> g < k) : Rdr w2 g q := (hgr.block g h.lt (fun e => by have := hrow g e.symm; omega)).trans h
theorem xa9 (w : World) (t : TypeId) (cs : Array Value) (g : Nat) (hg : g = w.heap.size) : ∀ j u, cs.toList[j]? = some u -> (w.alloc (.cells cs t)).cell? ((⟨g, 0, none⟩ : Addr).add j) = some u := fun j u hj => by
 rw [show (⟨g, 0, none⟩ : Addr).add j = ⟨g, j, none⟩ by unfold Addr.add; split <;> simp_all, hg, World.cell?_alloc_new]
 simpa using hj
theorem xhh : ∀ (l : List Ins) (i : Ins), xck (l ++ [i]) = xck l ++ [.int .i64 i.op, .int .i64 i.a, .int .i64 i.b, .int .i64 i.n]
 | [], i => rfl
 | j :: r, i => by
  show j.cells ++ xck (r ++ [i]) = (j.cells ++ xck r) ++ _
  rw [xhh r i, List.append_assoc]
theorem xm0 (l : List Int) (n : Int) : xar (l ++ [n]) = xar l ++ [.int .i64 n] := by simp [xar]
theorem xpl (l : List Chn) (c : Chn) : xbe chC (l ++ [c]) = xbe chC l ++ [.int .i64 c.kd, .int .i64 c.fr, .int .i64 c.tt] := by simp [xbe, chC]
theorem xoz (l : List Slt) (c : Slt) : xbe slC (l ++ [c]) = xbe slC l ++ [.int .i64 c.pt, .int .i64 c.tk] := by simp [xbe, slC]
theorem xkn {α : Type} {A : Cod α} {b : UInt8} {k : Nat} (h : xc1 A k q = none) (hk : k <= b.toNat) : A.ls.dec (b :: q) = none := xu4 h hk
theorem xs1 : (Tryz.prog.info? 124).map (fun i => (i.zero, i.size, i.bytes)) = some (some (.agg #[.int .i64 0, .int .i64 0, .int .i64 0, .int .i64 0]), 4, 32) := by kernel_rfl
theorem xu7 (W : World) (g : Nat) (xs : List UInt8) (h : Rdr W g xs) :
  Calls Tryz.prog 178 #[.pointer (some ⟨g, 0, none⟩), .func (.func 179) #[.pointer (some ⟨g, 0, none⟩)] #[]] W fun e w' =>
   (cI.ls.dec xs = none /\ e = .panicked xf4 /\ Below g W w') \/ (∃ ds r v, cI.ls.dec xs = some (ds, r) /\ e = .returned v /\ w'.ownsRow W.heap.size 124 4 v ds.length (xck ds) /\ Rdr w' g r /\ One g W w') := by
 have hen : xav 179 := xa8 Tryz.func179 kr kr
 unfold xav at hen
 obtain ⟨i1, hi1, hy0, hy1, hy2⟩ := xaj xs1
 have hgl : g < W.heap.size := h.lt
 have H0 := Lib.hid h
 clear h
 match xs, H0 with
 | [], H0 =>
  go_enter Tryz.func178, Tryz.ntmps178
  go_wp2_with fail
  refine (xbb _ g [] H0.out).mono ?_
  rintro e w1 (⟨hn, rfl, b1⟩ | ⟨n1, q1, v1, hd1, rfl, rfl, h1, o1⟩)
  .exact xat rfl (.inl ⟨rfl, rfl, b1⟩)
  .cases hd1
 | x :: q0, H0 =>
  go_enter Tryz.func178, Tryz.ntmps178
  go_wp2_with fail
  refine (xbb _ g (x :: q0) H0.out).mono ?_
  rintro e w1 (⟨hn, rfl, b1⟩ | ⟨n1, q1, v1, hd1, rfl, rfl, h1, o1⟩)
  .cases hn
  injection hd1 with hd1
  injection hd1 with e1 e2
  subst e1
  subst e2
  have hx : x.toNat < 256 := x.toNat_lt
  have H1 := Lib.hid h1
  have O1 := Lib.hid o1
  clear h1 o1 H0
  go_wp2
  go_loopw [5, 8] (fun lv i wr => ∃ (k : Nat) (ds : List Ins) (q : List UInt8) (ao : Option Addr) (cap : Nat), i = .int .i64 k /\ lv = .slice ao k cap /\ k <= x.toNat /\ Hid (xc1 cI k q0 = some (ds, q)) /\ Hid (wr.ownsRow W.heap.size 124 4 (.slice ao k cap) k (xck ds)) /\ Hid (Rdr wr g q) /\ Hid (One g W wr)) (fun _ i _ => x.toNat - (intOf i).toNat)
  case atStart => exact ⟨0, [], q0, none, 0, rfl, rfl, by omega, Lib.hid rfl, Lib.hid (World.ownsRow_nil _ _ _ _), H1, O1⟩
  case round =>
   obtain ⟨k, ds, q, ao, cap, rfl, rfl, hk, HM, HO, HR, H1'⟩ := hrel
   clear H1 O1
   by_cases hlt : k < x.toNat
   .have hli : (k : Int) < x.toNat := by omega
    go_wp2_with fail
    refine (xv3 _ g q HR.out).mono ?_
    rintro e w2 (⟨hn, rfl, b2⟩ | ⟨d, r, v2, hd, rfl, rfl, h2, o2⟩)
    .dsimp +zetaDelta only [Exit.inBlock, Exit.then]
     exact xat rfl (.inl ⟨xkn (xi6 HM.out hn) om, rfl, H1'.out.b.trans b2⟩)
    .have HM2 := Lib.hid (xfr HM.out hd)
     have HOa := Lib.hid ((xdc HO.out o2 hgl).alloc (.cells #[.int .i64 d.op, .int .i64 d.a, .int .i64 d.b, .int .i64 d.n] 124))
     have hz2 : W.heap.size <= w2.heap.size := (H1'.out.trans o2).size
     have HR2 := Lib.hid (Rw.alloc h2 (.cells #[.int .i64 d.op, .int .i64 d.a, .int .i64 d.b, .int .i64 d.n] 124))
     have H2 := Lib.hid ((H1'.out.trans o2).alloc om (.cells #[.int .i64 d.op, .int .i64 d.a, .int .i64 d.b, .int .i64 d.n] 124))
     have HDL := Lib.hid (xcz HM.out)
     clear hd h2 o2 HO HR H1' HM
     go_wp2_with (at_builtin; refine wpList_append_lies _ rfl (.tmp 10) (.tmp 13) 40 rfl W.heap.size 124 i1 _ 4 32 Tryz.underlying40 hi1 hy0 hy1 hy2 rfl (by decide) _ k (xck ds) rfl HOa.out ⟨w2.heap.size, 0, none⟩ 1 1 [.int .i64 d.op, .int .i64 d.a, .int .i64 d.b, .int .i64 d.n] rfl rfl (xa9 _ _ _ _ rfl) (by simp [Value.oneCell']) (by decide) (by unfold maxLen; omega) om so _ rfl ?_)
     intro g4 cap4 W4 hown hgrow hat hg4
     have HO4 : Hid (W4.ownsRow W.heap.size 124 4 (.slice (some ⟨g4, 0, none⟩) (k + 1) cap4) (k + 1) (xck (ds ++ [d]))) := Lib.hid (by rw [xhh]; exact hown)
     have HR4 := Lib.hid (Rdr.grown HR2.out hgrow (fun c e => by have := xab HOa.out c e; omega))
     have H4 := Lib.hid (H2.out.grown hgrow (fun c e => xab HOa.out c e) hgl)
     clear hown hgrow hat HOa HR2 H2
     go_wp2
     go_roundw
     case rel => exact ⟨k + 1, ds ++ [d], r, some ⟨g4, 0, none⟩, cap4, by go_num, rfl, by omega, HM2, HO4, HR4, H4⟩
     case measure => simp [intOf]; omega
   .obtain rfl : k = x.toNat := by omega
    have hli : ¬ ((x.toNat : Int) < x.toNat) := by omega
    have HDL := Lib.hid (xcz HM.out)
    go_wp2
    go_ret
    exact .inr ⟨ds, q, HM.out, _, rfl, by rw [HDL.out]; exact HO.out, HR.out, H1'.out⟩
theorem xtf : (Tryz.prog.info? 3).map (fun i => (i.zero, i.size, i.bytes)) = some (some (.int .i64 0), 1, 8) := by kernel_rfl
theorem xvd (W : World) (g : Nat) (xs : List UInt8) (h : Rdr W g xs) :
  Calls Tryz.prog 180 #[.pointer (some ⟨g, 0, none⟩), .func (.func 181) #[.pointer (some ⟨g, 0, none⟩)] #[]] W fun e w' =>
   (cN.ls.dec xs = none /\ e = .panicked xf4 /\ Below g W w') \/ (∃ ds r v, cN.ls.dec xs = some (ds, r) /\ e = .returned v /\ w'.ownsRow W.heap.size 3 1 v ds.length (xar ds) /\ Rdr w' g r /\ One g W w') := by
 have hen : xav 181 := xa8 Tryz.func181 kr kr
 unfold xav at hen
 obtain ⟨i1, hi1, hy0, hy1, hy2⟩ := xaj xtf
 have hgl : g < W.heap.size := h.lt
 have H0 := Lib.hid h
 clear h
 match xs, H0 with
 | [], H0 =>
  go_enter Tryz.func180, Tryz.ntmps180
  go_wp2_with fail
  refine (xbb _ g [] H0.out).mono ?_
  rintro e w1 (⟨hn, rfl, b1⟩ | ⟨n1, q1, v1, hd1, rfl, rfl, h1, o1⟩)
  .exact xat rfl (.inl ⟨rfl, rfl, b1⟩)
  .cases hd1
 | x :: q0, H0 =>
  go_enter Tryz.func180, Tryz.ntmps180
  go_wp2_with fail
  refine (xbb _ g (x :: q0) H0.out).mono ?_
  rintro e w1 (⟨hn, rfl, b1⟩ | ⟨n1, q1, v1, hd1, rfl, rfl, h1, o1⟩)
  .cases hn
  injection hd1 with hd1
  injection hd1 with e1 e2
  subst e1
  subst e2
  have hx : x.toNat < 256 := x.toNat_lt
  have H1 := Lib.hid h1
  have O1 := Lib.hid o1
  clear h1 o1 H0
  go_wp2
  go_loopw [5, 8] (fun lv i wr => ∃ (k : Nat) (ds : List Int) (q : List UInt8) (ao : Option Addr) (cap : Nat), i = .int .i64 k /\ lv = .slice ao k cap /\ k <= x.toNat /\ Hid (xc1 cN k q0 = some (ds, q)) /\ Hid (wr.ownsRow W.heap.size 3 1 (.slice ao k cap) k (xar ds)) /\ Hid (Rdr wr g q) /\ Hid (One g W wr)) (fun _ i _ => x.toNat - (intOf i).toNat)
  case atStart => exact ⟨0, [], q0, none, 0, rfl, rfl, by omega, Lib.hid rfl, Lib.hid (World.ownsRow_nil _ _ _ _), H1, O1⟩
  case round =>
   obtain ⟨k, ds, q, ao, cap, rfl, rfl, hk, HM, HO, HR, H1'⟩ := hrel
   clear H1 O1
   by_cases hlt : k < x.toNat
   .have hli : (k : Int) < x.toNat := by omega
    go_wp2_with fail
    refine (xkr _ g q HR.out).mono ?_
    rintro e w2 (⟨hn, rfl, b2⟩ | ⟨d, r, v2, hd, rfl, rfl, h2, o2⟩)
    .dsimp +zetaDelta only [Exit.inBlock, Exit.then]
     exact xat rfl (.inl ⟨xkn (xi6 HM.out hn) om, rfl, H1'.out.b.trans b2⟩)
    .have HM2 := Lib.hid (xfr HM.out hd)
     have HOa := Lib.hid ((xdc HO.out o2 hgl).alloc (.cells #[.int .i64 d] 3))
     have hz2 : W.heap.size <= w2.heap.size := (H1'.out.trans o2).size
     have HR2 := Lib.hid (Rw.alloc h2 (.cells #[.int .i64 d] 3))
     have H2 := Lib.hid ((H1'.out.trans o2).alloc om (.cells #[.int .i64 d] 3))
     have HDL := Lib.hid (xcz HM.out)
     clear hd h2 o2 HO HR H1' HM
     go_wp2_with (at_builtin; refine wpList_append_lies _ rfl (.tmp 10) (.tmp 13) 41 rfl W.heap.size 3 i1 _ 1 8 Tryz.underlying41 hi1 hy0 hy1 hy2 rfl (by decide) _ k (xar ds) rfl HOa.out ⟨w2.heap.size, 0, none⟩ 1 1 [.int .i64 d] rfl rfl (xa9 _ _ _ _ rfl) (by simp [Value.oneCell']) (by decide) (by unfold maxLen; omega) om so _ rfl ?_)
     intro g4 cap4 W4 hown hgrow hat hg4
     have HO4 : Hid (W4.ownsRow W.heap.size 3 1 (.slice (some ⟨g4, 0, none⟩) (k + 1) cap4) (k + 1) (xar (ds ++ [d]))) := Lib.hid (by rw [xm0]; exact hown)
     have HR4 := Lib.hid (Rdr.grown HR2.out hgrow (fun c e => by have := xab HOa.out c e; omega))
     have H4 := Lib.hid (H2.out.grown hgrow (fun c e => xab HOa.out c e) hgl)
     clear hown hgrow hat HOa HR2 H2
     go_wp2
     go_roundw
     case rel => exact ⟨k + 1, ds ++ [d], r, some ⟨g4, 0, none⟩, cap4, by go_num, rfl, by omega, HM2, HO4, HR4, H4⟩
     case measure => simp [intOf]; omega
   .obtain rfl : k = x.toNat := by omega
    have hli : ¬ ((x.toNat : Int) < x.toNat) := by omega
    have HDL := Lib.hid (xcz HM.out)
    go_wp2
    go_ret
    exact .inr ⟨ds, q, HM.out, _, rfl, by rw [HDL.out]; exact HO.out, HR.out, H1'.out⟩
theorem xsv : (Tryz.prog.info? 126).map (fun i => (i.zero, i.size, i.bytes)) = some (some (.agg #[.int .i64 0, .int .i64 0, .int .i64 0]), 3, 24) := by kernel_rfl
theorem xt6 (W : World) (g : Nat) (xs : List UInt8) (h : Rdr W g xs) :
  Calls Tryz.prog 145 #[.pointer (some ⟨g, 0, none⟩), .func (.func 146) #[.pointer (some ⟨g, 0, none⟩)] #[]] W fun e w' =>
   (cC.ls.dec xs = none /\ e = .panicked xf4 /\ Below g W w') \/ (∃ ds r v, cC.ls.dec xs = some (ds, r) /\ e = .returned v /\ w'.ownsRow W.heap.size 126 3 v ds.length (xbe chC ds) /\ Rdr w' g r /\ One g W w') := by
 have hen : xav 146 := xa8 Tryz.func146 kr kr
 unfold xav at hen
 obtain ⟨i1, hi1, hy0, hy1, hy2⟩ := xaj xsv
 have hgl : g < W.heap.size := h.lt
 have H0 := Lib.hid h
 clear h
 match xs, H0 with
 | [], H0 =>
  go_enter Tryz.func145, Tryz.ntmps145
  go_wp2_with fail
  refine (xbb _ g [] H0.out).mono ?_
  rintro e w1 (⟨hn, rfl, b1⟩ | ⟨n1, q1, v1, hd1, rfl, rfl, h1, o1⟩)
  .exact xat rfl (.inl ⟨rfl, rfl, b1⟩)
  .cases hd1
 | x :: q0, H0 =>
  go_enter Tryz.func145, Tryz.ntmps145
  go_wp2_with fail
  refine (xbb _ g (x :: q0) H0.out).mono ?_
  rintro e w1 (⟨hn, rfl, b1⟩ | ⟨n1, q1, v1, hd1, rfl, rfl, h1, o1⟩)
  .cases hn
  injection hd1 with hd1
  injection hd1 with e1 e2
  subst e1
  subst e2
  have hx : x.toNat < 256 := x.toNat_lt
  have H1 := Lib.hid h1
  have O1 := Lib.hid o1
  clear h1 o1 H0
  go_wp2
  go_loopw [5, 8] (fun lv i wr => ∃ (k : Nat) (ds : List Chn) (q : List UInt8) (ao : Option Addr) (cap : Nat), i = .int .i64 k /\ lv = .slice ao k cap /\ k <= x.toNat /\ Hid (xc1 cC k q0 = some (ds, q)) /\ Hid (wr.ownsRow W.heap.size 126 3 (.slice ao k cap) k (xbe chC ds)) /\ Hid (Rdr wr g q) /\ Hid (One g W wr)) (fun _ i _ => x.toNat - (intOf i).toNat)
  case atStart => exact ⟨0, [], q0, none, 0, rfl, rfl, by omega, Lib.hid rfl, Lib.hid (World.ownsRow_nil _ _ _ _), H1, O1⟩
  case round =>
   obtain ⟨k, ds, q, ao, cap, rfl, rfl, hk, HM, HO, HR, H1'⟩ := hrel
   clear H1 O1
   by_cases hlt : k < x.toNat
   .have hli : (k : Int) < x.toNat := by omega
    go_wp2_with fail
    refine (xp1 _ g q HR.out).mono ?_
    rintro e w2 (⟨hn, rfl, b2⟩ | ⟨d, r, v2, hd, rfl, rfl, h2, o2⟩)
    .dsimp +zetaDelta only [Exit.inBlock, Exit.then]
     exact xat rfl (.inl ⟨xkn (xi6 HM.out hn) om, rfl, H1'.out.b.trans b2⟩)
    .have HM2 := Lib.hid (xfr HM.out hd)
     have HOa := Lib.hid ((xdc HO.out o2 hgl).alloc (.cells #[.int .i64 d.kd, .int .i64 d.fr, .int .i64 d.tt] 126))
     have hz2 : W.heap.size <= w2.heap.size := (H1'.out.trans o2).size
     have HR2 := Lib.hid (Rw.alloc h2 (.cells #[.int .i64 d.kd, .int .i64 d.fr, .int .i64 d.tt] 126))
     have H2 := Lib.hid ((H1'.out.trans o2).alloc om (.cells #[.int .i64 d.kd, .int .i64 d.fr, .int .i64 d.tt] 126))
     have HDL := Lib.hid (xcz HM.out)
     clear hd h2 o2 HO HR H1' HM
     go_wp2_with (at_builtin; refine wpList_append_lies _ rfl (.tmp 10) (.tmp 13) 36 rfl W.heap.size 126 i1 _ 3 24 Tryz.underlying36 hi1 hy0 hy1 hy2 rfl (by decide) _ k (xbe chC ds) rfl HOa.out ⟨w2.heap.size, 0, none⟩ 1 1 [.int .i64 d.kd, .int .i64 d.fr, .int .i64 d.tt] rfl rfl (xa9 _ _ _ _ rfl) (by simp [Value.oneCell']) (by decide) (by unfold maxLen; omega) om so _ rfl ?_)
     intro g4 cap4 W4 hown hgrow hat hg4
     have HO4 : Hid (W4.ownsRow W.heap.size 126 3 (.slice (some ⟨g4, 0, none⟩) (k + 1) cap4) (k + 1) (xbe chC (ds ++ [d]))) := Lib.hid (by rw [xpl]; exact hown)
     have HR4 := Lib.hid (Rdr.grown HR2.out hgrow (fun c e => by have := xab HOa.out c e; omega))
     have H4 := Lib.hid (H2.out.grown hgrow (fun c e => xab HOa.out c e) hgl)
     clear hown hgrow hat HOa HR2 H2
     go_wp2
     go_roundw
     case rel => exact ⟨k + 1, ds ++ [d], r, some ⟨g4, 0, none⟩, cap4, by go_num, rfl, by omega, HM2, HO4, HR4, H4⟩
     case measure => simp [intOf]; omega
   .obtain rfl : k = x.toNat := by omega
    have hli : ¬ ((x.toNat : Int) < x.toNat) := by omega
    have HDL := Lib.hid (xcz HM.out)
    go_wp2
    go_ret
    exact .inr ⟨ds, q, HM.out, _, rfl, by rw [HDL.out]; exact HO.out, HR.out, H1'.out⟩
theorem xtq : (Tryz.prog.info? 128).map (fun i => (i.zero, i.size, i.bytes)) = some (some (.agg #[.int .i64 0, .int .i64 0]), 2, 16) := by kernel_rfl
theorem xun (W : World) (g : Nat) (xs : List UInt8) (h : Rdr W g xs) :
  Calls Tryz.prog 147 #[.pointer (some ⟨g, 0, none⟩), .func (.func 148) #[.pointer (some ⟨g, 0, none⟩)] #[]] W fun e w' =>
   (cT.ls.dec xs = none /\ e = .panicked xf4 /\ Below g W w') \/ (∃ ds r v, cT.ls.dec xs = some (ds, r) /\ e = .returned v /\ w'.ownsRow W.heap.size 128 2 v ds.length (xbe slC ds) /\ Rdr w' g r /\ One g W w') := by
 have hen : xav 148 := xa8 Tryz.func148 kr kr
 unfold xav at hen
 obtain ⟨i1, hi1, hy0, hy1, hy2⟩ := xaj xtq
 have hgl : g < W.heap.size := h.lt
 have H0 := Lib.hid h
 clear h
 match xs, H0 with
 | [], H0 =>
  go_enter Tryz.func147, Tryz.ntmps147
  go_wp2_with fail
  refine (xbb _ g [] H0.out).mono ?_
  rintro e w1 (⟨hn, rfl, b1⟩ | ⟨n1, q1, v1, hd1, rfl, rfl, h1, o1⟩)
  .exact xat rfl (.inl ⟨rfl, rfl, b1⟩)
  .cases hd1
 | x :: q0, H0 =>
  go_enter Tryz.func147, Tryz.ntmps147
  go_wp2_with fail
  refine (xbb _ g (x :: q0) H0.out).mono ?_
  rintro e w1 (⟨hn, rfl, b1⟩ | ⟨n1, q1, v1, hd1, rfl, rfl, h1, o1⟩)
  .cases hn
  injection hd1 with hd1
  injection hd1 with e1 e2
  subst e1
  subst e2
  have hx : x.toNat < 256 := x.toNat_lt
  have H1 := Lib.hid h1
  have O1 := Lib.hid o1
  clear h1 o1 H0
  go_wp2
  go_loopw [5, 8] (fun lv i wr => ∃ (k : Nat) (ds : List Slt) (q : List UInt8) (ao : Option Addr) (cap : Nat), i = .int .i64 k /\ lv = .slice ao k cap /\ k <= x.toNat /\ Hid (xc1 cT k q0 = some (ds, q)) /\ Hid (wr.ownsRow W.heap.size 128 2 (.slice ao k cap) k (xbe slC ds)) /\ Hid (Rdr wr g q) /\ Hid (One g W wr)) (fun _ i _ => x.toNat - (intOf i).toNat)
  case atStart => exact ⟨0, [], q0, none, 0, rfl, rfl, by omega, Lib.hid rfl, Lib.hid (World.ownsRow_nil _ _ _ _), H1, O1⟩
  case round =>
   obtain ⟨k, ds, q, ao, cap, rfl, rfl, hk, HM, HO, HR, H1'⟩ := hrel
   clear H1 O1
   by_cases hlt : k < x.toNat
   .have hli : (k : Int) < x.toNat := by omega
    go_wp2_with fail
    refine (xy2 _ g q HR.out).mono ?_
    rintro e w2 (⟨hn, rfl, b2⟩ | ⟨d, r, v2, hd, rfl, rfl, h2, o2⟩)
    .dsimp +zetaDelta only [Exit.inBlock, Exit.then]
     exact xat rfl (.inl ⟨xkn (xi6 HM.out hn) om, rfl, H1'.out.b.trans b2⟩)
    .have HM2 := Lib.hid (xfr HM.out hd)
     have HOa := Lib.hid ((xdc HO.out o2 hgl).alloc (.cells #[.int .i64 d.pt, .int .i64 d.tk] 128))
     have hz2 : W.heap.size <= w2.heap.size := (H1'.out.trans o2).size
     have HR2 := Lib.hid (Rw.alloc h2 (.cells #[.int .i64 d.pt, .int .i64 d.tk] 128))
     have H2 := Lib.hid ((H1'.out.trans o2).alloc om (.cells #[.int .i64 d.pt, .int .i64 d.tk] 128))
     have HDL := Lib.hid (xcz HM.out)
     clear hd h2 o2 HO HR H1' HM
     go_wp2_with (at_builtin; refine wpList_append_lies _ rfl (.tmp 10) (.tmp 13) 37 rfl W.heap.size 128 i1 _ 2 16 Tryz.underlying37 hi1 hy0 hy1 hy2 rfl (by decide) _ k (xbe slC ds) rfl HOa.out ⟨w2.heap.size, 0, none⟩ 1 1 [.int .i64 d.pt, .int .i64 d.tk] rfl rfl (xa9 _ _ _ _ rfl) (by simp [Value.oneCell']) (by decide) (by unfold maxLen; omega) om so _ rfl ?_)
     intro g4 cap4 W4 hown hgrow hat hg4
     have HO4 : Hid (W4.ownsRow W.heap.size 128 2 (.slice (some ⟨g4, 0, none⟩) (k + 1) cap4) (k + 1) (xbe slC (ds ++ [d]))) := Lib.hid (by rw [xoz]; exact hown)
     have HR4 := Lib.hid (Rdr.grown HR2.out hgrow (fun c e => by have := xab HOa.out c e; omega))
     have H4 := Lib.hid (H2.out.grown hgrow (fun c e => xab HOa.out c e) hgl)
     clear hown hgrow hat HOa HR2 H2
     go_wp2
     go_roundw
     case rel => exact ⟨k + 1, ds ++ [d], r, some ⟨g4, 0, none⟩, cap4, by go_num, rfl, by omega, HM2, HO4, HR4, H4⟩
     case measure => simp [intOf]; omega
   .obtain rfl : k = x.toNat := by omega
    have hli : ¬ ((x.toNat : Int) < x.toNat) := by omega
    have HDL := Lib.hid (xcz HM.out)
    go_wp2
    go_ret
    exact .inr ⟨ds, q, HM.out, _, rfl, by rw [HDL.out]; exact HO.out, HR.out, H1'.out⟩
theorem xc8 {base' : Nat} {e' : TypeId} {size' : Nat} {n' : Nat} {xs' : List Value} {row : Option Nat} (h : w.ownsRow base e size v n xs) (hgr : w.grownBy w' row) (hu : w.ownsRow base' e' size' u n' xs') (hrow : row = u.ownBlock) (hne : e ≠ e') : w'.ownsRow base e size v n xs := by
 refine ⟨h.1, h.2.imp id ?_⟩
 rintro ⟨k, cap, cur, rfl, h2, h3, h4⟩
 refine ⟨k, cap, cur, rfl, h2, (hgr.block k (Array.getElem?_eq_some_iff.1 h3).1 (fun ek => ?_)).trans h3, h4⟩
 rw [hrow] at ek
 rcases hu.2 with ⟨rfl, _⟩ | ⟨k', cap', cur', rfl, _, h3', _⟩
 .cases ek
 .simp [Value.ownBlock] at ek
  subst ek
  rw [h3] at h3'
  injection h3' with h3'
  injection h3' with _ h5
  exact hne h5
structure PrtO (B : Nat) (w : World) (c i : Value) (p : Prt) : Prop where
 code : w.ownsRow B 124 4 c p.code.length (xck p.code)
 inn : w.ownsRow B 3 1 i p.inn.length (xar p.inn)
theorem PrtO.r (h : PrtO B w c i p) : PrtR w c i p := ⟨xa7 h.code, xa7 h.inn⟩
theorem PrtO.one (h : PrtO B w c i p) (ho : One g w w') (hg : g < B) : PrtO B w' c i p := ⟨xdc h.code ho hg, xdc h.inn ho hg⟩
theorem PrtO.alloc (h : PrtO B w c i p) (o : Obj) : PrtO B (w.alloc o) c i p := ⟨h.code.alloc _, h.inn.alloc _⟩
theorem PrtO.low (h : PrtO B w c i p) (hb : B' <= B) : PrtO B' w c i p := ⟨xau h.code hb, xau h.inn hb⟩
theorem PrtO.grow (h : PrtO B w c i p) (hgr : w.grownBy w' u.ownBlock) (hu : w.ownsRow base 43 size u n xs) : PrtO B w' c i p :=
 ⟨xc8 h.code hgr hu rfl (by decide), xc8 h.inn hgr hu rfl (by decide)⟩
theorem PrtO.row (h : PrtO B w c i p) (hg : g < B) (cs : Array Value) : PrtO B (w.setRow g cs) c i p :=
 ⟨xan h.code cs (fun e => by have := xab h.code g e; omega), xan h.inn cs (fun e => by have := xab h.inn g e; omega)⟩
theorem xtt : (Tryz.prog.info? 43).map (·.size) = some 2 := by kernel_rfl
theorem xy7 (W : World) (g : Nat) (xs : List UInt8) (h : Rdr W g xs) :
  Calls Tryz.prog 144 #[.pointer (some ⟨g, 0, none⟩)] W fun e w' => (cP.dec xs = none /\ e = .panicked xf4 /\ Below g W w') \/ (∃ p r c i, cP.dec xs = some (p, r) /\ e = .returned (.agg #[c, i]) /\ PrtO W.heap.size w' c i p /\ Rdr w' g r /\ One g W w') := by
 have hgl : g < W.heap.size := h.lt
 have H0 : Hid (Rdr (W.alloc (.cells #[.slice none 0 0, .slice none 0 0] 43)) g xs) := hd (h.alloc _)
 clear h
 have O0 := hd (One.up (g := g) ((Below.refl W.heap.size W).alloc (Nat.le_refl _) (.cells #[.slice none 0 0, .slice none 0 0] 43)) om)
 have R0 := hd (Rw.new W 43 #[.slice none 0 0, .slice none 0 0] rfl)
 go_enter Tryz.func144, Tryz.ntmps144
 go_wp2_with fail
 refine (xu7 _ g xs H0.out).mono ?_
 rintro e w1 (⟨hn, rfl, b1⟩ | ⟨ds, q1, v1, hd1, rfl, hv1, h1, o1⟩)
 .exact xat rfl (.inl ⟨xc0 (xdq hn), rfl, O0.out.b.trans b1⟩)
 .rw [World.size_alloc] at hv1
  have HD1 := hd hd1
  have HV1 := hd hv1
  have H1 := hd h1
  have O1 := hd (O0.out.trans o1)
  have R1 := hd (o1.rw R0.out om)
  have z1 := O1.out.size
  have z1' : W.heap.size + 1 <= w1.heap.size := by have := o1.size; rw [World.size_alloc] at this; exact this
  clear hd1 hv1 h1 o1 H0 O0 R0
  obtain ⟨va, vc, rfl⟩ := xaq HV1.out
  go_wp2_with fail
  refine (xvd _ g q1 H1.out).mono ?_
  rintro e w2 (⟨hn, rfl, b1⟩ | ⟨es, q2, v2, hd2, rfl, hv2, h2, o2⟩)
  .exact xat rfl (.inl ⟨xc0 (xcb HD1.out hn), rfl, O1.out.b.trans b1⟩)
  .have HD := hd (xhg (f := fun p => (⟨p.1, p.2⟩ : Prt)) (g := fun p => (p.code, p.inn)) (xeq HD1.out hd2))
   have HV2 := hd (show PrtO (W.heap.size + 1) w2 (.slice va ds.length vc) v2 ⟨ds, es⟩ from ⟨xdc HV1.out o2 om, xau hv2 z1'⟩)
   obtain ⟨ia, ic, rfl⟩ := xaq hv2
   have H2 := hd h2
   have O2 := hd (O1.out.trans o2)
   have R2 := hd (o2.rw R1.out om)
   clear hd2 hv2 h2 o2 H1 O1 R1 HD1 HV1
   go_wp2_with (refine xae rfl 43 (.tmp 2) (.tmp 11) rfl W.heap.size #[.slice va ds.length vc, .slice ia es.length ic] rfl rfl 43 _ R2.out xtt rfl (by simp [Value.oneCell']) ?_)
   intro W4 HW4
   have r5 : Rw W4 W.heap.size 43 #[.slice va ds.length vc, .slice ia es.length ic] := by rw [HW4.out]; exact R2.out.row _
   have H5 := hd (show Rdr W4 g q2 by rw [HW4.out]; exact Rw.row_other H2.out _ om)
   have O5 := hd (show One g W W4 by rw [HW4.out]; exact O2.out.row (Nat.le_refl _) om _)
   have V5 := hd (show PrtO W.heap.size W4 (.slice va ds.length vc) (.slice ia es.length ic) ⟨ds, es⟩ by rw [HW4.out]; exact (HV2.out.row om _).low om)
   clear HW4 R2 H2 O2 HV2
   go_wp2
   refine bodyPost_ret (xds Tryz.results144 _ _ W.heap.size _ rfl (run_loadVar_row _ _ 43 _ _ (0, 0) _ r5 Tryz.underlying43 rfl xtt)) rfl (.inr ⟨_, _, _, _, HD.out, rfl, V5.out, H5.out, O5.out⟩)
def PartsO (B : Nat) (w : World) (v : Value) (ps : List Prt) : Prop :=
 ∃ vs : List (Value × Value), vs.length = ps.length /\ w.ownsRow B 43 2 v ps.length (xbe prC vs) /\ ∀ k (hk : k < ps.length) (hk' : k < vs.length), PrtO B w vs[k].1 vs[k].2 ps[k]
theorem PartsO.r (h : PartsO B w v ps) : PartsR w v ps := by
 obtain ⟨vs, h1, h2, h3⟩ := h
 exact ⟨vs, h1, xa7 h2, fun k hk hk' => (h3 k hk hk').r⟩
theorem PartsO.form (h : PartsO B w v ps) : ∃ ao cap, v = .slice ao ps.length cap := h.r.form
theorem PartsO.one (h : PartsO B w v ps) (ho : One g w w') (hg : g < B) : PartsO B w' v ps := by
 obtain ⟨vs, h1, h2, h3⟩ := h
 exact ⟨vs, h1, xdc h2 ho hg, fun k hk hk' => (h3 k hk hk').one ho hg⟩
theorem PartsO.alloc (h : PartsO B w v ps) (o : Obj) : PartsO B (w.alloc o) v ps := by
 obtain ⟨vs, h1, h2, h3⟩ := h
 exact ⟨vs, h1, h2.alloc _, fun k hk hk' => (h3 k hk hk').alloc _⟩
theorem PartsO.low (h : PartsO B w v ps) (hb : B' <= B) : PartsO B' w v ps := by
 obtain ⟨vs, h1, h2, h3⟩ := h
 exact ⟨vs, h1, xau h2 hb, fun k hk hk' => (h3 k hk hk').low hb⟩
theorem PartsO.row (h : PartsO B w v ps) (hg : g < B) (cs : Array Value) : PartsO B (w.setRow g cs) v ps := by
 obtain ⟨vs, h1, h2, h3⟩ := h
 exact ⟨vs, h1, xan h2 cs (fun e => by have := xab h2 g e; omega), fun k hk hk' => (h3 k hk hk').row hg cs⟩
theorem PartsO.nil (B : Nat) (w : World) : PartsO B w (.slice none 0 0) [] := ⟨[], rfl, World.ownsRow_nil _ _ _ _, fun k hk => by cases hk⟩
theorem xtv : (Tryz.prog.info? 43).map (fun i => (i.zero, i.size, i.bytes)) = some (some (.agg #[.slice none 0 0, .slice none 0 0]), 2, 48) := by kernel_rfl
theorem xt9 (W : World) (g : Nat) (xs : List UInt8) (h : Rdr W g xs) :
  Calls Tryz.prog 143 #[.pointer (some ⟨g, 0, none⟩), .func (.func 144) #[.pointer (some ⟨g, 0, none⟩)] #[]] W fun e w' =>
   (cP.ls.dec xs = none /\ e = .panicked xf4 /\ Below g W w') \/ (∃ ds r v, cP.ls.dec xs = some (ds, r) /\ e = .returned v /\ PartsO W.heap.size w' v ds /\ Rdr w' g r /\ One g W w') := by
 have hen : xav 144 := xa8 Tryz.func144 kr kr
 unfold xav at hen
 obtain ⟨i1, hi1, hy0, hy1, hy2⟩ := xaj xtv
 have hgl : g < W.heap.size := h.lt
 have H0 := Lib.hid h
 clear h
 match xs, H0 with
 | [], H0 =>
  go_enter Tryz.func143, Tryz.ntmps143
  go_wp2_with fail
  refine (xbb _ g [] H0.out).mono ?_
  rintro e w1 (⟨hn, rfl, b1⟩ | ⟨n1, q1, v1, hd1, rfl, rfl, h1, o1⟩)
  .exact xat rfl (.inl ⟨rfl, rfl, b1⟩)
  .cases hd1
 | x :: q0, H0 =>
  go_enter Tryz.func143, Tryz.ntmps143
  go_wp2_with fail
  refine (xbb _ g (x :: q0) H0.out).mono ?_
  rintro e w1 (⟨hn, rfl, b1⟩ | ⟨n1, q1, v1, hd1, rfl, rfl, h1, o1⟩)
  .cases hn
  injection hd1 with hd1
  injection hd1 with e1 e2
  subst e1
  subst e2
  have hx : x.toNat < 256 := x.toNat_lt
  have H1 := Lib.hid h1
  have O1 := Lib.hid o1
  clear h1 o1 H0
  go_wp2
  go_loopw [5, 8] (fun lv i wr => ∃ (k : Nat) (ds : List Prt) (q : List UInt8) (ao : Option Addr) (cap : Nat), i = .int .i64 k /\ lv = .slice ao k cap /\ k <= x.toNat /\ Hid (xc1 cP k q0 = some (ds, q)) /\ Hid (PartsO W.heap.size wr (.slice ao k cap) ds) /\ Hid (Rdr wr g q) /\ Hid (One g W wr)) (fun _ i _ => x.toNat - (intOf i).toNat)
  case atStart => exact ⟨0, [], q0, none, 0, rfl, rfl, by omega, Lib.hid rfl, Lib.hid (PartsO.nil _ _), H1, O1⟩
  case round =>
   obtain ⟨k, ds, q, ao, cap, rfl, rfl, hk, HM, HO, HR, H1'⟩ := hrel
   clear H1 O1
   by_cases hlt : k < x.toNat
   .have hli : (k : Int) < x.toNat := by omega
    go_wp2_with fail
    refine (xy7 _ g q HR.out).mono ?_
    rintro e w2 (⟨hn, rfl, b2⟩ | ⟨d, r, vc, vi, hd, rfl, hv2, h2, o2⟩)
    .dsimp +zetaDelta only [Exit.inBlock, Exit.then]
     exact xat rfl (.inl ⟨xkn (xi6 HM.out hn) om, rfl, H1'.out.b.trans b2⟩)
    .obtain ⟨ca, cc, rfl⟩ := hv2.r.code.form
     obtain ⟨ia, ic, rfl⟩ := hv2.r.inn.form
     have hdl : ds.length = k := xcz HM.out
     have HM2 := Lib.hid (xfr HM.out hd)
     have hz2 : W.heap.size <= w2.heap.size := (H1'.out.trans o2).size
     have HV2 := Lib.hid ((hv2.low H1'.out.size).alloc (.cells #[.slice ca d.code.length cc, .slice ia d.inn.length ic] 43))
     obtain ⟨vs, hvl, how, hin⟩ := (HO.out.one o2 hgl).alloc (.cells #[.slice ca d.code.length cc, .slice ia d.inn.length ic] 43)
     rw [hdl] at how
     have HOa := Lib.hid how
     have HIN := Lib.hid hin
     have HVL := Lib.hid hvl
     have HR2 := Lib.hid (Rw.alloc h2 (.cells #[.slice ca d.code.length cc, .slice ia d.inn.length ic] 43))
     have H2 := Lib.hid ((H1'.out.trans o2).alloc om (.cells #[.slice ca d.code.length cc, .slice ia d.inn.length ic] 43))
     have HDL := Lib.hid hdl
     clear hd h2 o2 HO HR H1' HM hv2 how hin hvl hdl
     go_wp2_with (at_builtin; refine wpList_append_lies _ rfl (.tmp 10) (.tmp 13) 35 rfl W.heap.size 43 i1 _ 2 48 Tryz.underlying35 hi1 hy0 hy1 hy2 rfl (by decide) _ k (xbe prC vs) rfl HOa.out ⟨w2.heap.size, 0, none⟩ 1 1 [.slice ca d.code.length cc, .slice ia d.inn.length ic] rfl rfl (xa9 _ _ _ _ rfl) (by simp [Value.oneCell']) (by decide) (by unfold maxLen; omega) om so _ rfl ?_)
     intro g4 cap4 W4 hown hgrow hat hg4
     have HO4 : Hid (PartsO W.heap.size W4 (.slice (some ⟨g4, 0, none⟩) (k + 1) cap4) (ds ++ [d])) := Lib.hid (by
      refine ⟨vs ++ [(.slice ca d.code.length cc, .slice ia d.inn.length ic)], by simp [HVL.out], ?_, fun j hj hj' => ?_⟩
      .rw [show (ds ++ [d]).length = k + 1 by rw [List.length_append, HDL.out]; rfl, show xbe prC (vs ++ [(.slice ca d.code.length cc, .slice ia d.inn.length ic)]) = xbe prC vs ++ [.slice ca d.code.length cc, .slice ia d.inn.length ic] by simp [xbe, prC]]
       exact hown
      .by_cases hjl : j < ds.length
       .rw [List.getElem_append_left hjl]
        have := (HIN.out j hjl (by rw [HVL.out]; exact hjl)).grow hgrow HOa.out
        rw [List.getElem_append_left (by rw [HVL.out]; exact hjl)]
        exact this
       .have ej : j = ds.length := by rw [List.length_append] at hj; simp at hj; omega
        subst ej
        rw [List.getElem_append_right (Nat.le_refl _), List.getElem_append_right (by rw [HVL.out]; exact Nat.le_refl _)]
        simpa [HVL.out] using HV2.out.grow hgrow HOa.out)
     have HR4 := Lib.hid (Rdr.grown HR2.out hgrow (fun c e => by have := xab HOa.out c e; omega))
     have H4 := Lib.hid (H2.out.grown hgrow (fun c e => xab HOa.out c e) hgl)
     clear hown hgrow hat HOa HR2 H2 HIN HV2 HVL HDL
     go_wp2
     go_roundw
     case rel => exact ⟨k + 1, ds ++ [d], r, some ⟨g4, 0, none⟩, cap4, by go_num, rfl, by omega, HM2, HO4, HR4, H4⟩
     case measure => simp [intOf]; omega
   .obtain rfl : k = x.toNat := by omega
    have hli : ¬ ((x.toNat : Int) < x.toNat) := by omega
    go_wp2
    go_ret
    exact .inr ⟨ds, q, HM.out, _, rfl, HO.out, HR.out, H1'.out⟩
end Go.Proofs.YtbkdoohhdkahiaaGreatDoor
