/- image.list: as many as the next byte tells. -/
import Derived.Test.YtbhfnkbflikliaaDoorJ1
import Derived.Deep.AppendLies
import Derived.Test.YtbhfnkbflikliaaDoorJ0
import Derived.Deep.QuietTactic
import Derived.BigQuiet
namespace Go.Proofs.YtbhfnkbflikliaaDoor
set_option linter.unusedSimpArgs false
set_option linter.unusedVariables false
open Go.RowKit Go.Sort
theorem own_one {w w' : World} {g base : Nat} {e : TypeId} {size : Nat} {v : Value} {n : Nat} {xs : List Value} (h : w.ownsRow base e size v n xs) (ho : One g w w') (hg : g < base) : w'.ownsRow base e size v n xs := by
  refine ⟨h.1, h.2.imp id ?_⟩
  rintro ⟨k, cap, cur, rfl, h2, h3, h4⟩
  exact ⟨k, cap, cur, rfl, h2, (ho.k k (Array.getElem?_eq_some_iff.1 h3).1 (by omega)).trans h3, h4⟩
theorem One.grown {g : Nat} {w w1 w2 : World} (h : One g w w1) {row : Option Nat} (hgr : w1.grownBy w2 row) (hrow : ∀ k, row = some k → w.heap.size ≤ k) (hgw : g < w.heap.size) : One g w w2 :=
  ⟨h.b.grown hgr (by have := h.b.size; omega) (fun k e => by have := hrow k e; omega), fun c hc hg => (hgr.block c (Nat.lt_of_lt_of_le hc h.b.size) (fun e => by have := hrow c e.symm; omega)).trans (h.k c hc hg)⟩
theorem One.alloc {g : Nat} {w w' : World} (h : One g w w') (hg : g ≤ w'.heap.size) (o : Obj) : One g w (w'.alloc o) := h.trans (One.up ((Below.refl _ _).alloc (Nat.le_refl _) _) hg)
theorem Rdr.grown {g : Nat} {w1 w2 : World} {q : List UInt8} (h : Rdr w1 g q) {row : Option Nat} (hgr : w1.grownBy w2 row) (hrow : ∀ k, row = some k → g < k) : Rdr w2 g q := (hgr.block g h.lt (fun e => by have := hrow g e.symm; omega)).trans h
theorem new_rangeI (w : World) (t : TypeId) (cs : Array Value) (g : Nat) (hg : g = w.heap.size) : ∀ j u, cs.toList[j]? = some u → (w.alloc (.cells cs t)).cell? ((⟨g, 0, none⟩ : Addr).add j) = some u := fun j u hj => by
  rw [show (⟨g, 0, none⟩ : Addr).add j = ⟨g, j, none⟩ by unfold Addr.add; split <;> simp_all, hg, World.cell?_alloc_new]
  simpa using hj
theorem codeC_snocI : ∀ (l : List Ins) (i : Ins), codeC (l ++ [i]) = codeC l ++ [.int .i64 i.op, .int .i64 i.a, .int .i64 i.b, .int .i64 i.n]
  | [], i => rfl
  | j :: r, i => by
    show j.cells ++ codeC (r ++ [i]) = (j.cells ++ codeC r) ++ _
    rw [codeC_snocI r i, List.append_assoc]
theorem ints_snocI (l : List Int) (n : Int) : ints (l ++ [n]) = ints l ++ [.int .i64 n] := by simp [ints]
theorem chC_snocI (l : List Chn) (c : Chn) : rowC chC (l ++ [c]) = rowC chC l ++ [.int .i64 c.kd, .int .i64 c.fr, .int .i64 c.tt] := by simp [rowC, chC]
theorem slC_snocI (l : List Slt) (c : Slt) : rowC slC (l ++ [c]) = rowC slC l ++ [.int .i64 c.pt, .int .i64 c.tk] := by simp [rowC, slC]
theorem ls_none {α : Type} {A : Cod α} {b : UInt8} {q : List UInt8} {k : Nat} (h : manyD A k q = none) (hk : k ≤ b.toNat) : A.ls.dec (b :: q) = none := many_later h hk
theorem infoInsR : (Tryd.prog.info? 59).map (fun i => (i.zero, i.size, i.bytes)) = some (some (.agg #[.int .i64 0, .int .i64 0, .int .i64 0, .int .i64 0]), 4, 32) := by kernel_rfl
set_option maxRecDepth 100000 in
set_option maxHeartbeats 4000000 in
theorem rlistI_any (W : World) (g : Nat) (xs : List UInt8) (h : Rdr W g xs) :
    Calls Tryd.prog 72 #[.pointer (some ⟨g, 0, none⟩), .func (.func 73) #[.pointer (some ⟨g, 0, none⟩)] #[]] W fun e w' =>
      (cI.ls.dec xs = none ∧ e = .panicked wrongE ∧ Below g W w') ∨ (∃ ds r v, cI.ls.dec xs = some (ds, r) ∧ e = .returned v ∧ w'.ownsRow W.heap.size 59 4 v ds.length (codeC ds) ∧ Rdr w' g r ∧ One g W w') := by
  have hen : Enters 73 := enters Tryd.func73 (by kernel_rfl) (by kernel_rfl)
  unfold Enters at hen
  obtain ⟨i1, hi1, hy0, hy1, hy2⟩ := info_parts infoInsR
  have hgl : g < W.heap.size := h.lt
  have H0 := Lib.hid h
  clear h
  match xs, H0 with
  | [], H0 =>
    go_enter Tryd.func72, Tryd.ntmps72
    go_wp2_with fail
    refine (rsmall_any _ g [] H0.out).mono ?_
    rintro e w1 (⟨hn, rfl, b1⟩ | ⟨n1, q1, v1, hd1, rfl, rfl, h1, o1⟩)
    · exact post_panicI rfl (.inl ⟨rfl, rfl, b1⟩)
    · cases hd1
  | x :: q0, H0 =>
    go_enter Tryd.func72, Tryd.ntmps72
    go_wp2_with fail
    refine (rsmall_any _ g (x :: q0) H0.out).mono ?_
    rintro e w1 (⟨hn, rfl, b1⟩ | ⟨n1, q1, v1, hd1, rfl, rfl, h1, o1⟩)
    · cases hn
    injection hd1 with hd1
    injection hd1 with e1 e2
    subst e1
    subst e2
    have hx : x.toNat < 256 := x.toNat_lt
    have H1 := Lib.hid h1
    have O1 := Lib.hid o1
    clear h1 o1 H0
    go_wp2
    go_loopw [5, 8] (fun lv i wr => ∃ (k : Nat) (ds : List Ins) (q : List UInt8) (ao : Option Addr) (cap : Nat), i = .int .i64 k ∧ lv = .slice ao k cap ∧ k ≤ x.toNat ∧ Hid (manyD cI k q0 = some (ds, q)) ∧ Hid (wr.ownsRow W.heap.size 59 4 (.slice ao k cap) k (codeC ds)) ∧ Hid (Rdr wr g q) ∧ Hid (One g W wr)) (fun _ i _ => x.toNat - (intOf i).toNat)
    case atStart => exact ⟨0, [], q0, none, 0, rfl, rfl, by omega, Lib.hid rfl, Lib.hid (World.ownsRow_nil _ _ _ _), H1, O1⟩
    case round =>
      obtain ⟨k, ds, q, ao, cap, rfl, rfl, hk, HM, HO, HR, H1'⟩ := hrel
      clear H1 O1
      by_cases hlt : k < x.toNat
      · have hli : (k : Int) < x.toNat := by omega
        go_wp2_with fail
        refine (rinstr_any _ g q HR.out).mono ?_
        rintro e w2 (⟨hn, rfl, b2⟩ | ⟨d, r, v2, hd, rfl, rfl, h2, o2⟩)
        · dsimp +zetaDelta only [Exit.inBlock, Exit.then]
          exact post_panicI rfl (.inl ⟨ls_none (many_no HM.out hn) (by omega), rfl, H1'.out.b.trans b2⟩)
        · have HM2 := Lib.hid (many_yes HM.out hd)
          have HOa := Lib.hid ((own_one HO.out o2 hgl).alloc (.cells #[.int .i64 d.op, .int .i64 d.a, .int .i64 d.b, .int .i64 d.n] 59))
          have hz2 : W.heap.size ≤ w2.heap.size := (H1'.out.trans o2).size
          have HR2 := Lib.hid (Rw.alloc h2 (.cells #[.int .i64 d.op, .int .i64 d.a, .int .i64 d.b, .int .i64 d.n] 59))
          have H2 := Lib.hid ((H1'.out.trans o2).alloc (by omega) (.cells #[.int .i64 d.op, .int .i64 d.a, .int .i64 d.b, .int .i64 d.n] 59))
          have HDL := Lib.hid (many_len HM.out)
          clear hd h2 o2 HO HR H1' HM
          go_wp2_with (at_builtin; refine wpList_append_lies _ rfl (.tmp 10) (.tmp 13) 48 rfl W.heap.size 59 i1 _ 4 32 Tryd.underlying48 hi1 hy0 hy1 hy2 rfl (by decide) _ k (codeC ds) rfl HOa.out ⟨w2.heap.size, 0, none⟩ 1 1 [.int .i64 d.op, .int .i64 d.a, .int .i64 d.b, .int .i64 d.n] rfl rfl (new_rangeI _ _ _ _ rfl) (by simp [Value.oneCell']) (by decide) (by unfold maxLen; omega) (by omega) (by simp; omega) _ rfl ?_)
          intro g4 cap4 W4 hown hgrow hat hg4
          have HO4 : Hid (W4.ownsRow W.heap.size 59 4 (.slice (some ⟨g4, 0, none⟩) (k + 1) cap4) (k + 1) (codeC (ds ++ [d]))) := Lib.hid (by rw [codeC_snocI]; exact hown)
          have HR4 := Lib.hid (Rdr.grown HR2.out hgrow (fun c e => by have := own_block HOa.out c e; omega))
          have H4 := Lib.hid (H2.out.grown hgrow (fun c e => own_block HOa.out c e) hgl)
          clear hown hgrow hat HOa HR2 H2
          go_wp2
          go_roundw
          case rel => exact ⟨k + 1, ds ++ [d], r, some ⟨g4, 0, none⟩, cap4, by go_num, rfl, by omega, HM2, HO4, HR4, H4⟩
          case measure => simp [intOf]; omega
      · obtain rfl : k = x.toNat := by omega
        have hli : ¬ ((x.toNat : Int) < x.toNat) := by omega
        have HDL := Lib.hid (many_len HM.out)
        go_wp2
        go_ret
        exact .inr ⟨ds, q, HM.out, _, rfl, by rw [HDL.out]; exact HO.out, HR.out, H1'.out⟩
theorem infoIntR : (Tryd.prog.info? 3).map (fun i => (i.zero, i.size, i.bytes)) = some (some (.int .i64 0), 1, 8) := by kernel_rfl
set_option maxRecDepth 100000 in
set_option maxHeartbeats 4000000 in
theorem rlistN_any (W : World) (g : Nat) (xs : List UInt8) (h : Rdr W g xs) :
    Calls Tryd.prog 74 #[.pointer (some ⟨g, 0, none⟩), .func (.func 75) #[.pointer (some ⟨g, 0, none⟩)] #[]] W fun e w' =>
      (cN.ls.dec xs = none ∧ e = .panicked wrongE ∧ Below g W w') ∨ (∃ ds r v, cN.ls.dec xs = some (ds, r) ∧ e = .returned v ∧ w'.ownsRow W.heap.size 3 1 v ds.length (ints ds) ∧ Rdr w' g r ∧ One g W w') := by
  have hen : Enters 75 := enters Tryd.func75 (by kernel_rfl) (by kernel_rfl)
  unfold Enters at hen
  obtain ⟨i1, hi1, hy0, hy1, hy2⟩ := info_parts infoIntR
  have hgl : g < W.heap.size := h.lt
  have H0 := Lib.hid h
  clear h
  match xs, H0 with
  | [], H0 =>
    go_enter Tryd.func74, Tryd.ntmps74
    go_wp2_with fail
    refine (rsmall_any _ g [] H0.out).mono ?_
    rintro e w1 (⟨hn, rfl, b1⟩ | ⟨n1, q1, v1, hd1, rfl, rfl, h1, o1⟩)
    · exact post_panicI rfl (.inl ⟨rfl, rfl, b1⟩)
    · cases hd1
  | x :: q0, H0 =>
    go_enter Tryd.func74, Tryd.ntmps74
    go_wp2_with fail
    refine (rsmall_any _ g (x :: q0) H0.out).mono ?_
    rintro e w1 (⟨hn, rfl, b1⟩ | ⟨n1, q1, v1, hd1, rfl, rfl, h1, o1⟩)
    · cases hn
    injection hd1 with hd1
    injection hd1 with e1 e2
    subst e1
    subst e2
    have hx : x.toNat < 256 := x.toNat_lt
    have H1 := Lib.hid h1
    have O1 := Lib.hid o1
    clear h1 o1 H0
    go_wp2
    go_loopw [5, 8] (fun lv i wr => ∃ (k : Nat) (ds : List Int) (q : List UInt8) (ao : Option Addr) (cap : Nat), i = .int .i64 k ∧ lv = .slice ao k cap ∧ k ≤ x.toNat ∧ Hid (manyD cN k q0 = some (ds, q)) ∧ Hid (wr.ownsRow W.heap.size 3 1 (.slice ao k cap) k (ints ds)) ∧ Hid (Rdr wr g q) ∧ Hid (One g W wr)) (fun _ i _ => x.toNat - (intOf i).toNat)
    case atStart => exact ⟨0, [], q0, none, 0, rfl, rfl, by omega, Lib.hid rfl, Lib.hid (World.ownsRow_nil _ _ _ _), H1, O1⟩
    case round =>
      obtain ⟨k, ds, q, ao, cap, rfl, rfl, hk, HM, HO, HR, H1'⟩ := hrel
      clear H1 O1
      by_cases hlt : k < x.toNat
      · have hli : (k : Int) < x.toNat := by omega
        go_wp2_with fail
        refine (rnumber_any _ g q HR.out).mono ?_
        rintro e w2 (⟨hn, rfl, b2⟩ | ⟨d, r, v2, hd, rfl, rfl, h2, o2⟩)
        · dsimp +zetaDelta only [Exit.inBlock, Exit.then]
          exact post_panicI rfl (.inl ⟨ls_none (many_no HM.out hn) (by omega), rfl, H1'.out.b.trans b2⟩)
        · have HM2 := Lib.hid (many_yes HM.out hd)
          have HOa := Lib.hid ((own_one HO.out o2 hgl).alloc (.cells #[.int .i64 d] 3))
          have hz2 : W.heap.size ≤ w2.heap.size := (H1'.out.trans o2).size
          have HR2 := Lib.hid (Rw.alloc h2 (.cells #[.int .i64 d] 3))
          have H2 := Lib.hid ((H1'.out.trans o2).alloc (by omega) (.cells #[.int .i64 d] 3))
          have HDL := Lib.hid (many_len HM.out)
          clear hd h2 o2 HO HR H1' HM
          go_wp2_with (at_builtin; refine wpList_append_lies _ rfl (.tmp 10) (.tmp 13) 49 rfl W.heap.size 3 i1 _ 1 8 Tryd.underlying49 hi1 hy0 hy1 hy2 rfl (by decide) _ k (ints ds) rfl HOa.out ⟨w2.heap.size, 0, none⟩ 1 1 [.int .i64 d] rfl rfl (new_rangeI _ _ _ _ rfl) (by simp [Value.oneCell']) (by decide) (by unfold maxLen; omega) (by omega) (by simp; omega) _ rfl ?_)
          intro g4 cap4 W4 hown hgrow hat hg4
          have HO4 : Hid (W4.ownsRow W.heap.size 3 1 (.slice (some ⟨g4, 0, none⟩) (k + 1) cap4) (k + 1) (ints (ds ++ [d]))) := Lib.hid (by rw [ints_snocI]; exact hown)
          have HR4 := Lib.hid (Rdr.grown HR2.out hgrow (fun c e => by have := own_block HOa.out c e; omega))
          have H4 := Lib.hid (H2.out.grown hgrow (fun c e => own_block HOa.out c e) hgl)
          clear hown hgrow hat HOa HR2 H2
          go_wp2
          go_roundw
          case rel => exact ⟨k + 1, ds ++ [d], r, some ⟨g4, 0, none⟩, cap4, by go_num, rfl, by omega, HM2, HO4, HR4, H4⟩
          case measure => simp [intOf]; omega
      · obtain rfl : k = x.toNat := by omega
        have hli : ¬ ((x.toNat : Int) < x.toNat) := by omega
        have HDL := Lib.hid (many_len HM.out)
        go_wp2
        go_ret
        exact .inr ⟨ds, q, HM.out, _, rfl, by rw [HDL.out]; exact HO.out, HR.out, H1'.out⟩
theorem infoChnR : (Tryd.prog.info? 55).map (fun i => (i.zero, i.size, i.bytes)) = some (some (.agg #[.int .i64 0, .int .i64 0, .int .i64 0]), 3, 24) := by kernel_rfl
set_option maxRecDepth 100000 in
set_option maxHeartbeats 4000000 in
theorem rlistC_any (W : World) (g : Nat) (xs : List UInt8) (h : Rdr W g xs) :
    Calls Tryd.prog 64 #[.pointer (some ⟨g, 0, none⟩), .func (.func 65) #[.pointer (some ⟨g, 0, none⟩)] #[]] W fun e w' =>
      (cC.ls.dec xs = none ∧ e = .panicked wrongE ∧ Below g W w') ∨ (∃ ds r v, cC.ls.dec xs = some (ds, r) ∧ e = .returned v ∧ w'.ownsRow W.heap.size 55 3 v ds.length (rowC chC ds) ∧ Rdr w' g r ∧ One g W w') := by
  have hen : Enters 65 := enters Tryd.func65 (by kernel_rfl) (by kernel_rfl)
  unfold Enters at hen
  obtain ⟨i1, hi1, hy0, hy1, hy2⟩ := info_parts infoChnR
  have hgl : g < W.heap.size := h.lt
  have H0 := Lib.hid h
  clear h
  match xs, H0 with
  | [], H0 =>
    go_enter Tryd.func64, Tryd.ntmps64
    go_wp2_with fail
    refine (rsmall_any _ g [] H0.out).mono ?_
    rintro e w1 (⟨hn, rfl, b1⟩ | ⟨n1, q1, v1, hd1, rfl, rfl, h1, o1⟩)
    · exact post_panicI rfl (.inl ⟨rfl, rfl, b1⟩)
    · cases hd1
  | x :: q0, H0 =>
    go_enter Tryd.func64, Tryd.ntmps64
    go_wp2_with fail
    refine (rsmall_any _ g (x :: q0) H0.out).mono ?_
    rintro e w1 (⟨hn, rfl, b1⟩ | ⟨n1, q1, v1, hd1, rfl, rfl, h1, o1⟩)
    · cases hn
    injection hd1 with hd1
    injection hd1 with e1 e2
    subst e1
    subst e2
    have hx : x.toNat < 256 := x.toNat_lt
    have H1 := Lib.hid h1
    have O1 := Lib.hid o1
    clear h1 o1 H0
    go_wp2
    go_loopw [5, 8] (fun lv i wr => ∃ (k : Nat) (ds : List Chn) (q : List UInt8) (ao : Option Addr) (cap : Nat), i = .int .i64 k ∧ lv = .slice ao k cap ∧ k ≤ x.toNat ∧ Hid (manyD cC k q0 = some (ds, q)) ∧ Hid (wr.ownsRow W.heap.size 55 3 (.slice ao k cap) k (rowC chC ds)) ∧ Hid (Rdr wr g q) ∧ Hid (One g W wr)) (fun _ i _ => x.toNat - (intOf i).toNat)
    case atStart => exact ⟨0, [], q0, none, 0, rfl, rfl, by omega, Lib.hid rfl, Lib.hid (World.ownsRow_nil _ _ _ _), H1, O1⟩
    case round =>
      obtain ⟨k, ds, q, ao, cap, rfl, rfl, hk, HM, HO, HR, H1'⟩ := hrel
      clear H1 O1
      by_cases hlt : k < x.toNat
      · have hli : (k : Int) < x.toNat := by omega
        go_wp2_with fail
        refine (rchannel_any _ g q HR.out).mono ?_
        rintro e w2 (⟨hn, rfl, b2⟩ | ⟨d, r, v2, hd, rfl, rfl, h2, o2⟩)
        · dsimp +zetaDelta only [Exit.inBlock, Exit.then]
          exact post_panicI rfl (.inl ⟨ls_none (many_no HM.out hn) (by omega), rfl, H1'.out.b.trans b2⟩)
        · have HM2 := Lib.hid (many_yes HM.out hd)
          have HOa := Lib.hid ((own_one HO.out o2 hgl).alloc (.cells #[.int .i64 d.kd, .int .i64 d.fr, .int .i64 d.tt] 55))
          have hz2 : W.heap.size ≤ w2.heap.size := (H1'.out.trans o2).size
          have HR2 := Lib.hid (Rw.alloc h2 (.cells #[.int .i64 d.kd, .int .i64 d.fr, .int .i64 d.tt] 55))
          have H2 := Lib.hid ((H1'.out.trans o2).alloc (by omega) (.cells #[.int .i64 d.kd, .int .i64 d.fr, .int .i64 d.tt] 55))
          have HDL := Lib.hid (many_len HM.out)
          clear hd h2 o2 HO HR H1' HM
          go_wp2_with (at_builtin; refine wpList_append_lies _ rfl (.tmp 10) (.tmp 13) 23 rfl W.heap.size 55 i1 _ 3 24 Tryd.underlying23 hi1 hy0 hy1 hy2 rfl (by decide) _ k (rowC chC ds) rfl HOa.out ⟨w2.heap.size, 0, none⟩ 1 1 [.int .i64 d.kd, .int .i64 d.fr, .int .i64 d.tt] rfl rfl (new_rangeI _ _ _ _ rfl) (by simp [Value.oneCell']) (by decide) (by unfold maxLen; omega) (by omega) (by simp; omega) _ rfl ?_)
          intro g4 cap4 W4 hown hgrow hat hg4
          have HO4 : Hid (W4.ownsRow W.heap.size 55 3 (.slice (some ⟨g4, 0, none⟩) (k + 1) cap4) (k + 1) (rowC chC (ds ++ [d]))) := Lib.hid (by rw [chC_snocI]; exact hown)
          have HR4 := Lib.hid (Rdr.grown HR2.out hgrow (fun c e => by have := own_block HOa.out c e; omega))
          have H4 := Lib.hid (H2.out.grown hgrow (fun c e => own_block HOa.out c e) hgl)
          clear hown hgrow hat HOa HR2 H2
          go_wp2
          go_roundw
          case rel => exact ⟨k + 1, ds ++ [d], r, some ⟨g4, 0, none⟩, cap4, by go_num, rfl, by omega, HM2, HO4, HR4, H4⟩
          case measure => simp [intOf]; omega
      · obtain rfl : k = x.toNat := by omega
        have hli : ¬ ((x.toNat : Int) < x.toNat) := by omega
        have HDL := Lib.hid (many_len HM.out)
        go_wp2
        go_ret
        exact .inr ⟨ds, q, HM.out, _, rfl, by rw [HDL.out]; exact HO.out, HR.out, H1'.out⟩
theorem infoSltR : (Tryd.prog.info? 57).map (fun i => (i.zero, i.size, i.bytes)) = some (some (.agg #[.int .i64 0, .int .i64 0]), 2, 16) := by kernel_rfl
set_option maxRecDepth 100000 in
set_option maxHeartbeats 4000000 in
theorem rlistT_any (W : World) (g : Nat) (xs : List UInt8) (h : Rdr W g xs) :
    Calls Tryd.prog 66 #[.pointer (some ⟨g, 0, none⟩), .func (.func 67) #[.pointer (some ⟨g, 0, none⟩)] #[]] W fun e w' =>
      (cT.ls.dec xs = none ∧ e = .panicked wrongE ∧ Below g W w') ∨ (∃ ds r v, cT.ls.dec xs = some (ds, r) ∧ e = .returned v ∧ w'.ownsRow W.heap.size 57 2 v ds.length (rowC slC ds) ∧ Rdr w' g r ∧ One g W w') := by
  have hen : Enters 67 := enters Tryd.func67 (by kernel_rfl) (by kernel_rfl)
  unfold Enters at hen
  obtain ⟨i1, hi1, hy0, hy1, hy2⟩ := info_parts infoSltR
  have hgl : g < W.heap.size := h.lt
  have H0 := Lib.hid h
  clear h
  match xs, H0 with
  | [], H0 =>
    go_enter Tryd.func66, Tryd.ntmps66
    go_wp2_with fail
    refine (rsmall_any _ g [] H0.out).mono ?_
    rintro e w1 (⟨hn, rfl, b1⟩ | ⟨n1, q1, v1, hd1, rfl, rfl, h1, o1⟩)
    · exact post_panicI rfl (.inl ⟨rfl, rfl, b1⟩)
    · cases hd1
  | x :: q0, H0 =>
    go_enter Tryd.func66, Tryd.ntmps66
    go_wp2_with fail
    refine (rsmall_any _ g (x :: q0) H0.out).mono ?_
    rintro e w1 (⟨hn, rfl, b1⟩ | ⟨n1, q1, v1, hd1, rfl, rfl, h1, o1⟩)
    · cases hn
    injection hd1 with hd1
    injection hd1 with e1 e2
    subst e1
    subst e2
    have hx : x.toNat < 256 := x.toNat_lt
    have H1 := Lib.hid h1
    have O1 := Lib.hid o1
    clear h1 o1 H0
    go_wp2
    go_loopw [5, 8] (fun lv i wr => ∃ (k : Nat) (ds : List Slt) (q : List UInt8) (ao : Option Addr) (cap : Nat), i = .int .i64 k ∧ lv = .slice ao k cap ∧ k ≤ x.toNat ∧ Hid (manyD cT k q0 = some (ds, q)) ∧ Hid (wr.ownsRow W.heap.size 57 2 (.slice ao k cap) k (rowC slC ds)) ∧ Hid (Rdr wr g q) ∧ Hid (One g W wr)) (fun _ i _ => x.toNat - (intOf i).toNat)
    case atStart => exact ⟨0, [], q0, none, 0, rfl, rfl, by omega, Lib.hid rfl, Lib.hid (World.ownsRow_nil _ _ _ _), H1, O1⟩
    case round =>
      obtain ⟨k, ds, q, ao, cap, rfl, rfl, hk, HM, HO, HR, H1'⟩ := hrel
      clear H1 O1
      by_cases hlt : k < x.toNat
      · have hli : (k : Int) < x.toNat := by omega
        go_wp2_with fail
        refine (rslot_any _ g q HR.out).mono ?_
        rintro e w2 (⟨hn, rfl, b2⟩ | ⟨d, r, v2, hd, rfl, rfl, h2, o2⟩)
        · dsimp +zetaDelta only [Exit.inBlock, Exit.then]
          exact post_panicI rfl (.inl ⟨ls_none (many_no HM.out hn) (by omega), rfl, H1'.out.b.trans b2⟩)
        · have HM2 := Lib.hid (many_yes HM.out hd)
          have HOa := Lib.hid ((own_one HO.out o2 hgl).alloc (.cells #[.int .i64 d.pt, .int .i64 d.tk] 57))
          have hz2 : W.heap.size ≤ w2.heap.size := (H1'.out.trans o2).size
          have HR2 := Lib.hid (Rw.alloc h2 (.cells #[.int .i64 d.pt, .int .i64 d.tk] 57))
          have H2 := Lib.hid ((H1'.out.trans o2).alloc (by omega) (.cells #[.int .i64 d.pt, .int .i64 d.tk] 57))
          have HDL := Lib.hid (many_len HM.out)
          clear hd h2 o2 HO HR H1' HM
          go_wp2_with (at_builtin; refine wpList_append_lies _ rfl (.tmp 10) (.tmp 13) 24 rfl W.heap.size 57 i1 _ 2 16 Tryd.underlying24 hi1 hy0 hy1 hy2 rfl (by decide) _ k (rowC slC ds) rfl HOa.out ⟨w2.heap.size, 0, none⟩ 1 1 [.int .i64 d.pt, .int .i64 d.tk] rfl rfl (new_rangeI _ _ _ _ rfl) (by simp [Value.oneCell']) (by decide) (by unfold maxLen; omega) (by omega) (by simp; omega) _ rfl ?_)
          intro g4 cap4 W4 hown hgrow hat hg4
          have HO4 : Hid (W4.ownsRow W.heap.size 57 2 (.slice (some ⟨g4, 0, none⟩) (k + 1) cap4) (k + 1) (rowC slC (ds ++ [d]))) := Lib.hid (by rw [slC_snocI]; exact hown)
          have HR4 := Lib.hid (Rdr.grown HR2.out hgrow (fun c e => by have := own_block HOa.out c e; omega))
          have H4 := Lib.hid (H2.out.grown hgrow (fun c e => own_block HOa.out c e) hgl)
          clear hown hgrow hat HOa HR2 H2
          go_wp2
          go_roundw
          case rel => exact ⟨k + 1, ds ++ [d], r, some ⟨g4, 0, none⟩, cap4, by go_num, rfl, by omega, HM2, HO4, HR4, H4⟩
          case measure => simp [intOf]; omega
      · obtain rfl : k = x.toNat := by omega
        have hli : ¬ ((x.toNat : Int) < x.toNat) := by omega
        have HDL := Lib.hid (many_len HM.out)
        go_wp2
        go_ret
        exact .inr ⟨ds, q, HM.out, _, rfl, by rw [HDL.out]; exact HO.out, HR.out, H1'.out⟩
end Go.Proofs.YtbhfnkbflikliaaDoor

namespace Go.Proofs.YtbhfnkbflikliaaDoor
set_option linter.unusedSimpArgs false
set_option linter.unusedVariables false
open Go.RowKit Go.Sort
theorem own_growT {w w' : World} {base base' : Nat} {e e' : TypeId} {size size' : Nat} {v u : Value} {n n' : Nat} {xs xs' : List Value} {row : Option Nat} (h : w.ownsRow base e size v n xs) (hgr : w.grownBy w' row) (hu : w.ownsRow base' e' size' u n' xs') (hrow : row = u.ownBlock) (hne : e ≠ e') : w'.ownsRow base e size v n xs := by
  refine ⟨h.1, h.2.imp id ?_⟩
  rintro ⟨k, cap, cur, rfl, h2, h3, h4⟩
  refine ⟨k, cap, cur, rfl, h2, (hgr.block k (Array.getElem?_eq_some_iff.1 h3).1 (fun ek => ?_)).trans h3, h4⟩
  rw [hrow] at ek
  rcases hu.2 with ⟨rfl, _⟩ | ⟨k', cap', cur', rfl, _, h3', _⟩
  · cases ek
  · simp [Value.ownBlock] at ek
    subst ek
    rw [h3] at h3'
    injection h3' with h3'
    injection h3' with _ h5
    exact hne h5
structure PrtO (B : Nat) (w : World) (c i : Value) (p : Prt) : Prop where
  code : w.ownsRow B 59 4 c p.code.length (codeC p.code)
  inn : w.ownsRow B 3 1 i p.inn.length (ints p.inn)
theorem PrtO.r {B : Nat} {w : World} {c i : Value} {p : Prt} (h : PrtO B w c i p) : PrtR w c i p := ⟨own_sl h.code, own_sl h.inn⟩
theorem PrtO.one {B g : Nat} {w w' : World} {c i : Value} {p : Prt} (h : PrtO B w c i p) (ho : One g w w') (hg : g < B) : PrtO B w' c i p := ⟨own_one h.code ho hg, own_one h.inn ho hg⟩
theorem PrtO.alloc {B : Nat} {w : World} {c i : Value} {p : Prt} (h : PrtO B w c i p) (o : Obj) : PrtO B (w.alloc o) c i p := ⟨h.code.alloc _, h.inn.alloc _⟩
theorem PrtO.low {B B' : Nat} {w : World} {c i : Value} {p : Prt} (h : PrtO B w c i p) (hb : B' ≤ B) : PrtO B' w c i p := ⟨own_low h.code hb, own_low h.inn hb⟩
theorem PrtO.grow {B base : Nat} {w w' : World} {c i u : Value} {p : Prt} {n size : Nat} {xs : List Value} (h : PrtO B w c i p) (hgr : w.grownBy w' u.ownBlock) (hu : w.ownsRow base 51 size u n xs) : PrtO B w' c i p :=
  ⟨own_growT h.code hgr hu rfl (by decide), own_growT h.inn hgr hu rfl (by decide)⟩
theorem PrtO.row {B g : Nat} {w : World} {c i : Value} {p : Prt} (h : PrtO B w c i p) (hg : g < B) (cs : Array Value) : PrtO B (w.setRow g cs) c i p :=
  ⟨own_row h.code cs (fun e => by have := own_block h.code g e; omega), own_row h.inn cs (fun e => by have := own_block h.inn g e; omega)⟩
theorem sizePrtR : (Tryd.prog.info? 51).map (·.size) = some 2 := by kernel_rfl
set_option maxRecDepth 100000 in
set_option maxHeartbeats 4000000 in
theorem rpart_any (W : World) (g : Nat) (xs : List UInt8) (h : Rdr W g xs) :
    Calls Tryd.prog 63 #[.pointer (some ⟨g, 0, none⟩)] W fun e w' => (cP.dec xs = none ∧ e = .panicked wrongE ∧ Below g W w') ∨ (∃ p r c i, cP.dec xs = some (p, r) ∧ e = .returned (.agg #[c, i]) ∧ PrtO W.heap.size w' c i p ∧ Rdr w' g r ∧ One g W w') := by
  have hgl : g < W.heap.size := h.lt
  have H0 : Hid (Rdr (W.alloc (.cells #[.slice none 0 0, .slice none 0 0] 51)) g xs) := Lib.hid (h.alloc _)
  clear h
  have O0 := Lib.hid (One.up (g := g) ((Below.refl W.heap.size W).alloc (Nat.le_refl _) (.cells #[.slice none 0 0, .slice none 0 0] 51)) (by omega))
  have R0 := Lib.hid (Rw.new W 51 #[.slice none 0 0, .slice none 0 0] rfl)
  go_enter Tryd.func63, Tryd.ntmps63
  go_wp2_with fail
  refine (rlistI_any _ g xs H0.out).mono ?_
  rintro e w1 (⟨hn, rfl, b1⟩ | ⟨ds, q1, v1, hd1, rfl, hv1, h1, o1⟩)
  · exact post_panicI rfl (.inl ⟨im_none (pr_none1 hn), rfl, O0.out.b.trans b1⟩)
  · rw [World.size_alloc] at hv1
    have HD1 := Lib.hid hd1
    have HV1 := Lib.hid hv1
    have H1 := Lib.hid h1
    have O1 := Lib.hid (O0.out.trans o1)
    have R1 := Lib.hid (o1.rw R0.out (by omega))
    have z1 := O1.out.size
    have z1' : W.heap.size + 1 ≤ w1.heap.size := by have := o1.size; rw [World.size_alloc] at this; exact this
    clear hd1 hv1 h1 o1 H0 O0 R0
    obtain ⟨va, vc, rfl⟩ := own_form HV1.out
    go_wp2_with fail
    refine (rlistN_any _ g q1 H1.out).mono ?_
    rintro e w2 (⟨hn, rfl, b1⟩ | ⟨es, q2, v2, hd2, rfl, hv2, h2, o2⟩)
    · exact post_panicI rfl (.inl ⟨im_none (pr_none2 HD1.out hn), rfl, O1.out.b.trans b1⟩)
    · have HD := Lib.hid (im_some (f := fun p => (⟨p.1, p.2⟩ : Prt)) (g := fun p => (p.code, p.inn)) (pr_some HD1.out hd2))
      have HV2 := Lib.hid (show PrtO (W.heap.size + 1) w2 (.slice va ds.length vc) v2 ⟨ds, es⟩ from ⟨own_one HV1.out o2 (by omega), own_low hv2 z1'⟩)
      obtain ⟨ia, ic, rfl⟩ := own_form hv2
      have H2 := Lib.hid h2
      have O2 := Lib.hid (O1.out.trans o2)
      have R2 := Lib.hid (o2.rw R1.out (by omega))
      clear hd2 hv2 h2 o2 H1 O1 R1 HD1 HV1
      go_wp2_with (refine wpList_store_rowW rfl 51 (.tmp 2) (.tmp 11) rfl W.heap.size #[.slice va ds.length vc, .slice ia es.length ic] rfl rfl 51 _ R2.out sizePrtR rfl (by simp [Value.oneCell']) ?_)
      intro W4 HW4
      have r5 : Rw W4 W.heap.size 51 #[.slice va ds.length vc, .slice ia es.length ic] := by rw [HW4.out]; exact R2.out.row _
      have H5 := Lib.hid (show Rdr W4 g q2 by rw [HW4.out]; exact Rw.row_other H2.out _ (by omega))
      have O5 := Lib.hid (show One g W W4 by rw [HW4.out]; exact O2.out.row (Nat.le_refl _) (by omega) _)
      have V5 := Lib.hid (show PrtO W.heap.size W4 (.slice va ds.length vc) (.slice ia es.length ic) ⟨ds, es⟩ by rw [HW4.out]; exact (HV2.out.row (by omega) _).low (by omega))
      clear HW4 R2 H2 O2 HV2
      go_wp2
      refine bodyPost_ret (results_row1 Tryd.results63 _ _ W.heap.size _ rfl (run_loadVar_row _ _ 51 _ _ (0, 0) _ r5 Tryd.underlying51 rfl sizePrtR)) rfl (.inr ⟨_, _, _, _, HD.out, rfl, V5.out, H5.out, O5.out⟩)
def PartsO (B : Nat) (w : World) (v : Value) (ps : List Prt) : Prop :=
  ∃ vs : List (Value × Value), vs.length = ps.length ∧ w.ownsRow B 51 2 v ps.length (rowC prC vs) ∧ ∀ k (hk : k < ps.length) (hk' : k < vs.length), PrtO B w vs[k].1 vs[k].2 ps[k]
theorem PartsO.r {B : Nat} {w : World} {v : Value} {ps : List Prt} (h : PartsO B w v ps) : PartsR w v ps := by
  obtain ⟨vs, h1, h2, h3⟩ := h
  exact ⟨vs, h1, own_sl h2, fun k hk hk' => (h3 k hk hk').r⟩
theorem PartsO.form {B : Nat} {w : World} {v : Value} {ps : List Prt} (h : PartsO B w v ps) : ∃ ao cap, v = .slice ao ps.length cap := h.r.form
theorem PartsO.one {B g : Nat} {w w' : World} {v : Value} {ps : List Prt} (h : PartsO B w v ps) (ho : One g w w') (hg : g < B) : PartsO B w' v ps := by
  obtain ⟨vs, h1, h2, h3⟩ := h
  exact ⟨vs, h1, own_one h2 ho hg, fun k hk hk' => (h3 k hk hk').one ho hg⟩
theorem PartsO.alloc {B : Nat} {w : World} {v : Value} {ps : List Prt} (h : PartsO B w v ps) (o : Obj) : PartsO B (w.alloc o) v ps := by
  obtain ⟨vs, h1, h2, h3⟩ := h
  exact ⟨vs, h1, h2.alloc _, fun k hk hk' => (h3 k hk hk').alloc _⟩
theorem PartsO.low {B B' : Nat} {w : World} {v : Value} {ps : List Prt} (h : PartsO B w v ps) (hb : B' ≤ B) : PartsO B' w v ps := by
  obtain ⟨vs, h1, h2, h3⟩ := h
  exact ⟨vs, h1, own_low h2 hb, fun k hk hk' => (h3 k hk hk').low hb⟩
theorem PartsO.row {B g : Nat} {w : World} {v : Value} {ps : List Prt} (h : PartsO B w v ps) (hg : g < B) (cs : Array Value) : PartsO B (w.setRow g cs) v ps := by
  obtain ⟨vs, h1, h2, h3⟩ := h
  exact ⟨vs, h1, own_row h2 cs (fun e => by have := own_block h2 g e; omega), fun k hk hk' => (h3 k hk hk').row hg cs⟩
theorem PartsO.nil (B : Nat) (w : World) : PartsO B w (.slice none 0 0) [] := ⟨[], rfl, World.ownsRow_nil _ _ _ _, fun k hk => by cases hk⟩
theorem infoPrtR : (Tryd.prog.info? 51).map (fun i => (i.zero, i.size, i.bytes)) = some (some (.agg #[.slice none 0 0, .slice none 0 0]), 2, 48) := by kernel_rfl
set_option maxRecDepth 100000 in
set_option maxHeartbeats 4000000 in
theorem rlistP_any (W : World) (g : Nat) (xs : List UInt8) (h : Rdr W g xs) :
    Calls Tryd.prog 62 #[.pointer (some ⟨g, 0, none⟩), .func (.func 63) #[.pointer (some ⟨g, 0, none⟩)] #[]] W fun e w' =>
      (cP.ls.dec xs = none ∧ e = .panicked wrongE ∧ Below g W w') ∨ (∃ ds r v, cP.ls.dec xs = some (ds, r) ∧ e = .returned v ∧ PartsO W.heap.size w' v ds ∧ Rdr w' g r ∧ One g W w') := by
  have hen : Enters 63 := enters Tryd.func63 (by kernel_rfl) (by kernel_rfl)
  unfold Enters at hen
  obtain ⟨i1, hi1, hy0, hy1, hy2⟩ := info_parts infoPrtR
  have hgl : g < W.heap.size := h.lt
  have H0 := Lib.hid h
  clear h
  match xs, H0 with
  | [], H0 =>
    go_enter Tryd.func62, Tryd.ntmps62
    go_wp2_with fail
    refine (rsmall_any _ g [] H0.out).mono ?_
    rintro e w1 (⟨hn, rfl, b1⟩ | ⟨n1, q1, v1, hd1, rfl, rfl, h1, o1⟩)
    · exact post_panicI rfl (.inl ⟨rfl, rfl, b1⟩)
    · cases hd1
  | x :: q0, H0 =>
    go_enter Tryd.func62, Tryd.ntmps62
    go_wp2_with fail
    refine (rsmall_any _ g (x :: q0) H0.out).mono ?_
    rintro e w1 (⟨hn, rfl, b1⟩ | ⟨n1, q1, v1, hd1, rfl, rfl, h1, o1⟩)
    · cases hn
    injection hd1 with hd1
    injection hd1 with e1 e2
    subst e1
    subst e2
    have hx : x.toNat < 256 := x.toNat_lt
    have H1 := Lib.hid h1
    have O1 := Lib.hid o1
    clear h1 o1 H0
    go_wp2
    go_loopw [5, 8] (fun lv i wr => ∃ (k : Nat) (ds : List Prt) (q : List UInt8) (ao : Option Addr) (cap : Nat), i = .int .i64 k ∧ lv = .slice ao k cap ∧ k ≤ x.toNat ∧ Hid (manyD cP k q0 = some (ds, q)) ∧ Hid (PartsO W.heap.size wr (.slice ao k cap) ds) ∧ Hid (Rdr wr g q) ∧ Hid (One g W wr)) (fun _ i _ => x.toNat - (intOf i).toNat)
    case atStart => exact ⟨0, [], q0, none, 0, rfl, rfl, by omega, Lib.hid rfl, Lib.hid (PartsO.nil _ _), H1, O1⟩
    case round =>
      obtain ⟨k, ds, q, ao, cap, rfl, rfl, hk, HM, HO, HR, H1'⟩ := hrel
      clear H1 O1
      by_cases hlt : k < x.toNat
      · have hli : (k : Int) < x.toNat := by omega
        go_wp2_with fail
        refine (rpart_any _ g q HR.out).mono ?_
        rintro e w2 (⟨hn, rfl, b2⟩ | ⟨d, r, vc, vi, hd, rfl, hv2, h2, o2⟩)
        · dsimp +zetaDelta only [Exit.inBlock, Exit.then]
          exact post_panicI rfl (.inl ⟨ls_none (many_no HM.out hn) (by omega), rfl, H1'.out.b.trans b2⟩)
        · obtain ⟨ca, cc, rfl⟩ := hv2.r.code.form
          obtain ⟨ia, ic, rfl⟩ := hv2.r.inn.form
          have hdl : ds.length = k := many_len HM.out
          have HM2 := Lib.hid (many_yes HM.out hd)
          have hz2 : W.heap.size ≤ w2.heap.size := (H1'.out.trans o2).size
          have HV2 := Lib.hid ((hv2.low H1'.out.size).alloc (.cells #[.slice ca d.code.length cc, .slice ia d.inn.length ic] 51))
          obtain ⟨vs, hvl, how, hin⟩ := (HO.out.one o2 hgl).alloc (.cells #[.slice ca d.code.length cc, .slice ia d.inn.length ic] 51)
          rw [hdl] at how
          have HOa := Lib.hid how
          have HIN := Lib.hid hin
          have HVL := Lib.hid hvl
          have HR2 := Lib.hid (Rw.alloc h2 (.cells #[.slice ca d.code.length cc, .slice ia d.inn.length ic] 51))
          have H2 := Lib.hid ((H1'.out.trans o2).alloc (by omega) (.cells #[.slice ca d.code.length cc, .slice ia d.inn.length ic] 51))
          have HDL := Lib.hid hdl
          clear hd h2 o2 HO HR H1' HM hv2 how hin hvl hdl
          go_wp2_with (at_builtin; refine wpList_append_lies _ rfl (.tmp 10) (.tmp 13) 22 rfl W.heap.size 51 i1 _ 2 48 Tryd.underlying22 hi1 hy0 hy1 hy2 rfl (by decide) _ k (rowC prC vs) rfl HOa.out ⟨w2.heap.size, 0, none⟩ 1 1 [.slice ca d.code.length cc, .slice ia d.inn.length ic] rfl rfl (new_rangeI _ _ _ _ rfl) (by simp [Value.oneCell']) (by decide) (by unfold maxLen; omega) (by omega) (by simp; omega) _ rfl ?_)
          intro g4 cap4 W4 hown hgrow hat hg4
          have HO4 : Hid (PartsO W.heap.size W4 (.slice (some ⟨g4, 0, none⟩) (k + 1) cap4) (ds ++ [d])) := Lib.hid (by
            refine ⟨vs ++ [(.slice ca d.code.length cc, .slice ia d.inn.length ic)], by simp [HVL.out], ?_, fun j hj hj' => ?_⟩
            · rw [show (ds ++ [d]).length = k + 1 by rw [List.length_append, HDL.out]; rfl, show rowC prC (vs ++ [(.slice ca d.code.length cc, .slice ia d.inn.length ic)]) = rowC prC vs ++ [.slice ca d.code.length cc, .slice ia d.inn.length ic] by simp [rowC, prC]]
              exact hown
            · by_cases hjl : j < ds.length
              · rw [List.getElem_append_left hjl]
                have := (HIN.out j hjl (by rw [HVL.out]; exact hjl)).grow hgrow HOa.out
                rw [List.getElem_append_left (by rw [HVL.out]; exact hjl)]
                exact this
              · have ej : j = ds.length := by rw [List.length_append] at hj; simp at hj; omega
                subst ej
                rw [List.getElem_append_right (Nat.le_refl _), List.getElem_append_right (by rw [HVL.out]; exact Nat.le_refl _)]
                simpa [HVL.out] using HV2.out.grow hgrow HOa.out)
          have HR4 := Lib.hid (Rdr.grown HR2.out hgrow (fun c e => by have := own_block HOa.out c e; omega))
          have H4 := Lib.hid (H2.out.grown hgrow (fun c e => own_block HOa.out c e) hgl)
          clear hown hgrow hat HOa HR2 H2 HIN HV2 HVL HDL
          go_wp2
          go_roundw
          case rel => exact ⟨k + 1, ds ++ [d], r, some ⟨g4, 0, none⟩, cap4, by go_num, rfl, by omega, HM2, HO4, HR4, H4⟩
          case measure => simp [intOf]; omega
      · obtain rfl : k = x.toNat := by omega
        have hli : ¬ ((x.toNat : Int) < x.toNat) := by omega
        go_wp2
        go_ret
        exact .inr ⟨ds, q, HM.out, _, rfl, HO.out, HR.out, H1'.out⟩
end Go.Proofs.YtbhfnkbflikliaaDoor

namespace Go.Proofs.YtbhfnkbflikliaaDoor
set_option linter.unusedSimpArgs false
set_option linter.unusedVariables false
open Go.RowKit Go.Sort
theorem cwithin_any (n lo hi : Int) (w : World) : Calls Tryd.prog 42 #[.int .i64 n, .int .i64 lo, .int .i64 hi] w fun e w' => e = .returned (.bool (withinB n lo hi)) ∧ w' = w := by
  by_cases h : lo ≤ n
  all_goals
    go_enter Tryd.func42, Tryd.ntmps42
    go_wp2
    go_ret
    exact ⟨ret_bool (by simp [withinB]; try omega), rfl⟩
theorem isPart_any (ao : Option Addr) (n cap : Nat) (vc vs : Value) (x : Int) (w : World) (hn : n ≤ 1000) :
    Calls Tryd.prog 47 #[.agg #[.slice ao n cap, vc, vs], .int .i64 x] w fun e w' => e = .returned (.bool (withinB x 0 ((n : Int) - 1))) ∧ Below w.heap.size w w' := by
  go_enter Tryd.func47, Tryd.ntmps47
  go_wp2_with (go_at_call 42; refine (cwithin_any _ _ _ _).mono ?_; rintro e w' ⟨rfl, rfl⟩)
  go_ret
  exact ⟨rfl, (by repeat (first | exact Below.refl _ _ | assumption | refine Below.drew ?_ | refine Below.alloc ?_ (by first | (simp; done) | (simp; omega)) _ | refine Below.setCell ?_ (by first | (simp; done) | (simp; omega)) _))⟩
theorem any_mem {α : Type} {l : List α} {p : α → Bool} {k : Nat} (h : k < l.length) (hp : p l[k] = true) : l.any p = true := by
  rw [List.any_eq_true]
  exact ⟨l[k], List.getElem_mem h, hp⟩
theorem any_take {α : Type} {l : List α} {p : α → Bool} {k : Nat} (h : k < l.length) (h0 : (l.take k).any p = false) (hp : p l[k] = false) : (l.take (k + 1)).any p = false := by
  rw [List.take_succ_eq_append_getElem h, List.any_append, h0]; simp [hp]
theorem any_all {α : Type} {l : List α} {p : α → Bool} {k : Nat} (h : ¬ k < l.length) (h0 : (l.take k).any p = false) : l.any p = false := by
  rwa [List.take_of_length_le (by omega)] at h0
set_option maxHeartbeats 1000000 in
theorem oneChan_any (l : List Chn) (v : Value) (f : Nat) (hen : Enters f) (caps : Array Value) (p : Chn → Bool) (w : World) (hS : Sl w 3 v l.length (rowC chC l)) (hl : l.length ≤ 1000)
    (hf : ∀ k (hk : k < l.length) w1, Below w.heap.size w w1 → Calls Tryd.prog f (#[.agg #[.int .i64 l[k].kd, .int .i64 l[k].fr, .int .i64 l[k].tt]] ++ caps) w1 fun e w2 => e = .returned (.bool (p l[k])) ∧ Below w1.heap.size w1 w2) (r : Bool) (hr : l.any p = r) :
    Calls Tryd.prog 27 #[v, .func (.func f) #[] caps] w fun e w' => e = .returned (.bool r) ∧ Below w.heap.size w w' := by
  obtain ⟨ao, cap, rfl⟩ := hS.form
  have HS := Lib.hid hS
  have HF := Lib.hid hf
  have HR := Lib.hid hr
  clear hS hf hr
  unfold Enters at hen
  go_enter Tryd.func27, Tryd.ntmps27
  go_wp2
  go_loopw [9] (fun i wr => ∃ k : Nat, i = .int .i64 k ∧ k ≤ l.length ∧ Hid ((l.take k).any p = false) ∧ Below w.heap.size w wr) (fun i _ => l.length - (intOf i).toNat)
  case atStart => exact ⟨0, rfl, Nat.zero_le _, (show ((l.take 0).any p = false) by simp), Below.refl _ _⟩
  case round =>
    obtain ⟨k, rfl, hk, HZ, hbel⟩ := hrel
    by_cases hlt : k < l.length
    · have hli : (k : Int) < l.length := by omega
      obtain ⟨b, off, cap', e1, hcap, hbw, hc⟩ := HS.out.open (by omega)
      cases e1
      obtain ⟨c0, c1, c2⟩ := chan_cells hc k hlt
      have c0 := bcl hbel hbw c0
      have c1 := bcl hbel hbw c1
      have c2 := bcl hbel hbw c2
      have HC := Lib.hid (HF.out k hlt)
      generalize hq : p l[k] = q at HC
      have HQ := Lib.hid hq
      clear hc hq
      go_wp2_with fail
      refine (HC.out _ (hbel.alloc hbel.size _)).mono ?_
      rintro e w2 ⟨rfl, bb⟩
      have D := Lib.hid ((hbel.alloc hbel.size _).trans (bb.mono (by have := hbel.size; simp; omega)))
      clear bb HC c0 c1 c2
      cases q
      · have HZ1 := Lib.hid (any_take hlt HZ.out HQ.out)
        go_wp2
        go_roundw
        case rel => exact ⟨k + 1, by go_num, by omega, HZ1, D.out⟩
        case measure => simp [intOf]; omega
      · have HZ1 := Lib.hid (any_mem hlt HQ.out)
        go_wp2
        go_ret
        exact ⟨ret_bool (by rw [← HR.out, HZ1.out]), D.out⟩
    · have hli : ¬ (k : Int) < l.length := by omega
      have HZ1 := Lib.hid (any_all hlt HZ.out)
      go_wp2
      go_ret
      exact ⟨ret_bool (by rw [← HR.out, HZ1.out]), hbel⟩
set_option maxHeartbeats 1000000 in
theorem oneSlot_any (l : List Slt) (v : Value) (f : Nat) (hen : Enters f) (caps : Array Value) (p : Slt → Bool) (w : World) (hS : Sl w 2 v l.length (rowC slC l)) (hl : l.length ≤ 1000)
    (hf : ∀ k (hk : k < l.length) w1, Below w.heap.size w w1 → Calls Tryd.prog f (#[.agg #[.int .i64 l[k].pt, .int .i64 l[k].tk]] ++ caps) w1 fun e w2 => e = .returned (.bool (p l[k])) ∧ Below w1.heap.size w1 w2) (r : Bool) (hr : l.any p = r) :
    Calls Tryd.prog 48 #[v, .func (.func f) #[] caps] w fun e w' => e = .returned (.bool r) ∧ Below w.heap.size w w' := by
  obtain ⟨ao, cap, rfl⟩ := hS.form
  have HS := Lib.hid hS
  have HF := Lib.hid hf
  have HR := Lib.hid hr
  clear hS hf hr
  unfold Enters at hen
  go_enter Tryd.func48, Tryd.ntmps48
  go_wp2
  go_loopw [9] (fun i wr => ∃ k : Nat, i = .int .i64 k ∧ k ≤ l.length ∧ Hid ((l.take k).any p = false) ∧ Below w.heap.size w wr) (fun i _ => l.length - (intOf i).toNat)
  case atStart => exact ⟨0, rfl, Nat.zero_le _, (show ((l.take 0).any p = false) by simp), Below.refl _ _⟩
  case round =>
    obtain ⟨k, rfl, hk, HZ, hbel⟩ := hrel
    by_cases hlt : k < l.length
    · have hli : (k : Int) < l.length := by omega
      obtain ⟨b, off, cap', e1, hcap, hbw, hc⟩ := HS.out.open (by omega)
      cases e1
      obtain ⟨c0, c1⟩ := slot_cells hc k hlt
      have c0 := bcl hbel hbw c0
      have c1 := bcl hbel hbw c1
      have HC := Lib.hid (HF.out k hlt)
      generalize hq : p l[k] = q at HC
      have HQ := Lib.hid hq
      clear hc hq
      go_wp2_with fail
      refine (HC.out _ (hbel.alloc hbel.size _)).mono ?_
      rintro e w2 ⟨rfl, bb⟩
      have D := Lib.hid ((hbel.alloc hbel.size _).trans (bb.mono (by have := hbel.size; simp; omega)))
      clear bb HC c0 c1
      cases q
      · have HZ1 := Lib.hid (any_take hlt HZ.out HQ.out)
        go_wp2
        go_roundw
        case rel => exact ⟨k + 1, by go_num, by omega, HZ1, D.out⟩
        case measure => simp [intOf]; omega
      · have HZ1 := Lib.hid (any_mem hlt HQ.out)
        go_wp2
        go_ret
        exact ⟨ret_bool (by rw [← HR.out, HZ1.out]), D.out⟩
    · have hli : ¬ (k : Int) < l.length := by omega
      have HZ1 := Lib.hid (any_all hlt HZ.out)
      go_wp2
      go_ret
      exact ⟨ret_bool (by rw [← HR.out, HZ1.out]), hbel⟩
set_option maxHeartbeats 1000000 in
theorem oneInt_any (l : List Int) (v : Value) (f : Nat) (hen : Enters f) (caps : Array Value) (p : Int → Bool) (w : World) (hS : Sl w 1 v l.length (ints l)) (hl : l.length ≤ 1000)
    (hf : ∀ k (hk : k < l.length) w1, Below w.heap.size w w1 → Calls Tryd.prog f (#[.int .i64 l[k]] ++ caps) w1 fun e w2 => e = .returned (.bool (p l[k])) ∧ Below w1.heap.size w1 w2) (r : Bool) (hr : l.any p = r) :
    Calls Tryd.prog 51 #[v, .func (.func f) #[] caps] w fun e w' => e = .returned (.bool r) ∧ Below w.heap.size w w' := by
  obtain ⟨ao, cap, rfl⟩ := hS.form
  have HS := Lib.hid hS
  have HF := Lib.hid hf
  have HR := Lib.hid hr
  clear hS hf hr
  unfold Enters at hen
  go_enter Tryd.func51, Tryd.ntmps51
  go_wp2
  go_loopw [9] (fun i wr => ∃ k : Nat, i = .int .i64 k ∧ k ≤ l.length ∧ Hid ((l.take k).any p = false) ∧ Below w.heap.size w wr) (fun i _ => l.length - (intOf i).toNat)
  case atStart => exact ⟨0, rfl, Nat.zero_le _, (show ((l.take 0).any p = false) by simp), Below.refl _ _⟩
  case round =>
    obtain ⟨k, rfl, hk, HZ, hbel⟩ := hrel
    by_cases hlt : k < l.length
    · have hli : (k : Int) < l.length := by omega
      obtain ⟨b, off, cap', e1, hcap, hbw, hc⟩ := HS.out.open (by omega)
      cases e1
      have c0 := bcl hbel hbw (hc k _ (ints_at l k hlt))
      have HC := Lib.hid (HF.out k hlt)
      generalize hq : p l[k] = q at HC
      have HQ := Lib.hid hq
      clear hc hq
      go_wp2_with fail
      refine (HC.out _ hbel).mono ?_
      rintro e w2 ⟨rfl, bb⟩
      have D := Lib.hid (hbel.trans (bb.mono hbel.size))
      clear bb HC c0
      cases q
      · have HZ1 := Lib.hid (any_take hlt HZ.out HQ.out)
        go_wp2
        go_roundw
        case rel => exact ⟨k + 1, by go_num, by omega, HZ1, D.out⟩
        case measure => simp [intOf]; omega
      · have HZ1 := Lib.hid (any_mem hlt HQ.out)
        go_wp2
        go_ret
        exact ⟨ret_bool (by rw [← HR.out, HZ1.out]), D.out⟩
    · have hli : ¬ (k : Int) < l.length := by omega
      have HZ1 := Lib.hid (any_all hlt HZ.out)
      go_wp2
      go_ret
      exact ⟨ret_bool (by rw [← HR.out, HZ1.out]), hbel⟩
set_option maxHeartbeats 1000000 in
theorem onePart_any (l : List Prt) (v : Value) (f : Nat) (hen : Enters f) (caps : Array Value) (p : Prt → Bool) (w : World) (hS : PartsR w v l) (hl : l.length ≤ 1000)
    (hf : ∀ k (hk : k < l.length) c i w1, PrtR w c i l[k] → Below w.heap.size w w1 → Calls Tryd.prog f (#[.agg #[c, i]] ++ caps) w1 fun e w2 => e = .returned (.bool (p l[k])) ∧ Below w1.heap.size w1 w2) (r : Bool) (hr : l.any p = r) :
    Calls Tryd.prog 43 #[v, .func (.func f) #[] caps] w fun e w' => e = .returned (.bool r) ∧ Below w.heap.size w w' := by
  obtain ⟨ao, cap, rfl⟩ := hS.form
  have HS := Lib.hid hS
  have HF := Lib.hid hf
  have HR := Lib.hid hr
  clear hS hf hr
  unfold Enters at hen
  go_enter Tryd.func43, Tryd.ntmps43
  go_wp2
  go_loopw [9] (fun i wr => ∃ k : Nat, i = .int .i64 k ∧ k ≤ l.length ∧ Hid ((l.take k).any p = false) ∧ Below w.heap.size w wr) (fun i _ => l.length - (intOf i).toNat)
  case atStart => exact ⟨0, rfl, Nat.zero_le _, (show ((l.take 0).any p = false) by simp), Below.refl _ _⟩
  case round =>
    obtain ⟨k, rfl, hk, HZ, hbel⟩ := hrel
    by_cases hlt : k < l.length
    · have hli : (k : Int) < l.length := by omega
      obtain ⟨b, off, cap', e1, hcap, hbw, hc⟩ := HS.out.open (by omega)
      cases e1
      obtain ⟨c, i, c0, c1, hpr⟩ := hc k hlt
      obtain ⟨ca, cc, rfl⟩ := hpr.code.form
      obtain ⟨ia, ic, rfl⟩ := hpr.inn.form
      have c0 := bcl hbel hbw c0
      have c1 := bcl hbel hbw c1
      have HC := Lib.hid (fun w1 => HF.out k hlt _ _ w1 hpr)
      generalize hq : p l[k] = q at HC
      have HQ := Lib.hid hq
      clear hc hq hpr
      go_wp2_with fail
      refine (HC.out _ (hbel.alloc hbel.size _)).mono ?_
      rintro e w2 ⟨rfl, bb⟩
      have D := Lib.hid ((hbel.alloc hbel.size _).trans (bb.mono (by have := hbel.size; simp; omega)))
      clear bb HC c0 c1
      cases q
      · have HZ1 := Lib.hid (any_take hlt HZ.out HQ.out)
        go_wp2
        go_roundw
        case rel => exact ⟨k + 1, by go_num, by omega, HZ1, D.out⟩
        case measure => simp [intOf]; omega
      · have HZ1 := Lib.hid (any_mem hlt HQ.out)
        go_wp2
        go_ret
        exact ⟨ret_bool (by rw [← HR.out, HZ1.out]), D.out⟩
    · have hli : ¬ (k : Int) < l.length := by omega
      have HZ1 := Lib.hid (any_all hlt HZ.out)
      go_wp2
      go_ret
      exact ⟨ret_bool (by rw [← HR.out, HZ1.out]), hbel⟩
end Go.Proofs.YtbhfnkbflikliaaDoor

namespace Go.Proofs.YtbhfnkbflikliaaDoor
set_option linter.unusedSimpArgs false
set_option linter.unusedVariables false
open Go.RowKit Go.Sort
theorem app0 (a : Value) : #[a] ++ (#[] : Array Value) = #[a] := by simp
theorem app1 (a b : Value) : #[a] ++ #[b] = #[a, b] := by simp
theorem app2 (a b c : Value) : #[a] ++ #[b, c] = #[a, b, c] := by simp
structure Box (w : World) (g : Nat) (vp vc vs : Value) : Prop where
  p : w.cell? ⟨g, 0, none⟩ = some vp
  c : w.cell? ⟨g, 1, none⟩ = some vc
  s : w.cell? ⟨g, 2, none⟩ = some vs
  lt : g < w.heap.size
theorem Box.up {w w' : World} {g : Nat} {vp vc vs : Value} (h : Box w g vp vc vs) (hb : Below w.heap.size w w') : Box w' g vp vc vs :=
  ⟨bcl hb h.lt h.p, bcl hb h.lt h.c, bcl hb h.lt h.s, Nat.lt_of_lt_of_le h.lt hb.size⟩
theorem box_new (w : World) (vp vc vs : Value) (t : TypeId) (g : Nat) (hg : g = w.heap.size) : Box (w.alloc (.cells #[vp, vc, vs] t)) g vp vc vs := by
  subst hg
  exact ⟨by simp, by simp, by simp, by simp⟩
set_option maxHeartbeats 1000000 in
theorem kindLit_any (c : Chn) (w : World) : Calls Tryd.prog 28 #[.agg #[.int .i64 c.kd, .int .i64 c.fr, .int .i64 c.tt]] w fun e w' => e = .returned (.bool (kindBad c)) ∧ Below w.heap.size w w' := by
  generalize h1 : (c.kd != 1) = q1
  generalize h2 : (c.kd != 2) = q2
  have HE : Hid (kindBad c = (q1 && q2)) := by show kindBad c = _; unfold kindBad; rw [h1, h2]
  cases q1 <;> cases q2
  all_goals
    go_enter Tryd.func28, Tryd.ntmps28
    go_wp2
    go_ret
    exact ⟨ret_bool (by rw [HE.out]; rfl), (by repeat (first | exact Below.refl _ _ | assumption | refine Below.drew ?_ | refine Below.alloc ?_ (by first | (simp; done) | (simp; omega)) _ | refine Below.setCell ?_ (by first | (simp; done) | (simp; omega)) _))⟩
theorem countLit_any (ca : Option Addr) (cn cc : Nat) (ia : Option Addr) (n ic : Nat) (w : World) : Calls Tryd.prog 44 #[.agg #[.slice ca cn cc, .slice ia n ic]] w fun e w' => e = .returned (.bool (decide (12 < n))) ∧ Below w.heap.size w w' := by
  by_cases h : 12 < n
  all_goals
    go_enter Tryd.func44, Tryd.ntmps44
    go_wp2
    go_ret
    exact ⟨ret_bool (by simp; omega), (by repeat (first | exact Below.refl _ _ | assumption | refine Below.drew ?_ | refine Below.alloc ?_ (by first | (simp; done) | (simp; omega)) _ | refine Below.setCell ?_ (by first | (simp; done) | (simp; omega)) _))⟩
set_option maxHeartbeats 1000000 in
theorem placeLit_any (c : Chn) (g : Nat) (ao : Option Addr) (n cap : Nat) (vc vs : Value) (w : World) (hn : n ≤ 1000) (hB : Box w g (.slice ao n cap) vc vs) (hc : ∃ a b d, vc = .slice a b d) (hs : ∃ a b d, vs = .slice a b d) :
    Calls Tryd.prog 46 #[.agg #[.int .i64 c.kd, .int .i64 c.fr, .int .i64 c.tt], .pointer (some ⟨g, 0, none⟩)] w fun e w' => e = .returned (.bool (placeBad n c)) ∧ Below w.heap.size w w' := by
  obtain ⟨a1, b1, d1, rfl⟩ := hc
  obtain ⟨a2, b2, d2, rfl⟩ := hs
  generalize h1 : withinB c.fr 0 ((n : Int) - 1) = q1
  generalize h2 : withinB c.tt 0 ((n : Int) - 1) = q2
  generalize h3 : (c.fr == c.tt) = q3
  have HE : Hid (placeBad n c = (!q1 || !q2 || q3)) := by show placeBad n c = _; unfold placeBad; rw [h1, h2, h3]
  have H1 := Lib.hid h1
  have H2 := Lib.hid h2
  have HB := Lib.hid hB
  have k0 := (HB.out.up (w' := w.alloc (.cells #[.int .i64 c.kd, .int .i64 c.fr, .int .i64 c.tt] 55)) ((Below.refl _ _).alloc (Nat.le_refl _) _)).p
  have k1 := (HB.out.up (w' := w.alloc (.cells #[.int .i64 c.kd, .int .i64 c.fr, .int .i64 c.tt] 55)) ((Below.refl _ _).alloc (Nat.le_refl _) _)).c
  have k2 := (HB.out.up (w' := w.alloc (.cells #[.int .i64 c.kd, .int .i64 c.fr, .int .i64 c.tt] 55)) ((Below.refl _ _).alloc (Nat.le_refl _) _)).s
  clear h1 h2 hB
  have hlt := HB.out.lt
  cases q1
  · go_enter Tryd.func46, Tryd.ntmps46
    go_wp2_with fail
    refine (isPart_any ao n cap _ _ c.fr _ hn).mono ?_
    rw [H1.out]
    rintro e w1 ⟨rfl, bb⟩
    have D := Lib.hid (Below.trans (show Below w.heap.size w _ from (by repeat (first | exact Below.refl _ _ | assumption | refine Below.drew ?_ | refine Below.alloc ?_ (by first | (simp; done) | (simp; omega)) _ | refine Below.setCell ?_ (by first | (simp; done) | (simp; omega)) _))) (bb.mono (by simp)))
    clear bb
    go_wp2
    go_ret
    exact ⟨ret_bool (by rw [HE.out]; rfl), D.out⟩
  · go_enter Tryd.func46, Tryd.ntmps46
    go_wp2_with fail
    refine (isPart_any ao n cap _ _ c.fr _ hn).mono ?_
    rw [H1.out]
    rintro e w1 ⟨rfl, bb⟩
    have D := Lib.hid (Below.trans (show Below w.heap.size w _ from (by repeat (first | exact Below.refl _ _ | assumption | refine Below.drew ?_ | refine Below.alloc ?_ (by first | (simp; done) | (simp; omega)) _ | refine Below.setCell ?_ (by first | (simp; done) | (simp; omega)) _))) (bb.mono (by simp)))
    have k0 := (HB.out.up D.out).p
    have k1 := (HB.out.up D.out).c
    have k2 := (HB.out.up D.out).s
    have m0 : w1.cell? ⟨w.heap.size, 0, none⟩ = some (.int .i64 c.kd) := bcl bb (by simp) (by simp)
    have m1 : w1.cell? ⟨w.heap.size, 1, none⟩ = some (.int .i64 c.fr) := bcl bb (by simp) (by simp)
    have m2 : w1.cell? ⟨w.heap.size, 2, none⟩ = some (.int .i64 c.tt) := bcl bb (by simp) (by simp)
    have z1 : w.heap.size < w1.heap.size := by have := bb.size; simp at this; omega
    clear bb
    go_wp2_with fail
    refine (isPart_any ao n cap _ _ c.tt _ hn).mono ?_
    rw [H2.out]
    rintro e w2 ⟨rfl, bb⟩
    have m1 : w2.cell? ⟨w.heap.size, 1, none⟩ = some (.int .i64 c.fr) := bcl bb z1 m1
    have m2 : w2.cell? ⟨w.heap.size, 2, none⟩ = some (.int .i64 c.tt) := bcl bb z1 m2
    have D := Lib.hid (D.out.trans (bb.mono (Nat.le_of_lt z1)))
    clear bb k0 k1 k2 m0 z1
    cases q2
    · go_wp2
      go_ret
      exact ⟨ret_bool (by rw [HE.out]; rfl), D.out⟩
    · cases q3
      all_goals
        go_wp2
        go_ret
        exact ⟨ret_bool (by rw [HE.out]; rfl), D.out⟩
set_option maxHeartbeats 1000000 in
theorem slotLit_any (c : Slt) (g : Nat) (ao : Option Addr) (n cap : Nat) (vc vs : Value) (w : World) (hn : n ≤ 1000) (hB : Box w g (.slice ao n cap) vc vs) (hc : ∃ a b d, vc = .slice a b d) (hs : ∃ a b d, vs = .slice a b d) :
    Calls Tryd.prog 49 #[.agg #[.int .i64 c.pt, .int .i64 c.tk], .pointer (some ⟨g, 0, none⟩)] w fun e w' => e = .returned (.bool (slotBad n c)) ∧ Below w.heap.size w w' := by
  obtain ⟨a1, b1, d1, rfl⟩ := hc
  obtain ⟨a2, b2, d2, rfl⟩ := hs
  generalize h1 : withinB c.pt 0 ((n : Int) - 1) = q1
  generalize h2 : withinB c.tk 1 8 = q2
  have HE : Hid (slotBad n c = (!q1 || !q2)) := by show slotBad n c = _; unfold slotBad; rw [h1, h2]
  have H1 := Lib.hid h1
  have H2 := Lib.hid h2
  have HB := Lib.hid hB
  have k0 := (HB.out.up (w' := w.alloc (.cells #[.int .i64 c.pt, .int .i64 c.tk] 57)) ((Below.refl _ _).alloc (Nat.le_refl _) _)).p
  have k1 := (HB.out.up (w' := w.alloc (.cells #[.int .i64 c.pt, .int .i64 c.tk] 57)) ((Below.refl _ _).alloc (Nat.le_refl _) _)).c
  have k2 := (HB.out.up (w' := w.alloc (.cells #[.int .i64 c.pt, .int .i64 c.tk] 57)) ((Below.refl _ _).alloc (Nat.le_refl _) _)).s
  clear h1 h2 hB
  have hlt := HB.out.lt
  go_enter Tryd.func49, Tryd.ntmps49
  go_wp2_with fail
  refine (isPart_any ao n cap _ _ c.pt _ hn).mono ?_
  rw [H1.out]
  rintro e w1 ⟨rfl, bb⟩
  have D := Lib.hid (Below.trans (show Below w.heap.size w _ from (by repeat (first | exact Below.refl _ _ | assumption | refine Below.drew ?_ | refine Below.alloc ?_ (by first | (simp; done) | (simp; omega)) _ | refine Below.setCell ?_ (by first | (simp; done) | (simp; omega)) _))) (bb.mono (by simp)))
  have m1 : w1.cell? ⟨w.heap.size, 1, none⟩ = some (.int .i64 c.tk) := bcl bb (by simp) (by simp)
  clear bb k0 k1 k2
  cases q1
  · go_wp2
    go_ret
    exact ⟨ret_bool (by rw [HE.out]; rfl), D.out⟩
  · go_wp2_with fail
    refine (cwithin_any c.tk 1 8 _).mono ?_
    rw [H2.out]
    rintro e w2 ⟨rfl, rfl⟩
    cases q2
    all_goals
      go_wp2
      go_ret
      exact ⟨ret_bool (by rw [HE.out]; rfl), D.out⟩
end Go.Proofs.YtbhfnkbflikliaaDoor

namespace Go.Proofs.YtbhfnkbflikliaaDoor
set_option linter.unusedSimpArgs false
set_option linter.unusedVariables false
open Go.RowKit Go.Sort
theorem below_drewN {B : Nat} {a w : World} (h : Below B a w) (n : Nat) : Below B a (w.drewN n) := ⟨h.os, h.tape, h.output, h.size, h.block⟩
theorem enCheck1 : Enters 28 := enters Tryd.func28 (by kernel_rfl) (by kernel_rfl)
theorem enCounts1 : Enters 44 := enters Tryd.func44 (by kernel_rfl) (by kernel_rfl)
theorem enPlaces1 : Enters 46 := enters Tryd.func46 (by kernel_rfl) (by kernel_rfl)
theorem enPlaces2 : Enters 49 := enters Tryd.func49 (by kernel_rfl) (by kernel_rfl)
theorem enNames1 : Enters 52 := enters Tryd.func52 (by kernel_rfl) (by kernel_rfl)
theorem enNames2 : Enters 54 := enters Tryd.func54 (by kernel_rfl) (by kernel_rfl)
set_option maxHeartbeats 1000000 in
theorem counts_any (S : SysD) (vp vc vs : Value) (w : World) (hS : Sys w vp vc vs S) : Calls Tryd.prog 25 #[.agg #[vp, vc, vs]] w fun e w' => e = .returned (.bool (countsB S)) ∧ Below w.heap.size w w' := by
  obtain ⟨pa, pc, rfl⟩ := hS.p.form
  obtain ⟨ca, cc, rfl⟩ := hS.c.form
  obtain ⟨sa, sc, rfl⟩ := hS.s.form
  generalize h1 : withinB (S.parts.length : Int) 1 4 = q1
  generalize h3 : withinB (S.slots.length : Int) 1 6 = q3
  generalize h4 : (S.parts.any fun p => decide (12 < p.inn.length)) = q4
  have H1 := Lib.hid h1
  have H3 := Lib.hid h3
  have H4 := Lib.hid h4
  have HS := Lib.hid hS
  by_cases h2 : S.chans.length ≤ 6
  · have h2' : (S.chans.length : Int) ≤ 6 := by omega
    have HE : Hid (countsB S = (q1 && q3 && !q4)) := by
      show countsB S = _
      unfold countsB
      rw [h4, ← h1, ← h3]
      unfold withinB
      congr 1
      rw [Bool.eq_iff_iff]
      simp; omega
    have HP : q1 = true → S.parts.length ≤ 1000 := fun e => by subst e; unfold withinB at h1; simp at h1; omega
    clear h1 h3 h4 hS
    go_enter Tryd.func25, Tryd.ntmps25
    go_wp2_with fail
    refine (cwithin_any _ _ _ _).mono ?_
    rw [H1.out]
    rintro e w1 ⟨rfl, rfl⟩
    cases q1
    · go_wp2
      go_ret
      exact ⟨ret_bool (by rw [HE.out]; rfl), (by repeat (first | exact Below.refl _ _ | assumption | refine Below.drew ?_ | refine Below.alloc ?_ (by first | (simp; done) | (simp; omega)) _ | refine Below.setCell ?_ (by first | (simp; done) | (simp; omega)) _))⟩
    · have hp := HP rfl
      clear HP
      go_wp2_with fail
      refine (cwithin_any _ _ _ _).mono ?_
      rw [H3.out]
      rintro e w1 ⟨rfl, rfl⟩
      cases q3
      · go_wp2
        go_ret
        exact ⟨ret_bool (by rw [HE.out]; rfl), (by repeat (first | exact Below.refl _ _ | assumption | refine Below.drew ?_ | refine Below.alloc ?_ (by first | (simp; done) | (simp; omega)) _ | refine Below.setCell ?_ (by first | (simp; done) | (simp; omega)) _))⟩
      · go_wp2_with fail
        refine (onePart_any S.parts _ _ enCounts1 #[] (fun p => decide (12 < p.inn.length)) _ (HS.out.p.up (by repeat (first | exact Below.refl _ _ | assumption | refine Below.drew ?_ | refine Below.alloc ?_ (by first | (simp; done) | (simp; omega)) _ | refine Below.setCell ?_ (by first | (simp; done) | (simp; omega)) _))) hp (fun k hk c i w1 hpr _ => ?_) q4 H4.out).mono ?_
        · obtain ⟨a1, b1, rfl⟩ := hpr.code.form
          obtain ⟨a2, b2, rfl⟩ := hpr.inn.form
          rw [app0]
          exact countLit_any _ _ _ _ _ _ _
        rintro e w2 ⟨rfl, bb⟩
        have D := Lib.hid (Below.trans (show Below w.heap.size w _ from (by repeat (first | exact Below.refl _ _ | assumption | refine Below.drew ?_ | refine Below.alloc ?_ (by first | (simp; done) | (simp; omega)) _ | refine Below.setCell ?_ (by first | (simp; done) | (simp; omega)) _))) (bb.mono (by simp)))
        clear bb
        cases q4
        all_goals
          go_wp2
          go_ret
          exact ⟨ret_bool (by rw [HE.out]; rfl), D.out⟩
  · have h2' : ¬ (S.chans.length : Int) ≤ 6 := by omega
    have HE : Hid (countsB S = false) := by
      show countsB S = _
      unfold countsB
      simp; omega
    clear h1 h3 h4 hS
    go_enter Tryd.func25, Tryd.ntmps25
    go_wp2_with fail
    refine (cwithin_any _ _ _ _).mono ?_
    rw [H1.out]
    rintro e w1 ⟨rfl, rfl⟩
    cases q1
    all_goals
      go_wp2
      go_ret
      exact ⟨ret_bool (by rw [HE.out]), (by repeat (first | exact Below.refl _ _ | assumption | refine Below.drew ?_ | refine Below.alloc ?_ (by first | (simp; done) | (simp; omega)) _ | refine Below.setCell ?_ (by first | (simp; done) | (simp; omega)) _))⟩
set_option maxHeartbeats 1000000 in
theorem places_any (S : SysD) (vp vc vs : Value) (w : World) (hS : Sys w vp vc vs S) (hc : countsB S = true) : Calls Tryd.prog 29 #[.agg #[vp, vc, vs]] w fun e w' => e = .returned (.bool (placesB S)) ∧ Below w.heap.size w w' := by
  have hn : S.parts.length ≤ 1000 ∧ S.chans.length ≤ 1000 ∧ S.slots.length ≤ 1000 := by unfold countsB at hc; simp at hc; omega
  obtain ⟨hn1, hn2, hn3⟩ := hn
  obtain ⟨pa, pc, rfl⟩ := hS.p.form
  obtain ⟨ca, cc, rfl⟩ := hS.c.form
  obtain ⟨sa, sc, rfl⟩ := hS.s.form
  generalize h1 : S.chans.any (placeBad S.parts.length) = q1
  generalize h2 : S.slots.any (slotBad S.parts.length) = q2
  have HE : Hid (placesB S = (!q1 && !q2)) := by show placesB S = _; unfold placesB; rw [h1, h2]
  have H1 := Lib.hid h1
  have H2 := Lib.hid h2
  have HS := Lib.hid hS
  clear h1 h2 hS hc
  go_enter Tryd.func29, Tryd.ntmps29
  go_wp2_with fail
  refine (oneChan_any S.chans _ _ enPlaces1 _ (placeBad S.parts.length) _ (HS.out.c.up (by repeat (first | exact Below.refl _ _ | assumption | refine Below.drew ?_ | refine Below.alloc ?_ (by first | (simp; done) | (simp; omega)) _ | refine Below.setCell ?_ (by first | (simp; done) | (simp; omega)) _))) hn2 (fun k hk w1 hb => ?_) q1 H1.out).mono ?_
  · rw [app1]
    exact placeLit_any _ _ _ _ _ _ _ _ hn1 ((box_new w _ _ _ _ _ rfl).up hb) ⟨_, _, _, rfl⟩ ⟨_, _, _, rfl⟩
  rintro e w2 ⟨rfl, bb⟩
  have D := Lib.hid (Below.trans (show Below w.heap.size w _ from (by repeat (first | exact Below.refl _ _ | assumption | refine Below.drew ?_ | refine Below.alloc ?_ (by first | (simp; done) | (simp; omega)) _ | refine Below.setCell ?_ (by first | (simp; done) | (simp; omega)) _))) (bb.mono (by simp)))
  have HB := Lib.hid ((box_new w (.slice pa S.parts.length pc) (.slice ca S.chans.length cc) (.slice sa S.slots.length sc) 26 _ rfl).up bb)
  have k2 := HB.out.s
  clear bb
  cases q1
  · go_wp2_with fail
    refine (oneSlot_any S.slots _ _ enPlaces2 _ (slotBad S.parts.length) _ (HS.out.s.up D.out) hn3 (fun k hk w1 hb => ?_) q2 H2.out).mono ?_
    · rw [app1]
      exact slotLit_any _ _ _ _ _ _ _ _ hn1 (HB.out.up hb) ⟨_, _, _, rfl⟩ ⟨_, _, _, rfl⟩
    rintro e w3 ⟨rfl, bb⟩
    have D := Lib.hid (D.out.trans (bb.mono D.out.size))
    clear bb
    cases q2
    all_goals
      go_wp2
      go_ret
      exact ⟨ret_bool (by rw [HE.out]; rfl), D.out⟩
  · go_wp2
    go_ret
    exact ⟨ret_bool (by rw [HE.out]; rfl), D.out⟩
set_option maxHeartbeats 1000000 in
theorem putLit_any (c : Nat) (l : List Chn) (me : Int) (g m : Nat) (vp vc vs : Value) (w : World) (hB : Box w g vp vc vs) (hm : w.cell? ⟨m, 0, none⟩ = some (.int .i64 me)) (hS : Sl w 3 vc l.length (rowC chC l)) (hc : c < 6) :
    Calls Tryd.prog 52 #[.int .i64 c, .pointer (some ⟨g, 0, none⟩), .pointer (some ⟨m, 0, none⟩)] w fun e w' => e = .returned (.bool (putBad l me c)) ∧ Below w.heap.size w w' := by
  obtain ⟨ca, cc, rfl⟩ := hS.form
  have k1 := hB.c
  by_cases h : c < l.length
  · have h' : (c : Int) < l.length := by omega
    have h0 : (0 : Int) ≤ c := by omega
    have hd : decide ((l.length : Int) ≤ c) = false := by simp; omega
    obtain ⟨b, off, cap, e1, hcap, hbw, hcs⟩ := hS.open (by omega)
    cases e1
    obtain ⟨c0, c1, c2⟩ := chan_cells hcs c h
    generalize hq : (l[c].fr != me) = q
    have HE : Hid (putBad l me c = q) := by
      show putBad l me c = q
      unfold putBad
      rw [show ((c : Int)).toNat = c from rfl, List.getElem?_eq_getElem h]
      exact hq
    clear hcs hS hB
    go_enter Tryd.func52, Tryd.ntmps52
    go_wp2
    go_quiet (fail)
    all_goals go_wp2
    all_goals go_ret
    all_goals exact ⟨ret_bool (by rw [HE.out]; try simp [Nat.not_le.2 h]), by first | exact Below.refl _ _ | exact below_drewN (Below.refl _ _) _ | exact (Below.refl _ _).drew⟩
  · have h' : ¬ (c : Int) < l.length := by omega
    have hd : decide ((l.length : Int) ≤ c) = true := by simp; omega
    have HE : Hid (putBad l me c = true) := by
      show putBad l me c = _
      unfold putBad
      rw [show ((c : Int)).toNat = c from rfl, List.getElem?_eq_none (by omega)]
    clear hS hB h
    go_enter Tryd.func52, Tryd.ntmps52
    go_wp2
    go_quiet (fail)
    all_goals go_wp2
    all_goals go_ret
    all_goals exact ⟨ret_bool (by rw [HE.out]; try simp [Nat.not_le.2 h]), by first | exact Below.refl _ _ | exact below_drewN (Below.refl _ _) _ | exact (Below.refl _ _).drew⟩
set_option maxHeartbeats 1000000 in
theorem getLit_any (c : Nat) (l : List Chn) (me : Int) (g m : Nat) (vp vc vs : Value) (w : World) (hB : Box w g vp vc vs) (hm : w.cell? ⟨m, 0, none⟩ = some (.int .i64 me)) (hS : Sl w 3 vc l.length (rowC chC l)) (hc : c < 6) :
    Calls Tryd.prog 54 #[.int .i64 c, .pointer (some ⟨g, 0, none⟩), .pointer (some ⟨m, 0, none⟩)] w fun e w' => e = .returned (.bool (getBad l me c)) ∧ Below w.heap.size w w' := by
  obtain ⟨ca, cc, rfl⟩ := hS.form
  have k1 := hB.c
  by_cases h : c < l.length
  · have h' : (c : Int) < l.length := by omega
    have h0 : (0 : Int) ≤ c := by omega
    have hd : decide ((l.length : Int) ≤ c) = false := by simp; omega
    obtain ⟨b, off, cap, e1, hcap, hbw, hcs⟩ := hS.open (by omega)
    cases e1
    obtain ⟨c0, c1, c2⟩ := chan_cells hcs c h
    generalize hq : (l[c].tt != me) = q
    have HE : Hid (getBad l me c = q) := by
      show getBad l me c = q
      unfold getBad
      rw [show ((c : Int)).toNat = c from rfl, List.getElem?_eq_getElem h]
      exact hq
    clear hcs hS hB
    go_enter Tryd.func54, Tryd.ntmps54
    go_wp2
    go_quiet (fail)
    all_goals go_wp2
    all_goals go_ret
    all_goals exact ⟨ret_bool (by rw [HE.out]; try simp [Nat.not_le.2 h]), by first | exact Below.refl _ _ | exact below_drewN (Below.refl _ _) _ | exact (Below.refl _ _).drew⟩
  · have h' : ¬ (c : Int) < l.length := by omega
    have hd : decide ((l.length : Int) ≤ c) = true := by simp; omega
    have HE : Hid (getBad l me c = true) := by
      show getBad l me c = _
      unfold getBad
      rw [show ((c : Int)).toNat = c from rfl, List.getElem?_eq_none (by omega)]
    clear hS hB h
    go_enter Tryd.func54, Tryd.ntmps54
    go_wp2
    go_quiet (fail)
    all_goals go_wp2
    all_goals go_ret
    all_goals exact ⟨ret_bool (by rw [HE.out]; try simp [Nat.not_le.2 h]), by first | exact Below.refl _ _ | exact below_drewN (Below.refl _ _) _ | exact (Below.refl _ _).drew⟩
end Go.Proofs.YtbhfnkbflikliaaDoor
