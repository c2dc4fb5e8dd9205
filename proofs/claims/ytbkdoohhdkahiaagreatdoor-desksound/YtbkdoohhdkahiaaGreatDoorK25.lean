/- What of the bytes was not read yet: must, take, small. -/
import Derived.Test.YtbkdoohhdkahiaaGreatDoorK23
import Derived.Test.YtbkdoohhdkahiaaGreatDoorK0
import Derived.Lib.ConvBytes
import Derived.Deep.AppendLies
namespace Go.Proofs.YtbkdoohhdkahiaaGreatDoor
set_option linter.unusedSimpArgs false
set_option linter.unusedVariables false
open Go.RowKit Go.Sort
theorem post_panicI {fn : Func} {R : Ending → World → Prop} {ch : List PanicEntry} {a : Act} {w : World} (hd : a.defers = []) (h : R (.panicked ch) w) : bodyPost Tryz.prog fn R (.panic ch) a w := by
  unfold bodyPost
  simp_all
def wrongE : List PanicEntry := [{ v := .iface 9 (.string ⟨#[119, 114, 111, 110, 103]⟩), recovered := false }]
theorem must_yes (w : World) : Calls Tryz.prog 95 #[.bool true] w fun e w' => e = .returned (.tuple #[]) ∧ w' = w := by
  go_enter Tryz.func95, Tryz.ntmps95
  go_wp2
  go_end0
  exact ⟨rfl, rfl⟩
theorem must_no (w : World) : Calls Tryz.prog 95 #[.bool false] w fun e w' => e = .panicked wrongE ∧ w' = w := by
  go_enter Tryz.func95, Tryz.ntmps95
  go_wp2
  exact post_panicI rfl ⟨rfl, rfl⟩
def Rdr (W : World) (g : Nat) (xs : List UInt8) : Prop := Rw W g 161 #[.string ⟨xs.toArray⟩]
structure One (g : Nat) (w w' : World) : Prop where
  b : Below g w w'
  k : ∀ c, c < w.heap.size → c ≠ g → w'.heap[c]? = w.heap[c]?
theorem One.refl (g : Nat) (w : World) : One g w w := ⟨Below.refl _ _, fun _ _ _ => rfl⟩
theorem One.trans {g : Nat} {w w1 w2 : World} (h : One g w w1) (h' : One g w1 w2) : One g w w2 :=
  ⟨h.b.trans h'.b, fun c hc hg => (h'.k c (Nat.lt_of_lt_of_le hc h.b.size) hg).trans (h.k c hc hg)⟩
theorem One.up {g : Nat} {w w' : World} (h : Below w.heap.size w w') (hg : g ≤ w.heap.size) : One g w w' := ⟨h.mono hg, fun c hc _ => h.block c hc⟩
theorem One.rw {g : Nat} {w w' : World} (h : One g w w') {c : Nat} {t : TypeId} {cs : Array Value} (hr : Rw w c t cs) (hc : c ≠ g) : Rw w' c t cs := (h.k c hr.lt hc).trans hr
theorem One.set (g : Nat) (w : World) (i : Nat) (v : Value) : One g w (w.setCell ⟨g, i, none⟩ v) :=
  ⟨(Below.refl _ _).setCell (by show g ≤ g; omega) _, fun c _ hg => heap_setCell_other _ _ _ _ (by simpa using hg)⟩
theorem One.size {g : Nat} {w w' : World} (h : One g w w') : w.heap.size ≤ w'.heap.size := h.b.size
theorem ba_size (l : List UInt8) : (⟨l.toArray⟩ : ByteArray).size = l.length := by simp [ByteArray.size]
set_option maxRecDepth 100000 in
set_option maxHeartbeats 4000000 in
theorem take_no (W : World) (g : Nat) (xs : List UInt8) (m : Nat) (hm : xs.length < m) (h : Rdr W g xs) :
    Calls Tryz.prog 212 #[.pointer (some ⟨g, 0, none⟩), .int .i64 (m : Int)] W fun e w' => e = .panicked wrongE ∧ w' = W := by
  have k0 : W.cell? ⟨g, 0, none⟩ = some (.string ⟨xs.toArray⟩) := h.cell (j := 0) rfl
  have hli : decide (m ≤ xs.length) = false := by simp; omega
  clear h
  go_enter Tryz.func212, Tryz.ntmps212
  go_wp2_with fail
  refine (must_no _).mono ?_
  rintro e w1 ⟨rfl, hw⟩
  subst hw
  exact post_panicI rfl ⟨rfl, rfl⟩
set_option maxRecDepth 100000 in
set_option maxHeartbeats 4000000 in
theorem take_yes (W : World) (g : Nat) (xs : List UInt8) (m : Nat) (hm : m ≤ xs.length) (h : Rdr W g xs) :
    Calls Tryz.prog 212 #[.pointer (some ⟨g, 0, none⟩), .int .i64 (m : Int)] W fun e w' => e = .returned (.string ⟨(xs.take m).toArray⟩) ∧ Rdr w' g (xs.drop m) ∧ One g W w' := by
  have k0 : W.cell? ⟨g, 0, none⟩ = some (.string ⟨xs.toArray⟩) := h.cell (j := 0) rfl
  have f0 := h.fr 0
  have hli : (m : Int) ≤ xs.length := by omega
  have HR := Lib.hid h
  have e1 : (⟨xs.toArray⟩ : ByteArray).extract 0 m = ⟨(xs.take m).toArray⟩ := by rw [ext_eq]; simp
  have e2 : (⟨xs.toArray⟩ : ByteArray).extract m xs.length = ⟨(xs.drop m).toArray⟩ := by rw [ext_eq, List.take_of_length_le (by rw [List.length_drop]; omega)]
  clear h
  go_enter Tryz.func212, Tryz.ntmps212
  go_wp2_with fail
  refine (must_yes _).mono ?_
  rintro e w1 ⟨rfl, hw⟩
  subst hw
  go_wp2
  go_ret
  exact ⟨rfl, HR.out.set 0 _, One.set _ _ _ _⟩
def Reads (α : Type) (A : Cod α) (V : World → World → Value → α → Prop) (f : Nat) : Prop := ∀ (W : World) (g : Nat) (xs : List UInt8), Rdr W g xs →
  Calls Tryz.prog f #[.pointer (some ⟨g, 0, none⟩)] W fun e w' => (A.dec xs = none ∧ e = .panicked wrongE ∧ Below g W w') ∨ (∃ a r v, A.dec xs = some (a, r) ∧ e = .returned v ∧ V W w' v a ∧ Rdr w' g r ∧ One g W w')
def VInt (_ _ : World) (v : Value) (n : Int) : Prop := v = .int .i64 n
def VIns (_ _ : World) (v : Value) (i : Ins) : Prop := v = .agg #[.int .i64 i.op, .int .i64 i.a, .int .i64 i.b, .int .i64 i.n]
def VChn (_ _ : World) (v : Value) (i : Chn) : Prop := v = .agg #[.int .i64 i.kd, .int .i64 i.fr, .int .i64 i.tt]
def VSlt (_ _ : World) (v : Value) (i : Slt) : Prop := v = .agg #[.int .i64 i.pt, .int .i64 i.tk]
set_option maxRecDepth 100000 in
set_option maxHeartbeats 4000000 in
theorem rsmall_any : Reads Int cB VInt 177 := by
  intro W g xs h
  match xs, h with
  | [], h =>
    have HT := Lib.hid (take_no W g [] 1 (by simp) h)
    clear h
    go_enter Tryz.func177, Tryz.ntmps177
    go_wp2_with fail
    refine HT.out.mono ?_
    rintro e w1 ⟨rfl, hw⟩
    subst hw
    exact post_panicI rfl (.inl ⟨rfl, rfl, Below.refl _ _⟩)
  | x :: q, h =>
    have HT := Lib.hid (take_yes W g (x :: q) 1 (by simp) h)
    have hx : x.toNat < 256 := x.toNat_lt
    have hx0 : (0 : Int) ≤ x.toNat := by omega
    have hx1 : (x.toNat : Int) < 256 := by omega
    clear h
    go_enter Tryz.func177, Tryz.ntmps177
    go_wp2_with fail
    refine HT.out.mono ?_
    rintro e w1 ⟨rfl, h1, h2⟩
    have H1 := Lib.hid h1
    have H2 := Lib.hid h2
    clear h1 h2 HT
    have ht : (⟨(List.take 1 (x :: q)).toArray⟩ : ByteArray) = ⟨#[x]⟩ := rfl
    rw [ht]
    have hz2 : (⟨#[x]⟩ : ByteArray).size = 1 := rfl
    go_wp2
    go_ret
    exact .inr ⟨(x.toNat : Int), q, _, rfl, rfl, by show Value.int .i64 (wrap64 (x.toNat : Int)) = .int .i64 (x.toNat : Int); rw [show wrap64 (x.toNat : Int) = (x.toNat : Int) by unfold wrap64; omega], H1.out, H2.out⟩
end Go.Proofs.YtbkdoohhdkahiaaGreatDoor
namespace Go.Proofs.YtbkdoohhdkahiaaGreatDoor
set_option linter.unusedSimpArgs false
set_option linter.unusedVariables false
open Go.RowKit Go.Sort
theorem below_bytes (w : World) (e : TypeId) (s : ByteArray) : Below w.heap.size w (Lib.bytesWorld w e s) := by
  refine ⟨rfl, ?_, rfl, by rw [Lib.bytesWorld_size]; omega, fun k hk => Lib.bytesWorld_at_old w e s k hk⟩
  simp [Lib.bytesWorld, World.freeze]
theorem wrap64_is (n : Int) : wrap64 n = IntKind.i64.wrap n := by rw [IntKind.wrap_i64, wrap64]
theorem numL_snoc (bs : List UInt8) (k : Nat) (h : k < bs.length) : numL (bs.take (k + 1)) = push (numL (bs.take k)) bs[k] := by
  unfold numL
  rw [List.take_add_one, List.getElem?_eq_getElem h]
  show List.foldl push 0 (bs.take k ++ [bs[k]]) = _
  rw [List.foldl_append]
  rfl
set_option maxRecDepth 100000 in
set_option maxHeartbeats 4000000 in
theorem rnumber_any : Reads Int cN VInt 181 := by
  intro W g xs h
  by_cases hl : 8 ≤ xs.length
  · have HT := Lib.hid (take_yes W g xs 8 hl h)
    have HD : Hid (cN.dec xs = some (numL (xs.take 8), xs.drop 8)) := Lib.hid (if_pos hl)
    have hlen : (xs.take 8).length = 8 := by rw [List.length_take]; omega
    have hgl := h.lt
    clear h hl
    go_enter Tryz.func181, Tryz.ntmps181
    go_wp2_with fail
    refine HT.out.mono ?_
    rintro e w1 ⟨rfl, h1, h2⟩
    have hg1 : g < w1.heap.size := h1.lt
    have H1 := Lib.hid h1
    have H2 := Lib.hid h2
    clear h1 h2 HT
    generalize xs.take 8 = bs at *
    have hsz : (⟨bs.toArray⟩ : ByteArray).size = 8 := by rw [ba_size]; exact hlen
    have HLN := Lib.hid hlen
    clear hlen
    go_wp2
    rw [Lib.run_convert_string_bytes w1 9 106 5 _ Tryz.underlying9 Tryz.underlying106 Tryz.underlying5, hsz]
    have HC : Hid (∀ j (hj : j < bs.length), (Lib.bytesWorld w1 5 ⟨bs.toArray⟩).cell? ⟨w1.heap.size, j, none⟩ = some (.int .u8 bs[j].toNat)) := Lib.hid (fun j hj => by
      rw [Lib.bytesWorld_cell w1 5 _ j (by rw [ba_size]; exact hj)]
      simp [List.getD, hj])
    have HB := Lib.hid (below_bytes w1 5 ⟨bs.toArray⟩)
    generalize Lib.bytesWorld w1 5 ⟨bs.toArray⟩ = W2 at *
    generalize grownCap w1 8 0 5 = cp at *
    simp only [Result.andThen]
    rw [Oper.upon_value]
    have H3 : Hid (Rdr W2 g (xs.drop 8)) := Lib.hid (H1.out.up HB.out hg1)
    have H4 := Lib.hid (H2.out.trans (One.up HB.out (by omega)))
    clear H1 H2 HB
    go_wp2
    go_loopw [3, 10] (fun n i wr => ∃ k : Nat, i = .int .i64 k ∧ k ≤ 8 ∧ n = .int .i64 (numL (bs.take k)) ∧ wr = W2) (fun _ i _ => 8 - (intOf i).toNat)
    case atStart => exact ⟨0, rfl, by omega, rfl, rfl⟩
    case round =>
      obtain ⟨k, rfl, hk, rfl, rfl⟩ := hrel
      by_cases hlt : k < 8
      · have hli : (k : Int) < 8 := by omega
        have c0 := HC.out k (by rw [HLN.out]; exact hlt)
        have HN := Lib.hid (numL_snoc bs k (by rw [HLN.out]; exact hlt))
        have ho := or_push (numL (bs.take k)) (bs[k]'(by rw [HLN.out]; exact hlt))
        generalize bs[k]'(by rw [HLN.out]; exact hlt) = x at *
        have hx : x.toNat < 256 := x.toNat_lt
        go_wp2
        refine ⟨⟨k + 1, by simp, by omega, ?_, trivial⟩, by simp [intOf]; omega⟩
        rw [wrap64_is, ho, HN.out]
      · obtain rfl : k = 8 := by omega
        have e8 : bs.take 8 = bs := List.take_of_length_le (by rw [HLN.out]; omega)
        rw [e8]
        clear e8
        go_wp2
        go_ret
        exact .inr ⟨_, _, _, HD.out, rfl, rfl, H3.out, H4.out⟩
  · have HT := Lib.hid (take_no W g xs 8 (by omega) h)
    have HN : Hid (cN.dec xs = none) := Lib.hid (if_neg hl)
    clear h hl
    go_enter Tryz.func181, Tryz.ntmps181
    go_wp2_with fail
    refine HT.out.mono ?_
    rintro e w1 ⟨rfl, hw⟩
    subst hw
    exact post_panicI rfl (.inl ⟨HN.out, rfl, Below.refl _ _⟩)
theorem One.put {g : Nat} {w w' : World} (h : One g w w') {c : Nat} (hc : w.heap.size ≤ c) (hg : g ≤ c) (i : Nat) (v : Value) : One g w (w'.setCell ⟨c, i, none⟩ v) :=
  ⟨h.b.setCell (p := ⟨c, i, none⟩) hg _, fun k hk hkg => (heap_setCell_other _ _ _ _ (by simp; omega)).trans (h.k k hk hkg)⟩
theorem One.row {g : Nat} {w w' : World} (h : One g w w') {c : Nat} (hc : w.heap.size ≤ c) (hg : g ≤ c) (cs : Array Value) : One g w (w'.setRow c cs) :=
  ⟨below_row h.b hg cs, fun k hk hkg => (setRow_other _ _ _ _ (by omega)).trans (h.k k hk hkg)⟩
theorem results_row1 {P : Program} {fn : Func} {p : Tmp} {ty : TypeId} (h : fn.results = #[.cell p ty]) (tmps : Array Value) (w : World) (g : Nat) (v : Value)
    (hp : tmps.getD p undef = .pointer (some ⟨g, 0, none⟩)) (hl : (loadVar ty ⟨g, 0, none⟩).run P w = .ok v w) : (results fn tmps).run P w = .ok v w := by
  have hp' : tmps[p]?.getD undef = .pointer (some ⟨g, 0, none⟩) := by simpa using hp
  simp [results, h, hp', asAddr, hl]
theorem sizeSltR : (Tryz.prog.info? 128).map (·.size) = some 2 := by kernel_rfl
set_option maxRecDepth 100000 in
set_option maxHeartbeats 4000000 in
theorem rslot_any : Reads Slt cT VSlt 148 := by
  intro W g xs h
  have hgl : g < W.heap.size := h.lt
  have H0 : Hid (Rdr (W.alloc (.cells #[.int .i64 0, .int .i64 0] 128)) g xs) := Lib.hid (h.alloc _)
  clear h
  have O0 := Lib.hid (One.up (g := g) ((Below.refl W.heap.size W).alloc (Nat.le_refl _) (.cells #[.int .i64 0, .int .i64 0] 128)) (by omega))
  have R0 := Lib.hid (Rw.new W 128 #[.int .i64 0, .int .i64 0] rfl)
  go_enter Tryz.func148, Tryz.ntmps148
  go_wp2_with fail
  refine (rsmall_any _ g xs H0.out).mono ?_
  rintro e w1 (⟨hn, rfl, b1⟩ | ⟨n1, q1, v1, hd1, rfl, rfl, h1, o1⟩)
  · exact post_panicI rfl (.inl ⟨im_none (pr_none1 hn), rfl, O0.out.b.trans b1⟩)
  · have HD1 := Lib.hid hd1
    have H1 := Lib.hid h1
    have O1 := Lib.hid (O0.out.trans o1)
    have R1 := Lib.hid (o1.rw R0.out (by omega))
    clear hd1 h1 o1 H0 O0 R0
    go_wp2_with fail
    refine (rsmall_any _ g q1 H1.out).mono ?_
    rintro e w2 (⟨hn, rfl, b1⟩ | ⟨n2, q2, v2, hd2, rfl, rfl, h1, o1⟩)
    · exact post_panicI rfl (.inl ⟨im_none (pr_none2 HD1.out (hn)), rfl, O1.out.b.trans b1⟩)
    · have HD2 := Lib.hid hd2
      have H2 := Lib.hid h1
      have O2 := Lib.hid (O1.out.trans o1)
      have R2 := Lib.hid (o1.rw R1.out (by omega))
      clear hd2 h1 o1 H1 O1 R1
      have HD := Lib.hid (im_some (f := fun p => (⟨p.1, p.2⟩ : Slt)) (g := fun t => (t.pt, t.tk)) (pr_some HD1.out (HD2.out)))
      clear HD1 HD2
      go_wp2_with (refine wpList_store_rowW rfl 128 (.tmp 2) (.tmp 7) rfl W.heap.size #[.int .i64 n1, .int .i64 n2] rfl rfl 128 _ R2.out sizeSltR rfl (by simp [Value.oneCell']) ?_)
      intro W4 HW4
      have r5 : Rw W4 W.heap.size 128 #[.int .i64 n1, .int .i64 n2] := by rw [HW4.out]; exact R2.out.row _
      have H5 := Lib.hid (show Rdr W4 g q2 by rw [HW4.out]; exact Rw.row_other H2.out _ (by omega))
      have O5 := Lib.hid (show One g W W4 by rw [HW4.out]; exact O2.out.row (Nat.le_refl _) (by omega) _)
      clear HW4 R2 H2 O2
      go_wp2
      refine bodyPost_ret (results_row1 Tryz.results148 _ _ W.heap.size _ rfl (run_loadVar_row _ _ 128 _ _ (0, 0) _ r5 Tryz.underlying128 rfl sizeSltR)) rfl (.inr ⟨_, _, _, HD.out, rfl, rfl, H5.out, O5.out⟩)
theorem sizeChnR : (Tryz.prog.info? 126).map (·.size) = some 3 := by kernel_rfl
set_option maxRecDepth 100000 in
set_option maxHeartbeats 4000000 in
theorem rchannel_any : Reads Chn cC VChn 146 := by
  intro W g xs h
  have hgl : g < W.heap.size := h.lt
  have H0 : Hid (Rdr (W.alloc (.cells #[.int .i64 0, .int .i64 0, .int .i64 0] 126)) g xs) := Lib.hid (h.alloc _)
  clear h
  have O0 := Lib.hid (One.up (g := g) ((Below.refl W.heap.size W).alloc (Nat.le_refl _) (.cells #[.int .i64 0, .int .i64 0, .int .i64 0] 126)) (by omega))
  have R0 := Lib.hid (Rw.new W 126 #[.int .i64 0, .int .i64 0, .int .i64 0] rfl)
  go_enter Tryz.func146, Tryz.ntmps146
  go_wp2_with fail
  refine (rsmall_any _ g xs H0.out).mono ?_
  rintro e w1 (⟨hn, rfl, b1⟩ | ⟨n1, q1, v1, hd1, rfl, rfl, h1, o1⟩)
  · exact post_panicI rfl (.inl ⟨im_none (pr_none1 hn), rfl, O0.out.b.trans b1⟩)
  · have HD1 := Lib.hid hd1
    have H1 := Lib.hid h1
    have O1 := Lib.hid (O0.out.trans o1)
    have R1 := Lib.hid (o1.rw R0.out (by omega))
    clear hd1 h1 o1 H0 O0 R0
    go_wp2_with fail
    refine (rsmall_any _ g q1 H1.out).mono ?_
    rintro e w2 (⟨hn, rfl, b1⟩ | ⟨n2, q2, v2, hd2, rfl, rfl, h1, o1⟩)
    · exact post_panicI rfl (.inl ⟨im_none (pr_none2 HD1.out (pr_none1 hn)), rfl, O1.out.b.trans b1⟩)
    · have HD2 := Lib.hid hd2
      have H2 := Lib.hid h1
      have O2 := Lib.hid (O1.out.trans o1)
      have R2 := Lib.hid (o1.rw R1.out (by omega))
      clear hd2 h1 o1 H1 O1 R1
      go_wp2_with fail
      refine (rsmall_any _ g q2 H2.out).mono ?_
      rintro e w3 (⟨hn, rfl, b1⟩ | ⟨n3, q3, v3, hd3, rfl, rfl, h1, o1⟩)
      · exact post_panicI rfl (.inl ⟨im_none (pr_none2 HD1.out (pr_none2 HD2.out (hn))), rfl, O2.out.b.trans b1⟩)
      · have HD3 := Lib.hid hd3
        have H3 := Lib.hid h1
        have O3 := Lib.hid (O2.out.trans o1)
        have R3 := Lib.hid (o1.rw R2.out (by omega))
        clear hd3 h1 o1 H2 O2 R2
        have HD := Lib.hid (im_some (f := fun p => (⟨p.1, p.2.1, p.2.2⟩ : Chn)) (g := fun c => (c.kd, c.fr, c.tt)) (pr_some HD1.out (pr_some HD2.out (HD3.out))))
        clear HD1 HD2 HD3
        go_wp2_with (refine wpList_store_rowW rfl 126 (.tmp 2) (.tmp 9) rfl W.heap.size #[.int .i64 n1, .int .i64 n2, .int .i64 n3] rfl rfl 126 _ R3.out sizeChnR rfl (by simp [Value.oneCell']) ?_)
        intro W4 HW4
        have r5 : Rw W4 W.heap.size 126 #[.int .i64 n1, .int .i64 n2, .int .i64 n3] := by rw [HW4.out]; exact R3.out.row _
        have H5 := Lib.hid (show Rdr W4 g q3 by rw [HW4.out]; exact Rw.row_other H3.out _ (by omega))
        have O5 := Lib.hid (show One g W W4 by rw [HW4.out]; exact O3.out.row (Nat.le_refl _) (by omega) _)
        clear HW4 R3 H3 O3
        go_wp2
        refine bodyPost_ret (results_row1 Tryz.results146 _ _ W.heap.size _ rfl (run_loadVar_row _ _ 126 _ _ (0, 0) _ r5 Tryz.underlying126 rfl sizeChnR)) rfl (.inr ⟨_, _, _, HD.out, rfl, rfl, H5.out, O5.out⟩)
theorem sizeInsR : (Tryz.prog.info? 124).map (·.size) = some 4 := by kernel_rfl
set_option maxRecDepth 100000 in
set_option maxHeartbeats 4000000 in
theorem rinstr_any : Reads Ins cI VIns 179 := by
  intro W g xs h
  have hgl : g < W.heap.size := h.lt
  have H0 : Hid (Rdr (W.alloc (.cells #[.int .i64 0, .int .i64 0, .int .i64 0, .int .i64 0] 124)) g xs) := Lib.hid (h.alloc _)
  clear h
  have O0 := Lib.hid (One.up (g := g) ((Below.refl W.heap.size W).alloc (Nat.le_refl _) (.cells #[.int .i64 0, .int .i64 0, .int .i64 0, .int .i64 0] 124)) (by omega))
  have R0 := Lib.hid (Rw.new W 124 #[.int .i64 0, .int .i64 0, .int .i64 0, .int .i64 0] rfl)
  go_enter Tryz.func179, Tryz.ntmps179
  go_wp2_with fail
  refine (rsmall_any _ g xs H0.out).mono ?_
  rintro e w1 (⟨hn, rfl, b1⟩ | ⟨n1, q1, v1, hd1, rfl, rfl, h1, o1⟩)
  · exact post_panicI rfl (.inl ⟨im_none (pr_none1 hn), rfl, O0.out.b.trans b1⟩)
  · have HD1 := Lib.hid hd1
    have H1 := Lib.hid h1
    have O1 := Lib.hid (O0.out.trans o1)
    have R1 := Lib.hid (o1.rw R0.out (by omega))
    clear hd1 h1 o1 H0 O0 R0
    go_wp2_with fail
    refine (rsmall_any _ g q1 H1.out).mono ?_
    rintro e w2 (⟨hn, rfl, b1⟩ | ⟨n2, q2, v2, hd2, rfl, rfl, h1, o1⟩)
    · exact post_panicI rfl (.inl ⟨im_none (pr_none2 HD1.out (pr_none1 hn)), rfl, O1.out.b.trans b1⟩)
    · have HD2 := Lib.hid hd2
      have H2 := Lib.hid h1
      have O2 := Lib.hid (O1.out.trans o1)
      have R2 := Lib.hid (o1.rw R1.out (by omega))
      clear hd2 h1 o1 H1 O1 R1
      go_wp2_with fail
      refine (rsmall_any _ g q2 H2.out).mono ?_
      rintro e w3 (⟨hn, rfl, b1⟩ | ⟨n3, q3, v3, hd3, rfl, rfl, h1, o1⟩)
      · exact post_panicI rfl (.inl ⟨im_none (pr_none2 HD1.out (pr_none2 HD2.out (pr_none1 hn))), rfl, O2.out.b.trans b1⟩)
      · have HD3 := Lib.hid hd3
        have H3 := Lib.hid h1
        have O3 := Lib.hid (O2.out.trans o1)
        have R3 := Lib.hid (o1.rw R2.out (by omega))
        clear hd3 h1 o1 H2 O2 R2
        go_wp2_with fail
        refine (rnumber_any _ g q3 H3.out).mono ?_
        rintro e w4 (⟨hn, rfl, b1⟩ | ⟨n4, q4, v4, hd4, rfl, rfl, h1, o1⟩)
        · exact post_panicI rfl (.inl ⟨im_none (pr_none2 HD1.out (pr_none2 HD2.out (pr_none2 HD3.out (hn)))), rfl, O3.out.b.trans b1⟩)
        · have HD4 := Lib.hid hd4
          have H4 := Lib.hid h1
          have O4 := Lib.hid (O3.out.trans o1)
          have R4 := Lib.hid (o1.rw R3.out (by omega))
          clear hd4 h1 o1 H3 O3 R3
          have HD := Lib.hid (im_some (f := fun p => (⟨p.1, p.2.1, p.2.2.1, p.2.2.2⟩ : Ins)) (g := fun i => (i.op, i.a, i.b, i.n)) (pr_some HD1.out (pr_some HD2.out (pr_some HD3.out (HD4.out)))))
          clear HD1 HD2 HD3 HD4
          go_wp2_with (refine wpList_store_rowW rfl 124 (.tmp 2) (.tmp 11) rfl W.heap.size #[.int .i64 n1, .int .i64 n2, .int .i64 n3, .int .i64 n4] rfl rfl 124 _ R4.out sizeInsR rfl (by simp [Value.oneCell']) ?_)
          intro W4 HW4
          have r5 : Rw W4 W.heap.size 124 #[.int .i64 n1, .int .i64 n2, .int .i64 n3, .int .i64 n4] := by rw [HW4.out]; exact R4.out.row _
          have H5 := Lib.hid (show Rdr W4 g q4 by rw [HW4.out]; exact Rw.row_other H4.out _ (by omega))
          have O5 := Lib.hid (show One g W W4 by rw [HW4.out]; exact O4.out.row (Nat.le_refl _) (by omega) _)
          clear HW4 R4 H4 O4
          go_wp2
          refine bodyPost_ret (results_row1 Tryz.results179 _ _ W.heap.size _ rfl (run_loadVar_row _ _ 124 _ _ (0, 0) _ r5 Tryz.underlying124 rfl sizeInsR)) rfl (.inr ⟨_, _, _, HD.out, rfl, rfl, H5.out, O5.out⟩)
end Go.Proofs.YtbkdoohhdkahiaaGreatDoor
namespace Go.Proofs.YtbkdoohhdkahiaaGreatDoor
set_option linter.unusedSimpArgs false
set_option linter.unusedVariables false
open Go.RowKit Go.Sort
theorem own_oneR {w w' : World} {g base : Nat} {e : TypeId} {size : Nat} {v : Value} {n : Nat} {xs : List Value} (h : w.ownsRow base e size v n xs) (ho : One g w w') (hg : g < base) : w'.ownsRow base e size v n xs := by
  refine ⟨h.1, h.2.imp id ?_⟩
  rintro ⟨k, cap, cur, rfl, h2, h3, h4⟩
  exact ⟨k, cap, cur, rfl, h2, (ho.k k (Array.getElem?_eq_some_iff.1 h3).1 (by omega)).trans h3, h4⟩
theorem One.grown {g : Nat} {w w1 w2 : World} (h : One g w w1) {row : Option Nat} (hgr : w1.grownBy w2 row) (hrow : ∀ k, row = some k → w.heap.size ≤ k) (hgw : g < w.heap.size) : One g w w2 :=
  ⟨h.b.grown hgr (by have := h.b.size; omega) (fun k e => by have := hrow k e; omega), fun c hc hg => (hgr.block c (Nat.lt_of_lt_of_le hc h.b.size) (fun e => by have := hrow c e.symm; omega)).trans (h.k c hc hg)⟩
theorem One.alloc {g : Nat} {w w' : World} (h : One g w w') (hg : g ≤ w'.heap.size) (o : Obj) : One g w (w'.alloc o) := h.trans (One.up ((Below.refl _ _).alloc (Nat.le_refl _) _) hg)
theorem Rdr.grown {g : Nat} {w1 w2 : World} {q : List UInt8} (h : Rdr w1 g q) {row : Option Nat} (hgr : w1.grownBy w2 row) (hrow : ∀ k, row = some k → g < k) : Rdr w2 g q := (hgr.block g h.lt (fun e => by have := hrow g e.symm; omega)).trans h
theorem new_rangeI (w : World) (t : TypeId) (cs : Array Value) (g : Nat) (hg : g = w.heap.size) : ∀ j u, cs.toList[j]? = some u → (w.alloc (.cells cs t)).cell? ((⟨g, 0, none⟩ : Addr).add j) = some u := fun j u hj => by
  rw [show (⟨g, 0, none⟩ : Addr).add j = ⟨g, j, none⟩ by unfold Addr.add; split <;> simp_all, hg, World.cell?_alloc_new]
  simpa using hj
theorem codeC_snocI : ∀ (l : List Ins) (i : Ins), codeC (l ++ [i]) = codeC l ++ [.int .i64 i.op, .int .i64 i.a, .int .i64 i.b, .int .i64 i.n]
  | [], i => rfl
  | j :: r, i => by
    show j.cells ++ codeC (r ++ [i]) = (j.cells ++ codeC r) ++ _
    rw [codeC_snocI r i, List.append_assoc]
theorem ints_snocI (l : List Int) (n : Int) : ints (l ++ [n]) = ints l ++ [.int .i64 n] := by simp [ints]
theorem chC_snocI (l : List Chn) (c : Chn) : rowC chC (l ++ [c]) = rowC chC l ++ [.int .i64 c.kd, .int .i64 c.fr, .int .i64 c.tt] := by simp [rowC, chC]
theorem slC_snocI (l : List Slt) (c : Slt) : rowC slC (l ++ [c]) = rowC slC l ++ [.int .i64 c.pt, .int .i64 c.tk] := by simp [rowC, slC]
theorem ls_none {α : Type} {A : Cod α} {b : UInt8} {q : List UInt8} {k : Nat} (h : manyD A k q = none) (hk : k ≤ b.toNat) : A.ls.dec (b :: q) = none := many_later h hk
theorem infoInsR : (Tryz.prog.info? 124).map (fun i => (i.zero, i.size, i.bytes)) = some (some (.agg #[.int .i64 0, .int .i64 0, .int .i64 0, .int .i64 0]), 4, 32) := by kernel_rfl
set_option maxRecDepth 100000 in
set_option maxHeartbeats 4000000 in
theorem rlistI_any (W : World) (g : Nat) (xs : List UInt8) (h : Rdr W g xs) :
    Calls Tryz.prog 178 #[.pointer (some ⟨g, 0, none⟩), .func (.func 179) #[.pointer (some ⟨g, 0, none⟩)] #[]] W fun e w' =>
      (cI.ls.dec xs = none ∧ e = .panicked wrongE ∧ Below g W w') ∨ (∃ ds r v, cI.ls.dec xs = some (ds, r) ∧ e = .returned v ∧ w'.ownsRow W.heap.size 124 4 v ds.length (codeC ds) ∧ Rdr w' g r ∧ One g W w') := by
  have hen : Enters 179 := enters Tryz.func179 (by kernel_rfl) (by kernel_rfl)
  unfold Enters at hen
  obtain ⟨i1, hi1, hy0, hy1, hy2⟩ := info_parts infoInsR
  have hgl : g < W.heap.size := h.lt
  have H0 := Lib.hid h
  clear h
  match xs, H0 with
  | [], H0 =>
    go_enter Tryz.func178, Tryz.ntmps178
    go_wp2_with fail
    refine (rsmall_any _ g [] H0.out).mono ?_
    rintro e w1 (⟨hn, rfl, b1⟩ | ⟨n1, q1, v1, hd1, rfl, rfl, h1, o1⟩)
    · exact post_panicI rfl (.inl ⟨rfl, rfl, b1⟩)
    · cases hd1
  | x :: q0, H0 =>
    go_enter Tryz.func178, Tryz.ntmps178
    go_wp2_with fail
    refine (rsmall_any _ g (x :: q0) H0.out).mono ?_
    rintro e w1 (⟨hn, rfl, b1⟩ | ⟨n1, q1, v1, hd1, rfl, rfl, h1, o1⟩)
    · cases hn
    injection hd1 with hd1
    injection hd1 with e1 e2
    subst e1
    subst e2
    have hx : x.toNat < 256 := x.toNat_lt
    have H1 := Lib.hid h1
    have O1 := Lib.hid o1
    clear h1 o1 H0
    go_wp2
    go_loopw [5, 8] (fun lv i wr => ∃ (k : Nat) (ds : List Ins) (q : List UInt8) (ao : Option Addr) (cap : Nat), i = .int .i64 k ∧ lv = .slice ao k cap ∧ k ≤ x.toNat ∧ Hid (manyD cI k q0 = some (ds, q)) ∧ Hid (wr.ownsRow W.heap.size 124 4 (.slice ao k cap) k (codeC ds)) ∧ Hid (Rdr wr g q) ∧ Hid (One g W wr)) (fun _ i _ => x.toNat - (intOf i).toNat)
    case atStart => exact ⟨0, [], q0, none, 0, rfl, rfl, by omega, Lib.hid rfl, Lib.hid (World.ownsRow_nil _ _ _ _), H1, O1⟩
    case round =>
      obtain ⟨k, ds, q, ao, cap, rfl, rfl, hk, HM, HO, HR, H1'⟩ := hrel
      clear H1 O1
      by_cases hlt : k < x.toNat
      · have hli : (k : Int) < x.toNat := by omega
        go_wp2_with fail
        refine (rinstr_any _ g q HR.out).mono ?_
        rintro e w2 (⟨hn, rfl, b2⟩ | ⟨d, r, v2, hd, rfl, rfl, h2, o2⟩)
        · dsimp +zetaDelta only [Exit.inBlock, Exit.then]
          exact post_panicI rfl (.inl ⟨ls_none (many_no HM.out hn) (by omega), rfl, H1'.out.b.trans b2⟩)
        · have HM2 := Lib.hid (many_yes HM.out hd)
          have HOa := Lib.hid ((own_oneR HO.out o2 hgl).alloc (.cells #[.int .i64 d.op, .int .i64 d.a, .int .i64 d.b, .int .i64 d.n] 124))
          have hz2 : W.heap.size ≤ w2.heap.size := (H1'.out.trans o2).size
          have HR2 := Lib.hid (Rw.alloc h2 (.cells #[.int .i64 d.op, .int .i64 d.a, .int .i64 d.b, .int .i64 d.n] 124))
          have H2 := Lib.hid ((H1'.out.trans o2).alloc (by omega) (.cells #[.int .i64 d.op, .int .i64 d.a, .int .i64 d.b, .int .i64 d.n] 124))
          have HDL := Lib.hid (many_len HM.out)
          clear hd h2 o2 HO HR H1' HM
          go_wp2_with (at_builtin; refine wpList_append_lies _ rfl (.tmp 10) (.tmp 13) 40 rfl W.heap.size 124 i1 _ 4 32 Tryz.underlying40 hi1 hy0 hy1 hy2 rfl (by decide) _ k (codeC ds) rfl HOa.out ⟨w2.heap.size, 0, none⟩ 1 1 [.int .i64 d.op, .int .i64 d.a, .int .i64 d.b, .int .i64 d.n] rfl rfl (new_rangeI _ _ _ _ rfl) (by simp [Value.oneCell']) (by decide) (by unfold maxLen; omega) (by omega) (by simp; omega) _ rfl ?_)
          intro g4 cap4 W4 hown hgrow hat hg4
          have HO4 : Hid (W4.ownsRow W.heap.size 124 4 (.slice (some ⟨g4, 0, none⟩) (k + 1) cap4) (k + 1) (codeC (ds ++ [d]))) := Lib.hid (by rw [codeC_snocI]; exact hown)
          have HR4 := Lib.hid (Rdr.grown HR2.out hgrow (fun c e => by have := own_block HOa.out c e; omega))
          have H4 := Lib.hid (H2.out.grown hgrow (fun c e => own_block HOa.out c e) hgl)
          clear hown hgrow hat HOa HR2 H2
          go_wp2
          go_roundw
          case rel => exact ⟨k + 1, ds ++ [d], r, some ⟨g4, 0, none⟩, cap4, by go_num, rfl, by omega, HM2, HO4, HR4, H4⟩
          case measure => simp [intOf]; omega
      · obtain rfl : k = x.toNat := by omega
        have hli : ¬ ((x.toNat : Int) < x.toNat) := by omega
        have HDL := Lib.hid (many_len HM.out)
        go_wp2
        go_ret
        exact .inr ⟨ds, q, HM.out, _, rfl, by rw [HDL.out]; exact HO.out, HR.out, H1'.out⟩
theorem infoIntR : (Tryz.prog.info? 3).map (fun i => (i.zero, i.size, i.bytes)) = some (some (.int .i64 0), 1, 8) := by kernel_rfl
set_option maxRecDepth 100000 in
set_option maxHeartbeats 4000000 in
theorem rlistN_any (W : World) (g : Nat) (xs : List UInt8) (h : Rdr W g xs) :
    Calls Tryz.prog 180 #[.pointer (some ⟨g, 0, none⟩), .func (.func 181) #[.pointer (some ⟨g, 0, none⟩)] #[]] W fun e w' =>
      (cN.ls.dec xs = none ∧ e = .panicked wrongE ∧ Below g W w') ∨ (∃ ds r v, cN.ls.dec xs = some (ds, r) ∧ e = .returned v ∧ w'.ownsRow W.heap.size 3 1 v ds.length (ints ds) ∧ Rdr w' g r ∧ One g W w') := by
  have hen : Enters 181 := enters Tryz.func181 (by kernel_rfl) (by kernel_rfl)
  unfold Enters at hen
  obtain ⟨i1, hi1, hy0, hy1, hy2⟩ := info_parts infoIntR
  have hgl : g < W.heap.size := h.lt
  have H0 := Lib.hid h
  clear h
  match xs, H0 with
  | [], H0 =>
    go_enter Tryz.func180, Tryz.ntmps180
    go_wp2_with fail
    refine (rsmall_any _ g [] H0.out).mono ?_
    rintro e w1 (⟨hn, rfl, b1⟩ | ⟨n1, q1, v1, hd1, rfl, rfl, h1, o1⟩)
    · exact post_panicI rfl (.inl ⟨rfl, rfl, b1⟩)
    · cases hd1
  | x :: q0, H0 =>
    go_enter Tryz.func180, Tryz.ntmps180
    go_wp2_with fail
    refine (rsmall_any _ g (x :: q0) H0.out).mono ?_
    rintro e w1 (⟨hn, rfl, b1⟩ | ⟨n1, q1, v1, hd1, rfl, rfl, h1, o1⟩)
    · cases hn
    injection hd1 with hd1
    injection hd1 with e1 e2
    subst e1
    subst e2
    have hx : x.toNat < 256 := x.toNat_lt
    have H1 := Lib.hid h1
    have O1 := Lib.hid o1
    clear h1 o1 H0
    go_wp2
    go_loopw [5, 8] (fun lv i wr => ∃ (k : Nat) (ds : List Int) (q : List UInt8) (ao : Option Addr) (cap : Nat), i = .int .i64 k ∧ lv = .slice ao k cap ∧ k ≤ x.toNat ∧ Hid (manyD cN k q0 = some (ds, q)) ∧ Hid (wr.ownsRow W.heap.size 3 1 (.slice ao k cap) k (ints ds)) ∧ Hid (Rdr wr g q) ∧ Hid (One g W wr)) (fun _ i _ => x.toNat - (intOf i).toNat)
    case atStart => exact ⟨0, [], q0, none, 0, rfl, rfl, by omega, Lib.hid rfl, Lib.hid (World.ownsRow_nil _ _ _ _), H1, O1⟩
    case round =>
      obtain ⟨k, ds, q, ao, cap, rfl, rfl, hk, HM, HO, HR, H1'⟩ := hrel
      clear H1 O1
      by_cases hlt : k < x.toNat
      · have hli : (k : Int) < x.toNat := by omega
        go_wp2_with fail
        refine (rnumber_any _ g q HR.out).mono ?_
        rintro e w2 (⟨hn, rfl, b2⟩ | ⟨d, r, v2, hd, rfl, rfl, h2, o2⟩)
        · dsimp +zetaDelta only [Exit.inBlock, Exit.then]
          exact post_panicI rfl (.inl ⟨ls_none (many_no HM.out hn) (by omega), rfl, H1'.out.b.trans b2⟩)
        · have HM2 := Lib.hid (many_yes HM.out hd)
          have HOa := Lib.hid ((own_oneR HO.out o2 hgl).alloc (.cells #[.int .i64 d] 3))
          have hz2 : W.heap.size ≤ w2.heap.size := (H1'.out.trans o2).size
          have HR2 := Lib.hid (Rw.alloc h2 (.cells #[.int .i64 d] 3))
          have H2 := Lib.hid ((H1'.out.trans o2).alloc (by omega) (.cells #[.int .i64 d] 3))
          have HDL := Lib.hid (many_len HM.out)
          clear hd h2 o2 HO HR H1' HM
          go_wp2_with (at_builtin; refine wpList_append_lies _ rfl (.tmp 10) (.tmp 13) 41 rfl W.heap.size 3 i1 _ 1 8 Tryz.underlying41 hi1 hy0 hy1 hy2 rfl (by decide) _ k (ints ds) rfl HOa.out ⟨w2.heap.size, 0, none⟩ 1 1 [.int .i64 d] rfl rfl (new_rangeI _ _ _ _ rfl) (by simp [Value.oneCell']) (by decide) (by unfold maxLen; omega) (by omega) (by simp; omega) _ rfl ?_)
          intro g4 cap4 W4 hown hgrow hat hg4
          have HO4 : Hid (W4.ownsRow W.heap.size 3 1 (.slice (some ⟨g4, 0, none⟩) (k + 1) cap4) (k + 1) (ints (ds ++ [d]))) := Lib.hid (by rw [ints_snocI]; exact hown)
          have HR4 := Lib.hid (Rdr.grown HR2.out hgrow (fun c e => by have := own_block HOa.out c e; omega))
          have H4 := Lib.hid (H2.out.grown hgrow (fun c e => own_block HOa.out c e) hgl)
          clear hown hgrow hat HOa HR2 H2
          go_wp2
          go_roundw
          case rel => exact ⟨k + 1, ds ++ [d], r, some ⟨g4, 0, none⟩, cap4, by go_num, rfl, by omega, HM2, HO4, HR4, H4⟩
          case measure => simp [intOf]; omega
      · obtain rfl : k = x.toNat := by omega
        have hli : ¬ ((x.toNat : Int) < x.toNat) := by omega
        have HDL := Lib.hid (many_len HM.out)
        go_wp2
        go_ret
        exact .inr ⟨ds, q, HM.out, _, rfl, by rw [HDL.out]; exact HO.out, HR.out, H1'.out⟩
theorem infoChnR : (Tryz.prog.info? 126).map (fun i => (i.zero, i.size, i.bytes)) = some (some (.agg #[.int .i64 0, .int .i64 0, .int .i64 0]), 3, 24) := by kernel_rfl
set_option maxRecDepth 100000 in
set_option maxHeartbeats 4000000 in
theorem rlistC_any (W : World) (g : Nat) (xs : List UInt8) (h : Rdr W g xs) :
    Calls Tryz.prog 145 #[.pointer (some ⟨g, 0, none⟩), .func (.func 146) #[.pointer (some ⟨g, 0, none⟩)] #[]] W fun e w' =>
      (cC.ls.dec xs = none ∧ e = .panicked wrongE ∧ Below g W w') ∨ (∃ ds r v, cC.ls.dec xs = some (ds, r) ∧ e = .returned v ∧ w'.ownsRow W.heap.size 126 3 v ds.length (rowC chC ds) ∧ Rdr w' g r ∧ One g W w') := by
  have hen : Enters 146 := enters Tryz.func146 (by kernel_rfl) (by kernel_rfl)
  unfold Enters at hen
  obtain ⟨i1, hi1, hy0, hy1, hy2⟩ := info_parts infoChnR
  have hgl : g < W.heap.size := h.lt
  have H0 := Lib.hid h
  clear h
  match xs, H0 with
  | [], H0 =>
    go_enter Tryz.func145, Tryz.ntmps145
    go_wp2_with fail
    refine (rsmall_any _ g [] H0.out).mono ?_
    rintro e w1 (⟨hn, rfl, b1⟩ | ⟨n1, q1, v1, hd1, rfl, rfl, h1, o1⟩)
    · exact post_panicI rfl (.inl ⟨rfl, rfl, b1⟩)
    · cases hd1
  | x :: q0, H0 =>
    go_enter Tryz.func145, Tryz.ntmps145
    go_wp2_with fail
    refine (rsmall_any _ g (x :: q0) H0.out).mono ?_
    rintro e w1 (⟨hn, rfl, b1⟩ | ⟨n1, q1, v1, hd1, rfl, rfl, h1, o1⟩)
    · cases hn
    injection hd1 with hd1
    injection hd1 with e1 e2
    subst e1
    subst e2
    have hx : x.toNat < 256 := x.toNat_lt
    have H1 := Lib.hid h1
    have O1 := Lib.hid o1
    clear h1 o1 H0
    go_wp2
    go_loopw [5, 8] (fun lv i wr => ∃ (k : Nat) (ds : List Chn) (q : List UInt8) (ao : Option Addr) (cap : Nat), i = .int .i64 k ∧ lv = .slice ao k cap ∧ k ≤ x.toNat ∧ Hid (manyD cC k q0 = some (ds, q)) ∧ Hid (wr.ownsRow W.heap.size 126 3 (.slice ao k cap) k (rowC chC ds)) ∧ Hid (Rdr wr g q) ∧ Hid (One g W wr)) (fun _ i _ => x.toNat - (intOf i).toNat)
    case atStart => exact ⟨0, [], q0, none, 0, rfl, rfl, by omega, Lib.hid rfl, Lib.hid (World.ownsRow_nil _ _ _ _), H1, O1⟩
    case round =>
      obtain ⟨k, ds, q, ao, cap, rfl, rfl, hk, HM, HO, HR, H1'⟩ := hrel
      clear H1 O1
      by_cases hlt : k < x.toNat
      · have hli : (k : Int) < x.toNat := by omega
        go_wp2_with fail
        refine (rchannel_any _ g q HR.out).mono ?_
        rintro e w2 (⟨hn, rfl, b2⟩ | ⟨d, r, v2, hd, rfl, rfl, h2, o2⟩)
        · dsimp +zetaDelta only [Exit.inBlock, Exit.then]
          exact post_panicI rfl (.inl ⟨ls_none (many_no HM.out hn) (by omega), rfl, H1'.out.b.trans b2⟩)
        · have HM2 := Lib.hid (many_yes HM.out hd)
          have HOa := Lib.hid ((own_oneR HO.out o2 hgl).alloc (.cells #[.int .i64 d.kd, .int .i64 d.fr, .int .i64 d.tt] 126))
          have hz2 : W.heap.size ≤ w2.heap.size := (H1'.out.trans o2).size
          have HR2 := Lib.hid (Rw.alloc h2 (.cells #[.int .i64 d.kd, .int .i64 d.fr, .int .i64 d.tt] 126))
          have H2 := Lib.hid ((H1'.out.trans o2).alloc (by omega) (.cells #[.int .i64 d.kd, .int .i64 d.fr, .int .i64 d.tt] 126))
          have HDL := Lib.hid (many_len HM.out)
          clear hd h2 o2 HO HR H1' HM
          go_wp2_with (at_builtin; refine wpList_append_lies _ rfl (.tmp 10) (.tmp 13) 36 rfl W.heap.size 126 i1 _ 3 24 Tryz.underlying36 hi1 hy0 hy1 hy2 rfl (by decide) _ k (rowC chC ds) rfl HOa.out ⟨w2.heap.size, 0, none⟩ 1 1 [.int .i64 d.kd, .int .i64 d.fr, .int .i64 d.tt] rfl rfl (new_rangeI _ _ _ _ rfl) (by simp [Value.oneCell']) (by decide) (by unfold maxLen; omega) (by omega) (by simp; omega) _ rfl ?_)
          intro g4 cap4 W4 hown hgrow hat hg4
          have HO4 : Hid (W4.ownsRow W.heap.size 126 3 (.slice (some ⟨g4, 0, none⟩) (k + 1) cap4) (k + 1) (rowC chC (ds ++ [d]))) := Lib.hid (by rw [chC_snocI]; exact hown)
          have HR4 := Lib.hid (Rdr.grown HR2.out hgrow (fun c e => by have := own_block HOa.out c e; omega))
          have H4 := Lib.hid (H2.out.grown hgrow (fun c e => own_block HOa.out c e) hgl)
          clear hown hgrow hat HOa HR2 H2
          go_wp2
          go_roundw
          case rel => exact ⟨k + 1, ds ++ [d], r, some ⟨g4, 0, none⟩, cap4, by go_num, rfl, by omega, HM2, HO4, HR4, H4⟩
          case measure => simp [intOf]; omega
      · obtain rfl : k = x.toNat := by omega
        have hli : ¬ ((x.toNat : Int) < x.toNat) := by omega
        have HDL := Lib.hid (many_len HM.out)
        go_wp2
        go_ret
        exact .inr ⟨ds, q, HM.out, _, rfl, by rw [HDL.out]; exact HO.out, HR.out, H1'.out⟩
theorem infoSltR : (Tryz.prog.info? 128).map (fun i => (i.zero, i.size, i.bytes)) = some (some (.agg #[.int .i64 0, .int .i64 0]), 2, 16) := by kernel_rfl
set_option maxRecDepth 100000 in
set_option maxHeartbeats 4000000 in
theorem rlistT_any (W : World) (g : Nat) (xs : List UInt8) (h : Rdr W g xs) :
    Calls Tryz.prog 147 #[.pointer (some ⟨g, 0, none⟩), .func (.func 148) #[.pointer (some ⟨g, 0, none⟩)] #[]] W fun e w' =>
      (cT.ls.dec xs = none ∧ e = .panicked wrongE ∧ Below g W w') ∨ (∃ ds r v, cT.ls.dec xs = some (ds, r) ∧ e = .returned v ∧ w'.ownsRow W.heap.size 128 2 v ds.length (rowC slC ds) ∧ Rdr w' g r ∧ One g W w') := by
  have hen : Enters 148 := enters Tryz.func148 (by kernel_rfl) (by kernel_rfl)
  unfold Enters at hen
  obtain ⟨i1, hi1, hy0, hy1, hy2⟩ := info_parts infoSltR
  have hgl : g < W.heap.size := h.lt
  have H0 := Lib.hid h
  clear h
  match xs, H0 with
  | [], H0 =>
    go_enter Tryz.func147, Tryz.ntmps147
    go_wp2_with fail
    refine (rsmall_any _ g [] H0.out).mono ?_
    rintro e w1 (⟨hn, rfl, b1⟩ | ⟨n1, q1, v1, hd1, rfl, rfl, h1, o1⟩)
    · exact post_panicI rfl (.inl ⟨rfl, rfl, b1⟩)
    · cases hd1
  | x :: q0, H0 =>
    go_enter Tryz.func147, Tryz.ntmps147
    go_wp2_with fail
    refine (rsmall_any _ g (x :: q0) H0.out).mono ?_
    rintro e w1 (⟨hn, rfl, b1⟩ | ⟨n1, q1, v1, hd1, rfl, rfl, h1, o1⟩)
    · cases hn
    injection hd1 with hd1
    injection hd1 with e1 e2
    subst e1
    subst e2
    have hx : x.toNat < 256 := x.toNat_lt
    have H1 := Lib.hid h1
    have O1 := Lib.hid o1
    clear h1 o1 H0
    go_wp2
    go_loopw [5, 8] (fun lv i wr => ∃ (k : Nat) (ds : List Slt) (q : List UInt8) (ao : Option Addr) (cap : Nat), i = .int .i64 k ∧ lv = .slice ao k cap ∧ k ≤ x.toNat ∧ Hid (manyD cT k q0 = some (ds, q)) ∧ Hid (wr.ownsRow W.heap.size 128 2 (.slice ao k cap) k (rowC slC ds)) ∧ Hid (Rdr wr g q) ∧ Hid (One g W wr)) (fun _ i _ => x.toNat - (intOf i).toNat)
    case atStart => exact ⟨0, [], q0, none, 0, rfl, rfl, by omega, Lib.hid rfl, Lib.hid (World.ownsRow_nil _ _ _ _), H1, O1⟩
    case round =>
      obtain ⟨k, ds, q, ao, cap, rfl, rfl, hk, HM, HO, HR, H1'⟩ := hrel
      clear H1 O1
      by_cases hlt : k < x.toNat
      · have hli : (k : Int) < x.toNat := by omega
        go_wp2_with fail
        refine (rslot_any _ g q HR.out).mono ?_
        rintro e w2 (⟨hn, rfl, b2⟩ | ⟨d, r, v2, hd, rfl, rfl, h2, o2⟩)
        · dsimp +zetaDelta only [Exit.inBlock, Exit.then]
          exact post_panicI rfl (.inl ⟨ls_none (many_no HM.out hn) (by omega), rfl, H1'.out.b.trans b2⟩)
        · have HM2 := Lib.hid (many_yes HM.out hd)
          have HOa := Lib.hid ((own_oneR HO.out o2 hgl).alloc (.cells #[.int .i64 d.pt, .int .i64 d.tk] 128))
          have hz2 : W.heap.size ≤ w2.heap.size := (H1'.out.trans o2).size
          have HR2 := Lib.hid (Rw.alloc h2 (.cells #[.int .i64 d.pt, .int .i64 d.tk] 128))
          have H2 := Lib.hid ((H1'.out.trans o2).alloc (by omega) (.cells #[.int .i64 d.pt, .int .i64 d.tk] 128))
          have HDL := Lib.hid (many_len HM.out)
          clear hd h2 o2 HO HR H1' HM
          go_wp2_with (at_builtin; refine wpList_append_lies _ rfl (.tmp 10) (.tmp 13) 37 rfl W.heap.size 128 i1 _ 2 16 Tryz.underlying37 hi1 hy0 hy1 hy2 rfl (by decide) _ k (rowC slC ds) rfl HOa.out ⟨w2.heap.size, 0, none⟩ 1 1 [.int .i64 d.pt, .int .i64 d.tk] rfl rfl (new_rangeI _ _ _ _ rfl) (by simp [Value.oneCell']) (by decide) (by unfold maxLen; omega) (by omega) (by simp; omega) _ rfl ?_)
          intro g4 cap4 W4 hown hgrow hat hg4
          have HO4 : Hid (W4.ownsRow W.heap.size 128 2 (.slice (some ⟨g4, 0, none⟩) (k + 1) cap4) (k + 1) (rowC slC (ds ++ [d]))) := Lib.hid (by rw [slC_snocI]; exact hown)
          have HR4 := Lib.hid (Rdr.grown HR2.out hgrow (fun c e => by have := own_block HOa.out c e; omega))
          have H4 := Lib.hid (H2.out.grown hgrow (fun c e => own_block HOa.out c e) hgl)
          clear hown hgrow hat HOa HR2 H2
          go_wp2
          go_roundw
          case rel => exact ⟨k + 1, ds ++ [d], r, some ⟨g4, 0, none⟩, cap4, by go_num, rfl, by omega, HM2, HO4, HR4, H4⟩
          case measure => simp [intOf]; omega
      · obtain rfl : k = x.toNat := by omega
        have hli : ¬ ((x.toNat : Int) < x.toNat) := by omega
        have HDL := Lib.hid (many_len HM.out)
        go_wp2
        go_ret
        exact .inr ⟨ds, q, HM.out, _, rfl, by rw [HDL.out]; exact HO.out, HR.out, H1'.out⟩
end Go.Proofs.YtbkdoohhdkahiaaGreatDoor
