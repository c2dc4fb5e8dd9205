/- A tick keeps a world right; what it changes, and what not: plain mathematics. -/
import Derived.Test.YtbkdoohhdkahiaaGreatDoorJ21
import Derived.Test.YtbkdoohhdkahiaaGreatDoorJ9
import Derived.Test.YtbkdoohhdkahiaaGreatDoorJ11
namespace Go.Proofs.YtbkdoohhdkahiaaGreatDoor
set_option linter.unusedSimpArgs false
set_option linter.unusedVariables false
set_option maxRecDepth 100000
set_option maxHeartbeats 8000000
open Go.RowKit Go.Sort
variable {l : List Int} {p : Prt} {d : CelD} {S : SysD} {D : WldD} {W X w : World} {m n : Nat} {vc vl : Value}
structure Right (S : SysD) (D : WldD) : Prop where
 t0 : 0 <= D.tick
 t1 : D.tick <= 300
 c : xep S.parts D.cells = true
 l : xeh S.chans D.lines = true
theorem xu9 (c : Cel) (k reg flag kind val : Int) (is : Bool) : (c.replied k reg flag kind val is).at_ = c.at_ /\ (c.replied k reg flag kind val is).read = c.read /\ (c.replied k reg flag kind val is).en = c.en := by
 unfold Cel.replied
 split
 .exact ⟨xhp .., xah .., xay ..⟩
 .split
  .cases is
   .exact ⟨xhp .., xah .., xay ..⟩
   .exact ⟨(xhp ..).trans (xhp ..), (xah ..).trans (xah ..), (xay ..).trans (xay ..)⟩
  .exact ⟨rfl, rfl, rfl⟩
theorem xwf {kind : Int} (h : xh2 kind l.length = 0) (x : Wnt) : xh2 kind (xej kind l x).1.length = 0 := by
 unfold xej
 split
 .unfold xxa
  rw [if_pos h]
  unfold putS
  rcases xcy h with ⟨rfl, _⟩ | ⟨rfl, _⟩
  .rfl
  .simp only [show ¬((2 : Int) = 1) by decide, if_false]
   split
   .exact h
   .simp [xh2]
    omega
 .unfold x1y
  rw [if_pos h]
  cases l with
  | nil => exact h
  | cons a r =>
   simp only []
   split
   .exact h
   .rcases xcy h with ⟨rfl, _⟩ | ⟨rfl, h2⟩
    .contradiction
    .simp at h2
     simp [xh2]
     omega
theorem xv9 {ps : List Prt} {ds : List CelD} (h : xep ps ds = true) {k : Nat} {d : CelD} (hd : ∀ h : k < ps.length, xqg ps[k] d = true) : xep ps (ds.set k d) = true := by
 have hl := xdi h
 refine xi9 (by simpa using hl) fun j h1 h2 => ?_
 by_cases e : k = j
 .subst e
  simpa using hd h1
 .rw [List.getElem_set_ne e]
  exact xef h j h1 om
theorem xvq {cs : List Chn} {ls : List (List Int)} (h : xeh cs ls = true) {k : Nat} {l : List Int} (hd : ∀ h : k < cs.length, xh2 cs[k].kd l.length = 0) : xeh cs (ls.set k l) = true := by
 have hl := xe0 h
 refine xi5 (by simpa using hl) fun j h1 h2 => ?_
 by_cases e : k = j
 .subst e
  simpa using hd h1
 .rw [List.getElem_set_ne e]
  exact xgb h j h1 om
theorem x3s (h : xqg p d = true) : d.c.fine d.out.length = true /\ d.c.read <= p.inn.length := by
 unfold xqg at h
 rw [Bool.and_eq_true] at h
 exact ⟨h.1, by simpa using h.2⟩
theorem xqs (h : d.c.fine d.out.length = true) (h2 : d.c.read <= p.inn.length) : xqg p d = true := by
 unfold xqg
 rw [Bool.and_eq_true]
 exact ⟨h, by simpa using h2⟩
theorem xw1 (h : xb3 S = 0) {p : Nat} (hp : p < S.parts.length) {inn xs : List Int} {c : Cel} : (xbh S.parts[p].code inn xs c).2.2 = xa0 \/ ∃ ch, S.chans[(xbh S.parts[p].code inn xs c).2.2.ch.toNat]? = some ch /\ (ch.fr = p \/ ch.tt = p) := by
 obtain ⟨-, hc, -, -, hn⟩ := xcu h
 have hcode := hc p hp
 have hnb := xnk (l := S.chans) (k := 0) hn p hp
 unfold xc9 at hnb
 rw [Bool.or_eq_false_iff, List.any_eq_false, List.any_eq_false] at hnb
 have hfe : xdr S.parts[p].code = 0 := by
  unfold xd3 at hcode
  split at hcode
  .omega
  .exact hcode
 unfold xbh
 split
 .unfold xmq
  split
  .exact .inl rfl
  .rename_i i hi
   have hlt : c.at_.toNat < S.parts[p].code.length := (List.getElem?_eq_some_iff.1 hi).1
   have hmem : i ∈ S.parts[p].code := List.mem_of_getElem? hi
   have hck : i.chk = 0 := by
    have := xc3 hfe _ hlt
    rw [(List.getElem?_eq_some_iff.1 hi).2] at this
    exact this
   obtain ⟨hop, ⟨ha0, ha1⟩, ⟨hb0, hb1⟩, hj, hch⟩ := x4q (op := i.op) (a := i.a) (b := i.b) (n := i.n) hck
   cases hd : doC i inn xs c xa0 with
   | none => exact .inl rfl
   | some r =>
    obtain ⟨c', ys, x'⟩ := r
    rcases xsp hd with e | ⟨ho, e⟩ | ⟨ho, e⟩
    .exact .inl e
    .right
     have hn5 := hch (.inl ho)
     have hb := hnb.1 _ (xgy hmem ho hn5.1 hn5.2)
     subst e
     simp only [Option.getD_some]
     unfold xdf at hb
     split at hb
     .simp at hb
     .rename_i y hy
      exact ⟨y, hy, .inl (by simpa using hb)⟩
    .right
     have hn5 := hch (.inr ho)
     have hb := hnb.2 _ (xgy hmem ho hn5.1 hn5.2)
     subst e
     simp only [Option.getD_some]
     unfold xdg at hb
     split at hb
     .simp at hb
     .rename_i y hy
      exact ⟨y, hy, .inr (by simpa using hb)⟩
 .exact .inl rfl
structure Tick (S : SysD) (D : WldD) (pn : Nat) (d : CelD) (D' : WldD) : Prop where
 p : pn < S.parts.length
 w : xpp S D.tick = pn
 e : xcp S D = D'
 t : D'.tick = D.tick + 1
 c : D'.cells = D.cells.set pn d
 f : xqg (S.parts[pn]'p) d = true
 o : ∀ h : pn < D.cells.length, Goes (S.parts[pn]'p).inn D.cells[pn].out D.cells[pn].c d.c d.out
 s : ∀ h : pn < D.cells.length, D.cells[pn].c.en ≠ 0 -> d = D.cells[pn]
 l : D'.lines = D.lines \/ ∃ kn, ∃ h : kn < S.chans.length, ∃ l, D'.lines = D.lines.set kn l /\ xh2 (S.chans[kn]'h).kd l.length = 0 /\ ((S.chans[kn]'h).fr = pn \/ (S.chans[kn]'h).tt = pn)
theorem xp5 {inn xs : List Int} {c c' : Cel} {ys : List Int} (h : Goes inn xs c c' ys) (k reg flag kind val : Int) (is : Bool) : Goes inn xs c (c'.replied k reg flag kind val is) ys := by
 obtain ⟨h1, h2, h3⟩ := xu9 c' k reg flag kind val is
 exact ⟨h1 ▸ h.at0, h1 ▸ h.at1, h3 ▸ h.en0, h3 ▸ h.en1, h2 ▸ h.rd0, h2 ▸ h.rd1, h2 ▸ h.rd2, h.out, h.len, h.len2⟩
theorem xr8 (l : List Ins) (inn xs : List Int) (c : Cel) (h : c.en ≠ 0) : xbh l inn xs c = (c, xs, xa0) := by
 unfold xbh
 rw [if_neg h]
theorem x03 (hk : xb3 S = 0) (hR : Right S D) (ht : D.tick < 300) : ∃ pn d, Tick S D pn d (xcp S D) := by
 obtain ⟨hct, hco, -, -, -⟩ := xcu hk
 obtain ⟨hcs, hin⟩ := xe2 hct
 obtain ⟨hw0, hw1⟩ := xlt hk hR.t0
 obtain ⟨pn, hpn⟩ := Int.eq_ofNat_of_zero_le hw0
 have hlc := xdi hR.c
 have hll := xe0 hR.l
 have hp : pn < S.parts.length := by omega
 have hpd : pn < D.cells.length := by omega
 have hcel := x3s (xef hR.c pn hp hpd)
 have hg := xi8 (hco pn hp) hcel.1 hcel.2
 have hw := xln hk hp (inn := S.parts[pn].inn) (xs := D.cells[pn].out) (c := D.cells[pn].c) ((xbv _ _).1 hcel.1).1
 have hh := xw1 hk hp (inn := S.parts[pn].inn) (xs := D.cells[pn].out) (c := D.cells[pn].c)
 have hen := xr8 S.parts[pn].code S.parts[pn].inn D.cells[pn].out D.cells[pn].c
 have hr0 := ((xbv _ _).1 hcel.1).2.2.1
 have hi := hin pn hp
 have e1 : S.parts[(xpp S D.tick).toNat]? = some S.parts[pn] := by rw [hpn]; simp [hp]
 have e2 : D.cells[(xpp S D.tick).toNat]? = some D.cells[pn] := by rw [hpn]; simp [hpd]
 have hz : xa0.k = 0 := rfl
 cases hst : xbh S.parts[pn].code S.parts[pn].inn D.cells[pn].out D.cells[pn].c with
 | mk c' r =>
  obtain ⟨ys, x⟩ := r
  rw [hst] at hg hw hh hen
  simp only at hg hw hh
  by_cases hx : x.k = 0
  .refine ⟨pn, ⟨c', ys⟩, hp, hpn, rfl, ?_, ?_, xqs (hg.fine hr0 hi) hg.rd2, fun _ => hg, fun _ h => ?_, .inl ?_⟩
   .unfold xcp; rw [e1, e2]; simp only [hst, hx, if_true]
   .unfold xcp; rw [e1, e2]; simp only [hst, hx, if_true]; rw [hpn]; rfl
   .have := hen h
    injection this with h1 h2
    injection h2 with h2 h3
    rw [h1, h2]
   .unfold xcp; rw [e1, e2]; simp only [hst, hx, if_true]
  .have hwo : WantOk S x := by
    rcases hw with e | h
    .rw [e] at hx; exact absurd hz hx
    .exact h
   obtain ⟨hkn, hft⟩ : ∃ hk : x.ch.toNat < S.chans.length, S.chans[x.ch.toNat].fr = pn \/ S.chans[x.ch.toNat].tt = pn := by
    rcases hh with e | ⟨ch, h, h'⟩
    .rw [e] at hx; exact absurd hz hx
    .obtain ⟨h1, h2⟩ := List.getElem?_eq_some_iff.1 h
     exact ⟨h1, by rw [h2]; exact h'⟩
   have hln : x.ch.toNat < D.lines.length := by omega
   have e3 : S.chans[x.ch.toNat]? = some S.chans[x.ch.toNat] := by simp [hkn]
   have e4 : D.lines[x.ch.toNat]? = some D.lines[x.ch.toNat] := by simp [hln]
   have hlk := xgb hR.l _ hkn hln
   have E : xcp S D = ⟨D.tick + 1, D.cells.set pn ⟨c'.replied x.k x.reg x.flag S.chans[x.ch.toNat].kd (xej S.chans[x.ch.toNat].kd D.lines[x.ch.toNat] x).2.1 (xej S.chans[x.ch.toNat].kd D.lines[x.ch.toNat] x).2.2, ys⟩, D.lines.set x.ch.toNat (xej S.chans[x.ch.toNat].kd D.lines[x.ch.toNat] x).1⟩ := by
    unfold xcp
    rw [e1, e2]
    simp only [hst]
    rw [if_neg hx, e3, e4]
    simp only []
    rw [hpn]
    rfl
   have hg' := xp5 hg x.k x.reg x.flag S.chans[x.ch.toNat].kd (xej S.chans[x.ch.toNat].kd D.lines[x.ch.toNat] x).2.1 (xej S.chans[x.ch.toNat].kd D.lines[x.ch.toNat] x).2.2
   refine ⟨pn, ⟨c'.replied x.k x.reg x.flag S.chans[x.ch.toNat].kd (xej S.chans[x.ch.toNat].kd D.lines[x.ch.toNat] x).2.1 (xej S.chans[x.ch.toNat].kd D.lines[x.ch.toNat] x).2.2, ys⟩, hp, hpn, rfl, by rw [E], by rw [E], xqs (hg'.fine hr0 hi) hg'.rd2, fun _ => hg', fun _ h => ?_, .inr ⟨x.ch.toNat, hkn, (xej S.chans[x.ch.toNat].kd D.lines[x.ch.toNat] x).1, by rw [E], xwf hlk x, hft⟩⟩
   have := hen h
   injection this with h1 h2
   injection h2 with h2 h3
   rw [h3] at hx
   exact absurd hz hx
theorem xi0 (hk : xb3 S = 0) (hR : Right S D) (ht : D.tick < 300) : Right S (xcp S D) /\ (xcp S D).tick = D.tick + 1 := by
 obtain ⟨pn, d, T⟩ := x03 hk hR ht
 refine ⟨⟨by rw [T.t]; have := hR.t0; omega, by rw [T.t]; omega, by rw [T.c]; exact xv9 hR.c (fun _ => T.f), ?_⟩, T.t⟩
 rcases T.l with e | ⟨kn, h, l, e, h2, -⟩
 .rw [e]; exact hR.l
 .rw [e]; exact xvq hR.l (fun _ => h2)
def xly (S : SysD) : Nat -> WldD -> WldD
 | 0, D => D
 | n + 1, D => xly S n (xcp S D)
theorem xeb (hk : xb3 S = 0) : ∀ (n : Nat) {D : WldD}, Right S D -> D.tick + n <= 300 -> Right S (xly S n D) /\ (xly S n D).tick = D.tick + n
 | 0, D, h, _ => ⟨h, by simp [xly]⟩
 | n + 1, D, h, ht => by
  obtain ⟨h1, h2⟩ := xi0 hk h om
  obtain ⟨h3, h4⟩ := xeb hk n h1 om
  exact ⟨h3, by rw [xly, h4, h2]; omega⟩
theorem xsz (S : SysD) : ∀ (n m : Nat) (D : WldD), xly S (n + m) D = xly S m (xly S n D)
 | 0, m, D => by rw [Nat.zero_add]; rfl
 | n + 1, m, D => by rw [show n + 1 + m = (n + m) + 1 by omega]; exact xsz S n m _
theorem xow (S : SysD) (n : Nat) (D : WldD) : xly S (n + 1) D = xcp S (xly S n D) := xsz S n 1 D
def x5y : CelD := ⟨xc6, []⟩
def xbg (S : SysD) : WldD := ⟨0, List.replicate S.parts.length x5y, List.replicate S.chans.length []⟩
theorem xfi (hk : xb3 S = 0) : Right S (xbg S) := by
 obtain ⟨-, -, hch, -, -⟩ := xcu hk
 refine ⟨Int.le_refl _, by show (0 : Int) <= 300; omega, xi9 (by simp [xbg]) fun k h h' => ?_, xi5 (by simp [xbg]) fun k h h' => ?_⟩
 .simp only [xbg, List.getElem_replicate]
  exact xqs (by decide) (by show (0 : Int) <= _; omega)
 .simp only [xbg, List.getElem_replicate]
  rw [List.any_eq_false] at hch
  have := hch _ (List.getElem_mem h)
  unfold xb4 at this
  unfold xh2
  simp at this
  by_cases h1 : S.chans[k].kd = 1
  .simp [h1]
  .simp [h1, this h1]
theorem xgi {P : Program} {o : Oper} {a : Act} {K : Act -> World -> Prop} {Q : Exit -> Act -> World -> Prop} (l c : Operand) (t : TypeId) (ho : o.op = .makeSlice t l c)
  (e : TypeId) (i : TypeInfo) (z : Value) (size bytes : Nat) (h1 : P.underlying t = some (.slice e)) (h2 : P.info? e = some i) (h3 : i.zero = some z) (h4 : i.size = size) (h5 : i.bytes = bytes)
  (n : Nat) (hl : a.eval l = .int .i64 n) (hc : a.eval c = .int .i64 n) (b2 : bytes * n <= 281474976710656) (b3 : n <= 9223372036854775807)
  (h : K (a.put o.dst (.slice (some ⟨w.heap.size, 0, none⟩) n n)) (w.alloc (.cells (madeCells z.cells (n * size)) e))) : o.wp P a w K Q := by
 subst h4 h5
 have hb' : (i.bytes : Int) * (n : Int) <= 281474976710656 := by
  have h : ((i.bytes * n : Nat) : Int) <= 281474976710656 := by omega
  rwa [Int.natCast_mul] at h
 have hrun := run_make (P := P) w t e i z h1 h2 h3 .i64 .i64 n n om (Int.le_refl _) hb' om
 simp only [Int.toNat_natCast] at hrun
 unfold Oper.wp
 simp [execOp, ho, hl, hc, hrun, Result.andThen]
 exact h
theorem x3t (z : Array Value) (hz : 0 < z.size) (n k j : Nat) (hk : k < n) (hj : j < z.size) : (madeCells z (n * z.size)).toList[k * z.size + j]? = z[j]? := by
 have h1 : k * z.size + j < n * z.size := by
  have : (k + 1) * z.size <= n * z.size := Nat.mul_le_mul_right _ hk
  rw [Nat.add_mul] at this
  omega
 rw [Array.getElem?_toList]
 unfold madeCells
 rw [Array.getElem?_map, Array.getElem?_range, if_pos h1]
 simp [Nat.mod_eq_of_lt hj, hj]
theorem xv4 (n : Nat) : (madeCells (xc6.cs (.slice none 0 0)) (n * 16)).toList = xbe xml (List.replicate n (xc6, .slice none 0 0)) := by
 apply List.ext_getElem?
 intro j
 by_cases hj : j < n * 16
 .have hk : j / 16 < n := by omega
  have hr : j % 16 < 16 := by omega
  have hjk : j = j / 16 * 16 + j % 16 := by omega
  rw [hjk, xcn xfl _ (j / 16) (j % 16) (by simpa using hk) hr]
  refine (x3t (xc6.cs (.slice none 0 0)) (by decide) n (j / 16) (j % 16) hk hr).trans ?_
  rw [List.getElem_replicate, xml, Array.getElem?_toList]
 .rw [List.getElem?_eq_none (by simp [size_madeCells]; omega), List.getElem?_eq_none (by rw [xgp xfl]; simp; omega)]
structure Bg (X W : World) (oc ol : Option Value) (n m : Nat) : Prop where
 d : Below X.heap.size X W
 c : ∀ v, oc = some v -> ∃ ps : List (Cel × Value), ps = List.replicate n (xc6, .slice none 0 0) /\ Sl W 16 v n (xbe xml ps) /\ ∀ b, v.ownBlock = some b -> X.heap.size <= b /\ b < W.heap.size /\ ∃ cur, Rw W b 77 cur
 l : ∀ v, ol = some v -> Sl W 1 v m (List.replicate m (.slice none 0 0)) /\ ∀ b, v.ownBlock = some b -> X.heap.size <= b /\ b < W.heap.size
 ne : ∀ v u, oc = some v -> ol = some u -> ∀ b, u.ownBlock = some b -> v.ownBlock ≠ some b
theorem Bg.begin (X : World) (n m : Nat) : Bg X X.drew none none n m := ⟨(Below.refl _ _).drew, by simp, by simp, by simp⟩
theorem Bg.cells {ol : Option Value} (h : Bg X W none ol n m) : Bg X (W.alloc (.cells (madeCells (xc6.cs (.slice none 0 0)) (n * 16)) 77)) (some (.slice (some ⟨W.heap.size, 0, none⟩) n n)) ol n m :=
 ⟨h.d.alloc h.d.size _, fun v q => by
  injection q with q
  subst q
  refine ⟨_, rfl, ?_, fun b e => by simp [Value.ownBlock] at e; have := h.d.size; exact ⟨by omega, by simp; omega, _, Rw.new _ _ _ e.symm⟩⟩
  rw [<- xv4]
  exact xfx W (madeCells (xc6.cs (.slice none 0 0)) (n * 16)).toList _ _ n 16 rfl (by simp [size_madeCells]), fun v q => ⟨(h.l v q).1.up1 _, fun b e => ⟨((h.l v q).2 b e).1, by have := ((h.l v q).2 b e).2; simp; omega⟩⟩, fun v u q q' b e => by
  injection q with q
  subst q
  have := ((h.l u q').2 b e).2
  simp [Value.ownBlock]
  omega⟩
theorem Bg.lines {oc : Option Value} (h : Bg X W oc none n m) : Bg X (W.alloc (.cells (madeCells #[.slice none 0 0] (m * 1)) 171)) oc (some (.slice (some ⟨W.heap.size, 0, none⟩) m m)) n m :=
 ⟨h.d.alloc h.d.size _, fun v q => by
  obtain ⟨ps, e, h2, h3⟩ := h.c v q
  exact ⟨ps, e, h2.up1 _, fun b e => ⟨(h3 b e).1, by have := (h3 b e).2.1; simp; omega, let ⟨c, hc⟩ := (h3 b e).2.2; ⟨c, hc.alloc _⟩⟩⟩, fun v q => by
  injection q with q
  subst q
  refine ⟨?_, fun b e => by simp [Value.ownBlock] at e; have := h.d.size; simp; omega⟩
  rw [Nat.mul_one, <- toList_madeCells_one]
  exact xfx W (madeCells #[.slice none 0 0] m).toList _ _ m 1 rfl (by simp [size_madeCells]), fun v u q q' b e e' => by
  injection q' with q'
  subst q'
  obtain ⟨ps, _, _, h3⟩ := h.c v q
  have := (h3 b e').2.1
  simp [Value.ownBlock] at e
  omega⟩
theorem Bg.done (h : Bg X W (some vc) (some vl) S.parts.length S.chans.length) {g B : Nat} (hg : g < X.heap.size) (hB : B <= X.heap.size) (cs : Array Value) : WldF B (W.setRow g cs) vc vl (xbg S) := by
 obtain ⟨ps, e, h2, h3⟩ := h.c vc rfl
 obtain ⟨h4, h5⟩ := h.l vl rfl
 subst e
 refine ⟨⟨List.replicate S.parts.length (xc6, .slice none 0 0), by simp [xbg], ?_, fun k hk hk' => ?_⟩, ⟨List.replicate S.chans.length (.slice none 0 0), by simp [xbg], ?_, fun k hk hk' => ?_⟩, fun b e => Nat.le_trans hB (h3 b e).1, fun b e => ⟨Nat.le_trans hB (h5 b e).1, h.ne vc vl rfl rfl b e⟩, fun b e => let ⟨c, hc⟩ := (h3 b e).2.2; ⟨c, hc.row_other _ (by have := (h3 b e).1; omega)⟩⟩
 .simp only [xbg, List.length_replicate]
  exact h2.row cs (fun e => by have := (h3 g e).1; omega)
 .simp only [xbg, List.getElem_replicate]
  exact ⟨rfl, Sl.nil _ _, fun b e => by cases e⟩
 .simp only [xbg, List.length_replicate]
  exact h4.row cs (fun e => by have := (h5 g e).1; omega)
 .simp only [xbg, List.getElem_replicate]
  exact ⟨Sl.nil _ _, fun b e => by cases e⟩
theorem xj2 {size : Nat} {v : Value} {xs : List Value} (h : Sl w size v n xs) (o : Obj) (u : Array Value) : Sl ((w.alloc o).setRow w.heap.size u) size v n xs :=
 xt2 (h.up1 o) fun hn e => by
  obtain ⟨b, off, cap, rfl, _, hb, _⟩ := h.open hn
  simp [Value.ownBlock] at e
  omega
theorem WldF.fresh {B : Nat} (h : WldF B w vc vl D) (o : Obj) (u : Array Value) : WldF B ((w.alloc o).setRow w.heap.size u) vc vl D := by
 obtain ⟨⟨ps, p1, p2, p3⟩, ⟨vs, q1, q2, q3⟩, bc, bl, fz⟩ := h
 exact ⟨⟨ps, p1, xj2 p2 o u, fun k hk hk' => ⟨(p3 k hk hk').1, xj2 (p3 k hk hk').2.1 o u, (p3 k hk hk').2.2⟩⟩, ⟨vs, q1, xj2 q2 o u, fun k hk hk' => ⟨xj2 (q3 k hk hk').1 o u, (q3 k hk hk').2⟩⟩, bc, bl, fun g e => let ⟨c, hc⟩ := fz g e; ⟨c, (hc.alloc o).row_other _ (by have := hc.lt; omega)⟩⟩
def x2n : WldD := ⟨0, [], []⟩
theorem WldF.nil (B : Nat) (w : World) : WldF B w (.slice none 0 0) (.slice none 0 0) x2n := ⟨⟨[], rfl, Sl.nil _ _, fun k hk => by simp [x2n] at hk⟩, ⟨[], rfl, Sl.nil _ _, fun k hk => by simp [x2n] at hk⟩, fun b e => (by cases e), fun b e => (by cases e), fun b e => (by cases e)⟩
theorem xbu (t : Int) (a : Option Addr) (n c : Nat) (a' : Option Addr) (n' c' : Nat) : (#[.int .i64 t, .slice a n c, .slice a' n' c'] : Array Value).all (·.oneCell') = true := by simp [Value.oneCell']
theorem xwg (h : xb3 S = 0) : S.parts.length <= 4 /\ S.chans.length <= 6 := by
 unfold xb3 at h
 cases hb : xbd S with
 | false => rw [hb] at h; simp at h
 | true => simp [xbd] at hb; omega
def xp3 (S : SysD) : WldD := if xb3 S = 0 then xbg S else x2n
theorem xnp (S : SysD) (vp vc vs : Value) (w : World) (he : Env w) (hS : Sys w vp vc vs S) (e0 : Int) (hk : xb3 S = e0) (D : WldD) (hD : xp3 S = D) :
  Calls Tryz.prog 50 #[.agg #[vp, vc, vs]] w fun e w' => ∃ uc ul, e = .returned (.tuple #[.agg #[.int .i64 D.tick, uc, ul], .int .i64 e0]) /\ WldF w.heap.size w' uc ul D /\ Below w.heap.size w w' := by
 obtain ⟨i1, hi1, hy0, hy1, hy2⟩ := xaj xj3
 obtain ⟨i2, hi2, hx0, hx1, hx2⟩ := xaj xjt
 obtain ⟨pa, pc, rfl⟩ := hS.p.form
 obtain ⟨ka, kc, rfl⟩ := hS.c.form
 obtain ⟨sa, sc, rfl⟩ := hS.s.form
 have HC := hd fun w he hS => xcc S (.slice pa S.parts.length pc) (.slice ka S.chans.length kc) (.slice sa S.slots.length sc) w he hS
 rw [hk] at HC
 have HE := hd he
 have HS := hd hS
 clear he hS
 by_cases h0 : e0 = 0
 .subst h0
  obtain ⟨hcl1, hcl2⟩ := xwg hk
  have HD : Hid (xbg S = D) := by
   show _ = _
   rw [<- hD, xp3, if_pos hk]
  clear hk hD
  go_enter Tryz.func50, Tryz.ntmps50
  go_wp2_with fail
  refine (HC.out _ (HE.out.up up0) (HS.out.up up0)).mono ?_
  rintro e w1 ⟨rfl, b1⟩
  have z1 := b1.size
  simp at z1
  have RA : Hid (Rw w1 w.heap.size 39 #[.slice pa S.parts.length pc, .slice ka S.chans.length kc, .slice sa S.slots.length sc]) := Rw.up rn0 b1 o3
  have RB : Hid (Rw w1 (w.heap.size + 1) 61 #[.int .i64 0, .slice none 0 0, .slice none 0 0]) := Rw.up rn0 b1 o3
  have HB : Hid (Below w.heap.size w w1) := by
   refine Below.trans ?_ (b1.mono o3)
   exact up0
  clear b1 HC
  go_wp2
  refine xad (S := fun w' => Rw w' w.heap.size 39 #[.slice pa S.parts.length pc, .slice ka S.chans.length kc, .slice sa S.slots.length sc]) 10 kr RA.out.drew (fun hHeld => ?_)
  have hq := fun w' (hSw : (fun w' => Rw w' w.heap.size 39 #[.slice pa S.parts.length pc, .slice ka S.chans.length kc, .slice sa S.slots.length sc]) w') => And.intro (hSw.cell (j := 0) (v := .slice pa S.parts.length pc) rfl) (hSw.cell (j := 1) (v := .slice ka S.chans.length kc) rfl)
  refine Still.u 0 [] hHeld hq ?_
  refine Still.u 1 [] hHeld hq ?_
  refine Still.u 2 [] hHeld hq ?_
  refine Still.u 4 [] hHeld hq ?_
  refine Still.u 5 [] hHeld hq ?_
  refine Still.u 6 [] hHeld hq ?_
  have M0 := hd (Bg.begin w1 S.parts.length S.chans.length)
  generalize World.drew _ = Y0 at M0 hHeld ⊢
  refine Still.all (rs := [3, 7]) kr (by simp) (Still.one (i := 3) rfl rfl (fun K hK => ?_) (Still.one (i := 7) rfl rfl (fun K hK => ?_) (by simp)))
  .refine xgi _ _ 58 rfl 77 i1 _ 16 144 Tryz.underlying58 hi1 hy0 hy1 hy2 S.parts.length ev ev om om ?_
   have m := M0.out.cells
   rw [show Value.cells (.agg (xc6.cs (.slice none 0 0))) = xc6.cs (.slice none 0 0) from rfl]
   refine hK _ _ (fun _ => Rw.up (B := Y0.heap.size) hHeld ((Below.refl _ _).alloc (Nat.le_refl _) _) (Rw.lt hHeld)) (fun hh => ?_)
   have hHeld := hh (by decide)
   clear hK K hh
   try simp only [Act.put, l1, l2, l3, l4, l5, l6]
   generalize World.alloc _ _ = Y1 at m hHeld ⊢
   have M1 := hd m
   clear m M0
   refine Still.o 7 rfl rfl (fun K hK => ?_)
   refine xgi _ _ 59 rfl 171 i2 _ 1 24 Tryz.underlying59 hi2 hx0 hx1 hx2 S.chans.length ev ev om om ?_
   have m := M1.out.lines
   rw [show Value.cells (.agg #[.slice none 0 0]) = #[.slice none 0 0] from rfl]
   refine hK _ _ (fun _ => Rw.up (B := Y1.heap.size) hHeld ((Below.refl _ _).alloc (Nat.le_refl _) _) (Rw.lt hHeld)) (fun hh => ?_)
   have hHeld := hh (by decide)
   clear hK K hh
   try simp only [Act.put, l1, l2, l3, l4, l5, l6]
   generalize World.alloc _ _ = Y2 at m hHeld ⊢
   have M2 := hd m
   clear m M1
   refine Still.t 8 [] hHeld ?_
   refine Still.o 9 rfl rfl (fun K hK => ?_)
   refine wp_store_row 61 _ _ rfl (w.heap.size + 1) #[.int .i64 0, (.slice (some ⟨Y0.heap.size, 0, none⟩) S.parts.length S.parts.length), (.slice (some ⟨Y1.heap.size, 0, none⟩) S.chans.length S.chans.length)] ev ev 61 #[.int .i64 0, .slice none 0 0, .slice none 0 0] (RB.out.up M2.out.d RB.out.lt) xa3 rfl (xbu _ _ _ _ _ _ _) ?_
   refine hK _ _ (fun _ => Rw.row_other hHeld _ om) (fun hh => ?_)
   have hHeld := hh (by decide)
   clear hK K hh
   try simp only [Act.put, l1, l2, l3, l4, l5, l6]
   refine Still.o 10 rfl rfl (fun K hK => ?_)
   go_simp
   refine hK _ _ ab (fun _ => Still.vv ?_)
   clear hK K
   clear hHeld
   go_wp2
   refine bodyPost_ret (xam Tryz.results50 _ _ (w.heap.size + 1) _ _ rfl rfl (run_loadVar_row _ _ 61 _ #[.int .i64 0, (.slice (some ⟨Y0.heap.size, 0, none⟩) S.parts.length S.parts.length), (.slice (some ⟨Y1.heap.size, 0, none⟩) S.chans.length S.chans.length)] (0, 0) _ (Rw.row (RB.out.up M2.out.d RB.out.lt) _) Tryz.underlying61 rfl xa3)) rfl ⟨(.slice (some ⟨Y0.heap.size, 0, none⟩) S.parts.length S.parts.length), (.slice (some ⟨Y1.heap.size, 0, none⟩) S.chans.length S.chans.length), by rw [<- HD.out]; rfl, by rw [<- HD.out]; exact M2.out.done RB.out.lt om _, xaa (HB.out.trans (M2.out.d.mono om)) om _⟩
  .refine xgi _ _ 59 rfl 171 i2 _ 1 24 Tryz.underlying59 hi2 hx0 hx1 hx2 S.chans.length ev ev om om ?_
   have m := M0.out.lines
   rw [show Value.cells (.agg #[.slice none 0 0]) = #[.slice none 0 0] from rfl]
   refine hK _ _ (fun _ => Rw.up (B := Y0.heap.size) hHeld ((Below.refl _ _).alloc (Nat.le_refl _) _) (Rw.lt hHeld)) (fun hh => ?_)
   have hHeld := hh (by decide)
   clear hK K hh
   try simp only [Act.put, l1, l2, l3, l4, l5, l6]
   generalize World.alloc _ _ = Y1 at m hHeld ⊢
   have M1 := hd m
   clear m M0
   refine Still.o 3 rfl rfl (fun K hK => ?_)
   refine xgi _ _ 58 rfl 77 i1 _ 16 144 Tryz.underlying58 hi1 hy0 hy1 hy2 S.parts.length ev ev om om ?_
   have m := M1.out.cells
   rw [show Value.cells (.agg (xc6.cs (.slice none 0 0))) = xc6.cs (.slice none 0 0) from rfl]
   refine hK _ _ (fun _ => Rw.up (B := Y1.heap.size) hHeld ((Below.refl _ _).alloc (Nat.le_refl _) _) (Rw.lt hHeld)) (fun hh => ?_)
   have hHeld := hh (by decide)
   clear hK K hh
   try simp only [Act.put, l1, l2, l3, l4, l5, l6]
   generalize World.alloc _ _ = Y2 at m hHeld ⊢
   have M2 := hd m
   clear m M1
   refine Still.t 8 [] hHeld ?_
   refine Still.o 9 rfl rfl (fun K hK => ?_)
   refine wp_store_row 61 _ _ rfl (w.heap.size + 1) #[.int .i64 0, (.slice (some ⟨Y1.heap.size, 0, none⟩) S.parts.length S.parts.length), (.slice (some ⟨Y0.heap.size, 0, none⟩) S.chans.length S.chans.length)] ev ev 61 #[.int .i64 0, .slice none 0 0, .slice none 0 0] (RB.out.up M2.out.d RB.out.lt) xa3 rfl (xbu _ _ _ _ _ _ _) ?_
   refine hK _ _ (fun _ => Rw.row_other hHeld _ om) (fun hh => ?_)
   have hHeld := hh (by decide)
   clear hK K hh
   try simp only [Act.put, l1, l2, l3, l4, l5, l6]
   refine Still.o 10 rfl rfl (fun K hK => ?_)
   go_simp
   refine hK _ _ ab (fun _ => Still.vv ?_)
   clear hK K
   clear hHeld
   go_wp2
   refine bodyPost_ret (xam Tryz.results50 _ _ (w.heap.size + 1) _ _ rfl rfl (run_loadVar_row _ _ 61 _ #[.int .i64 0, (.slice (some ⟨Y1.heap.size, 0, none⟩) S.parts.length S.parts.length), (.slice (some ⟨Y0.heap.size, 0, none⟩) S.chans.length S.chans.length)] (0, 0) _ (Rw.row (RB.out.up M2.out.d RB.out.lt) _) Tryz.underlying61 rfl xa3)) rfl ⟨(.slice (some ⟨Y1.heap.size, 0, none⟩) S.parts.length S.parts.length), (.slice (some ⟨Y0.heap.size, 0, none⟩) S.chans.length S.chans.length), by rw [<- HD.out]; rfl, by rw [<- HD.out]; exact M2.out.done RB.out.lt om _, xaa (HB.out.trans (M2.out.d.mono om)) om _⟩
 .have h0' : (e0 != 0) = true := by simpa using h0
  have HD : Hid (x2n = D) := by
   show _ = _
   rw [<- hD, xp3, if_neg (by rw [hk]; exact h0)]
  clear hk hD h0
  go_enter Tryz.func50, Tryz.ntmps50
  go_wp2_with fail
  refine (HC.out _ (HE.out.up up0) (HS.out.up up0)).mono ?_
  rintro e w1 ⟨rfl, b1⟩
  have z1 := b1.size
  simp at z1
  have RB : Hid (Rw w1 (w.heap.size + 1) 61 #[.int .i64 0, .slice none 0 0, .slice none 0 0]) := Rw.up rn0 b1 o3
  have HB : Hid (Below w.heap.size w w1) := by
   refine Below.trans ?_ (b1.mono o3)
   exact up0
  clear b1 HC
  go_wp2_with (refine wpList_store_row rfl 61 (.tmp 2) (.tmp 9) rfl (w.heap.size + 1) #[.int .i64 0, .slice none 0 0, .slice none 0 0] rfl rfl 61 #[.int .i64 0, .slice none 0 0, .slice none 0 0] RB.out xa3 rfl (xbu _ _ _ _ _ _ _) ?_)
  refine bodyPost_ret (xam Tryz.results50 _ _ (w.heap.size + 1) _ _ rfl rfl (run_loadVar_row _ _ 61 _ #[.int .i64 0, .slice none 0 0, .slice none 0 0] (0, 0) _ (RB.out.row _) Tryz.underlying61 rfl xa3)) rfl ⟨.slice none 0 0, .slice none 0 0, by rw [<- HD.out]; rfl, by rw [<- HD.out]; exact WldF.nil _ _, xaa HB.out om _⟩
theorem xr7 (S : SysD) (vp vc vs : Value) (w : World) (hS : Sys w vp vc vs S) (hk : xb3 S = 0) :
  Calls Tryz.prog 63 #[.agg #[vp, vc, vs]] w fun e w' => ∃ uc ul, e = .returned (.agg #[.int .i64 0, uc, ul]) /\ WldF w.heap.size w' uc ul (xbg S) /\ Below w.heap.size w w' := by
 obtain ⟨i1, hi1, hy0, hy1, hy2⟩ := xaj xj3
 obtain ⟨i2, hi2, hx0, hx1, hx2⟩ := xaj xjt
 obtain ⟨pa, pc, rfl⟩ := hS.p.form
 obtain ⟨ka, kc, rfl⟩ := hS.c.form
 obtain ⟨sa, sc, rfl⟩ := hS.s.form
 obtain ⟨hcl1, hcl2⟩ := xwg hk
 clear hS hk
 go_enter Tryz.func63, Tryz.ntmps63
 go_upto_region 1 with fail
 generalize hWe : World.alloc _ _ = W1
 have RA : Hid (Rw W1 w.heap.size 39 #[.slice pa S.parts.length pc, .slice ka S.chans.length kc, .slice sa S.slots.length sc]) := by
  show Rw _ _ _ _
  rw [<- hWe]
  exact rn0
 have RB : Hid (Rw W1 (w.heap.size + 1) 61 #[.int .i64 0, .slice none 0 0, .slice none 0 0]) := by
  show Rw _ _ _ _
  rw [<- hWe]
  exact rn0
 have HB : Hid (Below w.heap.size w W1) := by
  show Below _ _ _
  rw [<- hWe]
  exact up0
 have z1 : w.heap.size + 2 <= W1.heap.size := by rw [<- hWe]; simp
 clear hWe
 refine xad (S := fun w' => Rw w' w.heap.size 39 #[.slice pa S.parts.length pc, .slice ka S.chans.length kc, .slice sa S.slots.length sc]) 9 kr RA.out.drew (fun hHeld => ?_)
 have hq := fun w' (hSw : (fun w' => Rw w' w.heap.size 39 #[.slice pa S.parts.length pc, .slice ka S.chans.length kc, .slice sa S.slots.length sc]) w') => And.intro (hSw.cell (j := 0) (v := .slice pa S.parts.length pc) rfl) (hSw.cell (j := 1) (v := .slice ka S.chans.length kc) rfl)
 refine Still.u 0 [] hHeld hq ?_
 refine Still.u 1 [] hHeld hq ?_
 refine Still.u 2 [] hHeld hq ?_
 refine Still.u 4 [] hHeld hq ?_
 refine Still.u 5 [] hHeld hq ?_
 refine Still.u 6 [] hHeld hq ?_
 have M0 := hd (Bg.begin W1 S.parts.length S.chans.length)
 generalize World.drew _ = Y0 at M0 hHeld ⊢
 refine Still.all (rs := [3, 7]) kr (by simp) (Still.one (i := 3) rfl rfl (fun K hK => ?_) (Still.one (i := 7) rfl rfl (fun K hK => ?_) (by simp)))
 .refine xgi _ _ 58 rfl 77 i1 _ 16 144 Tryz.underlying58 hi1 hy0 hy1 hy2 S.parts.length ev ev om om ?_
  have m := M0.out.cells
  rw [show Value.cells (.agg (xc6.cs (.slice none 0 0))) = xc6.cs (.slice none 0 0) from rfl]
  refine hK _ _ (fun _ => Rw.up (B := Y0.heap.size) hHeld ((Below.refl _ _).alloc (Nat.le_refl _) _) (Rw.lt hHeld)) (fun hh => ?_)
  have hHeld := hh (by decide)
  clear hK K hh
  try simp only [Act.put, l1, l2, l3, l4, l5, l6]
  generalize World.alloc _ _ = Y1 at m hHeld ⊢
  have M1 := hd m
  clear m M0
  refine Still.o 7 rfl rfl (fun K hK => ?_)
  refine xgi _ _ 59 rfl 171 i2 _ 1 24 Tryz.underlying59 hi2 hx0 hx1 hx2 S.chans.length ev ev om om ?_
  have m := M1.out.lines
  rw [show Value.cells (.agg #[.slice none 0 0]) = #[.slice none 0 0] from rfl]
  refine hK _ _ (fun _ => Rw.up (B := Y1.heap.size) hHeld ((Below.refl _ _).alloc (Nat.le_refl _) _) (Rw.lt hHeld)) (fun hh => ?_)
  have hHeld := hh (by decide)
  clear hK K hh
  try simp only [Act.put, l1, l2, l3, l4, l5, l6]
  generalize World.alloc _ _ = Y2 at m hHeld ⊢
  have M2 := hd m
  clear m M1
  refine Still.t 8 [] hHeld ?_
  refine Still.o 9 rfl rfl (fun K hK => ?_)
  refine wp_store_row 61 _ _ rfl (w.heap.size + 1) #[.int .i64 0, (.slice (some ⟨Y0.heap.size, 0, none⟩) S.parts.length S.parts.length), (.slice (some ⟨Y1.heap.size, 0, none⟩) S.chans.length S.chans.length)] ev ev 61 #[.int .i64 0, .slice none 0 0, .slice none 0 0] (RB.out.up M2.out.d RB.out.lt) xa3 rfl (xbu _ _ _ _ _ _ _) ?_
  refine hK _ _ ab (fun _ => Still.vv ?_)
  clear hK K
  clear hHeld
  go_wp2
  refine bodyPost_ret (results_cell_row Tryz.results63 _ _ (w.heap.size + 1) 61 #[.int .i64 0, (.slice (some ⟨Y0.heap.size, 0, none⟩) S.parts.length S.parts.length), (.slice (some ⟨Y1.heap.size, 0, none⟩) S.chans.length S.chans.length)] (0, 0) _ rfl (Rw.row (RB.out.up M2.out.d RB.out.lt) _) Tryz.underlying61 rfl xa3) rfl ⟨(.slice (some ⟨Y0.heap.size, 0, none⟩) S.parts.length S.parts.length), (.slice (some ⟨Y1.heap.size, 0, none⟩) S.chans.length S.chans.length), rfl, M2.out.done RB.out.lt om _, xaa (HB.out.trans (M2.out.d.mono om)) om _⟩
 .refine xgi _ _ 59 rfl 171 i2 _ 1 24 Tryz.underlying59 hi2 hx0 hx1 hx2 S.chans.length ev ev om om ?_
  have m := M0.out.lines
  rw [show Value.cells (.agg #[.slice none 0 0]) = #[.slice none 0 0] from rfl]
  refine hK _ _ (fun _ => Rw.up (B := Y0.heap.size) hHeld ((Below.refl _ _).alloc (Nat.le_refl _) _) (Rw.lt hHeld)) (fun hh => ?_)
  have hHeld := hh (by decide)
  clear hK K hh
  try simp only [Act.put, l1, l2, l3, l4, l5, l6]
  generalize World.alloc _ _ = Y1 at m hHeld ⊢
  have M1 := hd m
  clear m M0
  refine Still.o 3 rfl rfl (fun K hK => ?_)
  refine xgi _ _ 58 rfl 77 i1 _ 16 144 Tryz.underlying58 hi1 hy0 hy1 hy2 S.parts.length ev ev om om ?_
  have m := M1.out.cells
  rw [show Value.cells (.agg (xc6.cs (.slice none 0 0))) = xc6.cs (.slice none 0 0) from rfl]
  refine hK _ _ (fun _ => Rw.up (B := Y1.heap.size) hHeld ((Below.refl _ _).alloc (Nat.le_refl _) _) (Rw.lt hHeld)) (fun hh => ?_)
  have hHeld := hh (by decide)
  clear hK K hh
  try simp only [Act.put, l1, l2, l3, l4, l5, l6]
  generalize World.alloc _ _ = Y2 at m hHeld ⊢
  have M2 := hd m
  clear m M1
  refine Still.t 8 [] hHeld ?_
  refine Still.o 9 rfl rfl (fun K hK => ?_)
  refine wp_store_row 61 _ _ rfl (w.heap.size + 1) #[.int .i64 0, (.slice (some ⟨Y1.heap.size, 0, none⟩) S.parts.length S.parts.length), (.slice (some ⟨Y0.heap.size, 0, none⟩) S.chans.length S.chans.length)] ev ev 61 #[.int .i64 0, .slice none 0 0, .slice none 0 0] (RB.out.up M2.out.d RB.out.lt) xa3 rfl (xbu _ _ _ _ _ _ _) ?_
  refine hK _ _ ab (fun _ => Still.vv ?_)
  clear hK K
  clear hHeld
  go_wp2
  refine bodyPost_ret (results_cell_row Tryz.results63 _ _ (w.heap.size + 1) 61 #[.int .i64 0, (.slice (some ⟨Y1.heap.size, 0, none⟩) S.parts.length S.parts.length), (.slice (some ⟨Y0.heap.size, 0, none⟩) S.chans.length S.chans.length)] (0, 0) _ rfl (Rw.row (RB.out.up M2.out.d RB.out.lt) _) Tryz.underlying61 rfl xa3) rfl ⟨(.slice (some ⟨Y1.heap.size, 0, none⟩) S.parts.length S.parts.length), (.slice (some ⟨Y0.heap.size, 0, none⟩) S.chans.length S.chans.length), rfl, M2.out.done RB.out.lt om _, xaa (HB.out.trans (M2.out.d.mono om)) om _⟩
def xmx (S : SysD) (n : Int) : Int := if xb3 S ≠ 0 then xb3 S else if xaf n 0 300 then 0 else 3
def xlz (S : SysD) (n : Int) : WldD := if xmx S n = 0 then xly S n.toNat (xbg S) else x2n
theorem xho {n : Int} (h : xmx S n = 0) : xb3 S = 0 /\ 0 <= n /\ n <= 300 := by
 unfold xmx at h
 split at h
 .exact absurd h (by assumption)
 .rename_i h1
  split at h
  .rename_i h2
   unfold xaf at h2
   rw [Bool.and_eq_true, decide_eq_true_eq, decide_eq_true_eq] at h2
   exact ⟨by simpa using h1, h2⟩
  .omega
structure RnS (w W : World) (g : Nat) (vp vc vs : Value) (D : WldD) : Prop where
 d : Below w.heap.size w W
 r0 : Rw W w.heap.size 39 #[vp, vc, vs]
 rb : Rw W (w.heap.size + 1) 61 #[.int .i64 0, .slice none 0 0, .slice none 0 0]
 r1 : ∃ ua uc la lc, Rw W g 61 #[.int .i64 D.tick, .slice ua D.cells.length uc, .slice la D.lines.length lc] /\ WldF (w.heap.size + 2) W (.slice ua D.cells.length uc) (.slice la D.lines.length lc) D
 g0 : w.heap.size + 2 <= g
theorem xrt (S : SysD) (n : Int) (vp vc vs : Value) (w : World) (he : Env w) (hS : Sys w vp vc vs S) (e0 : Int) (hk : xmx S n = e0) (D' : WldD) (hD : xlz S n = D') :
  Calls Tryz.prog 17 #[.agg #[vp, vc, vs], .int .i64 n] w fun e w' => ∃ xc xl, e = .returned (.tuple #[.agg #[.int .i64 D'.tick, xc, xl], .int .i64 e0]) /\ WldF w.heap.size w' xc xl D' /\ Below w.heap.size w w' := by
 obtain ⟨pa, pc, rfl⟩ := hS.p.form
 obtain ⟨ka, kc, rfl⟩ := hS.c.form
 obtain ⟨sa, sc, rfl⟩ := hS.s.form
 obtain ⟨c0, hc0⟩ : ∃ c0, xb3 S = c0 := ⟨_, rfl⟩
 obtain ⟨B, hB⟩ : ∃ B, xp3 S = B := ⟨_, rfl⟩
 have HC := hd fun w he hS => xnp S (.slice pa S.parts.length pc) (.slice ka S.chans.length kc) (.slice sa S.slots.length sc) w he hS c0 hc0 B hB
 have HE := hd he
 have HS := hd hS
 clear he hS
 by_cases h0 : c0 = 0
 .subst h0
  obtain rfl : xbg S = B := by rw [<- hB, xp3, if_pos hc0]
  have HI := hd fun V => xyq n V
  have HRT := hd (xfi hc0)
  cases hn : xaf n 0 300
  .have hw3 : xmx S n = 3 := by unfold xmx; rw [hc0, if_neg (by simp), hn]; rfl
   obtain rfl : e0 = 3 := by rw [<- hk, hw3]
   have HD : Hid (x2n = D') := by
    show _ = _
    rw [<- hD, xlz, if_neg (by rw [hw3]; decide)]
   rw [hn] at HI
   clear hk hD hw3 hc0 hn hB HRT
   go_enter Tryz.func17, Tryz.ntmps17
   go_wp2_with fail
   refine (HC.out _ (HE.out.up up0) (HS.out.up up0)).mono ?_
   rintro e w1 ⟨xc, xl, rfl, hN, b1⟩
   obtain ⟨a5, c5, rfl⟩ := hN.wld.c.form
   obtain ⟨a6, c6, rfl⟩ := hN.wld.l.form
   have z1 := b1.size
   simp at z1
   have RB : Hid (Rw w1 (w.heap.size + 1) 61 #[.int .i64 0, .slice none 0 0, .slice none 0 0]) := Rw.up rn0 b1 o3
   have HB : Hid (Below w.heap.size w w1) := by
    refine Below.trans ?_ (b1.mono o3)
    exact up0
   clear b1 HC hN
   go_wp2_with (refine xae rfl 61 (.tmp 6) (.tmp 11) rfl w1.heap.size #[.int .i64 (xbg S).tick, .slice a5 (xbg S).cells.length c5, .slice a6 (xbg S).lines.length c6] rfl rfl 61 #[.int .i64 0, .slice none 0 0, .slice none 0 0] rn0 xa3 rfl (xbu _ _ _ _ _ _ _) ?_)
   intro W HW1
   have RB2 : Hid (Rw W (w.heap.size + 1) 61 #[.int .i64 0, .slice none 0 0, .slice none 0 0]) := by
    show Rw _ _ _ _
    rw [HW1.out]
    exact (RB.out.up ((Below.refl _ _).alloc (Nat.le_refl _) _) om).row_other _ om
   have HB2 : Hid (Below w.heap.size w W) := by
    show Below _ _ _
    rw [HW1.out]
    exact xaa (HB.out.alloc om _) om _
   clear HW1 RB HB
   go_wp2_with (first | (go_at_call 51; refine (HI.out _).mono ?_; rintro e w2 ⟨rfl, rfl⟩) | (refine wpList_store_row rfl 61 (.tmp 4) (.tmp 20) rfl (w.heap.size + 1) #[.int .i64 0, .slice none 0 0, .slice none 0 0] rfl rfl 61 #[.int .i64 0, .slice none 0 0, .slice none 0 0] RB2.out xa3 rfl (xbu _ _ _ _ _ _ _) ?_))
   refine bodyPost_ret (xam Tryz.results17 _ _ (w.heap.size + 1) _ _ rfl rfl (run_loadVar_row _ _ 61 _ #[.int .i64 0, .slice none 0 0, .slice none 0 0] (0, 0) _ (RB2.out.row _) Tryz.underlying61 rfl xa3)) rfl ⟨.slice none 0 0, .slice none 0 0, by rw [<- HD.out]; rfl, by rw [<- HD.out]; exact WldF.nil _ _, xaa HB2.out om _⟩
  .have hw3 : xmx S n = 0 := by unfold xmx; rw [hc0, if_neg (by simp), hn]; rfl
   obtain rfl : e0 = 0 := by rw [<- hk, hw3]
   have HD : Hid (xly S n.toNat (xbg S) = D') := by
    show _ = _
    rw [<- hD, xlz, if_pos hw3]
   obtain ⟨-, hn0, hn1⟩ := xho hw3
   obtain ⟨m, rfl⟩ := Int.eq_ofNat_of_zero_le hn0
   rw [hn] at HI
   have HNX := hd fun D uc ul w he hS hW hR ht => x0b S D (.slice pa S.parts.length pc) (.slice ka S.chans.length kc) (.slice sa S.slots.length sc) uc ul w he hS hW hc0 (Right.t0 (S := S) hR) ht (Right.c hR) (Right.l hR)
   have HKS := hd hc0
   clear hk hD hw3 hc0 hn hB
   go_enter Tryz.func17, Tryz.ntmps17
   go_wp2_with fail
   refine (HC.out _ (HE.out.up up0) (HS.out.up up0)).mono ?_
   rintro e w1 ⟨xc, xl, rfl, hN, b1⟩
   obtain ⟨a5, c5, rfl⟩ := hN.wld.c.form
   obtain ⟨a6, c6, rfl⟩ := hN.wld.l.form
   have z1 := b1.size
   simp at z1
   have R0 : Hid (Rw w1 w.heap.size 39 #[.slice pa S.parts.length pc, .slice ka S.chans.length kc, .slice sa S.slots.length sc]) := Rw.up rn0 b1 o3
   have RB : Hid (Rw w1 (w.heap.size + 1) 61 #[.int .i64 0, .slice none 0 0, .slice none 0 0]) := Rw.up rn0 b1 o3
   have HB : Hid (Below w.heap.size w w1) := by
    refine Below.trans ?_ (b1.mono o3)
    exact up0
   have HN := hd (hN.low (B' := w.heap.size + 2) (by simp))
   clear b1 HC hN
   go_wp2_with (refine xae rfl 61 (.tmp 6) (.tmp 11) rfl w1.heap.size #[.int .i64 (xbg S).tick, .slice a5 (xbg S).cells.length c5, .slice a6 (xbg S).lines.length c6] rfl rfl 61 #[.int .i64 0, .slice none 0 0, .slice none 0 0] rn0 xa3 rfl (xbu _ _ _ _ _ _ _) ?_)
   intro W HW1
   have hRn : RnS w W w1.heap.size (.slice pa S.parts.length pc) (.slice ka S.chans.length kc) (.slice sa S.slots.length sc) (xbg S) := by
    rw [HW1.out]
    have hb0 : Below w1.heap.size w1 (w1.alloc (.cells #[.int .i64 0, .slice none 0 0, .slice none 0 0] 61)) := (Below.refl _ _).alloc (Nat.le_refl _) _
    refine ⟨xaa (HB.out.alloc om _) om _, (R0.out.up hb0 om).row_other _ om, (RB.out.up hb0 om).row_other _ om, ⟨a5, c5, a6, c6, Rw.row (cs := #[.int .i64 0, .slice none 0 0, .slice none 0 0]) rn0 _, HN.out.fresh _ _⟩, by omega⟩
   have RN := hd hRn
   clear HW1 RB HB R0 hRn HN
   go_wp2_with (go_at_call 51; refine (HI.out _).mono ?_; rintro e w2 ⟨rfl, rfl⟩)
   go_loopw [22] (fun i wr => ∃ k : Nat, i = .int .i64 k /\ k <= m /\ Hid (RnS w wr w1.heap.size (.slice pa S.parts.length pc) (.slice ka S.chans.length kc) (.slice sa S.slots.length sc) (xly S k (xbg S)))) (fun i _ => m - (intOf i).toNat)
   case atStart => exact ⟨0, rfl, Nat.zero_le _, RN⟩
   case round =>
    obtain ⟨k, rfl, hk, HR⟩ := hrel
    have hR := HR.out
    clear HR RN
    by_cases hlt : k < m
    .have hli : (k : Int) < m := by omega
     obtain ⟨hrt, htk⟩ := xeb HKS.out k HRT.out (by show (0 : Int) + k <= 300; omega)
     have hnr := (xi0 HKS.out hrt (by rw [htk]; show (0 : Int) + k < 300; omega)).2
     have hrn := xow S k (xbg S)
     have ht : (xly S k (xbg S)).tick < 300 := by rw [htk]; show (0 : Int) + k < 300; omega
     generalize xly S k (xbg S) = D at hR hrt hnr hrn ht
     obtain ⟨ua, uc, la, lc, r1, hwf⟩ := hR.r1
     have q0 := r1.cell (j := 0) (v := .int .i64 D.tick) rfl
     have q1 := r1.cell (j := 1) (v := .slice ua D.cells.length uc) rfl
     have q2 := r1.cell (j := 2) (v := .slice la D.lines.length lc) rfl
     have s0 := hR.r0.cell (j := 0) (v := .slice pa S.parts.length pc) rfl
     have s1 := hR.r0.cell (j := 1) (v := .slice ka S.chans.length kc) rfl
     have s2 := hR.r0.cell (j := 2) (v := .slice sa S.slots.length sc) rfl
     have HR := hd hR
     have HWF := hd hwf
     have R1 := hd r1
     have HRT2 := hd hrt
     have HNR := hd hnr
     have HRN := hd hrn
     clear hR hwf r1 hrt hnr hrn htk
     go_wp2_with fail
     refine (HNX.out D _ _ _ (HE.out.up HR.out.d) (HS.out.up HR.out.d) HWF.out.wld HRT2.out ht).mono ?_
     rintro e w3 ⟨xc, xl, rfl, hN, b3⟩
     obtain ⟨a7, c7, rfl⟩ := hN.wld.c.form
     obtain ⟨a8, c8, rfl⟩ := hN.wld.l.form
     have HN := hd hN
     have B3 := hd b3
     clear b3 hN q0 q1 q2 s0 s1 s2
     go_wp2_with (refine xae rfl 61 (.tmp 6) (.tmp 26) rfl w1.heap.size #[.int .i64 (D.tick + 1), .slice a7 (xcp S D).cells.length c7, .slice a8 (xcp S D).lines.length c8] rfl rfl 61 _ (R1.out.up B3.out R1.out.lt) xa3 rfl (xbu _ _ _ _ _ _ _) ?_)
     intro W4 HW4
     have RN4 : Hid (RnS w W4 w1.heap.size (.slice pa S.parts.length pc) (.slice ka S.chans.length kc) (.slice sa S.slots.length sc) (xcp S D)) := by
      show RnS _ _ _ _ _ _ _
      rw [HW4.out]
      have hg := HR.out.g0
      have hl1 := R1.out.lt
      have hsz := HR.out.d.size
      refine ⟨xaa (HR.out.d.trans (B3.out.mono hsz)) om _, (HR.out.r0.up B3.out HR.out.r0.lt).row_other _ om, (HR.out.rb.up B3.out HR.out.rb.lt).row_other _ om, ⟨a7, c7, a8, c8, ?_, (HN.out.row om _).low om⟩, hg⟩
      rw [HNR.out]
      exact (R1.out.up B3.out R1.out.lt).row _
     clear HW4 HN B3 HR HWF R1 HRT2 HNR
     go_wp2
     go_roundw
     case rel => exact ⟨k + 1, by go_num, by omega, by rw [HRN.out]; exact RN4⟩
     case measure => simp [intOf]; omega
    .obtain rfl : k = m := by omega
     have hli : ¬ (k : Int) < k := by omega
     obtain ⟨hrt, htk⟩ := xeb HKS.out k HRT.out (by show (0 : Int) + k <= 300; omega)
     have HDD := hd (show xly S k (xbg S) = D' by rw [<- HD.out, Int.toNat_natCast])
     rw [HDD.out] at hR
     obtain ⟨ua, uc, la, lc, r1, hwf⟩ := hR.r1
     have HR := hd hR
     have HWF := hd hwf
     have R1 := hd r1
     have hsz := hR.d.size
     have hlb := hR.rb.lt
     clear hR hwf r1 hrt htk HDD HD
     go_wp2_with (first | (refine wpList_load_row rfl 61 (.tmp 6) rfl w1.heap.size rfl 61 _ (0, 0) _ R1.out Tryz.underlying61 rfl xa3 ?_) | (refine wpList_store_row rfl 61 (.tmp 4) (.tmp 28) rfl (w.heap.size + 1) #[.int .i64 D'.tick, .slice ua D'.cells.length uc, .slice la D'.lines.length lc] rfl rfl 61 _ HR.out.rb xa3 rfl (xbu _ _ _ _ _ _ _) ?_))
     refine bodyPost_ret (xam Tryz.results17 _ _ (w.heap.size + 1) _ _ rfl rfl (run_loadVar_row _ _ 61 _ #[.int .i64 D'.tick, .slice ua D'.cells.length uc, .slice la D'.lines.length lc] (0, 0) _ (HR.out.rb.row _) Tryz.underlying61 rfl xa3)) rfl ⟨_, _, rfl, (HWF.out.row om _).low om, xaa HR.out.d om _⟩
 .have h0' : (c0 != 0) = true := by simpa using h0
  have hw3 : xmx S n = c0 := by unfold xmx; rw [hc0, if_pos h0]
  obtain rfl : e0 = c0 := by rw [<- hk, hw3]
  have HD : Hid (x2n = D') := by
   show _ = _
   rw [<- hD, xlz, if_neg (by rw [hw3]; exact h0)]
  clear hk hD hw3 hc0 h0 hB
  go_enter Tryz.func17, Tryz.ntmps17
  go_wp2_with fail
  refine (HC.out _ (HE.out.up up0) (HS.out.up up0)).mono ?_
  rintro e w1 ⟨xc, xl, rfl, hN, b1⟩
  obtain ⟨a5, c5, rfl⟩ := hN.wld.c.form
  obtain ⟨a6, c6, rfl⟩ := hN.wld.l.form
  have z1 := b1.size
  simp at z1
  have RB : Hid (Rw w1 (w.heap.size + 1) 61 #[.int .i64 0, .slice none 0 0, .slice none 0 0]) := Rw.up rn0 b1 o3
  have HB : Hid (Below w.heap.size w w1) := by
   refine Below.trans ?_ (b1.mono o3)
   exact up0
  clear b1 HC hN
  go_wp2_with (refine xae rfl 61 (.tmp 6) (.tmp 11) rfl w1.heap.size #[.int .i64 B.tick, .slice a5 B.cells.length c5, .slice a6 B.lines.length c6] rfl rfl 61 #[.int .i64 0, .slice none 0 0, .slice none 0 0] rn0 xa3 rfl (xbu _ _ _ _ _ _ _) ?_)
  intro W HW1
  have RB2 : Hid (Rw W (w.heap.size + 1) 61 #[.int .i64 0, .slice none 0 0, .slice none 0 0]) := by
   show Rw _ _ _ _
   rw [HW1.out]
   exact (RB.out.up ((Below.refl _ _).alloc (Nat.le_refl _) _) om).row_other _ om
  have HB2 : Hid (Below w.heap.size w W) := by
   show Below _ _ _
   rw [HW1.out]
   exact xaa (HB.out.alloc om _) om _
  clear HW1 RB HB
  go_wp2_with (refine wpList_store_row rfl 61 (.tmp 4) (.tmp 15) rfl (w.heap.size + 1) #[.int .i64 0, .slice none 0 0, .slice none 0 0] rfl rfl 61 #[.int .i64 0, .slice none 0 0, .slice none 0 0] RB2.out xa3 rfl (xbu _ _ _ _ _ _ _) ?_)
  refine bodyPost_ret (xam Tryz.results17 _ _ (w.heap.size + 1) _ _ rfl rfl (run_loadVar_row _ _ 61 _ #[.int .i64 0, .slice none 0 0, .slice none 0 0] (0, 0) _ (RB2.out.row _) Tryz.underlying61 rfl xa3)) rfl ⟨.slice none 0 0, .slice none 0 0, by rw [<- HD.out]; rfl, by rw [<- HD.out]; exact WldF.nil _ _, xaa HB2.out om _⟩
open Go.RowKit Go.Sort Go.Shelf Go.Lib Go.Maps
def inB (l : List Int) (x : Int) : Bool := l.any fun y => y == x
theorem x22 {x : Int} : inB l x = true ↔ x ∈ l := by
 unfold inB
 rw [List.any_eq_true]
 constructor
 .rintro ⟨y, hy, e⟩
  rw [beq_iff_eq] at e
  exact e ▸ hy
 .intro h
  exact ⟨x, h, by simp⟩
end Go.Proofs.YtbkdoohhdkahiaaGreatDoor
