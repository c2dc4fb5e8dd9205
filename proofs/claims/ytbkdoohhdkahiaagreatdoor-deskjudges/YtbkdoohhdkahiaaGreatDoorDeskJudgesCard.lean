/- DeskJudges holds for every input, in full: Rules and Judge answer just what the document says, errors too, whatever they are handed. -/
import Derived.Test.YtbkdoohhdkahiaaGreatDoorJ32
import Derived.Test.YtbkdoohhdkahiaaGreatDoorCards
import Derived.Test.YtbkdoohhdkahiaaGreatDoorTie
namespace Go.Proofs.YtbkdoohhdkahiaaGreatDoor
set_option linter.unusedSimpArgs false
set_option linter.unusedVariables false
set_option maxRecDepth 100000
open Go.ChangeShapes Go.WideShapes Go.ChangeAt Go.RowKit Go.Joins
namespace deskJudges
theorem x18 : ∀ t ∈ Tryz.f3.params.toList, Tryz.prog.readableRec t = true /\ t < Tryz.prog.types.size := by
 rw [Tryz.params3]
 intro t ht
 have h : t = 9 \/ t = 3 := by simpa using ht
 rcases h with rfl | rfl
 .exact ⟨by kernel_rfl, of_decide_eq_true kr⟩
 .exact ⟨by kernel_rfl, of_decide_eq_true kr⟩
theorem contract (H : Type) (enc : TypeId × Value -> H) (W : World) (base : Nat) (args : Array Value) (ds gs : List (DataW H)) (before : List MemPlace)
  (hval : ∀ (j : Nat) t v, Tryz.f3.params[j]? = some t -> args[j]? = some v -> Value.okWide Tryz.prog W .any base t v)
  (hW : DataW.Whole enc Tryz.prog Tryz.f3.params.toList Rows.deskJudgesSpec.vars false W args.toList ds gs before) (he : Env W) (hwt : (DataW.weightsEach Tryz.prog (Tryz.f3.params.toList ++ (OpenSpec.ofChange Rows.deskJudgesSpec).bare.plain.varTypes Tryz.prog) (ds ++ gs)).all (· <= reachBytes) = true) :
  Calls Tryz.prog 3 args W fun e W' => ∃ v, e = .returned v /\ Rows.deskJudgesSpec.post enc Tryz.prog Tryz.f3 false true false false W args v W' := by
 have hW' := hW
 obtain ⟨p, q, hA0, hV, rfl, hfz, hnd⟩ := hW
 have hA : DataW.TrodAll enc Tryz.prog W 0 (fun _ => true) true Tryz.f3.params.toList args.toList ds p := hA0
 rw [Tryz.params3] at hA hval
 obtain ⟨v0, vs0, d0, ds0, p0, q0, hargs, rfl, rfl, h0, r0⟩ := trodAll_cons hA
 obtain ⟨v1, vs1, d1, ds1, p1, q1, rfl, rfl, rfl, h1, r1⟩ := trodAll_cons r0
 obtain ⟨v2, vs2, d2, ds2, p2, q2, rfl, rfl, rfl, h2, r2⟩ := trodAll_cons r1
 obtain ⟨rfl, rfl, rfl⟩ := trodAll_nil r2
 obtain rfl : args = #[v0, v1, v2] := by cases args; simp_all
 obtain ⟨l0, rfl, hl0⟩ := xoh (hval 0 9 v0 rfl rfl) h0 (fun n hn => by have := List.all_eq_true.1 hwt n (DataW.weights_mem_each (j := 0) (t := 9) (d := d0) (by rw [Tryz.params3]; rfl) rfl n hn); simpa using this)
 obtain ⟨l1, rfl, hl1⟩ := xoh (hval 1 9 v1 rfl rfl) h1 (fun n hn => by have := List.all_eq_true.1 hwt n (DataW.weights_mem_each (j := 1) (t := 9) (d := d1) (by rw [Tryz.params3]; rfl) rfl n hn); simpa using this)
 obtain ⟨n2, rfl, hn2⟩ := x0y (hval 2 3 v2 rfl rfl) h2
 refine (xl2 l0 l1 n2 W he hl1).mono fun e W' ⟨he, hg⟩ => ?_
 subst he
 exact ⟨_, rfl, x10 x29 x18 rfl kr Tryz.underlying4 hW' (fun hgs => by subst hgs; exact ⟨rfl, rfl, rfl⟩) hg⟩
def x1b : Array Value := #[.string ⟨#[]⟩, .string ⟨#[]⟩, .int .i64 0]
theorem x0q (os : Os) : laidMet Tryz.prog Rows.deskJudgesRow.laid ((x3g Tryz.prog os).forCall (fun _ _ => 0) ⟨#[], x1b, []⟩).memory :=
 laidMet_of_run' 8 kr kr
theorem x6c (os : Os) {H : Type} (enc : TypeId × Value -> H) : ∃ places, DataW.whole enc Tryz.prog ((x3g Tryz.prog os).forCall (fun _ _ => 0) ⟨#[], x1b, []⟩).memory Tryz.f3.params.toList Rows.deskJudgesSpec.vars false x1b.toList 8 = some ([.lit (.string []), .lit (.string []), .lit (.int .i64 0)], [], places) :=
 ⟨[], by kernel_rfl⟩
theorem x5q (os : Os) (started : os.Started) (H : Type) (enc : TypeId × Value -> H) (F : Stop.Interp) :
  ReturnsInHanded {} Tryz.checked os 3 .any ((OpenSpec.ofChange Rows.deskJudgesSpec).preRow enc Tryz.prog Tryz.f3 Rows.deskJudgesRow.domain false Rows.deskJudgesRow.laid) (((OpenSpec.ofChange Rows.deskJudgesSpec).at F).post enc Tryz.prog Tryz.f3 false true false false) := by
 obtain ⟨places, hx⟩ := x6c os enc
 refine returnsInHanded_of_row (C := Tryz.checked) (s := OpenSpec.ofChange Rows.deskJudgesSpec) own started kr Tryz.func3
  (witness_row_at (enc := enc) (C := Tryz.checked) false (x3g Tryz.prog os) x1b rfl kr kr kr
   (OpenSpec.preRow_of_cond 8 hx kr (fun k hk => by cases hk) kr (x0q os))) ?_
 intro W base args ds gs before hval hW _ hcond hwt hL hsh _
 exact contract H enc W base args ds gs before hval hW (x4p hL hsh) hwt
theorem said : Rows.DeskJudgesSaid :=
 OpenClaim.holds_of_cond 3 Tryz.f3 rfl rfl rfl rfl rfl rfl rfl ⟨rfl, rfl, rfl, rfl, rfl⟩ rfl rfl rfl rfl rfl kr Tryz.func3 kr
  (of_decide_eq_true kr) (by unfold Func.isWrapper; first | (rw [if_pos (by decide +kernel)]; kernel_rfl) | (rw [if_neg (by decide +kernel)]; exact ⟨rfl, rfl⟩))
  (fun os started H enc _ F => by rw [OpenClaim.pre_eq_preRow]; exact x5q os started H enc F)
theorem plain (f : FuncId) (fn : Func) (hf : Tryz.pinned.checked.prog.funcNamed "lychgate/lychgatelaw.DeskJudges" = some f) (hfn : Tryz.pinned.checked.prog.funcs[f]? = some fn) :
  true = Tryz.pinned.checked.prog.looks [] /\ ∀ (j : Nat) t, fn.params[j]? = some t -> Tryz.pinned.checked.prog.wantsStandIn t = false := by
 obtain rfl : f = 3 := Option.some.inj ((show Tryz.prog.funcNamed "lychgate/lychgatelaw.DeskJudges" = some 3 by kernel_rfl).symm.trans hf) |>.symm
 obtain rfl : fn = Tryz.f3 := (Option.some.inj (Tryz.func3.symm.trans hfn)).symm
 refine ⟨by kernel_rfl, fun j t ht => ?_⟩
 rw [Tryz.params3] at ht
 have ht := Array.mem_of_getElem? ht
 have h : t = 9 \/ t = 3 := by simpa using ht
 rcases h with rfl | rfl
 .exact (show Tryz.prog.wantsStandIn 9 = false by kernel_rfl)
 .exact (show Tryz.prog.wantsStandIn 3 = false by kernel_rfl)
end deskJudges
theorem deskJudges_holds : Rows.DeskJudgesCardSaid :=
 Claim7.holds_tied_plain_at .later [] _ _ _ _ deskJudges.said (fun _ h => by cases h) kr (fun _ h => by cases h) deskJudges_row_tie rfl ⟨rfl, rfl⟩ kr rfl deskJudges.plain kr
end Go.Proofs.YtbkdoohhdkahiaaGreatDoor
