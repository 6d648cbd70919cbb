import Derived.Test.YtnboimoncpphlaaDoorAtSupW
import Derived.Test.YtnboimoncpphlaaDoorCards
import Derived.Test.YtnboimoncpphlaaDoorTie
import Derived.Test.YtnboimoncpphlaaDoorAtTabs
import Derived.Test.YtnboimoncpphlaaDoorAtTabsK
import Derived.ProofKit
import Derived.OpenShut
import Derived.ShutString
import Derived.ChangeOld
import Derived.SizedLaws
import Derived.Deep.DeepHandedRow
import Derived.Lib.LaidTab
import Derived.Stop.LaidErr
namespace Go.Proofs.YtnboimoncpphlaaDoor
namespace AttrSupersDone
open Go.ChangeShapes Go.WideShapes Go.ChangeAt Go.RowKit
open Go.ChangeMaps (open_string shut_string)
set_option linter.unusedVariables false

theorem own : ownKnob Tryd.prog.godebug = none := by kernel_rfl
def supersCells : List Value := [.int .i64 0, .int .i64 0, .int .i64 0, .int .i64 0, .int .i64 2, .int .i64 2, .int .i64 0, .int .i64 2, .int .i64 2, .int .i64 2, .int .i64 0, .int .i64 2, .int .i64 2, .int .i64 2, .int .i64 0, .int .i64 0, .int .i64 0, .int .i64 0, .int .i64 0, .int .i64 0, .int .i64 0, .int .i64 0, .int .i64 0, .int .i64 0, .int .i64 16, .int .i64 0, .int .i64 3, .int .i64 3, .int .i64 3, .int .i64 3, .int .i64 0, .int .i64 2, .int .i64 2, .int .i64 2, .int .i64 0, .int .i64 0, .int .i64 8, .int .i64 9, .int .i64 11, .int .i64 12, .int .i64 0, .int .i64 0, .int .i64 0, .int .i64 0, .int .i64 0, .int .i64 0, .int .i64 0, .int .i64 0, .int .i64 0, .int .i64 0, .int .i64 0, .int .i64 0, .int .i64 0, .int .i64 0, .int .i64 0, .int .i64 0, .int .i64 0, .int .i64 0, .int .i64 0, .int .i64 0, .int .i64 0, .int .i64 0]
def syntaxesCells : List Value := [.int .i64 11, .int .i64 10, .int .i64 1, .int .i64 10, .int .i64 1, .int .i64 1, .int .i64 1, .int .i64 1, .int .i64 1, .int .i64 1, .int .i64 1, .int .i64 1, .int .i64 1, .int .i64 1, .int .i64 1, .int .i64 1, .int .i64 13, .int .i64 1, .int .i64 1, .int .i64 1, .int .i64 6, .int .i64 6, .int .i64 5, .int .i64 5, .int .i64 13, .int .i64 1, .int .i64 10, .int .i64 10, .int .i64 10, .int .i64 10, .int .i64 9, .int .i64 1, .int .i64 1, .int .i64 1, .int .i64 1, .int .i64 1, .int .i64 1, .int .i64 1, .int .i64 1, .int .i64 1, .int .i64 1, .int .i64 3, .int .i64 1, .int .i64 10, .int .i64 6, .int .i64 10, .int .i64 3, .int .i64 6, .int .i64 6, .int .i64 1, .int .i64 1, .int .i64 7, .int .i64 7, .int .i64 4, .int .i64 4, .int .i64 2, .int .i64 12, .int .i64 12, .int .i64 10, .int .i64 10, .int .i64 8, .int .i64 14]
def knownCells : List Value := [.string ⟨#[99, 110]⟩, .string ⟨#[99, 111, 109, 109, 111, 110, 78, 97, 109, 101]⟩, .string ⟨#[50, 46, 53, 46, 52, 46, 51]⟩, .string ⟨#[115, 110]⟩, .string ⟨#[115, 117, 114, 110, 97, 109, 101]⟩, .string ⟨#[50, 46, 53, 46, 52, 46, 52]⟩, .string ⟨#[110, 97, 109, 101]⟩, .string ⟨#[110, 97, 109, 101]⟩, .string ⟨#[50, 46, 53, 46, 52, 46, 52, 49]⟩, .string ⟨#[115, 116, 114, 101, 101, 116]⟩, .string ⟨#[115, 116, 114, 101, 101, 116, 65, 100, 100, 114, 101, 115, 115]⟩, .string ⟨#[50, 46, 53, 46, 52, 46, 57]⟩, .string ⟨#[99, 45, 111, 117]⟩, .string ⟨#[67, 45, 79, 85]⟩, .string ⟨#[50, 46, 53, 46, 52, 46, 49, 49, 46, 49]⟩, .string ⟨#[100, 99]⟩, .string ⟨#[100, 111, 109, 97, 105, 110, 67, 111, 109, 112, 111, 110, 101, 110, 116]⟩, .string ⟨#[48, 46, 57, 46, 50, 51, 52, 50, 46, 49, 57, 50, 48, 48, 51, 48, 48, 46, 49, 48, 48, 46, 49, 46, 50, 53]⟩, .string ⟨#[117, 105, 100]⟩, .string ⟨#[117, 115, 101, 114, 105, 100]⟩, .string ⟨#[48, 46, 57, 46, 50, 51, 52, 50, 46, 49, 57, 50, 48, 48, 51, 48, 48, 46, 49, 48, 48, 46, 49, 46, 49]⟩, .string ⟨#[109, 97, 105, 108]⟩, .string ⟨#[114, 102, 99, 56, 50, 50, 77, 97, 105, 108, 98, 111, 120]⟩, .string ⟨#[48, 46, 57, 46, 50, 51, 52, 50, 46, 49, 57, 50, 48, 48, 51, 48, 48, 46, 49, 48, 48, 46, 49, 46, 51]⟩, .string ⟨#[111, 98, 106, 101, 99, 116, 99, 108, 97, 115, 115]⟩, .string ⟨#[111, 98, 106, 101, 99, 116, 67, 108, 97, 115, 115]⟩, .string ⟨#[50, 46, 53, 46, 52, 46, 48]⟩, .string ⟨#[99, 114, 101, 97, 116, 101, 116, 105, 109, 101, 115, 116, 97, 109, 112]⟩, .string ⟨#[99, 114, 101, 97, 116, 101, 84, 105, 109, 101, 115, 116, 97, 109, 112]⟩, .string ⟨#[50, 46, 53, 46, 49, 56, 46, 49]⟩]
theorem laidOut : laidOutB Tryd.prog = true := by kernel_rfl

set_option maxRecDepth 100000 in
theorem contract (H : Type) (enc : TypeId × Value → H) (W : World) (base : Nat) (args : Array Value) (ds gs : List (DataW H)) (before : List MemPlace)
    (hval0 : ∀ (j : Nat) t v, Tryd.f6.params[j]? = some t → args[j]? = some v → Value.okWide Tryd.prog W .any base t v)
    (hW : DataW.Whole enc Tryd.prog Tryd.f6.params.toList Rows.attrSupersSpec.vars false W args.toList ds gs before)
    (hsz0 : (DataW.weightsEach Tryd.prog (Tryd.f6.params.toList ++ Rows.attrSupersSpec.plain.varTypes Tryd.prog) (ds ++ gs)).all (· ≤ reachBytes) = true) (hL : laidMetH Tryd.prog Rows.attrSupersRow.laid W) :
    Calls Tryd.prog 6 args W fun e W' => ∃ v, e = .returned v ∧ Rows.attrSupersSpec.post enc Tryd.prog Tryd.f6 false true false false W args v W' := by
  have hval := hval0
  have hsz := hsz0
  have hW' := hW
  obtain ⟨p, q, hA0, hV, rfl, hfz, hnd⟩ := hW
  have hA : DataW.TrodAll enc Tryd.prog W 0 (fun _ => true) true Tryd.f6.params.toList args.toList ds p := hA0
  rw [Tryd.params6] at hA hval hsz
  obtain ⟨v0, vs0, d0, ds0, p0, q0, hargs, rfl, rfl, h0, r0⟩ := trodAll_cons hA
  obtain ⟨v1, vs1, d1, ds1, p1, q1, rfl, rfl, rfl, h1, r1⟩ := trodAll_cons r0
  obtain ⟨rfl, rfl, rfl⟩ := trodAll_nil r1
  obtain rfl : args = #[v0, v1] := by cases args; simp_all
  obtain ⟨rfl, rfl⟩ := trodVars_none hV
  obtain ⟨a0, rfl, rfl, rfl, w0⟩ := open_string Tryd.underlying9 (hval 0 9 v0 rfl rfl) h0
  obtain ⟨a1, rfl, rfl, rfl, w1⟩ := open_int Tryd.underlying3 (hval 1 3 v1 rfl rfl) h1
  have z0 := sized_string hsz (j := 0) (t := 9) (bytes := a0.data.toList) rfl rfl
  rw [size_l] at z0
  clear hA0 hval0 hsz0
  refine (attrSupers_walk a0 a1 W z0 w1 (tab_supers hL) (tab_syntaxes (laidMet.tail hL)) (tab_known (laidMet.tail (laidMet.tail hL)))).mono fun e W' ⟨he, bel⟩ => ?_
  subst he
  exact ⟨_, rfl, _, _, _, [], _, [], hW', trodAll_mk1 (shut_bool Tryd.underlying4 _), (trodAll_cons_mk (shut_string Tryd.underlying9 w0) (trodAll_cons_mk (shut_int Tryd.underlying3 w1) trodAll_mk0)), rfl, bel.frame _, fun h => by cases h⟩

theorem laid_met (os : Os) : laidMet Tryd.prog Rows.attrSupersRow.laid (((((World.holding Tryd.prog os ⟨#[], #[], []⟩).setCells 4 0 supersCells).setCells 1 0 syntaxesCells).setCells 0 0 knownCells).forCall (fun _ _ => 0) ⟨#[], #[.string ByteArray.empty, .int .i64 0], []⟩).memory :=
  laidMet_of_run' 8 (by kernel_rfl) (by kernel_rfl)
theorem reads (os : Os) {H : Type} (enc : TypeId × Value → H) : ∃ places, DataW.whole enc Tryd.prog (((((World.holding Tryd.prog os ⟨#[], #[], []⟩).setCells 4 0 supersCells).setCells 1 0 syntaxesCells).setCells 0 0 knownCells).forCall (fun _ _ => 0) ⟨#[], #[.string ByteArray.empty, .int .i64 0], []⟩).memory Tryd.f6.params.toList Rows.attrSupersSpec.vars false #[Value.string ByteArray.empty, Value.int .i64 0].toList 8 = some ([.lit (.string []), .lit (.int .i64 0)], [], places) :=
  ⟨[], by kernel_rfl⟩

set_option maxRecDepth 100000 in
set_option maxHeartbeats 1000000 in
theorem lifted (os : Os) (started : os.Started) (H : Type) (enc : TypeId × Value → H) (F : Stop.Interp) :
    ReturnsInHanded {} Tryd.checked os 6 .any ((OpenSpec.ofChange Rows.attrSupersSpec).preRow enc Tryd.prog Tryd.f6 Rows.attrSupersRow.domain false Rows.attrSupersRow.laid) (((OpenSpec.ofChange Rows.attrSupersSpec).at F).post enc Tryd.prog Tryd.f6 false true false false) := by
  obtain ⟨places, hx⟩ := reads os enc
  refine returnsInHanded_of_row (C := Tryd.checked) (s := OpenSpec.ofChange Rows.attrSupersSpec) own started (by kernel_rfl) Tryd.func6
    (witness_row_at (enc := enc) (C := Tryd.checked) false ((((World.holding Tryd.prog os ⟨#[], #[], []⟩).setCells 4 0 supersCells).setCells 1 0 syntaxesCells).setCells 0 0 knownCells) #[.string ByteArray.empty, .int .i64 0] rfl (by kernel_rfl) (by kernel_rfl) (by kernel_rfl)
      (OpenSpec.preRow_of_cond 8 hx (by kernel_rfl) (fun k hk => by cases hk) (by kernel_rfl) (laid_met os))) ?_
  intro W base args ds gs before hval hW _ hcond hsz hL _ _
  exact contract H enc W base args ds gs before hval hW hsz hL

theorem said : Rows.AttrSupersSaid :=
  OpenClaim.holds_of_cond 6 Tryd.f6 rfl rfl rfl rfl rfl rfl rfl ⟨rfl, rfl, rfl, rfl, rfl⟩ rfl rfl rfl rfl rfl (by kernel_rfl) Tryd.func6 (by kernel_rfl)
    (of_decide_eq_true (by kernel_rfl)) (by unfold Func.isWrapper; first | (rw [if_pos (by decide +kernel)]; kernel_rfl) | (rw [if_neg (by decide +kernel)]; exact ⟨rfl, rfl⟩))
    (fun os started H enc _ F => by rw [OpenClaim.pre_eq_preRow]; exact lifted os started H enc F)

theorem plain (f : FuncId) (fn : Func) (hf : Tryd.pinned.checked.prog.funcNamed "roster/rosterlaw04.AttrSupers" = some f) (hfn : Tryd.pinned.checked.prog.funcs[f]? = some fn) :
    false = Tryd.pinned.checked.prog.looks [] ∧ ∀ (j : Nat) t, fn.params[j]? = some t → Tryd.pinned.checked.prog.wantsStandIn t = false := by
  obtain rfl : f = 6 := Option.some.inj ((show Tryd.prog.funcNamed "roster/rosterlaw04.AttrSupers" = some 6 by kernel_rfl).symm.trans hf) |>.symm
  obtain rfl : fn = Tryd.f6 := (Option.some.inj (Tryd.func6.symm.trans hfn)).symm
  refine ⟨by kernel_rfl, fun j t ht => ?_⟩
  rw [Tryd.params6] at ht
  have hm := Array.mem_of_getElem? ht
  simp only [List.mem_toArray, List.mem_cons, List.mem_nil_iff, or_false] at hm
  rcases hm with rfl | rfl
  · exact (show Tryd.prog.wantsStandIn 9 = false by kernel_rfl)
  · exact (show Tryd.prog.wantsStandIn 3 = false by kernel_rfl)

theorem card : Rows.AttrSupersCardSaid :=
  Claim7.holds_tied_plain_at .later [] _ _ _ _ said (fun _ h => by cases h) (by kernel_rfl) (fun _ h => by cases h) attrSupers_row_tie rfl ⟨rfl, rfl⟩ (by kernel_rfl) rfl plain (by kernel_rfl)
end AttrSupersDone

theorem attrSupers_card : Rows.AttrSupersCardSaid := AttrSupersDone.card
#print axioms attrSupers_card
end Go.Proofs.YtnboimoncpphlaaDoor
