import Derived.Test.YtkknenmpdimdbaaDoorPyO
import Derived.LaidHandle
import Derived.Test.YtkknenmpdimdbaaDoorCards
import Derived.Test.YtkknenmpdimdbaaDoorTie
import Derived.ProofKit
import Derived.OpenShut
import Derived.ShutString
import Derived.ChangeOld
import Derived.SizedLaws
import Derived.Deep.DeepHandedRow
import Derived.Lib.LaidTab
import Derived.Stop.LaidErr
namespace Go.Proofs.YtkknenmpdimdbaaDoor
namespace DnStrangersDone
open Go.ChangeShapes Go.WideShapes Go.ChangeAt Go.RowKit
set_option linter.unusedVariables false

def c_errors_errorType : List Value := [.iface 114 (.agg #[.pointer (some ⟨12, 23, none⟩)])]
def c_roster_dn_ErrLong : List Value := [.iface 178 (.pointer (some ⟨18, 0, none⟩))]
def c_roster_dn_ErrUTF8 : List Value := [.iface 178 (.pointer (some ⟨19, 0, none⟩))]
def c_roster_dn_ErrType : List Value := [.iface 178 (.pointer (some ⟨20, 0, none⟩))]
def c_roster_dn_ErrEquals : List Value := [.iface 178 (.pointer (some ⟨21, 0, none⟩))]
def c_roster_dn_ErrEscape : List Value := [.iface 178 (.pointer (some ⟨22, 0, none⟩))]
def c_roster_dn_ErrChar : List Value := [.iface 178 (.pointer (some ⟨23, 0, none⟩))]
def c_roster_dn_ErrHex : List Value := [.iface 178 (.pointer (some ⟨24, 0, none⟩))]
def c_roster_dn_ErrTwice : List Value := [.iface 178 (.pointer (some ⟨25, 0, none⟩))]
def c_roster_dn_ErrWide : List Value := [.iface 178 (.pointer (some ⟨26, 0, none⟩))]
def c_roster_dn_ErrMade : List Value := [.iface 178 (.pointer (some ⟨27, 0, none⟩))]
def objs : Array Obj := #[.cells #[.string ⟨#[101, 114, 114, 111, 114]⟩] 197, .cells #[.string ⟨#[110, 97, 109, 101, 32, 116, 111, 111, 32, 108, 111, 110, 103]⟩] 197, .cells #[.string ⟨#[110, 111, 32, 85, 84, 70, 45, 56]⟩] 197, .cells #[.string ⟨#[110, 111, 32, 97, 116, 116, 114, 105, 98, 117, 116, 101, 32, 116, 121, 112, 101]⟩] 197, .cells #[.string ⟨#[110, 111, 32, 101, 113, 117, 97, 108, 115, 32, 115, 105, 103, 110]⟩] 197, .cells #[.string ⟨#[110, 111, 116, 104, 105, 110, 103, 32, 114, 105, 103, 104, 116, 32, 98, 101, 104, 105, 110, 100, 32, 97, 32, 98, 97, 99, 107, 115, 108, 97, 115, 104]⟩] 197, .cells #[.string ⟨#[97, 32, 98, 121, 116, 101, 32, 116, 104, 97, 116, 32, 109, 117, 115, 116, 32, 98, 101, 32, 101, 115, 99, 97, 112, 101, 100]⟩] 197, .cells #[.string ⟨#[110, 111, 32, 104, 101, 120, 32, 118, 97, 108, 117, 101]⟩] 197, .cells #[.string ⟨#[97, 32, 116, 121, 112, 101, 32, 116, 119, 105, 99, 101, 32, 105, 110, 32, 97, 32, 112, 97, 114, 116]⟩] 197, .cells #[.string ⟨#[116, 111, 111, 32, 109, 97, 110, 121, 32, 112, 97, 114, 116, 115, 32, 111, 114, 32, 112, 97, 105, 114, 115]⟩] 197, .cells #[.string ⟨#[97, 32, 110, 97, 109, 101, 32, 116, 104, 97, 116, 32, 110, 111, 32, 116, 101, 120, 116, 32, 109, 101, 97, 110, 115]⟩] 197]
theorem own : ownKnob Tryd.prog.godebug = none := by kernel_rfl
theorem laidOut : laidOutB Tryd.prog = true := by kernel_rfl

set_option maxRecDepth 100000 in
set_option maxHeartbeats 1000000 in
theorem contract (H : Type) (enc : TypeId × Value → H) (W : World) (base : Nat) (args : Array Value) (ds gs : List (DataW H)) (before : List MemPlace)
    (hval0 : ∀ (j : Nat) t v, Tryd.f3.params[j]? = some t → args[j]? = some v → Value.okWide Tryd.prog W .any base t v)
    (hW : DataW.Whole enc Tryd.prog Tryd.f3.params.toList Rows.dnStrangersSpec.vars false W args.toList ds gs before)
    (hsz0 : (DataW.weightsEach Tryd.prog (Tryd.f3.params.toList ++ Rows.dnStrangersSpec.plain.varTypes Tryd.prog) (ds ++ gs)).all (· ≤ reachBytes) = true) (hL : laidMetH Tryd.prog Rows.dnStrangersRow.laid W) :
    Calls Tryd.prog 3 args W fun e W' => ∃ v, e = .returned v ∧ Rows.dnStrangersSpec.post enc Tryd.prog Tryd.f3 false true false false W args v W' := by
  have hval := hval0
  have hsz := hsz0
  have hW' := hW
  obtain ⟨p, q, hA0, hV, rfl, hfz, hnd⟩ := hW
  have hA : DataW.TrodAll enc Tryd.prog W 0 (fun _ => true) true Tryd.f3.params.toList args.toList ds p := hA0
  rw [Tryd.params3] at hA hval hsz
  obtain ⟨ha0, rfl, rfl⟩ := trodAll_nil hA
  obtain rfl : args = #[] := by cases args; simp_all
  obtain ⟨rfl, rfl⟩ := trodVars_none hV
  clear hA0 hval0 hsz0
  obtain ⟨hS, hT⟩ := Ke.laid_st hL
  refine (Ke.strangers_any W hS hT).mono fun e W' ⟨he, bel⟩ => ?_
  subst he
  exact ⟨_, rfl, _, _, _, [], _, [], hW', trodAll_mk1 (shut_bool Tryd.underlying4 _), trodAll_mk0, rfl, bel.frame _, fun h => by cases h⟩

theorem laid_met (os : Os) : laidMetH Tryd.prog Rows.dnStrangersRow.laid (((((((((((((World.holding Tryd.prog os ⟨objs, #[], []⟩).setCells 10 0 c_errors_errorType).setCells 0 0 c_roster_dn_ErrLong).setCells 1 0 c_roster_dn_ErrUTF8).setCells 2 0 c_roster_dn_ErrType).setCells 3 0 c_roster_dn_ErrEquals).setCells 4 0 c_roster_dn_ErrEscape).setCells 5 0 c_roster_dn_ErrChar).setCells 6 0 c_roster_dn_ErrHex).setCells 7 0 c_roster_dn_ErrTwice).setCells 8 0 c_roster_dn_ErrWide).setCells 9 0 c_roster_dn_ErrMade).forCall (fun _ _ => 0) ⟨#[], #[], []⟩).memory :=
  laidMetH_of_parts (laidMet_of_run' 8 (by kernel_rfl) (by kernel_rfl)) (by kernel_rfl)
theorem reads (os : Os) {H : Type} (enc : TypeId × Value → H) : ∃ places, DataW.whole enc Tryd.prog (((((((((((((World.holding Tryd.prog os ⟨objs, #[], []⟩).setCells 10 0 c_errors_errorType).setCells 0 0 c_roster_dn_ErrLong).setCells 1 0 c_roster_dn_ErrUTF8).setCells 2 0 c_roster_dn_ErrType).setCells 3 0 c_roster_dn_ErrEquals).setCells 4 0 c_roster_dn_ErrEscape).setCells 5 0 c_roster_dn_ErrChar).setCells 6 0 c_roster_dn_ErrHex).setCells 7 0 c_roster_dn_ErrTwice).setCells 8 0 c_roster_dn_ErrWide).setCells 9 0 c_roster_dn_ErrMade).forCall (fun _ _ => 0) ⟨#[], #[], []⟩).memory Tryd.f3.params.toList Rows.dnStrangersSpec.vars false #[].toList 8 = some ([], [], places) :=
  ⟨[], by kernel_rfl⟩

set_option maxRecDepth 100000 in
set_option maxHeartbeats 1000000 in
theorem lifted (os : Os) (started : os.Started) (H : Type) (enc : TypeId × Value → H) (F : Stop.Interp) :
    ReturnsInHanded {} Tryd.checked os 3 .any ((OpenSpec.ofChange Rows.dnStrangersSpec).preRow enc Tryd.prog Tryd.f3 Rows.dnStrangersRow.domain false Rows.dnStrangersRow.laid) (((OpenSpec.ofChange Rows.dnStrangersSpec).at F).post enc Tryd.prog Tryd.f3 false true false false) := by
  obtain ⟨places, hx⟩ := reads os enc
  refine returnsInHanded_of_row (C := Tryd.checked) (s := OpenSpec.ofChange Rows.dnStrangersSpec) own started (by kernel_rfl) Tryd.func3
    (witness_row_at (enc := enc) (C := Tryd.checked) false ((((((((((((World.holding Tryd.prog os ⟨objs, #[], []⟩).setCells 10 0 c_errors_errorType).setCells 0 0 c_roster_dn_ErrLong).setCells 1 0 c_roster_dn_ErrUTF8).setCells 2 0 c_roster_dn_ErrType).setCells 3 0 c_roster_dn_ErrEquals).setCells 4 0 c_roster_dn_ErrEscape).setCells 5 0 c_roster_dn_ErrChar).setCells 6 0 c_roster_dn_ErrHex).setCells 7 0 c_roster_dn_ErrTwice).setCells 8 0 c_roster_dn_ErrWide).setCells 9 0 c_roster_dn_ErrMade) #[] rfl (by kernel_rfl) (by kernel_rfl) (by kernel_rfl)
      (OpenSpec.preRow_of_cond 8 hx (by kernel_rfl) (fun k hk => by cases hk) (by kernel_rfl) (laid_met os))) ?_
  intro W base args ds gs before hval hW _ hcond hsz hL _ _
  exact contract H enc W base args ds gs before hval hW hsz hL

theorem said : Rows.DnStrangersSaid :=
  OpenClaim.holds_of_cond 3 Tryd.f3 rfl rfl rfl rfl rfl rfl rfl ⟨rfl, rfl, rfl, rfl, rfl⟩ rfl rfl rfl rfl rfl (by kernel_rfl) Tryd.func3 (by kernel_rfl)
    (of_decide_eq_true (by kernel_rfl)) (by unfold Func.isWrapper; first | (rw [if_pos (by decide +kernel)]; kernel_rfl) | (rw [if_neg (by decide +kernel)]; exact ⟨rfl, rfl⟩))
    (fun os started H enc _ F => by rw [OpenClaim.pre_eq_preRow]; exact lifted os started H enc F)

theorem plain (f : FuncId) (fn : Func) (hf : Tryd.pinned.checked.prog.funcNamed "roster/rosterlaw05.DnStrangers" = some f) (hfn : Tryd.pinned.checked.prog.funcs[f]? = some fn) :
    true = Tryd.pinned.checked.prog.looks [] ∧ ∀ (j : Nat) t, fn.params[j]? = some t → Tryd.pinned.checked.prog.wantsStandIn t = false := by
  obtain rfl : f = 3 := Option.some.inj ((show Tryd.prog.funcNamed "roster/rosterlaw05.DnStrangers" = some 3 by kernel_rfl).symm.trans hf) |>.symm
  obtain rfl : fn = Tryd.f3 := (Option.some.inj (Tryd.func3.symm.trans hfn)).symm
  refine ⟨by kernel_rfl, fun j t ht => ?_⟩
  rw [Tryd.params3] at ht
  have hm := Array.mem_of_getElem? ht
  simp at hm

theorem card : Rows.DnStrangersCardSaid :=
  Claim7.holds_tied_plain_at .later [] _ _ _ _ said (fun _ h => by cases h) (by kernel_rfl) (fun _ h => by cases h) dnStrangers_row_tie rfl ⟨rfl, rfl⟩ (by kernel_rfl) rfl plain (by kernel_rfl)
end DnStrangersDone

theorem dnStrangers_card : Rows.DnStrangersCardSaid := DnStrangersDone.card
#print axioms dnStrangers_card
end Go.Proofs.YtkknenmpdimdbaaDoor
