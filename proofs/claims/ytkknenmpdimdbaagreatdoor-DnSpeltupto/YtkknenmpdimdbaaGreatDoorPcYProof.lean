import Derived.Test.YtkknenmpdimdbaaGreatDoorPcO
import Derived.Test.YtkknenmpdimdbaaGreatDoorKeO
import Derived.Test.YtkknenmpdimdbaaGreatDoorCards
import Derived.Test.YtkknenmpdimdbaaGreatDoorTie
import Derived.ProofKit
import Derived.OpenShut
import Derived.ShutString
import Derived.ChangeOld
import Derived.SizedLaws
import Derived.Deep.DeepHandedRow
import Derived.Lib.LaidTab
import Derived.Stop.LaidErr
namespace Go.Proofs.YtkknenmpdimdbaaGreatDoor
namespace DnSpeltUptoDone
open Go.ChangeShapes Go.WideShapes Go.ChangeAt Go.RowKit
set_option linter.unusedVariables false

def c_roster_dn_ErrLong : List Value := [.iface 256 (.pointer (some ⟨18, 0, none⟩))]
def c_roster_dn_ErrUTF8 : List Value := [.iface 256 (.pointer (some ⟨19, 0, none⟩))]
def c_roster_dn_ErrType : List Value := [.iface 256 (.pointer (some ⟨20, 0, none⟩))]
def c_roster_dn_ErrEquals : List Value := [.iface 256 (.pointer (some ⟨21, 0, none⟩))]
def c_roster_dn_ErrEscape : List Value := [.iface 256 (.pointer (some ⟨22, 0, none⟩))]
def c_roster_dn_ErrChar : List Value := [.iface 256 (.pointer (some ⟨23, 0, none⟩))]
def c_roster_dn_ErrHex : List Value := [.iface 256 (.pointer (some ⟨24, 0, none⟩))]
def c_roster_dn_ErrTwice : List Value := [.iface 256 (.pointer (some ⟨25, 0, none⟩))]
def c_roster_dn_ErrWide : List Value := [.iface 256 (.pointer (some ⟨26, 0, none⟩))]
def c_roster_dn_ErrMade : List Value := [.iface 256 (.pointer (some ⟨27, 0, none⟩))]
def objs : Array Obj := #[.cells #[.string ⟨#[110, 97, 109, 101, 32, 116, 111, 111, 32, 108, 111, 110, 103]⟩] 274, .cells #[.string ⟨#[110, 111, 32, 85, 84, 70, 45, 56]⟩] 274, .cells #[.string ⟨#[110, 111, 32, 97, 116, 116, 114, 105, 98, 117, 116, 101, 32, 116, 121, 112, 101]⟩] 274, .cells #[.string ⟨#[110, 111, 32, 101, 113, 117, 97, 108, 115, 32, 115, 105, 103, 110]⟩] 274, .cells #[.string ⟨#[110, 111, 116, 104, 105, 110, 103, 32, 114, 105, 103, 104, 116, 32, 98, 101, 104, 105, 110, 100, 32, 97, 32, 98, 97, 99, 107, 115, 108, 97, 115, 104]⟩] 274, .cells #[.string ⟨#[97, 32, 98, 121, 116, 101, 32, 116, 104, 97, 116, 32, 109, 117, 115, 116, 32, 98, 101, 32, 101, 115, 99, 97, 112, 101, 100]⟩] 274, .cells #[.string ⟨#[110, 111, 32, 104, 101, 120, 32, 118, 97, 108, 117, 101]⟩] 274, .cells #[.string ⟨#[97, 32, 116, 121, 112, 101, 32, 116, 119, 105, 99, 101, 32, 105, 110, 32, 97, 32, 112, 97, 114, 116]⟩] 274, .cells #[.string ⟨#[116, 111, 111, 32, 109, 97, 110, 121, 32, 112, 97, 114, 116, 115, 32, 111, 114, 32, 112, 97, 105, 114, 115]⟩] 274, .cells #[.string ⟨#[97, 32, 110, 97, 109, 101, 32, 116, 104, 97, 116, 32, 110, 111, 32, 116, 101, 120, 116, 32, 109, 101, 97, 110, 115]⟩] 274]
theorem own : ownKnob Tryz.prog.godebug = none := by kernel_rfl
theorem laidOut : laidOutB Tryz.prog = true := by kernel_rfl

set_option maxRecDepth 100000 in
set_option maxHeartbeats 1000000 in
theorem contract (H : Type) (enc : TypeId × Value → H) (W : World) (base : Nat) (args : Array Value) (ds gs : List (DataW H)) (before : List MemPlace)
    (hval0 : ∀ (j : Nat) t v, Tryz.f3.params[j]? = some t → args[j]? = some v → Value.okWide Tryz.prog W .any base t v)
    (hW : DataW.Whole enc Tryz.prog Tryz.f3.params.toList Rows.dnSpeltSpec.vars false W args.toList ds gs before)
    (hsz0 : (DataW.weightsEach Tryz.prog (Tryz.f3.params.toList ++ Rows.dnSpeltSpec.plain.varTypes Tryz.prog) (ds ++ gs)).all (· ≤ reachBytes) = true)
    (hk : Rows.uptoSmall H (ds ++ gs) = true) (hL : laidMetH Tryz.prog Rows.dnSpeltUptoRow.laid W) :
    Calls Tryz.prog 3 args W fun e W' => ∃ v, e = .returned v ∧ Rows.dnSpeltSpec.post enc Tryz.prog Tryz.f3 false true false false W args v W' := by
  have hval := hval0
  have hsz := hsz0
  have hW' := hW
  obtain ⟨p, q, hA0, hV, rfl, hfz, hnd⟩ := hW
  have hA : DataW.TrodAll enc Tryz.prog W 0 (fun _ => true) true Tryz.f3.params.toList args.toList ds p := hA0
  rw [Tryz.params3] at hA hval hsz
  obtain ⟨v0, vs0, d0, ds0, p0, q0, hargs, rfl, rfl, h0, r0⟩ := trodAll_cons hA
  obtain ⟨v1, vs1, d1, ds1, p1, q1, rfl, rfl, rfl, h1, r1⟩ := trodAll_cons r0
  obtain ⟨rfl, rfl, rfl⟩ := trodAll_nil r1
  obtain rfl : args = #[v0, v1] := by cases args; simp_all
  obtain ⟨rfl, rfl⟩ := trodVars_none hV
  have k0 := h0
  have lt0 : ∀ x ∈ p0, x.block < W.heap.size := by obtain ⟨m, hm⟩ := k0; exact DataW.trod_lt m _ _ _ hm
  have Y0 : Rows.uptoBulk d0 ≤ 1048576 := by
    have h := of_decide_eq_true hk
    simp only [List.append_nil, Rows.uptoBulkAll] at h
    omega
  obtain ⟨a0, n0, c0, rfl⟩ := okWide_slice Tryz.underlying23 (hval 0 23 v0 rfl rfl)
  obtain ⟨a0', l0, c0', e0, x0, s0, _⟩ := Pa.dn_in h0 rfl Y0
  injection e0 with e01 e02 e03
  subst e01 e03
  have k1 := h1
  have lt1 : ∀ x ∈ p1, x.block < W.heap.size := by obtain ⟨m, hm⟩ := k1; exact DataW.trod_lt m _ _ _ hm
  have Y1 : Rows.uptoBulk d1 ≤ 1048576 := by
    have h := of_decide_eq_true hk
    simp only [List.append_nil, Rows.uptoBulkAll] at h
    omega
  obtain ⟨a1, n1, c1, rfl⟩ := okWide_slice Tryz.underlying24 (hval 1 24 v1 rfl rfl)
  obtain ⟨a1', n1', c1', e1, x1, s1⟩ := Pa.ints_in h1 rfl Y1
  injection e1 with e11 e12 e13
  subst e11 e12 e13
  clear hA0 hval0 hsz0
  obtain ⟨ev, hG⟩ := Pa.laid_in (L0 := Rows.dnSpeltUptoRow.laid) rfl (by rw [Go.MakeChecks.laidMetH_plain Tryz.prog Rows.dnSpeltUptoRow.laid W (by kernel_rfl)]) hL
  refine (Pa.dnSpelt_walk ev a0 c0 n0 l0 a1 n1 c1 W hG e02.symm x0 s0 x1 s1).mono fun e W' ⟨he, bel⟩ => ?_
  subst he
  exact ⟨_, rfl, _, _, _, [], _, [], hW', trodAll_mk1 (shut_bool Tryz.underlying4 _), (trodAll_cons_mk (Below.trod laidOut (by kernel_rfl) (of_decide_eq_true (by kernel_rfl)) k0 bel lt0) (trodAll_cons_mk (Below.trod laidOut (by kernel_rfl) (of_decide_eq_true (by kernel_rfl)) k1 bel lt1) trodAll_mk0)), rfl, bel.frame _, fun h => by cases h⟩

theorem laid_met (os : Os) : laidMet Tryz.prog Rows.dnSpeltUptoRow.laid ((((((((((((World.holding Tryz.prog os ⟨objs, #[], []⟩).setCells 0 0 c_roster_dn_ErrLong).setCells 1 0 c_roster_dn_ErrUTF8).setCells 2 0 c_roster_dn_ErrType).setCells 3 0 c_roster_dn_ErrEquals).setCells 4 0 c_roster_dn_ErrEscape).setCells 5 0 c_roster_dn_ErrChar).setCells 6 0 c_roster_dn_ErrHex).setCells 7 0 c_roster_dn_ErrTwice).setCells 8 0 c_roster_dn_ErrWide).setCells 9 0 c_roster_dn_ErrMade).forCall (fun _ _ => 0) ⟨#[], #[.slice none 0 0, .slice none 0 0], []⟩).memory :=
  laidMet_of_run' 8 (by kernel_rfl) (by kernel_rfl)
theorem reads (os : Os) {H : Type} (enc : TypeId × Value → H) : ∃ places, DataW.whole enc Tryz.prog ((((((((((((World.holding Tryz.prog os ⟨objs, #[], []⟩).setCells 0 0 c_roster_dn_ErrLong).setCells 1 0 c_roster_dn_ErrUTF8).setCells 2 0 c_roster_dn_ErrType).setCells 3 0 c_roster_dn_ErrEquals).setCells 4 0 c_roster_dn_ErrEscape).setCells 5 0 c_roster_dn_ErrChar).setCells 6 0 c_roster_dn_ErrHex).setCells 7 0 c_roster_dn_ErrTwice).setCells 8 0 c_roster_dn_ErrWide).setCells 9 0 c_roster_dn_ErrMade).forCall (fun _ _ => 0) ⟨#[], #[.slice none 0 0, .slice none 0 0], []⟩).memory Tryz.f3.params.toList Rows.dnSpeltSpec.vars false #[Value.slice none 0 0, Value.slice none 0 0].toList 8 = some ([.nil, .nil], [], places) :=
  ⟨[], by kernel_rfl⟩

set_option maxRecDepth 100000 in
set_option maxHeartbeats 1000000 in
theorem lifted (os : Os) (started : os.Started) (H : Type) (enc : TypeId × Value → H) (F : Stop.Interp) :
    ReturnsInHanded {} Tryz.checked os 3 .any ((Rows.OpenSpec.upto Rows.dnSpeltSpec).preRow enc Tryz.prog Tryz.f3 Rows.dnSpeltUptoRow.domain false Rows.dnSpeltUptoRow.laid) (((Rows.OpenSpec.upto Rows.dnSpeltSpec).at F).post enc Tryz.prog Tryz.f3 false true false false) := by
  obtain ⟨places, hx⟩ := reads os enc
  refine returnsInHanded_of_row (C := Tryz.checked) (s := Rows.OpenSpec.upto Rows.dnSpeltSpec) own started (by kernel_rfl) Tryz.func3
    (witness_row_at (enc := enc) (C := Tryz.checked) false (((((((((((World.holding Tryz.prog os ⟨objs, #[], []⟩).setCells 0 0 c_roster_dn_ErrLong).setCells 1 0 c_roster_dn_ErrUTF8).setCells 2 0 c_roster_dn_ErrType).setCells 3 0 c_roster_dn_ErrEquals).setCells 4 0 c_roster_dn_ErrEscape).setCells 5 0 c_roster_dn_ErrChar).setCells 6 0 c_roster_dn_ErrHex).setCells 7 0 c_roster_dn_ErrTwice).setCells 8 0 c_roster_dn_ErrWide).setCells 9 0 c_roster_dn_ErrMade) #[.slice none 0 0, .slice none 0 0] rfl (by kernel_rfl) (by kernel_rfl) (by kernel_rfl)
      (OpenSpec.preRow_of_cond 8 hx (by kernel_rfl) (fun k hk => by cases hk; kernel_rfl) (by kernel_rfl) (laid_met os))) ?_
  intro W base args ds gs before hval hW _ hcond hsz hL _ _
  exact contract H enc W base args ds gs before hval hW hsz (hcond _ rfl) hL

theorem said : Rows.DnSpeltUptoSaid :=
  OpenClaim.holds_of_cond 3 Tryz.f3 rfl rfl rfl rfl rfl rfl rfl ⟨rfl, rfl, rfl, rfl, rfl⟩ rfl rfl rfl rfl rfl (by kernel_rfl) Tryz.func3 (by kernel_rfl)
    (of_decide_eq_true (by kernel_rfl)) (by unfold Func.isWrapper; first | (rw [if_pos (by decide +kernel)]; kernel_rfl) | (rw [if_neg (by decide +kernel)]; exact ⟨rfl, rfl⟩))
    (fun os started H enc _ F => by rw [OpenClaim.pre_eq_preRow]; exact lifted os started H enc F)

theorem plain (f : FuncId) (fn : Func) (hf : Tryz.pinned.checked.prog.funcNamed "roster/rosterlaw05.DnSpelt" = some f) (hfn : Tryz.pinned.checked.prog.funcs[f]? = some fn) :
    true = Tryz.pinned.checked.prog.looks [] ∧ ∀ (j : Nat) t, fn.params[j]? = some t → Tryz.pinned.checked.prog.wantsStandIn t = false := by
  obtain rfl : f = 3 := Option.some.inj ((show Tryz.prog.funcNamed "roster/rosterlaw05.DnSpelt" = some 3 by kernel_rfl).symm.trans hf) |>.symm
  obtain rfl : fn = Tryz.f3 := (Option.some.inj (Tryz.func3.symm.trans hfn)).symm
  refine ⟨by kernel_rfl, fun j t ht => ?_⟩
  rw [Tryz.params3] at ht
  have hm := Array.mem_of_getElem? ht
  simp only [List.mem_toArray, List.mem_cons, List.mem_nil_iff, or_false] at hm
  rcases hm with rfl | rfl
  · exact (show Tryz.prog.wantsStandIn 23 = false by kernel_rfl)
  · exact (show Tryz.prog.wantsStandIn 24 = false by kernel_rfl)

theorem card : Rows.DnSpeltUptoCardSaid :=
  Claim7.holds_tied_plain_at .later [] _ _ _ _ said (fun _ h => by cases h) (by kernel_rfl) (fun _ h => by cases h) dnSpeltUpto_row_tie rfl ⟨rfl, rfl⟩ (by kernel_rfl) rfl plain (by kernel_rfl)
end DnSpeltUptoDone

theorem dnSpeltUpto_card : Rows.DnSpeltUptoCardSaid := DnSpeltUptoDone.card
#print axioms dnSpeltUpto_card
end Go.Proofs.YtkknenmpdimdbaaGreatDoor
