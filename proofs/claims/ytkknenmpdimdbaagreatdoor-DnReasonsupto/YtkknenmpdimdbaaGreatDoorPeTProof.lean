import Derived.LaidHandle
import Derived.Test.YtkknenmpdimdbaaGreatDoorFW19
import Derived.Test.YtkknenmpdimdbaaGreatDoorPeT
import Derived.Test.YtkknenmpdimdbaaGreatDoorCards
import Derived.Test.YtkknenmpdimdbaaGreatDoorTie
import Derived.ProofKit
import Derived.OpenShut
import Derived.ShutString
import Derived.ChangeOld
import Derived.SizedLaws
import Derived.Deep.DeepHandedRow
import Derived.Lib.LaidTab
import Derived.Stop.LaidErr
namespace Go.Proofs.YtkknenmpdimdbaaGreatDoor
namespace DnReasonsUptoDone
open Go.ChangeShapes Go.WideShapes Go.ChangeAt Go.RowKit
open Go.ChangeMaps (open_string shut_string)
set_option linter.unusedVariables false
def c_roster_rosterref01_rows : List Value := [.int .i64 1, .int .i64 0, .int .i64 127, .int .i64 0, .int .i64 0, .int .i64 0, .int .i64 0, .int .i64 0, .int .i64 0, .int .i64 2, .int .i64 194, .int .i64 223, .int .i64 128, .int .i64 191, .int .i64 0, .int .i64 0, .int .i64 0, .int .i64 0, .int .i64 3, .int .i64 224, .int .i64 224, .int .i64 160, .int .i64 191, .int .i64 128, .int .i64 191, .int .i64 0, .int .i64 0, .int .i64 3, .int .i64 225, .int .i64 236, .int .i64 128, .int .i64 191, .int .i64 128, .int .i64 191, .int .i64 0, .int .i64 0, .int .i64 3, .int .i64 237, .int .i64 237, .int .i64 128, .int .i64 159, .int .i64 128, .int .i64 191, .int .i64 0, .int .i64 0, .int .i64 3, .int .i64 238, .int .i64 239, .int .i64 128, .int .i64 191, .int .i64 128, .int .i64 191, .int .i64 0, .int .i64 0, .int .i64 4, .int .i64 240, .int .i64 240, .int .i64 144, .int .i64 191, .int .i64 128, .int .i64 191, .int .i64 128, .int .i64 191, .int .i64 4, .int .i64 241, .int .i64 243, .int .i64 128, .int .i64 191, .int .i64 128, .int .i64 191, .int .i64 128, .int .i64 191, .int .i64 4, .int .i64 244, .int .i64 244, .int .i64 128, .int .i64 143, .int .i64 128, .int .i64 191, .int .i64 128, .int .i64 191]
def c_errors_errorType : List Value := [.iface 155 (.agg #[.pointer (some ⟨13, 32, none⟩)])]
def c_roster_dn_ErrLong : List Value := [.iface 256 (.pointer (some ⟨19, 0, none⟩))]
def c_roster_dn_ErrUTF8 : List Value := [.iface 256 (.pointer (some ⟨20, 0, none⟩))]
def c_roster_dn_ErrType : List Value := [.iface 256 (.pointer (some ⟨21, 0, none⟩))]
def c_roster_dn_ErrEquals : List Value := [.iface 256 (.pointer (some ⟨22, 0, none⟩))]
def c_roster_dn_ErrEscape : List Value := [.iface 256 (.pointer (some ⟨23, 0, none⟩))]
def c_roster_dn_ErrChar : List Value := [.iface 256 (.pointer (some ⟨24, 0, none⟩))]
def c_roster_dn_ErrHex : List Value := [.iface 256 (.pointer (some ⟨25, 0, none⟩))]
def c_roster_dn_ErrTwice : List Value := [.iface 256 (.pointer (some ⟨26, 0, none⟩))]
def c_roster_dn_ErrWide : List Value := [.iface 256 (.pointer (some ⟨27, 0, none⟩))]
def c_roster_dn_ErrMade : List Value := [.iface 256 (.pointer (some ⟨28, 0, none⟩))]
def objs : Array Obj := #[.cells #[.string ⟨#[101, 114, 114, 111, 114]⟩] 274, .cells #[.string ⟨#[110, 97, 109, 101, 32, 116, 111, 111, 32, 108, 111, 110, 103]⟩] 274, .cells #[.string ⟨#[110, 111, 32, 85, 84, 70, 45, 56]⟩] 274, .cells #[.string ⟨#[110, 111, 32, 97, 116, 116, 114, 105, 98, 117, 116, 101, 32, 116, 121, 112, 101]⟩] 274, .cells #[.string ⟨#[110, 111, 32, 101, 113, 117, 97, 108, 115, 32, 115, 105, 103, 110]⟩] 274, .cells #[.string ⟨#[110, 111, 116, 104, 105, 110, 103, 32, 114, 105, 103, 104, 116, 32, 98, 101, 104, 105, 110, 100, 32, 97, 32, 98, 97, 99, 107, 115, 108, 97, 115, 104]⟩] 274, .cells #[.string ⟨#[97, 32, 98, 121, 116, 101, 32, 116, 104, 97, 116, 32, 109, 117, 115, 116, 32, 98, 101, 32, 101, 115, 99, 97, 112, 101, 100]⟩] 274, .cells #[.string ⟨#[110, 111, 32, 104, 101, 120, 32, 118, 97, 108, 117, 101]⟩] 274, .cells #[.string ⟨#[97, 32, 116, 121, 112, 101, 32, 116, 119, 105, 99, 101, 32, 105, 110, 32, 97, 32, 112, 97, 114, 116]⟩] 274, .cells #[.string ⟨#[116, 111, 111, 32, 109, 97, 110, 121, 32, 112, 97, 114, 116, 115, 32, 111, 114, 32, 112, 97, 105, 114, 115]⟩] 274, .cells #[.string ⟨#[97, 32, 110, 97, 109, 101, 32, 116, 104, 97, 116, 32, 110, 111, 32, 116, 101, 120, 116, 32, 109, 101, 97, 110, 115]⟩] 274]
theorem own : ownKnob Tryz.prog.godebug = none := by kernel_rfl
theorem laidOut : laidOutB Tryz.prog = true := by kernel_rfl
set_option maxRecDepth 100000 in
set_option maxHeartbeats 1000000 in
theorem contract (H : Type) (enc : TypeId × Value → H) (W : World) (base : Nat) (args : Array Value) (ds gs : List (DataW H)) (before : List MemPlace)
  (hval0 : ∀ (j : Nat) t v, Tryz.f6.params[j]? = some t → args[j]? = some v → Value.okWide Tryz.prog W .any base t v)
  (hW : DataW.Whole enc Tryz.prog Tryz.f6.params.toList Rows.dnReasonsSpec.vars false W args.toList ds gs before)
  (hsz0 : (DataW.weightsEach Tryz.prog (Tryz.f6.params.toList ++ Rows.dnReasonsSpec.plain.varTypes Tryz.prog) (ds ++ gs)).all (· ≤ reachBytes) = true)
  (hk : Rows.uptoSmall H (ds ++ gs) = true) (hL : laidMetH Tryz.prog Rows.dnReasonsUptoRow.laid W) :
  Calls Tryz.prog 6 args W fun e W' => ∃ v, e = .returned v ∧ Rows.dnReasonsSpec.post enc Tryz.prog Tryz.f6 false true false false W args v W' := by
 have hval := hval0
 have hsz := hsz0
 have hW' := hW
 obtain ⟨p, q, hA0, hV, rfl, hfz, hnd⟩ := hW
 have hA : DataW.TrodAll enc Tryz.prog W 0 (fun _ => true) true Tryz.f6.params.toList args.toList ds p := hA0
 rw [Tryz.params6] at hA hval hsz
 obtain ⟨v0, vs0, d0, ds0, p0, q0, hargs, rfl, rfl, h0, r0⟩ := trodAll_cons hA
 obtain ⟨v1, vs1, d1, ds1, p1, q1, rfl, rfl, rfl, h1, r1⟩ := trodAll_cons r0
 obtain ⟨rfl, rfl, rfl⟩ := trodAll_nil r1
 obtain rfl : args = #[v0, v1] := by cases args; simp_all
 obtain ⟨rfl, rfl⟩ := trodVars_none hV
 obtain ⟨a0, rfl, rfl, rfl, w0⟩ := open_string Tryz.underlying9 (hval 0 9 v0 rfl rfl) h0
 have k1 := h1
 have lt1 : ∀ x ∈ p1, x.block < W.heap.size := by obtain ⟨m, hm⟩ := k1; exact DataW.trod_lt m _ _ _ hm
 have Y1 : Rows.uptoBulk d1 ≤ 1048576 := by
  have h := of_decide_eq_true hk
  simp only [List.append_nil, Rows.uptoBulkAll] at h
  omega
 obtain ⟨a1, n1, c1, rfl⟩ := okWide_slice Tryz.underlying23 (hval 1 23 v1 rfl rfl)
 obtain ⟨a1', l1, c1', e1, x1, s1, _⟩ := Ke.dn_of h1 rfl Y1
 injection e1 with e11 e12 e13
 subst e11 e13
 have z0 := sized_string hsz (j := 0) (t := 9) (bytes := a0.data.toList) rfl rfl
 rw [size_l] at z0
 have y0 : a0.size ≤ 1048576 := by
  have h := of_decide_eq_true hk
  simp only [List.append_nil, Rows.uptoBulkAll, Rows.uptoBulk, size_l] at h
  omega
 clear hA0 hval0 hsz0
 obtain ⟨hS, hE, hG⟩ := Ke.laid_dnReasons hL
 have hwk := Pa.dnReasons_walk _ a0.data.toList a1 c1 n1 l1 W (by rw [size_l]; omega) hS hE hG e12.symm x1 s1
 rw [S_of] at hwk
 refine hwk.mono fun e W' ⟨he, bel⟩ => ?_
 subst he
 exact ⟨_, rfl, _, _, _, [], _, [], hW', trodAll_mk1 (shut_bool Tryz.underlying4 _), (trodAll_cons_mk (shut_string Tryz.underlying9 w0) (trodAll_cons_mk (Below.trod laidOut (by kernel_rfl) (of_decide_eq_true (by kernel_rfl)) k1 bel lt1) trodAll_mk0)), rfl, bel.frame _, fun h => by cases h⟩
theorem laid_met (os : Os) : laidMetH Tryz.prog Rows.dnReasonsUptoRow.laid ((((((((((((((World.holding Tryz.prog os ⟨objs, #[], []⟩).setCells 10 0 c_roster_rosterref01_rows).setCells 11 0 c_errors_errorType).setCells 0 0 c_roster_dn_ErrLong).setCells 1 0 c_roster_dn_ErrUTF8).setCells 2 0 c_roster_dn_ErrType).setCells 3 0 c_roster_dn_ErrEquals).setCells 4 0 c_roster_dn_ErrEscape).setCells 5 0 c_roster_dn_ErrChar).setCells 6 0 c_roster_dn_ErrHex).setCells 7 0 c_roster_dn_ErrTwice).setCells 8 0 c_roster_dn_ErrWide).setCells 9 0 c_roster_dn_ErrMade).forCall (fun _ _ => 0) ⟨#[], #[.string ByteArray.empty, .slice none 0 0], []⟩).memory :=
 laidMetH_of_parts (laidMet_of_run' 8 (by kernel_rfl) (by kernel_rfl)) (by kernel_rfl)
theorem reads (os : Os) {H : Type} (enc : TypeId × Value → H) : ∃ places, DataW.whole enc Tryz.prog ((((((((((((((World.holding Tryz.prog os ⟨objs, #[], []⟩).setCells 10 0 c_roster_rosterref01_rows).setCells 11 0 c_errors_errorType).setCells 0 0 c_roster_dn_ErrLong).setCells 1 0 c_roster_dn_ErrUTF8).setCells 2 0 c_roster_dn_ErrType).setCells 3 0 c_roster_dn_ErrEquals).setCells 4 0 c_roster_dn_ErrEscape).setCells 5 0 c_roster_dn_ErrChar).setCells 6 0 c_roster_dn_ErrHex).setCells 7 0 c_roster_dn_ErrTwice).setCells 8 0 c_roster_dn_ErrWide).setCells 9 0 c_roster_dn_ErrMade).forCall (fun _ _ => 0) ⟨#[], #[.string ByteArray.empty, .slice none 0 0], []⟩).memory Tryz.f6.params.toList Rows.dnReasonsSpec.vars false #[Value.string ByteArray.empty, Value.slice none 0 0].toList 8 = some ([.lit (.string []), .nil], [], places) :=
 ⟨[], by kernel_rfl⟩
set_option maxRecDepth 100000 in
set_option maxHeartbeats 1000000 in
theorem lifted (os : Os) (started : os.Started) (H : Type) (enc : TypeId × Value → H) (F : Stop.Interp) :
  ReturnsInHanded {} Tryz.checked os 6 .any ((Rows.OpenSpec.upto Rows.dnReasonsSpec).preRow enc Tryz.prog Tryz.f6 Rows.dnReasonsUptoRow.domain false Rows.dnReasonsUptoRow.laid) (((Rows.OpenSpec.upto Rows.dnReasonsSpec).at F).post enc Tryz.prog Tryz.f6 false true false false) := by
 obtain ⟨places, hx⟩ := reads os enc
 refine returnsInHanded_of_row (C := Tryz.checked) (s := Rows.OpenSpec.upto Rows.dnReasonsSpec) own started (by kernel_rfl) Tryz.func6
  (witness_row_at (enc := enc) (C := Tryz.checked) false (((((((((((((World.holding Tryz.prog os ⟨objs, #[], []⟩).setCells 10 0 c_roster_rosterref01_rows).setCells 11 0 c_errors_errorType).setCells 0 0 c_roster_dn_ErrLong).setCells 1 0 c_roster_dn_ErrUTF8).setCells 2 0 c_roster_dn_ErrType).setCells 3 0 c_roster_dn_ErrEquals).setCells 4 0 c_roster_dn_ErrEscape).setCells 5 0 c_roster_dn_ErrChar).setCells 6 0 c_roster_dn_ErrHex).setCells 7 0 c_roster_dn_ErrTwice).setCells 8 0 c_roster_dn_ErrWide).setCells 9 0 c_roster_dn_ErrMade) #[.string ByteArray.empty, .slice none 0 0] rfl (by kernel_rfl) (by kernel_rfl) (by kernel_rfl)
   (OpenSpec.preRow_of_cond 8 hx (by kernel_rfl) (fun k hk => by cases hk; kernel_rfl) (by kernel_rfl) (laid_met os))) ?_
 intro W base args ds gs before hval hW _ hcond hsz hL _ _
 exact contract H enc W base args ds gs before hval hW hsz (hcond _ rfl) hL
theorem said : Rows.DnReasonsUptoSaid :=
 OpenClaim.holds_of_cond 6 Tryz.f6 rfl rfl rfl rfl rfl rfl rfl ⟨rfl, rfl, rfl, rfl, rfl⟩ rfl rfl rfl rfl rfl (by kernel_rfl) Tryz.func6 (by kernel_rfl)
  (of_decide_eq_true (by kernel_rfl)) (by unfold Func.isWrapper; first | (rw [if_pos (by decide +kernel)]; kernel_rfl) | (rw [if_neg (by decide +kernel)]; exact ⟨rfl, rfl⟩))
  (fun os started H enc _ F => by rw [OpenClaim.pre_eq_preRow]; exact lifted os started H enc F)
theorem plain (f : FuncId) (fn : Func) (hf : Tryz.pinned.checked.prog.funcNamed "roster/rosterlaw05.DnReasons" = some f) (hfn : Tryz.pinned.checked.prog.funcs[f]? = some fn) :
  true = Tryz.pinned.checked.prog.looks [] ∧ ∀ (j : Nat) t, fn.params[j]? = some t → Tryz.pinned.checked.prog.wantsStandIn t = false := by
 obtain rfl : f = 6 := Option.some.inj ((show Tryz.prog.funcNamed "roster/rosterlaw05.DnReasons" = some 6 by kernel_rfl).symm.trans hf) |>.symm
 obtain rfl : fn = Tryz.f6 := (Option.some.inj (Tryz.func6.symm.trans hfn)).symm
 refine ⟨by kernel_rfl, fun j t ht => ?_⟩
 rw [Tryz.params6] at ht
 have hm := Array.mem_of_getElem? ht
 simp only [List.mem_toArray, List.mem_cons, List.mem_nil_iff, or_false] at hm
 rcases hm with rfl | rfl
 ·exact (show Tryz.prog.wantsStandIn 9 = false by kernel_rfl)
 ·exact (show Tryz.prog.wantsStandIn 23 = false by kernel_rfl)
theorem card : Rows.DnReasonsUptoCardSaid :=
 Claim7.holds_tied_plain_at .later [] _ _ _ _ said (fun _ h => by cases h) (by kernel_rfl) (fun _ h => by cases h) dnReasonsUpto_row_tie rfl ⟨rfl, rfl⟩ (by kernel_rfl) rfl plain (by kernel_rfl)
end DnReasonsUptoDone
theorem dnReasonsUpto_card : Rows.DnReasonsUptoCardSaid := DnReasonsUptoDone.card
#print axioms dnReasonsUpto_card
end Go.Proofs.YtkknenmpdimdbaaGreatDoor
