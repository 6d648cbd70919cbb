import Derived.Test.YtfmhcgadgakbhaaGreatDoorKgP
import Derived.Test.YtfmhcgadgakbhaaGreatDoorKfO
import Derived.Test.YtfmhcgadgakbhaaGreatDoorCards
import Derived.Test.YtfmhcgadgakbhaaGreatDoorTie
import Derived.ProofKit
import Derived.OpenShut
import Derived.ShutString
import Derived.ChangeOld
import Derived.SizedLaws
import Derived.Deep.DeepHandedRow
import Derived.Lib.LaidTab
import Derived.Stop.LaidErr
import Derived.LaidHandle
namespace Go.Proofs.YtfmhcgadgakbhaaGreatDoor
namespace DnPartUptoDone
open Go.ChangeShapes Go.WideShapes Go.ChangeAt Go.RowKit
set_option linter.unusedVariables false

def c_roster_rosterref01_rows : List Value := [.int .i64 1, .int .i64 0, .int .i64 127, .int .i64 0, .int .i64 0, .int .i64 0, .int .i64 0, .int .i64 0, .int .i64 0, .int .i64 2, .int .i64 194, .int .i64 223, .int .i64 128, .int .i64 191, .int .i64 0, .int .i64 0, .int .i64 0, .int .i64 0, .int .i64 3, .int .i64 224, .int .i64 224, .int .i64 160, .int .i64 191, .int .i64 128, .int .i64 191, .int .i64 0, .int .i64 0, .int .i64 3, .int .i64 225, .int .i64 236, .int .i64 128, .int .i64 191, .int .i64 128, .int .i64 191, .int .i64 0, .int .i64 0, .int .i64 3, .int .i64 237, .int .i64 237, .int .i64 128, .int .i64 159, .int .i64 128, .int .i64 191, .int .i64 0, .int .i64 0, .int .i64 3, .int .i64 238, .int .i64 239, .int .i64 128, .int .i64 191, .int .i64 128, .int .i64 191, .int .i64 0, .int .i64 0, .int .i64 4, .int .i64 240, .int .i64 240, .int .i64 144, .int .i64 191, .int .i64 128, .int .i64 191, .int .i64 128, .int .i64 191, .int .i64 4, .int .i64 241, .int .i64 243, .int .i64 128, .int .i64 191, .int .i64 128, .int .i64 191, .int .i64 128, .int .i64 191, .int .i64 4, .int .i64 244, .int .i64 244, .int .i64 128, .int .i64 143, .int .i64 128, .int .i64 191, .int .i64 128, .int .i64 191]
def c_errors_errorType : List Value := [.iface 152 (.agg #[.pointer (some ⟨13, 27, none⟩)])]
def c_roster_dn_ErrLong : List Value := [.iface 176 (.pointer (some ⟨19, 0, none⟩))]
def c_roster_dn_ErrUTF8 : List Value := [.iface 176 (.pointer (some ⟨20, 0, none⟩))]
def c_roster_dn_ErrType : List Value := [.iface 176 (.pointer (some ⟨21, 0, none⟩))]
def c_roster_dn_ErrEquals : List Value := [.iface 176 (.pointer (some ⟨22, 0, none⟩))]
def c_roster_dn_ErrEscape : List Value := [.iface 176 (.pointer (some ⟨23, 0, none⟩))]
def c_roster_dn_ErrChar : List Value := [.iface 176 (.pointer (some ⟨24, 0, none⟩))]
def c_roster_dn_ErrHex : List Value := [.iface 176 (.pointer (some ⟨25, 0, none⟩))]
def c_roster_dn_ErrTwice : List Value := [.iface 176 (.pointer (some ⟨26, 0, none⟩))]
def c_roster_dn_ErrWide : List Value := [.iface 176 (.pointer (some ⟨27, 0, none⟩))]
def c_roster_dn_ErrMade : List Value := [.iface 176 (.pointer (some ⟨28, 0, none⟩))]
def objs : Array Obj := #[.cells #[.string ⟨#[101, 114, 114, 111, 114]⟩] 195, .cells #[.string ⟨#[110, 97, 109, 101, 32, 116, 111, 111, 32, 108, 111, 110, 103]⟩] 195, .cells #[.string ⟨#[110, 111, 32, 85, 84, 70, 45, 56]⟩] 195, .cells #[.string ⟨#[110, 111, 32, 97, 116, 116, 114, 105, 98, 117, 116, 101, 32, 116, 121, 112, 101]⟩] 195, .cells #[.string ⟨#[110, 111, 32, 101, 113, 117, 97, 108, 115, 32, 115, 105, 103, 110]⟩] 195, .cells #[.string ⟨#[110, 111, 116, 104, 105, 110, 103, 32, 114, 105, 103, 104, 116, 32, 98, 101, 104, 105, 110, 100, 32, 97, 32, 98, 97, 99, 107, 115, 108, 97, 115, 104]⟩] 195, .cells #[.string ⟨#[97, 32, 98, 121, 116, 101, 32, 116, 104, 97, 116, 32, 109, 117, 115, 116, 32, 98, 101, 32, 101, 115, 99, 97, 112, 101, 100]⟩] 195, .cells #[.string ⟨#[110, 111, 32, 104, 101, 120, 32, 118, 97, 108, 117, 101]⟩] 195, .cells #[.string ⟨#[97, 32, 116, 121, 112, 101, 32, 116, 119, 105, 99, 101, 32, 105, 110, 32, 97, 32, 112, 97, 114, 116]⟩] 195, .cells #[.string ⟨#[116, 111, 111, 32, 109, 97, 110, 121, 32, 112, 97, 114, 116, 115, 32, 111, 114, 32, 112, 97, 105, 114, 115]⟩] 195, .cells #[.string ⟨#[97, 32, 110, 97, 109, 101, 32, 116, 104, 97, 116, 32, 110, 111, 32, 116, 101, 120, 116, 32, 109, 101, 97, 110, 115]⟩] 195]
/-- A part that came in. -/
theorem rdn_in {H : Type} {enc : TypeId × Value → H} {w : World} {base : Nat} {spare : Nat → Bool} {held : Bool} {v : Value} {d : DataW H} {p : List MemPlace}
    (hf : DataW.Trod enc Tryz.prog w base spare held 23 v d p) (hv1 : v.cells = #[v]) (hB : Rows.uptoBulk d ≤ 1048576) : ∃ a, ∃ L : List Du.PR, ∃ cap, v = .slice a L.length cap ∧ Du.PRow w a L ∧ ((∀ p ∈ L, p.1.length + p.2.length ≤ 4194300) ∧ L.length ≤ 1073741824) ∧ True := by
  obtain ⟨fuel, hf⟩ := hf
  rw [hv1] at hf
  obtain ⟨⟨a, cap, L⟩, e, ⟨h1, _, _⟩, h2⟩ := Ke.rdn_of hf
  have h3 : Ke.zR (a, cap, L) = (L.map Ke.zP).sum + 1 := rfl
  refine ⟨a, L, cap, by simpa [Du.xV] using e, h1, ⟨fun q hq => ?_, ?_⟩, trivial⟩
  · have h4 := Ke.sum_mem Ke.zP L q hq
    have h5 : Ke.zP q = q.1.length + q.2.length + 1 := rfl
    omega
  · have h4 := Ke.sum_len Ke.zP (fun _ => by unfold Ke.zP; omega) L
    omega
theorem own : ownKnob Tryz.prog.godebug = none := by kernel_rfl
theorem laidOut : laidOutB Tryz.prog = true := by kernel_rfl

set_option maxRecDepth 100000 in
set_option maxHeartbeats 1000000 in
theorem contract (H : Type) (enc : TypeId × Value → H) (W : World) (base : Nat) (args : Array Value) (ds gs : List (DataW H)) (before : List MemPlace)
    (hval0 : ∀ (j : Nat) t v, Tryz.f3.params[j]? = some t → args[j]? = some v → Value.okWide Tryz.prog W .any base t v)
    (hW : DataW.Whole enc Tryz.prog Tryz.f3.params.toList Rows.dnPartSpec.vars false W args.toList ds gs before)
    (hsz0 : (DataW.weightsEach Tryz.prog (Tryz.f3.params.toList ++ Rows.dnPartSpec.plain.varTypes Tryz.prog) (ds ++ gs)).all (· ≤ reachBytes) = true)
    (hk : Rows.uptoSmall H (ds ++ gs) = true) (hL : laidMetH Tryz.prog Rows.dnPartUptoRow.laid W) :
    Calls Tryz.prog 3 args W fun e W' => ∃ v, e = .returned v ∧ Rows.dnPartSpec.post enc Tryz.prog Tryz.f3 false true false false W args v W' := by
  have hval := hval0
  have hsz := hsz0
  have hW' := hW
  obtain ⟨p, q, hA0, hV, rfl, hfz, hnd⟩ := hW
  have hA : DataW.TrodAll enc Tryz.prog W 0 (fun _ => true) true Tryz.f3.params.toList args.toList ds p := hA0
  rw [Tryz.params3] at hA hval hsz
  obtain ⟨v0, vs0, d0, ds0, p0, q0, hargs, rfl, rfl, h0, r0⟩ := trodAll_cons hA
  obtain ⟨rfl, rfl, rfl⟩ := trodAll_nil r0
  obtain rfl : args = #[v0] := by cases args; simp_all
  obtain ⟨rfl, rfl⟩ := trodVars_none hV
  have k0 := h0
  have lt0 : ∀ x ∈ p0, x.block < W.heap.size := by obtain ⟨m, hm⟩ := k0; exact DataW.trod_lt m _ _ _ hm
  have Y0 : Rows.uptoBulk d0 ≤ 1048576 := by
    have h := of_decide_eq_true hk
    simp only [List.append_nil, Rows.uptoBulkAll] at h
    omega
  obtain ⟨a0, n0, c0, rfl⟩ := okWide_slice Tryz.underlying23 (hval 0 23 v0 rfl rfl)
  obtain ⟨a0', l0, c0', e0, x0, s0, _⟩ := rdn_in h0 rfl Y0
  injection e0 with e01 e02 e03
  subst e01 e03
  clear hA0 hval0 hsz0
  obtain ⟨hS, hE, hG⟩ := Ke.laid_parts (show laidMetH Tryz.prog Rows.dnKeyUptoRow.laid W from hL)
  refine (Ke.dnPart_walk _ a0 c0 n0 l0 W hS hE hG e02.symm x0 s0.1 (by rw [e02]; exact s0.2)).mono fun e W' ⟨he, bel⟩ => ?_
  subst he
  exact ⟨_, rfl, _, _, _, [], _, [], hW', trodAll_mk1 (shut_bool Tryz.underlying4 _), (trodAll_cons_mk (Below.trod laidOut (by kernel_rfl) (of_decide_eq_true (by kernel_rfl)) k0 bel lt0) trodAll_mk0), rfl, bel.frame _, fun h => by cases h⟩

theorem laid_met (os : Os) : laidMetH Tryz.prog Rows.dnPartUptoRow.laid ((((((((((((((World.holding Tryz.prog os ⟨objs, #[], []⟩).setCells 11 0 c_roster_rosterref01_rows).setCells 12 0 c_errors_errorType).setCells 4 0 c_roster_dn_ErrLong).setCells 3 0 c_roster_dn_ErrUTF8).setCells 5 0 c_roster_dn_ErrType).setCells 6 0 c_roster_dn_ErrEquals).setCells 7 0 c_roster_dn_ErrEscape).setCells 8 0 c_roster_dn_ErrChar).setCells 9 0 c_roster_dn_ErrHex).setCells 2 0 c_roster_dn_ErrTwice).setCells 0 0 c_roster_dn_ErrWide).setCells 1 0 c_roster_dn_ErrMade).forCall (fun _ _ => 0) ⟨#[], #[.slice none 0 0], []⟩).memory :=
  laidMetH_of_parts (laidMet_of_run' 8 (by kernel_rfl) (by kernel_rfl)) (by kernel_rfl)
theorem reads (os : Os) {H : Type} (enc : TypeId × Value → H) : ∃ places, DataW.whole enc Tryz.prog ((((((((((((((World.holding Tryz.prog os ⟨objs, #[], []⟩).setCells 11 0 c_roster_rosterref01_rows).setCells 12 0 c_errors_errorType).setCells 4 0 c_roster_dn_ErrLong).setCells 3 0 c_roster_dn_ErrUTF8).setCells 5 0 c_roster_dn_ErrType).setCells 6 0 c_roster_dn_ErrEquals).setCells 7 0 c_roster_dn_ErrEscape).setCells 8 0 c_roster_dn_ErrChar).setCells 9 0 c_roster_dn_ErrHex).setCells 2 0 c_roster_dn_ErrTwice).setCells 0 0 c_roster_dn_ErrWide).setCells 1 0 c_roster_dn_ErrMade).forCall (fun _ _ => 0) ⟨#[], #[.slice none 0 0], []⟩).memory Tryz.f3.params.toList Rows.dnPartSpec.vars false #[Value.slice none 0 0].toList 8 = some ([.nil], [], places) :=
  ⟨[], by kernel_rfl⟩

set_option maxRecDepth 100000 in
set_option maxHeartbeats 1000000 in
theorem lifted (os : Os) (started : os.Started) (H : Type) (enc : TypeId × Value → H) (F : Stop.Interp) :
    ReturnsInHanded {} Tryz.checked os 3 .any ((Rows.OpenSpec.upto Rows.dnPartSpec).preRow enc Tryz.prog Tryz.f3 Rows.dnPartUptoRow.domain false Rows.dnPartUptoRow.laid) (((Rows.OpenSpec.upto Rows.dnPartSpec).at F).post enc Tryz.prog Tryz.f3 false true false false) := by
  obtain ⟨places, hx⟩ := reads os enc
  refine returnsInHanded_of_row (C := Tryz.checked) (s := Rows.OpenSpec.upto Rows.dnPartSpec) own started (by kernel_rfl) Tryz.func3
    (witness_row_at (enc := enc) (C := Tryz.checked) false (((((((((((((World.holding Tryz.prog os ⟨objs, #[], []⟩).setCells 11 0 c_roster_rosterref01_rows).setCells 12 0 c_errors_errorType).setCells 4 0 c_roster_dn_ErrLong).setCells 3 0 c_roster_dn_ErrUTF8).setCells 5 0 c_roster_dn_ErrType).setCells 6 0 c_roster_dn_ErrEquals).setCells 7 0 c_roster_dn_ErrEscape).setCells 8 0 c_roster_dn_ErrChar).setCells 9 0 c_roster_dn_ErrHex).setCells 2 0 c_roster_dn_ErrTwice).setCells 0 0 c_roster_dn_ErrWide).setCells 1 0 c_roster_dn_ErrMade) #[.slice none 0 0] rfl (by kernel_rfl) (by kernel_rfl) (by kernel_rfl)
      (OpenSpec.preRow_of_cond 8 hx (by kernel_rfl) (fun k hk => by cases hk; kernel_rfl) (by kernel_rfl) (laid_met os))) ?_
  intro W base args ds gs before hval hW _ hcond hsz hL _ _
  exact contract H enc W base args ds gs before hval hW hsz (hcond _ rfl) hL

theorem said : Rows.DnPartUptoSaid :=
  OpenClaim.holds_of_cond 3 Tryz.f3 rfl rfl rfl rfl rfl rfl rfl ⟨rfl, rfl, rfl, rfl, rfl⟩ rfl rfl rfl rfl rfl (by kernel_rfl) Tryz.func3 (by kernel_rfl)
    (of_decide_eq_true (by kernel_rfl)) (by unfold Func.isWrapper; first | (rw [if_pos (by decide +kernel)]; kernel_rfl) | (rw [if_neg (by decide +kernel)]; exact ⟨rfl, rfl⟩))
    (fun os started H enc _ F => by rw [OpenClaim.pre_eq_preRow]; exact lifted os started H enc F)

theorem plain (f : FuncId) (fn : Func) (hf : Tryz.pinned.checked.prog.funcNamed "roster/rosterlaw05.DnPart" = some f) (hfn : Tryz.pinned.checked.prog.funcs[f]? = some fn) :
    true = Tryz.pinned.checked.prog.looks [] ∧ ∀ (j : Nat) t, fn.params[j]? = some t → Tryz.pinned.checked.prog.wantsStandIn t = false := by
  obtain rfl : f = 3 := Option.some.inj ((show Tryz.prog.funcNamed "roster/rosterlaw05.DnPart" = some 3 by kernel_rfl).symm.trans hf) |>.symm
  obtain rfl : fn = Tryz.f3 := (Option.some.inj (Tryz.func3.symm.trans hfn)).symm
  refine ⟨by kernel_rfl, fun j t ht => ?_⟩
  rw [Tryz.params3] at ht
  have hm := Array.mem_of_getElem? ht
  simp only [List.mem_toArray, List.mem_cons, List.mem_nil_iff, or_false] at hm
  subst hm
  · exact (show Tryz.prog.wantsStandIn 23 = false by kernel_rfl)

theorem card : Rows.DnPartUptoCardSaid :=
  Claim7.holds_tied_plain_at .later [] _ _ _ _ said (fun _ h => by cases h) (by kernel_rfl) (fun _ h => by cases h) dnPartUpto_row_tie rfl ⟨rfl, rfl⟩ (by kernel_rfl) rfl plain (by kernel_rfl)
end DnPartUptoDone

theorem dnPartUpto_card : Rows.DnPartUptoCardSaid := DnPartUptoDone.card
#print axioms dnPartUpto_card
end Go.Proofs.YtfmhcgadgakbhaaGreatDoor
