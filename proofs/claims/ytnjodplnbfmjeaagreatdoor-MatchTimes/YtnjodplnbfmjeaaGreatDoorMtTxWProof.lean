import Derived.Test.YtnjodplnbfmjeaaGreatDoorMtTxO
import Derived.Test.YtnjodplnbfmjeaaGreatDoorCards
import Derived.Test.YtnjodplnbfmjeaaGreatDoorTie
import Derived.ProofKit
import Derived.OpenShut
import Derived.ShutString
import Derived.ChangeOld
import Derived.SizedLaws
import Derived.Deep.DeepHandedRow
import Derived.Lib.LaidTab
import Derived.Stop.LaidErr
namespace Go.Proofs.YtnjodplnbfmjeaaGreatDoor
namespace MatchTimesDone
open Go.ChangeShapes Go.WideShapes Go.ChangeAt Go.RowKit
open Go.ChangeMaps (open_string shut_string)
set_option linter.unusedVariables false

def c_math_bits_deBruijn32tab : List Value := [.int .u8 0, .int .u8 1, .int .u8 28, .int .u8 2, .int .u8 29, .int .u8 14, .int .u8 24, .int .u8 3, .int .u8 30, .int .u8 22, .int .u8 20, .int .u8 15, .int .u8 25, .int .u8 17, .int .u8 4, .int .u8 8, .int .u8 31, .int .u8 27, .int .u8 13, .int .u8 23, .int .u8 21, .int .u8 19, .int .u8 16, .int .u8 7, .int .u8 26, .int .u8 12, .int .u8 18, .int .u8 6, .int .u8 11, .int .u8 5, .int .u8 10, .int .u8 9]
def c_math_bits_deBruijn64tab : List Value := [.int .u8 0, .int .u8 1, .int .u8 56, .int .u8 2, .int .u8 57, .int .u8 49, .int .u8 28, .int .u8 3, .int .u8 61, .int .u8 58, .int .u8 42, .int .u8 50, .int .u8 38, .int .u8 29, .int .u8 17, .int .u8 4, .int .u8 62, .int .u8 47, .int .u8 59, .int .u8 36, .int .u8 45, .int .u8 43, .int .u8 51, .int .u8 22, .int .u8 53, .int .u8 39, .int .u8 33, .int .u8 30, .int .u8 24, .int .u8 18, .int .u8 12, .int .u8 5, .int .u8 63, .int .u8 55, .int .u8 48, .int .u8 27, .int .u8 60, .int .u8 41, .int .u8 37, .int .u8 16, .int .u8 46, .int .u8 35, .int .u8 44, .int .u8 21, .int .u8 52, .int .u8 32, .int .u8 23, .int .u8 11, .int .u8 54, .int .u8 26, .int .u8 40, .int .u8 15, .int .u8 34, .int .u8 20, .int .u8 31, .int .u8 10, .int .u8 25, .int .u8 14, .int .u8 19, .int .u8 9, .int .u8 13, .int .u8 8, .int .u8 7, .int .u8 6]
def c_internal_strconv_uint64pow10 : List Value := [.int .u64 1, .int .u64 10, .int .u64 100, .int .u64 1000, .int .u64 10000, .int .u64 100000, .int .u64 1000000, .int .u64 10000000, .int .u64 100000000, .int .u64 1000000000, .int .u64 10000000000, .int .u64 100000000000, .int .u64 1000000000000, .int .u64 10000000000000, .int .u64 100000000000000, .int .u64 1000000000000000, .int .u64 10000000000000000, .int .u64 100000000000000000, .int .u64 1000000000000000000, .int .u64 10000000000000000000]
def c_unicode_utf8_acceptRanges : List Value := [.int .u8 128, .int .u8 191, .int .u8 160, .int .u8 191, .int .u8 128, .int .u8 159, .int .u8 144, .int .u8 191, .int .u8 128, .int .u8 143, .int .u8 0, .int .u8 0, .int .u8 0, .int .u8 0, .int .u8 0, .int .u8 0, .int .u8 0, .int .u8 0, .int .u8 0, .int .u8 0, .int .u8 0, .int .u8 0, .int .u8 0, .int .u8 0, .int .u8 0, .int .u8 0, .int .u8 0, .int .u8 0, .int .u8 0, .int .u8 0, .int .u8 0, .int .u8 0]
def c_strconv_ErrRange : List Value := [.iface 213 (.pointer (some ⟨23, 0, none⟩))]
def c_strconv_ErrSyntax : List Value := [.iface 213 (.pointer (some ⟨24, 0, none⟩))]
def c_roster_dn_ErrLong : List Value := [.iface 213 (.pointer (some ⟨25, 0, none⟩))]
def c_roster_dn_ErrUTF8 : List Value := [.iface 213 (.pointer (some ⟨26, 0, none⟩))]
def c_roster_dn_ErrType : List Value := [.iface 213 (.pointer (some ⟨27, 0, none⟩))]
def c_roster_dn_ErrEquals : List Value := [.iface 213 (.pointer (some ⟨28, 0, none⟩))]
def c_roster_dn_ErrEscape : List Value := [.iface 213 (.pointer (some ⟨29, 0, none⟩))]
def c_roster_dn_ErrChar : List Value := [.iface 213 (.pointer (some ⟨30, 0, none⟩))]
def c_roster_dn_ErrHex : List Value := [.iface 213 (.pointer (some ⟨31, 0, none⟩))]
def c_roster_dn_ErrTwice : List Value := [.iface 213 (.pointer (some ⟨32, 0, none⟩))]
def c_roster_dn_ErrWide : List Value := [.iface 213 (.pointer (some ⟨33, 0, none⟩))]
def c_roster_dn_ErrMade : List Value := [.iface 213 (.pointer (some ⟨34, 0, none⟩))]
def c_unicode_utf8_first : List Value := [.int .u8 240, .int .u8 240, .int .u8 240, .int .u8 240, .int .u8 240, .int .u8 240, .int .u8 240, .int .u8 240, .int .u8 240, .int .u8 240, .int .u8 240, .int .u8 240, .int .u8 240, .int .u8 240, .int .u8 240, .int .u8 240, .int .u8 240, .int .u8 240, .int .u8 240, .int .u8 240, .int .u8 240, .int .u8 240, .int .u8 240, .int .u8 240, .int .u8 240, .int .u8 240, .int .u8 240, .int .u8 240, .int .u8 240, .int .u8 240, .int .u8 240, .int .u8 240, .int .u8 240, .int .u8 240, .int .u8 240, .int .u8 240, .int .u8 240, .int .u8 240, .int .u8 240, .int .u8 240, .int .u8 240, .int .u8 240, .int .u8 240, .int .u8 240, .int .u8 240, .int .u8 240, .int .u8 240, .int .u8 240, .int .u8 240, .int .u8 240, .int .u8 240, .int .u8 240, .int .u8 240, .int .u8 240, .int .u8 240, .int .u8 240, .int .u8 240, .int .u8 240, .int .u8 240, .int .u8 240, .int .u8 240, .int .u8 240, .int .u8 240, .int .u8 240, .int .u8 240, .int .u8 240, .int .u8 240, .int .u8 240, .int .u8 240, .int .u8 240, .int .u8 240, .int .u8 240, .int .u8 240, .int .u8 240, .int .u8 240, .int .u8 240, .int .u8 240, .int .u8 240, .int .u8 240, .int .u8 240, .int .u8 240, .int .u8 240, .int .u8 240, .int .u8 240, .int .u8 240, .int .u8 240, .int .u8 240, .int .u8 240, .int .u8 240, .int .u8 240, .int .u8 240, .int .u8 240, .int .u8 240, .int .u8 240, .int .u8 240, .int .u8 240, .int .u8 240, .int .u8 240, .int .u8 240, .int .u8 240, .int .u8 240, .int .u8 240, .int .u8 240, .int .u8 240, .int .u8 240, .int .u8 240, .int .u8 240, .int .u8 240, .int .u8 240, .int .u8 240, .int .u8 240, .int .u8 240, .int .u8 240, .int .u8 240, .int .u8 240, .int .u8 240, .int .u8 240, .int .u8 240, .int .u8 240, .int .u8 240, .int .u8 240, .int .u8 240, .int .u8 240, .int .u8 240, .int .u8 240, .int .u8 240, .int .u8 240, .int .u8 240, .int .u8 241, .int .u8 241, .int .u8 241, .int .u8 241, .int .u8 241, .int .u8 241, .int .u8 241, .int .u8 241, .int .u8 241, .int .u8 241, .int .u8 241, .int .u8 241, .int .u8 241, .int .u8 241, .int .u8 241, .int .u8 241, .int .u8 241, .int .u8 241, .int .u8 241, .int .u8 241, .int .u8 241, .int .u8 241, .int .u8 241, .int .u8 241, .int .u8 241, .int .u8 241, .int .u8 241, .int .u8 241, .int .u8 241, .int .u8 241, .int .u8 241, .int .u8 241, .int .u8 241, .int .u8 241, .int .u8 241, .int .u8 241, .int .u8 241, .int .u8 241, .int .u8 241, .int .u8 241, .int .u8 241, .int .u8 241, .int .u8 241, .int .u8 241, .int .u8 241, .int .u8 241, .int .u8 241, .int .u8 241, .int .u8 241, .int .u8 241, .int .u8 241, .int .u8 241, .int .u8 241, .int .u8 241, .int .u8 241, .int .u8 241, .int .u8 241, .int .u8 241, .int .u8 241, .int .u8 241, .int .u8 241, .int .u8 241, .int .u8 241, .int .u8 241, .int .u8 241, .int .u8 241, .int .u8 2, .int .u8 2, .int .u8 2, .int .u8 2, .int .u8 2, .int .u8 2, .int .u8 2, .int .u8 2, .int .u8 2, .int .u8 2, .int .u8 2, .int .u8 2, .int .u8 2, .int .u8 2, .int .u8 2, .int .u8 2, .int .u8 2, .int .u8 2, .int .u8 2, .int .u8 2, .int .u8 2, .int .u8 2, .int .u8 2, .int .u8 2, .int .u8 2, .int .u8 2, .int .u8 2, .int .u8 2, .int .u8 2, .int .u8 2, .int .u8 19, .int .u8 3, .int .u8 3, .int .u8 3, .int .u8 3, .int .u8 3, .int .u8 3, .int .u8 3, .int .u8 3, .int .u8 3, .int .u8 3, .int .u8 3, .int .u8 3, .int .u8 35, .int .u8 3, .int .u8 3, .int .u8 52, .int .u8 4, .int .u8 4, .int .u8 4, .int .u8 68, .int .u8 241, .int .u8 241, .int .u8 241, .int .u8 241, .int .u8 241, .int .u8 241, .int .u8 241, .int .u8 241, .int .u8 241, .int .u8 241, .int .u8 241]
def objs : Array Obj := #[.cells #[.string ⟨#[118, 97, 108, 117, 101, 32, 111, 117, 116, 32, 111, 102, 32, 114, 97, 110, 103, 101]⟩] 215, .cells #[.string ⟨#[105, 110, 118, 97, 108, 105, 100, 32, 115, 121, 110, 116, 97, 120]⟩] 215, .cells #[.string ⟨#[110, 97, 109, 101, 32, 116, 111, 111, 32, 108, 111, 110, 103]⟩] 215, .cells #[.string ⟨#[110, 111, 32, 85, 84, 70, 45, 56]⟩] 215, .cells #[.string ⟨#[110, 111, 32, 97, 116, 116, 114, 105, 98, 117, 116, 101, 32, 116, 121, 112, 101]⟩] 215, .cells #[.string ⟨#[110, 111, 32, 101, 113, 117, 97, 108, 115, 32, 115, 105, 103, 110]⟩] 215, .cells #[.string ⟨#[110, 111, 116, 104, 105, 110, 103, 32, 114, 105, 103, 104, 116, 32, 98, 101, 104, 105, 110, 100, 32, 97, 32, 98, 97, 99, 107, 115, 108, 97, 115, 104]⟩] 215, .cells #[.string ⟨#[97, 32, 98, 121, 116, 101, 32, 116, 104, 97, 116, 32, 109, 117, 115, 116, 32, 98, 101, 32, 101, 115, 99, 97, 112, 101, 100]⟩] 215, .cells #[.string ⟨#[110, 111, 32, 104, 101, 120, 32, 118, 97, 108, 117, 101]⟩] 215, .cells #[.string ⟨#[97, 32, 116, 121, 112, 101, 32, 116, 119, 105, 99, 101, 32, 105, 110, 32, 97, 32, 112, 97, 114, 116]⟩] 215, .cells #[.string ⟨#[116, 111, 111, 32, 109, 97, 110, 121, 32, 112, 97, 114, 116, 115, 32, 111, 114, 32, 112, 97, 105, 114, 115]⟩] 215, .cells #[.string ⟨#[97, 32, 110, 97, 109, 101, 32, 116, 104, 97, 116, 32, 110, 111, 32, 116, 101, 120, 116, 32, 109, 101, 97, 110, 115]⟩] 215]
theorem own : ownKnob Tryz.prog.godebug = none := by kernel_rfl
theorem laidOut : laidOutB Tryz.prog = true := by kernel_rfl

set_option maxRecDepth 100000 in
set_option maxHeartbeats 1000000 in
theorem contract (H : Type) (enc : TypeId × Value → H) (W : World) (base : Nat) (args : Array Value) (ds gs : List (DataW H)) (before : List MemPlace)
    (hval0 : ∀ (j : Nat) t v, Tryz.f3.params[j]? = some t → args[j]? = some v → Value.okWide Tryz.prog W .any base t v)
    (hW : DataW.Whole enc Tryz.prog Tryz.f3.params.toList Rows.matchTimesSpec.vars false W args.toList ds gs before)
    (hsz0 : (DataW.weightsEach Tryz.prog (Tryz.f3.params.toList ++ Rows.matchTimesSpec.plain.varTypes Tryz.prog) (ds ++ gs)).all (· ≤ reachBytes) = true) (hL : laidMetH Tryz.prog Rows.matchTimesRow.laid W) :
    Calls Tryz.prog 3 args W fun e W' => ∃ v, e = .returned v ∧ Rows.matchTimesSpec.post enc Tryz.prog Tryz.f3 false true false false W args v W' := by
  have hval := hval0
  have hsz := hsz0
  have hW' := hW
  obtain ⟨p, q, hA0, hV, rfl, hfz, hnd⟩ := hW
  have hA : DataW.TrodAll enc Tryz.prog W 0 (fun _ => true) true Tryz.f3.params.toList args.toList ds p := hA0
  rw [Tryz.params3] at hA hval hsz
  obtain ⟨v0, vs0, d0, ds0, p0, q0, hargs, rfl, rfl, h0, r0⟩ := trodAll_cons hA
  obtain ⟨v1, vs1, d1, ds1, p1, q1, rfl, rfl, rfl, h1, r1⟩ := trodAll_cons r0
  obtain ⟨rfl, rfl, rfl⟩ := trodAll_nil r1
  obtain rfl : args = #[v0, v1] := by cases args; simp_all
  obtain ⟨rfl, rfl⟩ := trodVars_none hV
  have lt0 : ∀ x ∈ p0, x.block < W.heap.size := by obtain ⟨m, hm⟩ := h0; exact DataW.trod_lt m _ _ _ hm
  have lt1 : ∀ x ∈ p1, x.block < W.heap.size := by obtain ⟨m, hm⟩ := h1; exact DataW.trod_lt m _ _ _ hm
  have k0 := h0
  have k1 := h1
  obtain ⟨y, mo, dd, mm, z, rfl, i0, i1, i2, i3, i4⟩ := Tc.wh_of (hval 0 23 v0 rfl rfl) h0
  obtain ⟨y2, mo2, dd2, mm2, z2, rfl, j0, j1, j2, j3, j4⟩ := Tc.wh_of (hval 1 23 v1 rfl rfl) h1
  have htab := Tc.laid_times hL
  clear hA0 hval0 hsz0
  refine (Tc.matchTimes_walk y mo dd mm z y2 mo2 dd2 mm2 z2 W i0 i1 i2 i3 i4 j0 j1 j2 j3 j4 htab).mono fun e W' ⟨he, bel⟩ => ?_
  subst he
  exact ⟨_, rfl, _, _, _, [], _, [], hW', trodAll_mk1 (shut_bool Tryz.underlying4 _), (trodAll_cons_mk (Below.trod laidOut (by kernel_rfl) (of_decide_eq_true (by kernel_rfl)) k0 bel lt0) (trodAll_cons_mk (Below.trod laidOut (by kernel_rfl) (of_decide_eq_true (by kernel_rfl)) k1 bel lt1) trodAll_mk0)), rfl, bel.frame _, fun h => by cases h⟩

theorem laid_met (os : Os) : laidMet Tryz.prog Rows.matchTimesRow.laid (((((((((((((((((((World.holding Tryz.prog os ⟨objs, #[], []⟩).setCells 16 0 c_math_bits_deBruijn32tab).setCells 17 0 c_math_bits_deBruijn64tab).setCells 15 0 c_internal_strconv_uint64pow10).setCells 11 0 c_unicode_utf8_acceptRanges).setCells 7 0 c_strconv_ErrRange).setCells 6 0 c_strconv_ErrSyntax).setCells 0 0 c_roster_dn_ErrLong).setCells 1 0 c_roster_dn_ErrUTF8).setCells 8 0 c_roster_dn_ErrType).setCells 9 0 c_roster_dn_ErrEquals).setCells 12 0 c_roster_dn_ErrEscape).setCells 13 0 c_roster_dn_ErrChar).setCells 14 0 c_roster_dn_ErrHex).setCells 5 0 c_roster_dn_ErrTwice).setCells 3 0 c_roster_dn_ErrWide).setCells 4 0 c_roster_dn_ErrMade).setCells 10 0 c_unicode_utf8_first).forCall (fun _ _ => 0) ⟨#[], #[.agg #[.int .i64 0, .int .i64 0, .int .i64 0, .int .i64 0, .int .i64 0], .agg #[.int .i64 0, .int .i64 0, .int .i64 0, .int .i64 0, .int .i64 0]], []⟩).memory :=
  laidMet_of_run' 8 (by kernel_rfl) (by kernel_rfl)
theorem reads (os : Os) {H : Type} (enc : TypeId × Value → H) : ∃ places, DataW.whole enc Tryz.prog (((((((((((((((((((World.holding Tryz.prog os ⟨objs, #[], []⟩).setCells 16 0 c_math_bits_deBruijn32tab).setCells 17 0 c_math_bits_deBruijn64tab).setCells 15 0 c_internal_strconv_uint64pow10).setCells 11 0 c_unicode_utf8_acceptRanges).setCells 7 0 c_strconv_ErrRange).setCells 6 0 c_strconv_ErrSyntax).setCells 0 0 c_roster_dn_ErrLong).setCells 1 0 c_roster_dn_ErrUTF8).setCells 8 0 c_roster_dn_ErrType).setCells 9 0 c_roster_dn_ErrEquals).setCells 12 0 c_roster_dn_ErrEscape).setCells 13 0 c_roster_dn_ErrChar).setCells 14 0 c_roster_dn_ErrHex).setCells 5 0 c_roster_dn_ErrTwice).setCells 3 0 c_roster_dn_ErrWide).setCells 4 0 c_roster_dn_ErrMade).setCells 10 0 c_unicode_utf8_first).forCall (fun _ _ => 0) ⟨#[], #[.agg #[.int .i64 0, .int .i64 0, .int .i64 0, .int .i64 0, .int .i64 0], .agg #[.int .i64 0, .int .i64 0, .int .i64 0, .int .i64 0, .int .i64 0]], []⟩).memory Tryz.f3.params.toList Rows.matchTimesSpec.vars false #[Value.agg #[.int .i64 0, .int .i64 0, .int .i64 0, .int .i64 0, .int .i64 0], Value.agg #[.int .i64 0, .int .i64 0, .int .i64 0, .int .i64 0, .int .i64 0]].toList 8 = some ([.agg [.lit (.int .i64 0), .lit (.int .i64 0), .lit (.int .i64 0), .lit (.int .i64 0), .lit (.int .i64 0)], .agg [.lit (.int .i64 0), .lit (.int .i64 0), .lit (.int .i64 0), .lit (.int .i64 0), .lit (.int .i64 0)]], [], places) :=
  ⟨[], by kernel_rfl⟩

set_option maxRecDepth 100000 in
set_option maxHeartbeats 1000000 in
theorem lifted (os : Os) (started : os.Started) (H : Type) (enc : TypeId × Value → H) (F : Stop.Interp) :
    ReturnsInHanded {} Tryz.checked os 3 .any ((OpenSpec.ofChange Rows.matchTimesSpec).preRow enc Tryz.prog Tryz.f3 Rows.matchTimesRow.domain false Rows.matchTimesRow.laid) (((OpenSpec.ofChange Rows.matchTimesSpec).at F).post enc Tryz.prog Tryz.f3 false true false false) := by
  obtain ⟨places, hx⟩ := reads os enc
  refine returnsInHanded_of_row (C := Tryz.checked) (s := OpenSpec.ofChange Rows.matchTimesSpec) own started (by kernel_rfl) Tryz.func3
    (witness_row_at (enc := enc) (C := Tryz.checked) false ((((((((((((((((((World.holding Tryz.prog os ⟨objs, #[], []⟩).setCells 16 0 c_math_bits_deBruijn32tab).setCells 17 0 c_math_bits_deBruijn64tab).setCells 15 0 c_internal_strconv_uint64pow10).setCells 11 0 c_unicode_utf8_acceptRanges).setCells 7 0 c_strconv_ErrRange).setCells 6 0 c_strconv_ErrSyntax).setCells 0 0 c_roster_dn_ErrLong).setCells 1 0 c_roster_dn_ErrUTF8).setCells 8 0 c_roster_dn_ErrType).setCells 9 0 c_roster_dn_ErrEquals).setCells 12 0 c_roster_dn_ErrEscape).setCells 13 0 c_roster_dn_ErrChar).setCells 14 0 c_roster_dn_ErrHex).setCells 5 0 c_roster_dn_ErrTwice).setCells 3 0 c_roster_dn_ErrWide).setCells 4 0 c_roster_dn_ErrMade).setCells 10 0 c_unicode_utf8_first) #[.agg #[.int .i64 0, .int .i64 0, .int .i64 0, .int .i64 0, .int .i64 0], .agg #[.int .i64 0, .int .i64 0, .int .i64 0, .int .i64 0, .int .i64 0]] rfl (by kernel_rfl) (by kernel_rfl) (by kernel_rfl)
      (OpenSpec.preRow_of_cond 8 hx (by kernel_rfl) (fun k hk => by cases hk) (by kernel_rfl) (laid_met os))) ?_
  intro W base args ds gs before hval hW _ hcond hsz hL _ _
  exact contract H enc W base args ds gs before hval hW hsz hL

theorem said : Rows.MatchTimesSaid :=
  OpenClaim.holds_of_cond 3 Tryz.f3 rfl rfl rfl rfl rfl rfl rfl ⟨rfl, rfl, rfl, rfl, rfl⟩ rfl rfl rfl rfl rfl (by kernel_rfl) Tryz.func3 (by kernel_rfl)
    (of_decide_eq_true (by kernel_rfl)) (by unfold Func.isWrapper; first | (rw [if_pos (by decide +kernel)]; kernel_rfl) | (rw [if_neg (by decide +kernel)]; exact ⟨rfl, rfl⟩))
    (fun os started H enc _ F => by rw [OpenClaim.pre_eq_preRow]; exact lifted os started H enc F)

theorem plain (f : FuncId) (fn : Func) (hf : Tryz.pinned.checked.prog.funcNamed "roster/rosterlaw06.MatchTimes" = some f) (hfn : Tryz.pinned.checked.prog.funcs[f]? = some fn) :
    true = Tryz.pinned.checked.prog.looks [] ∧ ∀ (j : Nat) t, fn.params[j]? = some t → Tryz.pinned.checked.prog.wantsStandIn t = false := by
  obtain rfl : f = 3 := Option.some.inj ((show Tryz.prog.funcNamed "roster/rosterlaw06.MatchTimes" = some 3 by kernel_rfl).symm.trans hf) |>.symm
  obtain rfl : fn = Tryz.f3 := (Option.some.inj (Tryz.func3.symm.trans hfn)).symm
  refine ⟨by kernel_rfl, fun j t ht => ?_⟩
  rw [Tryz.params3] at ht
  have hm := Array.mem_of_getElem? ht
  simp only [List.mem_toArray, List.mem_cons, List.mem_nil_iff, or_false] at hm
  rcases hm with rfl | rfl
  · exact (show Tryz.prog.wantsStandIn 23 = false by kernel_rfl)
  · exact (show Tryz.prog.wantsStandIn 23 = false by kernel_rfl)

theorem card : Rows.MatchTimesCardSaid :=
  Claim7.holds_tied_plain_at .later [] _ _ _ _ said (fun _ h => by cases h) (by kernel_rfl) (fun _ h => by cases h) matchTimes_row_tie rfl ⟨rfl, rfl⟩ (by kernel_rfl) rfl plain (by kernel_rfl)
end MatchTimesDone

theorem matchTimes_card : Rows.MatchTimesCardSaid := MatchTimesDone.card
#print axioms matchTimes_card
end Go.Proofs.YtnjodplnbfmjeaaGreatDoor
