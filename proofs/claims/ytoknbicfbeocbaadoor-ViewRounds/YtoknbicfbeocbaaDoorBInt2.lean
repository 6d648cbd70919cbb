import Derived.Test.YtoknbicfbeocbaaDoorBInt
namespace Go.Proofs.YtoknbicfbeocbaaDoor
open Go.RowKit
open BerMath (lo sz be enc sg fo val pad okInt)

theorem wf64 {n : Int} (h : (Lit.int .i64 n).wf = true) : -9223372036854775808 ≤ n ∧ n ≤ 9223372036854775807 := by
  simp [Lit.wf, IntKind.min, IntKind.max, IntKind.signed, IntKind.bits] at h
  omega

theorem wrap_i8 (b : UInt8) : IntKind.i8.wrap (b.toNat : Int) = val [b] := by
  have hb := b.toNat_lt
  rw [BerMath.val_one]
  simp only [IntKind.wrap, IntKind.bits, IntKind.signed]
  simp
  split <;> omega

set_option maxRecDepth 100000 in
set_option maxHeartbeats 1000000 in
theorem int_any (s : ByteArray) (w : World) : Calls Tryd.prog 25 #[.string s] w fun e w' => e = .returned (intV s.data.toList) ∧ w = w' := by
  have hL : Hid (s.data.toList.length = s.size) := size_l s
  have hP : Hid (Calls Tryd.prog 31 #[.string s] w fun e w' => e = .returned (.bool (pad s.data.toList)) ∧ w = w') := padded_any s w
  by_cases h0 : s.size = 0
  · have e : intV s.data.toList = .tuple #[.int .i64 0, .int .i64 29] := by
      unfold intV; rw [if_neg]; unfold okInt; rw [hL.out]; simp [h0]
    rw [e]
    have z0 : ((s.size : Int) == 0) = true := by rw [beq_iff_eq]; omega
    clear h0 e
    go_enter Tryd.func25, Tryd.ntmps25
    go_wp2_with (go_at_call 31; refine hP.out.mono ?_; rintro e w2 ⟨rfl, rfl⟩)
    go_ret2
    exact ⟨rfl, rfl⟩
  by_cases h9 : 8 < s.size
  · have e : intV s.data.toList = .tuple #[.int .i64 0, .int .i64 29] := by
      unfold intV; rw [if_neg]; unfold okInt; rw [hL.out]; simp; omega
    rw [e]
    have z0 : ((s.size : Int) == 0) = false := by rw [beq_eq_false_iff_ne]; omega
    have z1 : decide ((8 : Int) < (s.size : Int)) = true := decide_eq_true (by omega)
    clear h0 e h9
    go_enter Tryd.func25, Tryd.ntmps25
    go_wp2_with (go_at_call 31; refine hP.out.mono ?_; rintro e w2 ⟨rfl, rfl⟩)
    go_ret2
    exact ⟨rfl, rfl⟩
  have z0 : ((s.size : Int) == 0) = false := by rw [beq_eq_false_iff_ne]; omega
  have z1 : decide ((8 : Int) < (s.size : Int)) = false := decide_eq_false (by omega)
  cases hp : pad s.data.toList with
  | true =>
    have e : intV s.data.toList = .tuple #[.int .i64 0, .int .i64 29] := by
      unfold intV; rw [if_neg]; unfold okInt; rw [hp]; simp
    rw [e]
    rw [hp] at hP
    clear h0 e h9
    go_enter Tryd.func25, Tryd.ntmps25
    go_wp2_with (go_at_call 31; refine hP.out.mono ?_; rintro e w2 ⟨rfl, rfl⟩)
    go_ret2
    exact ⟨rfl, rfl⟩
  | false =>
    have e : intV s.data.toList = .tuple #[.int .i64 (val s.data.toList), .int .i64 0] := by
      unfold intV; rw [if_pos]; unfold okInt; rw [hL.out, hp]; simp; omega
    rw [e]
    rw [hp] at hP
    have ht1 : s.data.toList.take 1 = [s[0]] := by have := take_snoc s 0 (by omega); simpa using this
    have hi8 := wrap_i8 s[0]
    have hv0 : Hid (val (s.data.toList.take 1) = val [s[0]]) := by unfold Hid; rw [ht1]
    have hv1 : -128 ≤ val [s[0]] ∧ val [s[0]] ≤ 127 := by
      have := s[0].toNat_lt
      rw [BerMath.val_one]; split <;> omega
    obtain ⟨v1, v2⟩ := hv1
    have z2 : (1 : Int) ≤ (s.size : Int) := by omega
    clear e ht1 hp
    generalize val [s[0]] = v0 at *
    go_enter Tryd.func25, Tryd.ntmps25
    go_wp2_with (go_at_call 31; refine hP.out.mono ?_; rintro e w2 ⟨rfl, rfl⟩)
    go_loopw [4, 5] (fun nv iv wr => ∃ (k : Nat), 1 ≤ k ∧ k ≤ s.size ∧ iv = .int .i64 (k : Int) ∧ nv = .int .i64 (val (s.data.toList.take k)) ∧ w = wr) (fun _ iv _ => s.size - (intOf iv).toNat)
    case atStart => exact ⟨1, by omega, by omega, rfl, by rw [hv0.out], rfl⟩
    case round =>
      obtain ⟨k, hk1, hk2, rfl, rfl, rfl⟩ := hrel
      by_cases hlt : k < s.size
      · have hne : s.data.toList.take k ≠ [] := by
          intro hh
          have := congrArg List.length hh
          rw [List.length_take, hL.out, List.length_nil] at this
          omega
        have hlen : (s.data.toList.take k).length ≤ 7 := by rw [List.length_take, hL.out]; omega
        obtain ⟨f1, f2⟩ := fo_le _ hne hlen
        have hor := or_low (val (s.data.toList.take k)) s[k].toNat s[k].toNat_lt f1 f2
        have hsn : Hid (val (s.data.toList.take (k + 1)) = val (s.data.toList.take k) * 256 + (s[k].toNat : Int)) := by
          unfold Hid; rw [take_snoc s k hlt, BerMath.val_snoc _ _ hne]
        have k0 : (0 : Int) ≤ (k : Int) := by omega
        have k8 : (k : Int) ≤ 8 := by omega
        have hb256 := s[k].toNat_lt
        have b0 : (0 : Int) ≤ (s[k].toNat : Int) := by omega
        have b1 : (s[k].toNat : Int) < 256 := by omega
        have hw64 : wrap64 (s[k].toNat : Int) = (s[k].toNat : Int) := by unfold wrap64; omega
        clear hb256
        have k1 : (k : Int) < (s.size : Int) := by omega
        clear hne hlen h0 h9 hi8 v1 v2 hv0
        generalize val (s.data.toList.take k) = v at *
        go_wp2
        go_roundw
        case rel => exact ⟨k + 1, by omega, by omega, by go_num, by rw [hsn.out], trivial⟩
        case measure => simp [intOf]; omega
      · have hk : k = s.size := by omega
        subst hk
        rw [List.take_of_length_le (by rw [hL.out]; exact Nat.le_refl _)]
        clear h0 h9 hi8 v1 v2 hv0 hP hlt
        go_wp2
        go_ret2
        exact ⟨rfl, rfl⟩
end Go.Proofs.YtoknbicfbeocbaaDoor
