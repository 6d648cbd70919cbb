import Derived.Test.YthgpinamglpniaaDoorWrOk
import Derived.Test.YthgpinamglpniaaDoorWrBad
namespace Go.Proofs.YthgpinamglpniaaDoor
open Go.RowKit
open TextMath (al grp b64 dg hex)
attribute [local go_sem ↓] Go.wp_at_zero Go.wp_at_succ

set_option maxRecDepth 100000 in
set_option maxHeartbeats 2000000 in
theorem written_walk (s : ByteArray) (i c : Int) (w : World) (hs : s.size ≤ 140737488351232) (hi : (Lit.int .i64 i).wf = true) (hc : (Lit.int .u8 c).wf = true) (hA : AlTab w) (hT : HexTab w) :
    Calls Tryd.prog 4 #[.string s, .int .i64 i, .int .u8 c] w fun e w' => e = .returned (.bool true) ∧ Below w.heap.size w w' := by
  have HB := Below.refl w.heap.size w
  have hcr : 0 ≤ c ∧ c ≤ 255 := bounds_u8 hc
  obtain ⟨cb, hcb⟩ : ∃ cb : UInt8, c = (cb.toNat : Int) := ⟨UInt8.ofNat c.toNat, by rw [UInt8.toNat_ofNat']; omega⟩
  subst hcb
  clear hc hcr
  have HSL : Hid (s.data.toList.length = s.size) := size_l s
  have hc64 : ∀ W, AlTab W → Hid (Calls Tryd.prog 11 #[.string s] W fun e w' => e = .returned (.string (S (b64 s.data.toList))) ∧ Below W.heap.size W w') := fun W h => base64_any s W (by omega) h
  have hchx : ∀ W, HexTab W → Hid (Calls Tryd.prog 7 #[.string s] W fun e w' => e = .returned (.string (S (hex s.data.toList))) ∧ Below W.heap.size W w') := fun W h => hex_any s W (by omega) h
  have P1 : Hid (plain (S (b64 s.data.toList)).data.toList = true) := by unfold Hid; rw [S_l]; exact plain_good _ (good_b64 _)
  have P2 : Hid (plain (S (hex s.data.toList)).data.toList = true) := by unfold Hid; rw [S_l]; exact plain_good _ (good_hex _)
  have P3 : Hid (plain ((⟨#[120]⟩ : ByteArray) ++ s ++ (⟨#[32]⟩ : ByteArray)).data.toList = false) := by unfold Hid; rw [app_l, app_l]; exact plain_x _
  have Z1 : Hid ((S (b64 s.data.toList)).size ≤ 9223372036854775807) := by unfold Hid; rw [S_size, TextMath.b64_len, HSL.out]; omega
  have Z2 : Hid ((S (hex s.data.toList)).size ≤ 9223372036854775807) := by
    unfold Hid; rw [S_size]
    have : ∀ l : List UInt8, (hex l).length = 2 * l.length := by
      intro l; induction l with
      | nil => rfl
      | cons a t ih => rw [show hex (a :: t) = [dg (a.toNat / 16), dg (a.toNat % 16)] ++ hex t from rfl, List.length_append, ih]; simp; omega
    rw [this, HSL.out]; omega
  have Z3 : Hid (((⟨#[120]⟩ : ByteArray) ++ s ++ (⟨#[32]⟩ : ByteArray)).size ≤ 9223372036854775807) := by
    unfold Hid; rw [ByteArray.size_append, ByteArray.size_append]; show 1 + s.size + 1 ≤ _; omega
  have Z0 : Hid (s.size ≤ 9223372036854775807) := by unfold Hid; omega
  obtain ⟨u, S1⟩ : ∃ u, Hid (safe ((⟨#[120]⟩ : ByteArray) ++ s ++ (⟨#[32]⟩ : ByteArray)).data.toList = u ∧ safe ((⟨#[120]⟩ : ByteArray) ++ s).data.toList = u) := ⟨s.data.toList.all okB, by
    unfold Hid; rw [app_l, app_l]; exact ⟨by rw [← all_x1]; exact safe_x _, safe_x _⟩⟩
  obtain ⟨a, p, hap, S2⟩ : ∃ a p, (p = true → a = true) ∧ Hid (safe s.data.toList = a ∧ plain s.data.toList = p) := ⟨_, _, fun h => by unfold plain at h; rw [Bool.and_eq_true] at h; exact h.1, rfl, rfl⟩
  have hsum1 : 1 + s.size ≤ 9223372036854775807 := by omega
  have hsum2 : 1 + s.size + 1 ≤ 9223372036854775807 := by omega
  by_cases hneg : i < 0
  · have dneg : decide (i < 0) = true := by simpa using hneg
    cases a <;> cases p <;> cases u
    all_goals first
      | (exfalso; revert hap; decide)
      | skip
    all_goals
      go_enter Tryd.func4, Tryd.ntmps4
      go_wp2_with (first
        | (go_at_call 11; refine (hc64 _ (hA.below HB)).out.mono ?_; rintro e w1 ⟨rfl, hb1⟩; replace HB := HB.trans (hb1.mono HB.size); clear hb1)
        | (go_at_call 7; refine (hchx _ (hT.below HB)).out.mono ?_; rintro e w1 ⟨rfl, hb1⟩; replace HB := HB.trans (hb1.mono HB.size); clear hb1)
        | (go_at_call 10; refine (plain_any _ _ ?_).mono ?_; (first | exact Z0.out | exact Z1.out | exact Z2.out | exact Z3.out); rintro e w1 ⟨he, hb1⟩; (first | rw [P1.out] at he | rw [P2.out] at he | rw [P3.out] at he | rw [S2.out.2] at he); subst he; replace HB := HB.trans (hb1.mono HB.size); clear hb1)
        | (go_at_call 12; refine (safe_any _ _).mono ?_; rintro e w1 ⟨he, hb1⟩; (first | rw [S1.out.1] at he | rw [S1.out.2] at he | rw [S2.out.1] at he); subst he; replace HB := HB.trans (hb1.mono HB.size); clear hb1)
        | go_in)
      go_ret
      exact ⟨rfl, HB⟩
  · have dneg : decide (i < 0) = false := by simpa using hneg
    by_cases hbig : (s.size : Int) < i
    · have dbig : decide ((s.size : Int) < i) = true := by simpa using hbig
      cases a <;> cases p <;> cases u
      all_goals first
        | (exfalso; revert hap; decide)
        | skip
      all_goals
        go_enter Tryd.func4, Tryd.ntmps4
        go_wp2_with (first
        | (go_at_call 11; refine (hc64 _ (hA.below HB)).out.mono ?_; rintro e w1 ⟨rfl, hb1⟩; replace HB := HB.trans (hb1.mono HB.size); clear hb1)
        | (go_at_call 7; refine (hchx _ (hT.below HB)).out.mono ?_; rintro e w1 ⟨rfl, hb1⟩; replace HB := HB.trans (hb1.mono HB.size); clear hb1)
        | (go_at_call 10; refine (plain_any _ _ ?_).mono ?_; (first | exact Z0.out | exact Z1.out | exact Z2.out | exact Z3.out); rintro e w1 ⟨he, hb1⟩; (first | rw [P1.out] at he | rw [P2.out] at he | rw [P3.out] at he | rw [S2.out.2] at he); subst he; replace HB := HB.trans (hb1.mono HB.size); clear hb1)
        | (go_at_call 12; refine (safe_any _ _).mono ?_; rintro e w1 ⟨he, hb1⟩; (first | rw [S1.out.1] at he | rw [S1.out.2] at he | rw [S2.out.1] at he); subst he; replace HB := HB.trans (hb1.mono HB.size); clear hb1)
        | go_in)
        go_ret
        exact ⟨rfl, HB⟩
    · have dbig : decide ((s.size : Int) < i) = false := by simpa using hbig
      obtain ⟨k, rfl⟩ := Int.eq_ofNat_of_zero_le (Int.not_lt.1 hneg)
      have hk : k ≤ s.size := by omega
      by_cases hok : okB cb = true
      · exact written_ok s k cb w hs hk hA hT hok
      · exact written_bad s k cb w hs hk hA hT hok
end Go.Proofs.YthgpinamglpniaaDoor
