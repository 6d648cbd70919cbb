import Derived.Test.YtgjjmpijplpnnaaBwWr
import Derived.Test.YtgjjmpijplpnnaaBwSm
import Derived.Test.YtgjjmpijplpnnaaBhSou2
namespace Go.Proofs.Ytgjjmpijplpnnaa
open Go.RowKit
set_option linter.unusedVariables false

set_option maxRecDepth 100000 in
set_option maxHeartbeats 2000000 in
theorem berBack_walk (a : Option Addr) (n c : Nat) (D C T : Nat → Int) (M : Nat → Bool) (B : Nat → ByteArray) (w : World) (hn : IsNodes w a n D C T M B) (hl : n ≤ 140737488355328) (hB : ∀ i, i < n → (B i).size ≤ 140737488355328) :
    Calls Try.prog 7 #[.slice a n c] w fun e w' => e = .returned (.bool true) ∧ Below w.heap.size w w' := by
  have HS : Hid (Calls Try.prog 13 #[.slice a n c] w fun e w' => SndR2 e n D C T M B ∧ Below w.heap.size w w') := sound2_any a n c D C T M B w hn hl
  have HH : Hid (IsNodes w a n D C T M B ∧ n ≤ 140737488355328 ∧ (∀ i, i < n → (B i).size ≤ 140737488355328)) := ⟨hn, hl, hB⟩
  clear hn hl hB
  go_enter Try.func7, Try.ntmps7
  go_wp2_with fail
  refine HS.out.mono ?_
  rintro e w1 ⟨⟨g, rfl, hg⟩, hb1⟩
  have HM : Hid (Calls Try.prog 14 #[.slice a n c] w1 fun e w' => SmlR e n B ∧ Below w1.heap.size w1 w') := small_any a n c D C T M B w1 (HH.out.1.below hb1) HH.out.2.1 HH.out.2.2
  have hg' : Hid (g = true ↔ (0 < n ∧ ∀ i, i < n → Good D C T M B i)) := hg
  clear hg
  go_wp2_with fail
  refine HM.out.mono ?_
  rintro e w2 ⟨⟨o, rfl, ho⟩, hb2⟩
  have ho' : Hid (o = true → bsum B n ≤ 67108864) := ho
  have HB2 : Hid (Below w.heap.size w w2) := hb1.trans (hb2.mono hb1.size)
  clear ho hb1 hb2 HM HS
  cases o
  · go_wp2_with fail
    go_ret
    exact ⟨rfl, HB2.out⟩
  have hSm : Hid (bsum B n ≤ 67108864) := ho'.out rfl
  have HW : Hid (Calls Try.prog 16 #[.slice a n c] w2 fun e w' => WrE e n D C T M B ∧ Below w2.heap.size w2 w') := write_any a n c D C T M B w2 (HH.out.1.below HB2.out) hSm.out
  clear ho'
  go_wp2_with fail
  refine HW.out.mono ?_
  rintro e w3 ⟨hE, hb3⟩
  have HB3 : Hid (Below w.heap.size w w3) := HB2.out.trans (hb3.mono HB2.out.size)
  clear hb3 HW
  rcases hE with ⟨hgood, H, σ, rfl, hI, _⟩ | ⟨cc, qq, hc0, hck, rfl⟩
  · have hgt : g = true := hg'.out.2 hgood
    subst hgt
    have hX := spX_of hI
    have hlen := spX_len hgood.1 hI hSm.out
    have T1 : Hid (∀ W, Calls Try.prog 10 #[.string (S (outB H B 0 n))] W fun r w' => (∃ v, r = .returned (.tuple #[v, .int .i64 0, .int .i64 0]) ∧ OwnN w' W.heap.size v (nodesL n D C T M B)) ∧ Below W.heap.size W w') := fun W =>
      tree_yes (by rw [S_size]; omega) ((tree_back hX hgood.2 hgood.1 (S (outB H B 0 n)) [] (by rw [S_l, List.append_nil])).1 rfl)
    clear hX hI hlen hgood hg' HB2
    go_wp2_with fail
    refine (T1.out _).mono ?_
    rintro r w4 ⟨⟨v, rfl, hov⟩, hb4⟩
    have HB4 : Hid (Below w.heap.size w w4) := HB3.out.trans (hb4.mono HB3.out.size)
    obtain ⟨va, vc, rfl, hrow⟩ := ownN_any hov
    have hsame := sameNodes_any (nodesL n D C T M B) va a vc c w4 (by rw [nodesL_len]; exact HH.out.2.1) hrow (isN_row (HH.out.1.below HB4.out))
    rw [nodesL_len] at hsame ⊢
    have hsame' : Hid (Calls Try.prog 12 #[.slice va n vc, .slice a n c] w4 fun r w' => r = .returned (.bool true) ∧ Below w4.heap.size w4 w') := hsame
    clear hsame hrow hov hb4 T1 HB3 HH hSm
    go_wp2_with fail
    refine hsame'.out.mono ?_
    rintro r w5 ⟨rfl, hb5⟩
    go_wp2_with fail
    go_ret
    exact ⟨rfl, HB4.out.trans (hb5.mono HB4.out.size)⟩
  · have hgf : g = false := by
      cases g with
      | false => rfl
      | true =>
        exfalso
        have hgood := hg'.out.1 rfl
        rcases ck_zero hck with ⟨h, _⟩ | h
        · exact hc0 h
        · have hfit := (fit_iff n D C T M B).2 hgood.2
          rcases hck with ⟨_, _, h3, _⟩ | ⟨h1, _⟩ | ⟨i, hi, _, _, ⟨h4, _⟩ | ⟨_, h5, _⟩⟩
          · exact hc0 h3
          · omega
          · exact h4 (hfit i hi).1
          · exact h5 (hfit i hi).2
    subst hgf
    have hcc : (cc != 0) = true := by
      rw [bne_iff_ne]
      exact hc0
    clear hck hc0 hg' HH hSm
    go_wp2_with fail
    go_ret
    exact ⟨rfl, HB3.out⟩
end Go.Proofs.Ytgjjmpijplpnnaa
