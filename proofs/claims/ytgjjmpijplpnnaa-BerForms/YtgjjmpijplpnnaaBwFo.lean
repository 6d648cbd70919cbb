import Derived.Test.YtgjjmpijplpnnaaBwFm
import Derived.Test.YtgjjmpijplpnnaaBwF
import Derived.Test.YtgjjmpijplpnnaaBwWr
import Derived.Test.YtgjjmpijplpnnaaBwSm
namespace Go.Proofs.Ytgjjmpijplpnnaa
open Go.RowKit
set_option linter.unusedVariables false

theorem S_beq {a b : List UInt8} : ((S a).toList == (S b).toList) = (a == b) := by
  rw [Lib.toList_data, Lib.toList_data, S_l, S_l]
set_option maxRecDepth 100000 in
set_option maxHeartbeats 2000000 in
theorem berForms_walk (a : Option Addr) (n c : Nat) (D C T : Nat → Int) (M : Nat → Bool) (B : Nat → ByteArray) (fa : Option Addr) (fn fc : Nat) (F : Nat → Int) (w : World) (hn : IsNodes w a n D C T M B) (hf : FInts w fa fn F) (hl : n ≤ 140737488355328) (hB : ∀ i, i < n → (B i).size ≤ 140737488355328) :
    Calls Try.prog 8 #[.slice a n c, .slice fa fn fc] w fun e w' => e = .returned (.bool true) ∧ Below w.heap.size w w' := by
  have HS : Hid (Calls Try.prog 13 #[.slice a n c] w fun e w' => SndR e n D C T M B ∧ Below w.heap.size w w') := sound_any a n c D C T M B w hn hl
  have HH : Hid (IsNodes w a n D C T M B ∧ FInts w fa fn F ∧ n ≤ 140737488355328 ∧ (∀ i, i < n → (B i).size ≤ 140737488355328)) := ⟨hn, hf, hl, hB⟩
  clear hn hf hl hB
  go_enter Try.func8, Try.ntmps8
  go_wp2_with fail
  refine HS.out.mono ?_
  rintro e w1 ⟨⟨g, rfl, hg⟩, hb1⟩
  have HM : Hid (Calls Try.prog 14 #[.slice a n c] w1 fun e w' => SmlR e n B ∧ Below w1.heap.size w1 w') := small_any a n c D C T M B w1 (HH.out.1.below hb1) HH.out.2.2.1 HH.out.2.2.2
  have hg' : Hid (g = true → 0 < n ∧ ∀ i, i < n → Good D C T M B i) := hg
  clear hg
  go_wp2_with fail
  refine HM.out.mono ?_
  rintro e w2 ⟨⟨o, rfl, ho⟩, hb2⟩
  have ho' : Hid (o = true → bsum B n ≤ 67108864) := ho
  have HB2 : Hid (Below w.heap.size w w2) := hb1.trans (hb2.mono hb1.size)
  clear ho hb1 hb2 HM HS
  cases g
  · go_wp2_with fail
    go_ret
    exact ⟨rfl, HB2.out⟩
  cases o
  · go_wp2_with fail
    go_ret
    exact ⟨rfl, HB2.out⟩
  have hGd : Hid (0 < n ∧ ∀ i, i < n → Good D C T M B i) := hg'.out rfl
  have hSm : Hid (bsum B n ≤ 67108864) := ho'.out rfl
  have HSp : Hid (Calls Try.prog 15 #[.slice a n c, .slice fa fn fc] w2 fun e w' => SplR2 e n D C T M B ∧ Below w2.heap.size w2 w') := spelt2_any a n c D C T M B fa fn fc F w2 (HH.out.1.below HB2.out) (HH.out.2.1.below HB2.out) hGd.out.2 hGd.out.1 hSm.out
  clear hg' ho'
  go_wp2_with fail
  refine HSp.out.mono ?_
  rintro e w3 ⟨⟨H, σ, sh, rfl, hI, hsh⟩, hb3⟩
  have HB3 : Hid (Below w.heap.size w w3) := HB2.out.trans (hb3.mono HB2.out.size)
  have hX := spX_of hI
  have hlen := spX_len hGd.out.1 hI hSm.out
  have hX1 : (S (outB H B 0 n)).size = (outB H B 0 n).length := S_size _
  have T1 : Hid (∀ W, Calls Try.prog 10 #[.string (S (outB H B 0 n))] W fun r w' => (∃ v, r = .returned (.tuple #[v, .int .i64 0, .int .i64 0]) ∧ OwnN w' W.heap.size v (nodesL n D C T M B)) ∧ Below W.heap.size W w') := fun W =>
    tree_yes (by rw [hX1]; omega) ((tree_back hX hGd.out.2 hGd.out.1 (S (outB H B 0 n)) [] (by rw [S_l, List.append_nil])).1 rfl)
  have HI : Hid (SpI n 0 D C T M B σ H ∧ ShI n 0 sh H) := ⟨hI, hsh⟩
  clear hX hI hX1 HSp hb3 hlen hsh
  go_wp2_with fail
  refine (T1.out _).mono ?_
  rintro r w4 ⟨⟨v, rfl, hov⟩, hb4⟩
  have HB4 : Hid (Below w.heap.size w w4) := HB3.out.trans (hb4.mono HB3.out.size)
  obtain ⟨va, vc, rfl, hrow⟩ := ownN_any hov
  have hsame := sameNodes_any (nodesL n D C T M B) va a vc c w4 (by rw [nodesL_len]; exact HH.out.2.2.1) hrow (isN_row (HH.out.1.below HB4.out))
  rw [nodesL_len] at hsame ⊢
  have hsame' : Hid (Calls Try.prog 12 #[.slice va n vc, .slice a n c] w4 fun r w' => r = .returned (.bool true) ∧ Below w4.heap.size w4 w') := hsame
  clear hsame hrow hov hb4 T1 HB3 HB2
  go_wp2_with fail
  refine hsame'.out.mono ?_
  rintro r w5 ⟨rfl, hb5⟩
  have HB5 : Hid (Below w.heap.size w w5) := HB4.out.trans (hb5.mono HB4.out.size)
  have HW : Hid (Calls Try.prog 16 #[.slice a n c] w5 fun e w' => WrE e n D C T M B ∧ Below w5.heap.size w5 w') := write_any a n c D C T M B w5 (HH.out.1.below HB5.out) hSm.out
  clear hsame' hb5 HB4
  go_wp2_with fail
  refine HW.out.mono ?_
  rintro e w6 ⟨hE, hb6⟩
  have HB6 : Hid (Below w.heap.size w w6) := HB5.out.trans (hb6.mono HB5.out.size)
  clear hb6 HW HB5
  rcases hE with ⟨_, H', σ', rfl, hI', hS'⟩ | ⟨cc, qq, hc0, hck, rfl⟩
  · obtain ⟨f1, f2, f3⟩ := forms_all hSm.out HI.out.1 hI' hS' HI.out.2
    have f4 : ((S (outB H' B 0 n)).toList == (S (outB H B 0 n)).toList) = sh := by
      rw [S_beq]
      cases sh with
      | true => rw [f2 rfl]; simp
      | false => simpa using f3 rfl
    have f5 : (S (outB H' B 0 n)).size ≤ (S (outB H B 0 n)).size := by rw [S_size, S_size]; exact f1
    obtain ⟨X, hXX⟩ : ∃ X, X = S (outB H B 0 n) := ⟨_, rfl⟩
    obtain ⟨Y, hYY⟩ : ∃ Y, Y = S (outB H' B 0 n) := ⟨_, rfl⟩
    rw [← hXX, ← hYY] at f4 f5
    rw [← hXX, ← hYY]
    clear hXX hYY f1 f2 f3 hI' hS' HI HH hSm hGd
    have f6 : ¬ ((Y.size : Int) > (X.size : Int)) := by omega
    clear f5
    subst f4
    go_wp2_with fail
    go_ret
    exact ⟨by simp, HB6.out⟩
  · exfalso
    have hgood := hGd.out
    rcases ck_zero hck with ⟨h, _⟩ | h
    · exact hc0 h
    · have hfit := (fit_iff n D C T M B).2 hgood.2
      rcases hck with ⟨_, _, h3, _⟩ | ⟨h1, _⟩ | ⟨i, hi, _, _, ⟨h4, _⟩ | ⟨_, h5, _⟩⟩
      · exact hc0 h3
      · omega
      · exact h4 (hfit i hi).1
      · exact h5 (hfit i hi).2
end Go.Proofs.Ytgjjmpijplpnnaa
