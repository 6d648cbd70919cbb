import Derived.Test.YtgjjmpijplpnnaaBwL
import Derived.Test.YtgjjmpijplpnnaaBhSpW
import Derived.Test.YtgjjmpijplpnnaaBhSound
namespace Go.Proofs.Ytgjjmpijplpnnaa
open Go.RowKit
set_option linter.unusedVariables false

theorem tree_yes {s : ByteArray} {w : World} (hm : s.size ≤ 281474976710656) {l : List Nd} (h : ∃ xs, treeR s = .ok xs ∧ xs.map (ndOf s) = l) : Calls Try.prog 10 #[.string s] w fun r w' => (∃ v, r = .returned (.tuple #[v, .int .i64 0, .int .i64 0]) ∧ OwnN w' w.heap.size v l) ∧ Below w.heap.size w w' :=
  (tree_any s w hm).mono (fun r w' ⟨hq, hb⟩ => by
    obtain ⟨xs, h1, h2⟩ := h
    refine ⟨?_, hb⟩
    rcases hq with ⟨ys, v, q1, q2, q3⟩ | ⟨f, q1, _⟩
    · rw [h1] at q1
      injection q1 with q1
      subst q1
      rw [h2] at q3
      exact ⟨v, q2, q3⟩
    · rw [h1] at q1; cases q1)
theorem tree_no {s : ByteArray} {w : World} (hm : s.size ≤ 281474976710656) {c q : Nat} (h : treeR s = .error (c, q)) : Calls Try.prog 10 #[.string s] w fun r w' => r = .returned (.tuple #[.slice none 0 0, .int .i64 (c : Int), .int .i64 (q : Int)]) ∧ Below w.heap.size w w' :=
  (tree_any s w hm).mono (fun r w' ⟨hq, hb⟩ => by
    refine ⟨?_, hb⟩
    rcases hq with ⟨ys, v, q1, _⟩ | ⟨f, q1, q2⟩
    · rw [h] at q1; cases q1
    · rw [h] at q1
      injection q1 with q1
      subst q1
      exact q2)
theorem spX_len {n : Nat} {D C T : Nat → Int} {M : Nat → Bool} {B : Nat → ByteArray} {σ : List Nat} {H : Nat → List UInt8} (hn : 0 < n) (hI : SpI n 0 D C T M B σ H) (hs : bsum B n ≤ 67108864) : (outB H B 0 n).length ≤ 67108864 := by
  obtain ⟨len, k, rest, e1, _, e3, e4⟩ := spI_end hn hI
  rw [e1, List.length_append, hdrL_len]
  omega
theorem spX_of {n K : Nat} {D C T : Nat → Int} {M : Nat → Bool} {B : Nat → ByteArray} {σ : List Nat} {H : Nat → List UInt8} (hI : SpI n K D C T M B σ H) : SpX n K D C T M B σ H := hI.2.2.2.2.2.2
set_option maxRecDepth 100000 in
set_option maxHeartbeats 2000000 in
theorem berFronts_walk (a : Option Addr) (n c : Nat) (D C T : Nat → Int) (M : Nat → Bool) (B : Nat → ByteArray) (fa : Option Addr) (fn fc : Nat) (F : Nat → Int) (cut : Int) (more : ByteArray) (w : World) (hn : IsNodes w a n D C T M B) (hf : FInts w fa fn F) (hl : n ≤ 140737488355328) (hB : ∀ i, i < n → (B i).size ≤ 140737488355328) (hm : more.size ≤ 140737488355328) :
    Calls Try.prog 5 #[.slice a n c, .slice fa fn fc, .int .i64 cut, .string more] w fun e w' => e = .returned (.bool true) ∧ Below w.heap.size w w' := by
  have HS : Hid (Calls Try.prog 13 #[.slice a n c] w fun e w' => SndR e n D C T M B ∧ Below w.heap.size w w') := sound_any a n c D C T M B w hn hl
  have HH : Hid (IsNodes w a n D C T M B ∧ FInts w fa fn F ∧ n ≤ 140737488355328 ∧ (∀ i, i < n → (B i).size ≤ 140737488355328) ∧ more.size ≤ 140737488355328) := ⟨hn, hf, hl, hB, hm⟩
  clear hn hf hl hB hm
  go_enter Try.func5, Try.ntmps5
  go_wp2_with fail
  refine HS.out.mono ?_
  rintro e w1 ⟨⟨g, rfl, hg⟩, hb1⟩
  have HM := small_any a n c D C T M B w1 (HH.out.1.below hb1) HH.out.2.2.1 HH.out.2.2.2.1
  have HM : Hid (Calls Try.prog 14 #[.slice a n c] w1 fun e w' => SmlR e n B ∧ Below w1.heap.size w1 w') := HM
  have hg' : Hid (g = true → 0 < n ∧ ∀ i, i < n → Good D C T M B i) := hg
  clear hg
  go_wp2_with fail
  refine HM.out.mono ?_
  rintro e w2 ⟨⟨o, rfl, ho⟩, hb2⟩
  have ho' : Hid (o = true → bsum B n ≤ 67108864) := ho
  have HB2 : Hid (Below w.heap.size w w2) := hb1.trans (hb2.mono hb1.size)
  clear ho hb1 hb2 HM HS
  cases g
  · go_wp2_with fail
    go_ret
    exact ⟨rfl, HB2.out⟩
  cases o
  · go_wp2_with fail
    go_ret
    exact ⟨rfl, HB2.out⟩
  have hGd : Hid (0 < n ∧ ∀ i, i < n → Good D C T M B i) := hg'.out rfl
  have hSm : Hid (bsum B n ≤ 67108864) := ho'.out rfl
  have HSp : Hid (Calls Try.prog 15 #[.slice a n c, .slice fa fn fc] w2 fun e w' => SplR e n D C T M B ∧ Below w2.heap.size w2 w') := spelt_any a n c D C T M B fa fn fc F w2 (HH.out.1.below HB2.out) (HH.out.2.1.below HB2.out) hGd.out.2 hGd.out.1 hSm.out
  clear hg' ho'
  go_wp2_with fail
  refine HSp.out.mono ?_
  rintro e w3 ⟨⟨H, σ, sh, rfl, hI⟩, hb3⟩
  have HB3 : Hid (Below w.heap.size w w3) := HB2.out.trans (hb3.mono HB2.out.size)
  have hX := spX_of hI
  have hlen := spX_len hGd.out.1 hI hSm.out
  have hX1 : (S (outB H B 0 n)).size = (outB H B 0 n).length := S_size _
  have T1 : Hid (∀ W, Calls Try.prog 10 #[.string (S (outB H B 0 n))] W fun r w' => (∃ v, r = .returned (.tuple #[v, .int .i64 0, .int .i64 0]) ∧ OwnN w' W.heap.size v (nodesL n D C T M B)) ∧ Below W.heap.size W w') := fun W =>
    tree_yes (by rw [hX1]; omega) ((tree_back hX hGd.out.2 hGd.out.1 (S (outB H B 0 n)) [] (by rw [S_l, List.append_nil])).1 rfl)
  have T2 : Hid (∀ W (j : Nat), j < (outB H B 0 n).length → Calls Try.prog 10 #[.string ((S (outB H B 0 n)).extract 0 j)] W fun r w' => r = .returned (.tuple #[.slice none 0 0, .int .i64 20, .int .i64 (j : Int)]) ∧ Below W.heap.size W w') := fun W j hj =>
    tree_no (by rw [← size_l, take_l, List.length_take, S_l]; omega) (tree_cut hX hGd.out.2 hGd.out.1 _ j hj (by rw [take_l, S_l]))
  have T3 : Hid (more.data.toList ≠ [] → ∀ W, Calls Try.prog 10 #[.string (S (outB H B 0 n) ++ more)] W fun r w' => r = .returned (.tuple #[.slice none 0 0, .int .i64 27, .int .i64 ((outB H B 0 n).length : Int)]) ∧ Below W.heap.size W w') := fun hmr W =>
    tree_no (by rw [ByteArray.size_append, hX1]; have := HH.out.2.2.2.2; omega) ((tree_back hX hGd.out.2 hGd.out.1 (S (outB H B 0 n) ++ more) more.data.toList (by rw [app_l, S_l])).2 hmr)
  rw [← hX1] at T2 T3 hlen
  obtain ⟨X, hXX⟩ : ∃ X, X = S (outB H B 0 n) := ⟨_, rfl⟩
  rw [← hXX] at T1 T2 T3 hlen ⊢
  clear hX hI hXX hX1 HSp hb3 hSm
  go_wp2_with fail
  refine (T1.out _).mono ?_
  rintro r w4 ⟨⟨v, rfl, hov⟩, hb4⟩
  have HB4 : Hid (Below w.heap.size w w4) := HB3.out.trans (hb4.mono HB3.out.size)
  clear hov hb4 HB3 T1
  have hm0 : Hid (more.size ≤ 140737488355328) := HH.out.2.2.2.2
  have hlen' : Hid (X.size ≤ 67108864) := hlen
  clear HH hlen hGd HB2
  by_cases hmr : more.data.toList = []
  · have em : (more.toList == []) = true := by rw [Lib.toList_data]; simpa using hmr
    clear T3 hmr
    by_cases z1 : cut < 0
    · have z1' : ¬ cut ≥ 0 := by omega
      clear T2
      go_wp2_with fail
      go_ret
      exact ⟨rfl, HB4.out⟩
    have z1' : cut ≥ 0 := by omega
    by_cases z2 : cut < (X.size : Int)
    · obtain ⟨j, rfl⟩ : ∃ j : Nat, cut = (j : Int) := ⟨cut.toNat, by omega⟩
      have T2' : ∀ W, Hid (Calls Try.prog 10 #[.string (X.extract 0 j)] W fun r w' => r = .returned (.tuple #[.slice none 0 0, .int .i64 20, .int .i64 (j : Int)]) ∧ Below W.heap.size W w') := fun W => T2.out W j (by omega)
      have j0 : (0 : Int) ≤ (j : Int) := Int.natCast_nonneg _
      have j2 : j ≤ X.size := by omega
      have j3 : (j : Int) ≤ (X.size : Int) := by omega
      clear T2
      go_wp2_with fail
      refine (T2' _).out.mono ?_
      rintro r w5 ⟨rfl, hb5⟩
      have HB5 : Hid (Below w.heap.size w w5) := HB4.out.trans (hb5.mono HB4.out.size)
      clear hb5 T2'
      go_wp2_with fail
      go_ret
      exact ⟨rfl, HB5.out⟩
    · clear T2
      go_wp2_with fail
      go_ret
      exact ⟨rfl, HB4.out⟩
  · have em : (more.toList == []) = false := by rw [Lib.toList_data]; simpa using hmr
    have T3' : ∀ W, Hid (Calls Try.prog 10 #[.string (X ++ more)] W fun r w' => r = .returned (.tuple #[.slice none 0 0, .int .i64 27, .int .i64 (X.size : Int)]) ∧ Below W.heap.size W w') := fun W => T3.out hmr W
    have hXb : X.size + more.size ≤ 9223372036854775807 := by have := hlen'.out; have := hm0.out; omega
    have hXe : ¬ 9223372036854775807 < X.size + more.size := by omega
    clear T3 hmr
    by_cases z1 : cut < 0
    · have z1' : ¬ cut ≥ 0 := by omega
      clear T2
      go_wp2_with fail
      refine (T3' _).out.mono ?_
      rintro r w6 ⟨rfl, hb6⟩
      have HB6 : Hid (Below w.heap.size w w6) := HB4.out.trans (hb6.mono HB4.out.size)
      clear hb6
      go_wp2_with fail
      go_ret
      exact ⟨rfl, HB6.out⟩
    have z1' : cut ≥ 0 := by omega
    by_cases z2 : cut < (X.size : Int)
    · obtain ⟨j, rfl⟩ : ∃ j : Nat, cut = (j : Int) := ⟨cut.toNat, by omega⟩
      have T2' : ∀ W, Hid (Calls Try.prog 10 #[.string (X.extract 0 j)] W fun r w' => r = .returned (.tuple #[.slice none 0 0, .int .i64 20, .int .i64 (j : Int)]) ∧ Below W.heap.size W w') := fun W => T2.out W j (by omega)
      have j0 : (0 : Int) ≤ (j : Int) := Int.natCast_nonneg _
      have j2 : j ≤ X.size := by omega
      have j3 : (j : Int) ≤ (X.size : Int) := by omega
      clear T2
      go_wp2_with fail
      refine (T2' _).out.mono ?_
      rintro r w5 ⟨rfl, hb5⟩
      have HB5 : Hid (Below w.heap.size w w5) := HB4.out.trans (hb5.mono HB4.out.size)
      clear hb5 T2'
      go_wp2_with fail
      refine (T3' _).out.mono ?_
      rintro r w6 ⟨rfl, hb6⟩
      have HB6 : Hid (Below w.heap.size w w6) := HB5.out.trans (hb6.mono HB5.out.size)
      clear hb6
      go_wp2_with fail
      go_ret
      exact ⟨rfl, HB6.out⟩
    · clear T2
      go_wp2_with fail
      refine (T3' _).out.mono ?_
      rintro r w6 ⟨rfl, hb6⟩
      have HB6 : Hid (Below w.heap.size w w6) := HB4.out.trans (hb6.mono HB4.out.size)
      clear hb6
      go_wp2_with fail
      go_ret
      exact ⟨rfl, HB6.out⟩
end Go.Proofs.Ytgjjmpijplpnnaa
