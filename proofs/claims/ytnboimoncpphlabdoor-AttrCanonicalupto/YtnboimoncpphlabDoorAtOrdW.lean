import Derived.Test.YtnboimoncpphlabDoorAtCanl
namespace Go.Proofs.YtnboimoncpphlabDoor
open Go.RowKit
open TextMath (fold lo)
set_option linter.unusedVariables false

theorem numO_any (n : Int) (w : World) : Calls Tryd.prog 11 #[.int .i64 n] w fun e w' => e = .returned (.int .i64 n) ∧ w' = w := by
  go_enter Tryd.func11, Tryd.ntmps11
  go_wp2_with fail
  go_ret
  exact ⟨rfl, rfl⟩
theorem strNeO {x y : List UInt8} (h : ¬ x = y) : ((S x).toList == (S y).toList) = false := by
  rw [Lib.toList_data, Lib.toList_data, S_l, S_l]
  simp [h]
def nmT : ByteArray := ⟨#[110, 97, 109, 101]⟩
def cxT : ByteArray := ⟨#[99, 110, 59, 120]⟩
theorem covA1 : covB (S (fold nmT.data.toList)) (S (fold cxT.data.toList)) = true := by decide +kernel
theorem covA2 : covB (S (fold cxT.data.toList)) (S (fold nmT.data.toList)) = false := by decide +kernel
def CFlat (f : ByteArray) (e : Ending) : Prop := ∃ (x : List UInt8) (er : Int) (p : Nat), e = .returned (.tuple #[.string (S x), .int .i64 er, .int .i64 (p : Int)]) ∧ (((desc f).2.2 = true ∧ er = 0 ∧ CanIs f x) ∨ ((desc f).2.2 = false ∧ er = 40))
theorem cnl_flat (s f : ByteArray) (hf : S (fold s.data.toList) = f) (w : World) (hs : s.size ≤ 2097000) :
    Calls Tryd.prog 10 #[.string s] w fun e w' => CFlat f e ∧ Below w.heap.size w w' := by
  refine (canonicalT_any s f hf w hs).mono ?_
  rintro e w' ⟨h, hb⟩
  refine ⟨?_, hb⟩
  rcases h with ⟨h1, x, hc, rfl⟩ | ⟨h1, rfl⟩
  · exact ⟨_, _, _, rfl, Or.inl ⟨h1, rfl, hc⟩⟩
  · exact ⟨_, _, _, rfl, Or.inr ⟨h1, rfl⟩⟩

set_option maxRecDepth 100000 in
set_option maxHeartbeats 4000000 in
theorem attrOrder_walk (a b c : ByteArray) (w : World) (ha : a.size ≤ 1048576) (hb : b.size ≤ 1048576) (hc : c.size ≤ 1048576) (hS : SupTab w) :
    Calls Tryd.prog 3 #[.string a, .string b, .string c] w fun e w' => e = .returned (.bool true) ∧ Below w.heap.size w w' := by
  have hS' : Hid (SupTab w) := hS
  have hz : Hid (a.size ≤ 1048576 ∧ b.size ≤ 1048576 ∧ c.size ≤ 1048576) := ⟨ha, hb, hc⟩
  have hCov : ∀ (d e : ByteArray) (r : Bool) (W : World), d.size ≤ 1048576 → e.size ≤ 1048576 → covB (S (fold d.data.toList)) (S (fold e.data.toList)) = r → Below w.heap.size w W → Hid (Calls Tryd.prog 9 #[.string d, .string e] W fun q w' => q = .returned (.bool r) ∧ Below W.heap.size W w') := fun d e r W hd he hr hb => by
    have h := covers_any d e _ _ rfl rfl W (by omega) (by omega) (hS'.out.below hb)
    rw [hr] at h
    exact h
  have hCnl : ∀ (d : ByteArray) (W : World), d.size ≤ 1048576 → Hid (Calls Tryd.prog 10 #[.string d] W fun e w' => CFlat (S (fold d.data.toList)) e ∧ Below W.heap.size W w') := fun d W hd => cnl_flat d _ rfl W (by omega)
  have h1 := hCov nmT cxT true w (by decide) (by decide) covA1 (Below.refl _ _)
  clear ha hb hc hS
  go_enter Tryd.func3, Tryd.ntmps3
  go_wp2_with fail
  refine h1.out.mono ?_
  rintro e W1 ⟨rfl, hb1⟩
  have o1 : Hid (Below w.heap.size w W1) := hb1
  have h2 := hCov cxT nmT false W1 (by decide) (by decide) covA2 hb1
  clear h1 hb1
  go_wp2_with fail
  refine h2.out.mono ?_
  rintro e W2 ⟨rfl, hb2⟩
  have o2 : Hid (Below w.heap.size w W2) := o1.out.trans (hb2.mono o1.out.size)
  have h3 := hCnl a W2 hz.out.1
  clear h2 hb2 o1
  go_wp2_with fail
  refine h3.out.mono ?_
  rintro e W3 ⟨⟨x, ea, pa, rfl, hA⟩, hb3⟩
  have o3 : Hid (Below w.heap.size w W3) := o2.out.trans (hb3.mono o2.out.size)
  have h4 := hCnl b W3 hz.out.2.1
  have hA' : Hid _ := hA
  clear h3 hb3 o2 hA hCnl
  go_wp2_with fail
  refine h4.out.mono ?_
  rintro e W4 ⟨⟨y, eb, pb, rfl, hBb⟩, hb4⟩
  have o4 : Hid (Below w.heap.size w W4) := o3.out.trans (hb4.mono o3.out.size)
  have hB' : Hid _ := hBb
  clear h4 hb4 o3 hBb
  have hrefl := cov_refl (S (fold a.data.toList))
  obtain ⟨r, hr⟩ : ∃ r, covB (S (fold a.data.toList)) (S (fold b.data.toList)) = r := ⟨_, rfl⟩
  rcases hA'.out with ⟨okA, rfl, canA⟩ | ⟨okA, rfl⟩
  · rw [okA] at hrefl
    have h5 := hCov a a true W4 hz.out.1 hz.out.1 hrefl o4.out
    clear hA' hrefl
    go_wp2_with fail
    refine h5.out.mono ?_
    rintro e W5 ⟨rfl, hb5⟩
    have o5 : Hid (Below w.heap.size w W5) := o4.out.trans (hb5.mono o4.out.size)
    clear h5 hb5 o4
    go_wp2_with fail
    refine (numO_any 0 W5).mono ?_
    rintro e W5' ⟨rfl, hW5⟩
    subst hW5
    have h6 := hCov a b r W5' hz.out.1 hz.out.2.1 hr o5.out
    cases r with
    | false =>
      clear hr
      go_wp2_with fail
      refine h6.out.mono ?_
      rintro e W6 ⟨rfl, hb6⟩
      have o6 : Hid (Below w.heap.size w W6) := o5.out.trans (hb6.mono o5.out.size)
      clear h6 hb6 o5
      go_wp2_with fail
      go_ret
      exact ⟨rfl, o6.out⟩
    | true =>
      have okB : (desc (S (fold b.data.toList))).2.2 = true := ((cov_iff _ _).1 hr).2.1
      obtain ⟨rfl, canB⟩ : eb = 0 ∧ CanIs (S (fold b.data.toList)) y := by
        rcases hB'.out with ⟨_, h1, h2⟩ | ⟨h1, _⟩
        · exact ⟨h1, h2⟩
        · rw [okB] at h1; cases h1
      have hanti := cov_anti _ _ x y hr canA canB
      have hr' : Hid (covB (S (fold a.data.toList)) (S (fold b.data.toList)) = true) := hr
      clear hr okB canA canB hB' okA
      go_wp2_with fail
      refine h6.out.mono ?_
      rintro e W6 ⟨rfl, hb6⟩
      have o6 : Hid (Below w.heap.size w W6) := o5.out.trans (hb6.mono o5.out.size)
      clear h6 hb6 o5
      go_wp2_with fail
      refine (numO_any 0 W6).mono ?_
      rintro e W6' ⟨rfl, hW6⟩
      subst hW6
      go_wp2_with fail
      refine (numO_any 0 W6').mono ?_
      rintro e W6 ⟨rfl, hW6⟩
      subst hW6
      have h7 := hCov b a (decide (x = y)) W6 hz.out.2.1 hz.out.1 hanti o6.out
      obtain ⟨t, ht⟩ : ∃ t, covB (S (fold b.data.toList)) (S (fold c.data.toList)) = t := ⟨_, rfl⟩
      have hac : Hid (t = true → covB (S (fold a.data.toList)) (S (fold c.data.toList)) = true) := fun e => cov_trans _ _ _ hr'.out (ht.trans e)
      have ht' : Hid (covB (S (fold b.data.toList)) (S (fold c.data.toList)) = t) := ht
      clear hanti ht hr'
      by_cases hxy : x = y
      · rw [decide_eq_true hxy] at h7
        have e1 : ((S x).toList == (S y).toList) = true := by rw [hxy]; simp
        clear hxy
        go_wp2_with fail
        refine h7.out.mono ?_
        rintro e W7 ⟨rfl, hb7⟩
        have o7 : Hid (Below w.heap.size w W7) := o6.out.trans (hb7.mono o6.out.size)
        have h8 := hCov b c t W7 hz.out.2.1 hz.out.2.2 ht'.out o7.out
        clear h7 hb7 o6
        go_wp2_with fail
        refine h8.out.mono ?_
        rintro e W8 ⟨rfl, hb8⟩
        have o8 : Hid (Below w.heap.size w W8) := o7.out.trans (hb8.mono o7.out.size)
        clear h8 hb8 o7
        cases t with
        | false =>
          go_wp2_with fail
          go_ret
          exact ⟨rfl, o8.out⟩
        | true =>
          have h9 := hCov a c true W8 hz.out.1 hz.out.2.2 (hac.out rfl) o8.out
          go_wp2_with fail
          refine h9.out.mono ?_
          rintro e W9 ⟨rfl, hb9⟩
          have o9 : Hid (Below w.heap.size w W9) := o8.out.trans (hb9.mono o8.out.size)
          clear h9 hb9 o8
          go_wp2_with fail
          go_ret
          exact ⟨rfl, o9.out⟩
      · rw [decide_eq_false hxy] at h7
        have e1 : ((S x).toList == (S y).toList) = false := strNeO hxy
        clear hxy
        go_wp2_with fail
        refine h7.out.mono ?_
        rintro e W7 ⟨rfl, hb7⟩
        have o7 : Hid (Below w.heap.size w W7) := o6.out.trans (hb7.mono o6.out.size)
        have h8 := hCov b c t W7 hz.out.2.1 hz.out.2.2 ht'.out o7.out
        clear h7 hb7 o6
        go_wp2_with fail
        refine h8.out.mono ?_
        rintro e W8 ⟨rfl, hb8⟩
        have o8 : Hid (Below w.heap.size w W8) := o7.out.trans (hb8.mono o7.out.size)
        clear h8 hb8 o7
        cases t with
        | false =>
          go_wp2_with fail
          go_ret
          exact ⟨rfl, o8.out⟩
        | true =>
          have h9 := hCov a c true W8 hz.out.1 hz.out.2.2 (hac.out rfl) o8.out
          go_wp2_with fail
          refine h9.out.mono ?_
          rintro e W9 ⟨rfl, hb9⟩
          have o9 : Hid (Below w.heap.size w W9) := o8.out.trans (hb9.mono o8.out.size)
          clear h9 hb9 o8
          go_wp2_with fail
          go_ret
          exact ⟨rfl, o9.out⟩
  · rw [okA] at hrefl
    have h5 := hCov a a false W4 hz.out.1 hz.out.1 hrefl o4.out
    have hrf : r = false := by
      cases r with
      | false => rfl
      | true =>
        have h := ((cov_iff _ _).1 hr).1
        rw [okA] at h
        cases h
    subst hrf
    clear hA' hrefl
    go_wp2_with fail
    refine h5.out.mono ?_
    rintro e W5 ⟨rfl, hb5⟩
    have o5 : Hid (Below w.heap.size w W5) := o4.out.trans (hb5.mono o4.out.size)
    clear h5 hb5 o4
    go_wp2_with fail
    refine (numO_any 40 W5).mono ?_
    rintro e W5' ⟨rfl, hW5⟩
    subst hW5
    have h6 := hCov a b false W5' hz.out.1 hz.out.2.1 hr o5.out
    clear hr
    go_wp2_with fail
    refine h6.out.mono ?_
    rintro e W6 ⟨rfl, hb6⟩
    have o6 : Hid (Below w.heap.size w W6) := o5.out.trans (hb6.mono o5.out.size)
    clear h6 hb6 o5
    go_wp2_with fail
    go_ret
    exact ⟨rfl, o6.out⟩
end Go.Proofs.YtnboimoncpphlabDoor
