import Derived.Test.YtnboimoncpphlaaDoorAtOpt
import Derived.Test.YtnboimoncpphlaaDoorAtEq
namespace Go.Proofs.YtnboimoncpphlaaDoor
open Go.RowKit
open TextMath (fold lo)
set_option linter.unusedVariables false

theorem num_any (n : Int) (w : World) : Calls Tryd.prog 18 #[.int .i64 n] w fun e w' => e = .returned (.int .i64 n) ∧ w' = w := by
  go_enter Tryd.func18, Tryd.ntmps18
  go_wp2_with fail
  go_ret
  exact ⟨rfl, rfl⟩
def totM (X : Nat → ByteArray) : Nat → Nat
  | 0 => 0
  | n + 1 => totM X n + ((X n).size + 1)
theorem totM_le (X : Nat → ByteArray) : ∀ (n k : Nat), k ≤ n → totM X k ≤ totM X n
  | 0, k, h => by have : k = 0 := by omega
                  subst this; exact Nat.le_refl _
  | n + 1, k, h => by
    rcases Nat.lt_or_ge k (n + 1) with h1 | h1
    · have := totM_le X n k (by omega)
      show totM X k ≤ totM X n + _
      omega
    · have : k = n + 1 := by omega
      subst this; exact Nat.le_refl _
def cnT : ByteArray := ⟨#[99, 110]⟩
def cnX : ByteArray := ⟨#[99, 110, 59, 108, 97, 110, 103, 45, 120]⟩
def snX : ByteArray := ⟨#[115, 110, 59, 108, 97, 110, 103, 45, 120]⟩
theorem cov1 : covB (S (fold cnT.data.toList)) (S (fold cnX.data.toList)) = true := by decide +kernel
theorem cov2 : covB (S (fold cnX.data.toList)) (S (fold cnT.data.toList)) = false := by decide +kernel
theorem cov3 : covB (S (fold cnT.data.toList)) (S (fold snX.data.toList)) = false := by decide +kernel
theorem lin_self (f : ByteArray) : (canN f).data.toList ∈ lin f := by unfold lin; simp
/-- What Parse answers, in short. -/
def PFlat (f : ByteArray) (e : Ending) : Prop := ∃ (q : ByteArray) (va : Option Addr) (vn vc : Nat) (fe : Int) (fp : Nat), e = .returned (.tuple #[.agg #[.string q, .slice va vn vc], .int .i64 fe, .int .i64 (fp : Int)]) ∧ ((fe = 0 ∧ (desc f).2.2 = true) ∨ (fe = 40 ∧ (desc f).2.2 = false))
theorem parse_flat (s f : ByteArray) (hf : S (fold s.data.toList) = f) (w : World) (hs : s.size ≤ 4194304) :
    Calls Tryd.prog 17 #[.string s] w fun e w' => PFlat f e ∧ Below w.heap.size w w' := by
  refine (parse_any s f hf w hs).mono ?_
  rintro e w' ⟨h, hb⟩
  refine ⟨?_, hb⟩
  rcases h with ⟨h1, v, L, rfl, hO, _⟩ | ⟨h1, rfl⟩
  · rcases ownS_form hO with ⟨rfl, _⟩ | ⟨g, c, rfl⟩
    · exact ⟨_, _, _, _, _, _, rfl, Or.inl ⟨rfl, h1⟩⟩
    · exact ⟨_, _, _, _, _, _, rfl, Or.inl ⟨rfl, h1⟩⟩
  · exact ⟨_, _, _, _, _, _, rfl, Or.inr ⟨rfl, h1⟩⟩
theorem lo_semi (b : UInt8) (h : b ≠ 59) : lo b ≠ 59 := by
  have key0 : (List.range 256).all (fun n => decide (UInt8.ofNat n = 59) || decide (lo (UInt8.ofNat n) ≠ 59)) = true := by decide +kernel
  have hk := List.all_eq_true.1 key0 b.toNat (List.mem_range.2 (UInt8.toNat_lt b))
  rw [UInt8.ofNat_toNat] at hk
  simpa [h] using hk
/-- A description that is laid aside. -/
theorem keepD (W : World) (q : ByteArray) (va : Option Addr) (vn vc : Nat) : ∃ W', W.alloc (.cells #[.string q, .slice va vn vc] 45) = W' ∧ Below W.heap.size W W' := ⟨_, rfl, (Below.refl _ _).alloc (Nat.le_refl _) _⟩

set_option maxRecDepth 100000 in
set_option maxHeartbeats 4000000 in
theorem attrMore_walk (s : ByteArray) (a : Option Addr) (n c : Nat) (X : Nat → ByteArray) (o : ByteArray) (w : World) (hX : Strs w a n X) (hsz : s.size + totM X n + o.size ≤ 2097152) (hS : SupTab w) :
    Calls Tryd.prog 5 #[.string s, .slice a n c, .string o] w fun e w' => e = .returned (.bool true) ∧ Below w.heap.size w w' := by
  have hX' : Hid (Strs w a n X) := hX
  have hS' : Hid (SupTab w) := hS
  have hsz' : Hid (s.size + totM X n + o.size ≤ 2097152) := hsz
  have hO := option_any o w (by omega)
  have hxo := opt_ok o.data.toList
  have hxl := opt_len o.data.toList
  rw [size_l] at hxl
  generalize opt o.data.toList = x at *
  have hxo' : Hid ((fold x ≠ [] ∧ ∀ b ∈ fold x, isK b = true) ∧ x.length ≤ o.size + 1) := ⟨hxo, hxl⟩
  clear hX hS hsz hxo hxl
  go_enter Tryd.func5, Tryd.ntmps5
  go_wp2_with fail
  refine hO.mono ?_
  rintro e W1 ⟨rfl, hb1⟩
  have o1 : Hid (Below w.heap.size w W1) := hb1
  clear hO hb1
  go_wp2_with fail
  go_loopw [7, 8, 10] (fun tv hv iv wr => ∃ (k : Nat) (T : ByteArray) (ys : List (List UInt8)) (h : Bool), k ≤ n ∧ k ≤ 20 ∧ tv = .string T ∧ hv = .bool h ∧ iv = .int .i64 (k : Int) ∧ Hid (T.data.toList = s.data.toList ++ semis ys ∧ h = decide (fold x ∈ ys.map fold) ∧ (semis ys).length ≤ totM X k + k ∧ ∀ y ∈ ys, fold y ≠ [] ∧ ∀ b ∈ fold y, isK b = true) ∧ Hid (Below w.heap.size w wr)) (fun _ _ iv _ => n - (intOf iv).toNat)
  case atStart =>
    refine ⟨0, s, [], false, Nat.zero_le _, Nat.zero_le _, rfl, rfl, rfl, ⟨by simp [semis], by simp, by simp [semis], by simp⟩, o1.out⟩
  case round =>
    clear o1
    obtain ⟨k, T, ys, h, hkn, hk2, rfl, rfl, rfl, hT, hB⟩ := hrel
    by_cases hlt : k < n
    · have k1 : (k : Int) < (n : Int) := Int.ofNat_lt.2 hlt
      by_cases hl2 : k < 20
      · have k2 : (k : Int) < 20 := by omega
        have k0 : (0 : Int) ≤ (k : Int) := Int.natCast_nonneg _
        obtain ⟨b, off, rfl, hc⟩ := (hX'.out.below hB.out) k hlt
        have hXk : (X k).size ≤ 2097152 := by
          have h1 := totM_le X n (k + 1) hlt
          have h2 : totM X (k + 1) = totM X k + ((X k).size + 1) := rfl
          have := hsz'.out
          omega
        have hOp := option_any (X k) wr (by omega)
        have hyo := opt_ok (X k).data.toList
        have hyl := opt_len (X k).data.toList
        rw [size_l] at hyl
        generalize opt (X k).data.toList = y at *
        have hyo' : Hid ((fold y ≠ [] ∧ ∀ b ∈ fold y, isK b = true) ∧ y.length ≤ (X k).size + 1) := ⟨hyo, hyl⟩
        have hFx : ∀ W, Hid (Calls Tryd.prog 14 #[.string (S x)] W fun e w' => e = .returned (.string (S (fold x))) ∧ Below W.heap.size W w') := fun W => by
          have h := fold_any (S x) W (by rw [S_size]; have := hxo'.out.2; have := hsz'.out; unfold maxLen; omega)
          rw [S_l] at h
          exact h
        have hFy : ∀ W, Hid (Calls Tryd.prog 14 #[.string (S y)] W fun e w' => e = .returned (.string (S (fold y))) ∧ Below W.heap.size W w') := fun W => by
          have h := fold_any (S y) W (by rw [S_size]; unfold maxLen; omega)
          rw [S_l] at h
          exact h
        have hTs : T.size ≤ 4194304 := by
          have h1 := congrArg List.length hT.out.1
          have h2 := hT.out.2.2.1
          have h3 := totM_le X n k hkn
          have := hsz'.out
          rw [size_l, List.length_append, size_l] at h1
          omega
        have c1 : ¬ T.size + 1 > 9223372036854775807 := by omega
        have c2 : ¬ T.size + 1 + (S y).size > 9223372036854775807 := by rw [S_size]; omega
        clear hyo hyl hXk hTs
        go_wp2_with fail
        refine hOp.mono ?_
        rintro e W2 ⟨rfl, hb2⟩
        have o2 : Hid (Below w.heap.size w W2) := hB.out.trans (hb2.mono hB.out.size)
        have h2 := hFx W2
        clear hOp hb2 hFx
        go_wp2_with fail
        refine h2.out.mono ?_
        rintro e W3 ⟨rfl, hb3⟩
        have o3 : Hid (Below w.heap.size w W3) := o2.out.trans (hb3.mono o2.out.size)
        have h3 := hFy W3
        clear h2 hb3 hFy o2
        go_wp2_with fail
        refine h3.out.mono ?_
        rintro e W4 ⟨rfl, hb4⟩
        have o4 : Hid (Below w.heap.size w W4) := o3.out.trans (hb4.mono o3.out.size)
        clear h3 hb4 o3
        have hT' : ∀ h', h' = (h || decide (fold x = fold y)) → Hid (((T ++ ⟨#[59]⟩) ++ S y).data.toList = s.data.toList ++ semis (ys ++ [y]) ∧ h' = decide (fold x ∈ (ys ++ [y]).map fold) ∧ (semis (ys ++ [y])).length ≤ totM X (k + 1) + (k + 1) ∧ ∀ z ∈ ys ++ [y], fold z ≠ [] ∧ ∀ b ∈ fold z, isK b = true) := fun h' e => by
          refine ⟨?_, ?_, ?_, ?_⟩
          · rw [app_l, app_l, hT.out.1, S_l, semis_snoc]
            simp
          · rw [e, hT.out.2.1]
            simp [Bool.decide_or, eq_comm]
          · rw [semis_snoc, List.length_append, List.length_cons]
            have h1 := hT.out.2.2.1
            have h2 := hyo'.out.2
            show _ ≤ totM X k + ((X k).size + 1) + (k + 1)
            omega
          · intro z hz
            rcases List.mem_append.1 hz with hz | hz
            · exact hT.out.2.2.2 z hz
            · rw [List.mem_singleton.1 hz]; exact hyo'.out.1
        by_cases heq : fold x = fold y
        · have e1 : ((S (fold x)).toList == (S (fold y)).toList) = true := by rw [heq]; simp
          have hTf := hT' true (by rw [decide_eq_true heq]; simp)
          clear hT' heq hT
          go_wp2_with fail
          go_roundw
          case rel => exact ⟨k + 1, _, ys ++ [y], true, hlt, by omega, rfl, rfl, by simp, hTf.out, o4.out⟩
          case measure => simp [intOf]; omega
        · have e1 : ((S (fold x)).toList == (S (fold y)).toList) = false := strNe heq
          have hTf := hT' h (by rw [decide_eq_false heq]; simp)
          clear hT' heq hT
          go_wp2_with fail
          go_roundw
          case rel => exact ⟨k + 1, _, ys ++ [y], h, hlt, by omega, rfl, rfl, by simp, hTf.out, o4.out⟩
          case measure => simp [intOf]; omega
      · have k2 : ¬ (k : Int) < 20 := by omega
        have hTs : T.size ≤ s.size + totM X n + 20 := by
          have h1 := congrArg List.length hT.out.1
          have h2 := hT.out.2.2.1
          have h3 := totM_le X n k hkn
          have := hsz'.out
          rw [size_l, List.length_append, size_l] at h1
          omega
        have hxs : (S x).size ≤ o.size + 1 := by rw [S_size]; exact hxo'.out.2
        have hall := hsz'.out
        have c1 : ¬ T.size + 1 > 9223372036854775807 := by omega
        have c2 : ¬ T.size + 1 + (S x).size > 9223372036854775807 := by omega
        obtain ⟨M, hM⟩ : ∃ M, (T ++ ⟨#[59]⟩) ++ S x = M := ⟨_, rfl⟩
        have hMl : M.data.toList = s.data.toList ++ semis (ys ++ [x]) := by
          rw [← hM, app_l, app_l, hT.out.1, S_l, semis_snoc]
          simp
        have hMs : M.size ≤ 4194304 := by
          rw [← hM, ByteArray.size_append, ByteArray.size_append]
          show T.size + 1 + (S x).size ≤ _
          omega
        have hC1 : ∀ W, Below w.heap.size w W → Hid (Calls Tryd.prog 15 #[.string cnT, .string cnX] W fun r w' => r = .returned (.bool true) ∧ Below W.heap.size W w') := fun W hb => by
          have h := covers_any cnT cnX _ _ rfl rfl W (by decide) (by decide) (hS'.out.below hb)
          rw [cov1] at h
          exact h
        have hC2 : ∀ W, Below w.heap.size w W → Hid (Calls Tryd.prog 15 #[.string cnX, .string cnT] W fun r w' => r = .returned (.bool false) ∧ Below W.heap.size W w') := fun W hb => by
          have h := covers_any cnX cnT _ _ rfl rfl W (by decide) (by decide) (hS'.out.below hb)
          rw [cov2] at h
          exact h
        have hC3 : ∀ W, Below w.heap.size w W → Hid (Calls Tryd.prog 15 #[.string cnT, .string snX] W fun r w' => r = .returned (.bool false) ∧ Below W.heap.size W w') := fun W hb => by
          have h := covers_any cnT snX _ _ rfl rfl W (by decide) (by decide) (hS'.out.below hb)
          rw [cov3] at h
          exact h
        have hPT : ∀ W, Hid (Calls Tryd.prog 16 #[.string s] W fun e w' => e = .returned (.tuple #[.string (parsT (S (fold s.data.toList))).1, .int .i64 (parsT (S (fold s.data.toList))).2.1, .int .i64 ((parsT (S (fold s.data.toList))).2.2 : Int)]) ∧ Below W.heap.size W w') := fun W => parseType_any s W (by have := hsz'.out; omega)
        have hPM : ∀ W, Hid (Calls Tryd.prog 17 #[.string M] W fun e w' => PFlat (S (fold M.data.toList)) e ∧ Below W.heap.size W w') := fun W => parse_flat M _ rfl W hMs
        have hCov : ∀ (d e : ByteArray) (W : World), d.size ≤ 4194304 → e.size ≤ 4194304 → Below w.heap.size w W → Hid (Calls Tryd.prog 15 #[.string d, .string e] W fun r w' => r = .returned (.bool (covB (S (fold d.data.toList)) (S (fold e.data.toList)))) ∧ Below W.heap.size W w') := fun d e W hd he hb => covers_any d e _ _ rfl rfl W hd he (hS'.out.below hb)
        have eT : Hid (S (fold T.data.toList) = S (fold s.data.toList ++ semis (ys.map fold))) := by rw [hT.out.1, fold_app, fold_semis]; exact rfl
        have eM : Hid (S (fold M.data.toList) = S (fold s.data.toList ++ semis (ys.map fold ++ [fold x]))) := by rw [hMl, fold_app, fold_semis, List.map_append]; exact rfl
        have hzs : Hid (∀ z ∈ ys.map fold, z ≠ [] ∧ ∀ b ∈ z, isK b = true) := fun z hz => by
          obtain ⟨y, hy, rfl⟩ := List.mem_map.1 hz
          exact hT.out.2.2.2 y hy
        have hhas : Hid (h = decide (fold x ∈ ys.map fold)) := hT.out.2.1
        have hsizes : Hid (T.size ≤ 4194304 ∧ M.size ≤ 4194304 ∧ s.size ≤ 4194304) := ⟨by omega, hMs, by have := hsz'.out; omega⟩
        have o0 : Hid (Below w.heap.size w wr) := hB.out
        clear hTs hxs hMl hMs hT hB hall
        go_wp2_with fail
        refine (hC1 wr o0.out).out.mono ?_
        rintro e W2 ⟨rfl, hb2⟩
        have o2 : Hid (Below w.heap.size w W2) := o0.out.trans (hb2.mono o0.out.size)
        clear hC1 hb2 o0
        go_wp2_with fail
        refine (hC2 W2 o2.out).out.mono ?_
        rintro e W3 ⟨rfl, hb3⟩
        have o3 : Hid (Below w.heap.size w W3) := o2.out.trans (hb3.mono o2.out.size)
        clear hC2 hb3 o2
        go_wp2_with fail
        refine (hC3 W3 o3.out).out.mono ?_
        rintro e W4 ⟨rfl, hb4⟩
        have o4 : Hid (Below w.heap.size w W4) := o3.out.trans (hb4.mono o3.out.size)
        clear hC3 hb4 o3
        by_cases hty : (typE (fold s.data.toList)).2 = true ∧ ¬ (typE (fold s.data.toList)).1 < (fold s.data.toList).length
        · have hp : (parsT (S (fold s.data.toList))).2.1 = 0 := by unfold parsT; rw [S_l, S_size, if_pos hty]
          have hTy : typE (fold s.data.toList) = ((fold s.data.toList).length, true) := by
            have h1 := typE_le (fold s.data.toList)
            have h2 : (typE (fold s.data.toList)).1 = (fold s.data.toList).length := by omega
            exact Prod.ext h2 hty.1
          have dT := desc_semis (fold s.data.toList) (ys.map fold) hTy hzs.out
          have dM := desc_semis (fold s.data.toList) (ys.map fold ++ [fold x]) hTy (fun z hz => by
            rcases List.mem_append.1 hz with hz | hz
            · exact hzs.out z hz
            · rw [List.mem_singleton.1 hz]; exact hxo'.out.1)
          have dS := desc_semis (fold s.data.toList) [] hTy (by simp)
          rw [show fold s.data.toList ++ semis [] = fold s.data.toList by simp [semis]] at dS
          rw [← eT.out] at dT
          rw [← eM.out] at dM
          have v1 : covB (S (fold T.data.toList)) (S (fold M.data.toList)) = true := by
            unfold covB holds
            rw [dT.1, dM.1, dT.2, dM.2]
            simp [lin_self]
            intro a ha
            exact Or.inl ⟨a, ha, rfl⟩
          have v2 : covB (S (fold s.data.toList)) (S (fold M.data.toList)) = true := by
            unfold covB holds
            rw [dS.1, dM.1, dS.2, dM.2]
            simp [lin_self]
          have v3 : covB (S (fold M.data.toList)) (S (fold T.data.toList)) = h := by
            rw [hhas.out]
            unfold covB holds
            rw [dT.1, dM.1, dT.2, dM.2]
            rw [Bool.eq_iff_iff]
            simp [lin_self]
            intro _ _ _ a ha
            exact ⟨a, ha, rfl⟩
          have okM : Hid ((desc (S (fold M.data.toList))).2.2 = true) := by rw [dM.1]; exact rfl
          have hV : Hid (covB (S (fold T.data.toList)) (S (fold M.data.toList)) = true ∧ covB (S (fold s.data.toList)) (S (fold M.data.toList)) = true ∧ covB (S (fold M.data.toList)) (S (fold T.data.toList)) = h) := ⟨v1, v2, v3⟩
          have h5 := hPT W4
          rw [hp] at h5
          generalize (parsT (S (fold s.data.toList))).1 = pt1 at h5
          generalize (parsT (S (fold s.data.toList))).2.2 = pt2 at h5
          clear hPT hp hTy dT dM dS v1 v2 v3 hty eT eM hzs hhas
          go_wp2_with fail
          refine h5.out.mono ?_
          rintro e W5 ⟨rfl, hb5⟩
          have o5 : Hid (Below w.heap.size w W5) := o4.out.trans (hb5.mono o4.out.size)
          have h6 := hPM W5
          clear h5 hb5 o4 hPM
          go_wp2_with fail
          refine h6.out.mono ?_
          rintro e W6 ⟨⟨q, va, vn, vc, fe, fp, rfl, hfe⟩, hb6⟩
          have hfe0 : fe = 0 := by
            rcases hfe with ⟨h1, _⟩ | ⟨_, h2⟩
            · exact h1
            · rw [okM.out] at h2; cases h2
          subst hfe0
          have o6 : Hid (Below w.heap.size w W6) := o5.out.trans (hb6.mono o5.out.size)
          clear hfe okM h6 hb6 o5
          obtain ⟨W7, hW7, hB7⟩ := keepD W6 q va vn vc
          have o7 : Hid (Below w.heap.size w W7) := o6.out.trans (hB7.mono o6.out.size)
          go_wp2_with fail
          refine (num_any 0 W7).mono ?_
          rintro e W8 ⟨rfl, hW8⟩
          subst hW8
          clear hW7 hB7 o6
          go_wp2_with fail
          refine (num_any 0 W8).mono ?_
          rintro e W9 ⟨rfl, hW9⟩
          subst hW9
          have g1 := hCov T M W9 hsizes.out.1 hsizes.out.2.1 o7.out
          rw [hV.out.1] at g1
          go_wp2_with fail
          refine g1.out.mono ?_
          rintro e Wa ⟨rfl, hba⟩
          have oa : Hid (Below w.heap.size w Wa) := o7.out.trans (hba.mono o7.out.size)
          have g2 := hCov s M Wa hsizes.out.2.2 hsizes.out.2.1 oa.out
          rw [hV.out.2.1] at g2
          clear g1 hba o7
          go_wp2_with fail
          refine g2.out.mono ?_
          rintro e Wb ⟨rfl, hbb⟩
          have ob : Hid (Below w.heap.size w Wb) := oa.out.trans (hbb.mono oa.out.size)
          have g3 := hCov M T Wb hsizes.out.2.1 hsizes.out.1 ob.out
          rw [hV.out.2.2] at g3
          have hhh : (h == h) = true := by simp
          clear g2 hbb oa hCov hV
          go_wp2_with fail
          refine g3.out.mono ?_
          rintro e Wc ⟨rfl, hbc⟩
          have oc : Hid (Below w.heap.size w Wc) := ob.out.trans (hbc.mono ob.out.size)
          clear g3 hbc ob
          go_wp2_with fail
          go_ret
          exact ⟨rfl, oc.out⟩
        · have hp : (parsT (S (fold s.data.toList))).2.1 = 40 := by unfold parsT; rw [S_l, S_size, if_neg hty]
          have hbad : Hid ((∀ b ∈ s.data.toList, b ≠ 59) → (desc (S (fold M.data.toList))).2.2 = false) := fun h59 => by
            have hlo : ∀ b ∈ fold s.data.toList, b ≠ 59 := by
              intro b hb
              unfold fold at hb
              obtain ⟨c0, hc0, rfl⟩ := List.mem_map.1 hb
              exact lo_semi c0 (h59 c0 hc0)
            rw [eM.out]
            cases hys : ys.map fold ++ [fold x] with
            | nil => simp at hys
            | cons z zs => exact desc_bad _ z zs hlo hty
          have h5 := hPT W4
          rw [hp] at h5
          generalize (parsT (S (fold s.data.toList))).1 = pt1 at h5
          generalize (parsT (S (fold s.data.toList))).2.2 = pt2 at h5
          clear hPT hp hty eT eM hzs hhas hCov
          go_wp2_with fail
          refine h5.out.mono ?_
          rintro e W5 ⟨rfl, hb5⟩
          have o5 : Hid (Below w.heap.size w W5) := o4.out.trans (hb5.mono o4.out.size)
          have h6 := hPM W5
          clear h5 hb5 o4 hPM
          go_wp2_with fail
          refine h6.out.mono ?_
          rintro e W6 ⟨⟨q, va, vn, vc, fe, fp, rfl, hfe⟩, hb6⟩
          have hfe' : Hid ((∀ b ∈ s.data.toList, b ≠ 59) → fe = 40) := fun h59 => by
            rcases hfe with ⟨_, h2⟩ | ⟨h1, _⟩
            · rw [hbad.out h59] at h2; cases h2
            · exact h1
          have o6 : Hid (Below w.heap.size w W6) := o5.out.trans (hb6.mono o5.out.size)
          clear hfe hbad h6 hb6 o5
          obtain ⟨W7, hW7, hB7⟩ := keepD W6 q va vn vc
          have o7 : Hid (Below w.heap.size w W7) := o6.out.trans (hB7.mono o6.out.size)
          go_wp2_with fail
          refine (num_any 40 W7).mono ?_
          rintro e W8 ⟨rfl, hW8⟩
          subst hW8
          clear hW7 hB7 o6
          go_wp2_with fail
          go_loopw [19] (fun iv wq => ∃ j : Nat, j ≤ s.size ∧ iv = .int .i64 (j : Int) ∧ Hid (∀ b ∈ s.data.toList.take j, b ≠ 59) ∧ wq = W8) (fun iv _ => s.size - (intOf iv).toNat)
          case atStart => exact ⟨0, Nat.zero_le _, rfl, by intro b hb; simp at hb, rfl⟩
          case round =>
            obtain ⟨j, hj, rfl, hno, rfl⟩ := hrel
            by_cases hjl : j < s.size
            · have j0 : (0 : Int) ≤ (j : Int) := Int.natCast_nonneg _
              have js : s.size ≤ 4194304 := hsizes.out.2.2
              have j1 : (j : Int) < (s.size : Int) := Int.ofNat_lt.2 hjl
              by_cases h59 : s[j].toNat = 59
              · have e59 : ((s[j].toNat : Int) == 59) = true := by rw [beq_iff_eq]; omega
                clear h59
                go_wp2_with fail
                go_ret
                exact ⟨rfl, o7.out⟩
              · have e59 : ((s[j].toNat : Int) == 59) = false := by rw [beq_eq_false_iff_ne]; omega
                have hno' : Hid (∀ b ∈ s.data.toList.take (j + 1), b ≠ 59) := fun b hb => by
                  have hj' : j < s.data.toList.length := by rw [size_l]; exact hjl
                  rw [List.take_succ_eq_append_getElem hj'] at hb
                  rcases List.mem_append.1 hb with hb | hb
                  · exact hno.out b hb
                  · rw [List.mem_singleton.1 hb]
                    have e : s.data.toList[j] = s[j] := by rw [Array.getElem_toList]; rfl
                    rw [e]
                    intro q
                    exact h59 (by rw [q]; rfl)
                clear h59
                go_wp2_with fail
                go_roundw
                case rel => exact ⟨j + 1, hjl, by simp, hno', by first | rfl | trivial⟩
                case measure => simp [intOf]; omega
            · have j1 : ¬ (j : Int) < (s.size : Int) := by omega
              have hfe40 : fe = 40 := hfe'.out (by
                have h1 := hno.out
                rw [show j = s.data.toList.length by rw [size_l]; omega, List.take_length] at h1
                exact h1)
              subst hfe40
              go_wp2_with fail
              refine (num_any 40 _).mono ?_
              rintro e W9 ⟨rfl, hW9⟩
              subst hW9
              go_wp2_with fail
              go_ret
              exact ⟨rfl, o7.out⟩
    · have k1 : ¬ (k : Int) < (n : Int) := by omega
      have hTs : T.size ≤ s.size + totM X n + 20 := by
        have h1 := congrArg List.length hT.out.1
        have h2 := hT.out.2.2.1
        have h3 := totM_le X n k hkn
        have := hsz'.out
        rw [size_l, List.length_append, size_l] at h1
        omega
      have hxs : (S x).size ≤ o.size + 1 := by rw [S_size]; exact hxo'.out.2
      have hall := hsz'.out
      have c1 : ¬ T.size + 1 > 9223372036854775807 := by omega
      have c2 : ¬ T.size + 1 + (S x).size > 9223372036854775807 := by omega
      obtain ⟨M, hM⟩ : ∃ M, (T ++ ⟨#[59]⟩) ++ S x = M := ⟨_, rfl⟩
      have hMl : M.data.toList = s.data.toList ++ semis (ys ++ [x]) := by
        rw [← hM, app_l, app_l, hT.out.1, S_l, semis_snoc]
        simp
      have hMs : M.size ≤ 4194304 := by
        rw [← hM, ByteArray.size_append, ByteArray.size_append]
        show T.size + 1 + (S x).size ≤ _
        omega
      have hC1 : ∀ W, Below w.heap.size w W → Hid (Calls Tryd.prog 15 #[.string cnT, .string cnX] W fun r w' => r = .returned (.bool true) ∧ Below W.heap.size W w') := fun W hb => by
        have h := covers_any cnT cnX _ _ rfl rfl W (by decide) (by decide) (hS'.out.below hb)
        rw [cov1] at h
        exact h
      have hC2 : ∀ W, Below w.heap.size w W → Hid (Calls Tryd.prog 15 #[.string cnX, .string cnT] W fun r w' => r = .returned (.bool false) ∧ Below W.heap.size W w') := fun W hb => by
        have h := covers_any cnX cnT _ _ rfl rfl W (by decide) (by decide) (hS'.out.below hb)
        rw [cov2] at h
        exact h
      have hC3 : ∀ W, Below w.heap.size w W → Hid (Calls Tryd.prog 15 #[.string cnT, .string snX] W fun r w' => r = .returned (.bool false) ∧ Below W.heap.size W w') := fun W hb => by
        have h := covers_any cnT snX _ _ rfl rfl W (by decide) (by decide) (hS'.out.below hb)
        rw [cov3] at h
        exact h
      have hPT : ∀ W, Hid (Calls Tryd.prog 16 #[.string s] W fun e w' => e = .returned (.tuple #[.string (parsT (S (fold s.data.toList))).1, .int .i64 (parsT (S (fold s.data.toList))).2.1, .int .i64 ((parsT (S (fold s.data.toList))).2.2 : Int)]) ∧ Below W.heap.size W w') := fun W => parseType_any s W (by have := hsz'.out; omega)
      have hPM : ∀ W, Hid (Calls Tryd.prog 17 #[.string M] W fun e w' => PFlat (S (fold M.data.toList)) e ∧ Below W.heap.size W w') := fun W => parse_flat M _ rfl W hMs
      have hCov : ∀ (d e : ByteArray) (W : World), d.size ≤ 4194304 → e.size ≤ 4194304 → Below w.heap.size w W → Hid (Calls Tryd.prog 15 #[.string d, .string e] W fun r w' => r = .returned (.bool (covB (S (fold d.data.toList)) (S (fold e.data.toList)))) ∧ Below W.heap.size W w') := fun d e W hd he hb => covers_any d e _ _ rfl rfl W hd he (hS'.out.below hb)
      have eT : Hid (S (fold T.data.toList) = S (fold s.data.toList ++ semis (ys.map fold))) := by rw [hT.out.1, fold_app, fold_semis]; exact rfl
      have eM : Hid (S (fold M.data.toList) = S (fold s.data.toList ++ semis (ys.map fold ++ [fold x]))) := by rw [hMl, fold_app, fold_semis, List.map_append]; exact rfl
      have hzs : Hid (∀ z ∈ ys.map fold, z ≠ [] ∧ ∀ b ∈ z, isK b = true) := fun z hz => by
        obtain ⟨y, hy, rfl⟩ := List.mem_map.1 hz
        exact hT.out.2.2.2 y hy
      have hhas : Hid (h = decide (fold x ∈ ys.map fold)) := hT.out.2.1
      have hsizes : Hid (T.size ≤ 4194304 ∧ M.size ≤ 4194304 ∧ s.size ≤ 4194304) := ⟨by omega, hMs, by have := hsz'.out; omega⟩
      have o0 : Hid (Below w.heap.size w wr) := hB.out
      clear hTs hxs hMl hMs hT hB hall
      go_wp2_with fail
      refine (hC1 wr o0.out).out.mono ?_
      rintro e W2 ⟨rfl, hb2⟩
      have o2 : Hid (Below w.heap.size w W2) := o0.out.trans (hb2.mono o0.out.size)
      clear hC1 hb2 o0
      go_wp2_with fail
      refine (hC2 W2 o2.out).out.mono ?_
      rintro e W3 ⟨rfl, hb3⟩
      have o3 : Hid (Below w.heap.size w W3) := o2.out.trans (hb3.mono o2.out.size)
      clear hC2 hb3 o2
      go_wp2_with fail
      refine (hC3 W3 o3.out).out.mono ?_
      rintro e W4 ⟨rfl, hb4⟩
      have o4 : Hid (Below w.heap.size w W4) := o3.out.trans (hb4.mono o3.out.size)
      clear hC3 hb4 o3
      by_cases hty : (typE (fold s.data.toList)).2 = true ∧ ¬ (typE (fold s.data.toList)).1 < (fold s.data.toList).length
      · have hp : (parsT (S (fold s.data.toList))).2.1 = 0 := by unfold parsT; rw [S_l, S_size, if_pos hty]
        have hTy : typE (fold s.data.toList) = ((fold s.data.toList).length, true) := by
          have h1 := typE_le (fold s.data.toList)
          have h2 : (typE (fold s.data.toList)).1 = (fold s.data.toList).length := by omega
          exact Prod.ext h2 hty.1
        have dT := desc_semis (fold s.data.toList) (ys.map fold) hTy hzs.out
        have dM := desc_semis (fold s.data.toList) (ys.map fold ++ [fold x]) hTy (fun z hz => by
          rcases List.mem_append.1 hz with hz | hz
          · exact hzs.out z hz
          · rw [List.mem_singleton.1 hz]; exact hxo'.out.1)
        have dS := desc_semis (fold s.data.toList) [] hTy (by simp)
        rw [show fold s.data.toList ++ semis [] = fold s.data.toList by simp [semis]] at dS
        rw [← eT.out] at dT
        rw [← eM.out] at dM
        have v1 : covB (S (fold T.data.toList)) (S (fold M.data.toList)) = true := by
          unfold covB holds
          rw [dT.1, dM.1, dT.2, dM.2]
          simp [lin_self]
          intro a ha
          exact Or.inl ⟨a, ha, rfl⟩
        have v2 : covB (S (fold s.data.toList)) (S (fold M.data.toList)) = true := by
          unfold covB holds
          rw [dS.1, dM.1, dS.2, dM.2]
          simp [lin_self]
        have v3 : covB (S (fold M.data.toList)) (S (fold T.data.toList)) = h := by
          rw [hhas.out]
          unfold covB holds
          rw [dT.1, dM.1, dT.2, dM.2]
          rw [Bool.eq_iff_iff]
          simp [lin_self]
          intro _ _ _ a ha
          exact ⟨a, ha, rfl⟩
        have okM : Hid ((desc (S (fold M.data.toList))).2.2 = true) := by rw [dM.1]; exact rfl
        have hV : Hid (covB (S (fold T.data.toList)) (S (fold M.data.toList)) = true ∧ covB (S (fold s.data.toList)) (S (fold M.data.toList)) = true ∧ covB (S (fold M.data.toList)) (S (fold T.data.toList)) = h) := ⟨v1, v2, v3⟩
        have h5 := hPT W4
        rw [hp] at h5
        generalize (parsT (S (fold s.data.toList))).1 = pt1 at h5
        generalize (parsT (S (fold s.data.toList))).2.2 = pt2 at h5
        clear hPT hp hTy dT dM dS v1 v2 v3 hty eT eM hzs hhas
        go_wp2_with fail
        refine h5.out.mono ?_
        rintro e W5 ⟨rfl, hb5⟩
        have o5 : Hid (Below w.heap.size w W5) := o4.out.trans (hb5.mono o4.out.size)
        have h6 := hPM W5
        clear h5 hb5 o4 hPM
        go_wp2_with fail
        refine h6.out.mono ?_
        rintro e W6 ⟨⟨q, va, vn, vc, fe, fp, rfl, hfe⟩, hb6⟩
        have hfe0 : fe = 0 := by
          rcases hfe with ⟨h1, _⟩ | ⟨_, h2⟩
          · exact h1
          · rw [okM.out] at h2; cases h2
        subst hfe0
        have o6 : Hid (Below w.heap.size w W6) := o5.out.trans (hb6.mono o5.out.size)
        clear hfe okM h6 hb6 o5
        obtain ⟨W7, hW7, hB7⟩ := keepD W6 q va vn vc
        have o7 : Hid (Below w.heap.size w W7) := o6.out.trans (hB7.mono o6.out.size)
        go_wp2_with fail
        refine (num_any 0 W7).mono ?_
        rintro e W8 ⟨rfl, hW8⟩
        subst hW8
        clear hW7 hB7 o6
        go_wp2_with fail
        refine (num_any 0 W8).mono ?_
        rintro e W9 ⟨rfl, hW9⟩
        subst hW9
        have g1 := hCov T M W9 hsizes.out.1 hsizes.out.2.1 o7.out
        rw [hV.out.1] at g1
        go_wp2_with fail
        refine g1.out.mono ?_
        rintro e Wa ⟨rfl, hba⟩
        have oa : Hid (Below w.heap.size w Wa) := o7.out.trans (hba.mono o7.out.size)
        have g2 := hCov s M Wa hsizes.out.2.2 hsizes.out.2.1 oa.out
        rw [hV.out.2.1] at g2
        clear g1 hba o7
        go_wp2_with fail
        refine g2.out.mono ?_
        rintro e Wb ⟨rfl, hbb⟩
        have ob : Hid (Below w.heap.size w Wb) := oa.out.trans (hbb.mono oa.out.size)
        have g3 := hCov M T Wb hsizes.out.2.1 hsizes.out.1 ob.out
        rw [hV.out.2.2] at g3
        have hhh : (h == h) = true := by simp
        clear g2 hbb oa hCov hV
        go_wp2_with fail
        refine g3.out.mono ?_
        rintro e Wc ⟨rfl, hbc⟩
        have oc : Hid (Below w.heap.size w Wc) := ob.out.trans (hbc.mono ob.out.size)
        clear g3 hbc ob
        go_wp2_with fail
        go_ret
        exact ⟨rfl, oc.out⟩
      · have hp : (parsT (S (fold s.data.toList))).2.1 = 40 := by unfold parsT; rw [S_l, S_size, if_neg hty]
        have hbad : Hid ((∀ b ∈ s.data.toList, b ≠ 59) → (desc (S (fold M.data.toList))).2.2 = false) := fun h59 => by
          have hlo : ∀ b ∈ fold s.data.toList, b ≠ 59 := by
            intro b hb
            unfold fold at hb
            obtain ⟨c0, hc0, rfl⟩ := List.mem_map.1 hb
            exact lo_semi c0 (h59 c0 hc0)
          rw [eM.out]
          cases hys : ys.map fold ++ [fold x] with
          | nil => simp at hys
          | cons z zs => exact desc_bad _ z zs hlo hty
        have h5 := hPT W4
        rw [hp] at h5
        generalize (parsT (S (fold s.data.toList))).1 = pt1 at h5
        generalize (parsT (S (fold s.data.toList))).2.2 = pt2 at h5
        clear hPT hp hty eT eM hzs hhas hCov
        go_wp2_with fail
        refine h5.out.mono ?_
        rintro e W5 ⟨rfl, hb5⟩
        have o5 : Hid (Below w.heap.size w W5) := o4.out.trans (hb5.mono o4.out.size)
        have h6 := hPM W5
        clear h5 hb5 o4 hPM
        go_wp2_with fail
        refine h6.out.mono ?_
        rintro e W6 ⟨⟨q, va, vn, vc, fe, fp, rfl, hfe⟩, hb6⟩
        have hfe' : Hid ((∀ b ∈ s.data.toList, b ≠ 59) → fe = 40) := fun h59 => by
          rcases hfe with ⟨_, h2⟩ | ⟨h1, _⟩
          · rw [hbad.out h59] at h2; cases h2
          · exact h1
        have o6 : Hid (Below w.heap.size w W6) := o5.out.trans (hb6.mono o5.out.size)
        clear hfe hbad h6 hb6 o5
        obtain ⟨W7, hW7, hB7⟩ := keepD W6 q va vn vc
        have o7 : Hid (Below w.heap.size w W7) := o6.out.trans (hB7.mono o6.out.size)
        go_wp2_with fail
        refine (num_any 40 W7).mono ?_
        rintro e W8 ⟨rfl, hW8⟩
        subst hW8
        clear hW7 hB7 o6
        go_wp2_with fail
        go_loopw [19] (fun iv wq => ∃ j : Nat, j ≤ s.size ∧ iv = .int .i64 (j : Int) ∧ Hid (∀ b ∈ s.data.toList.take j, b ≠ 59) ∧ wq = W8) (fun iv _ => s.size - (intOf iv).toNat)
        case atStart => exact ⟨0, Nat.zero_le _, rfl, by intro b hb; simp at hb, rfl⟩
        case round =>
          obtain ⟨j, hj, rfl, hno, rfl⟩ := hrel
          by_cases hjl : j < s.size
          · have j0 : (0 : Int) ≤ (j : Int) := Int.natCast_nonneg _
            have js : s.size ≤ 4194304 := hsizes.out.2.2
            have j1 : (j : Int) < (s.size : Int) := Int.ofNat_lt.2 hjl
            by_cases h59 : s[j].toNat = 59
            · have e59 : ((s[j].toNat : Int) == 59) = true := by rw [beq_iff_eq]; omega
              clear h59
              go_wp2_with fail
              go_ret
              exact ⟨rfl, o7.out⟩
            · have e59 : ((s[j].toNat : Int) == 59) = false := by rw [beq_eq_false_iff_ne]; omega
              have hno' : Hid (∀ b ∈ s.data.toList.take (j + 1), b ≠ 59) := fun b hb => by
                have hj' : j < s.data.toList.length := by rw [size_l]; exact hjl
                rw [List.take_succ_eq_append_getElem hj'] at hb
                rcases List.mem_append.1 hb with hb | hb
                · exact hno.out b hb
                · rw [List.mem_singleton.1 hb]
                  have e : s.data.toList[j] = s[j] := by rw [Array.getElem_toList]; rfl
                  rw [e]
                  intro q
                  exact h59 (by rw [q]; rfl)
              clear h59
              go_wp2_with fail
              go_roundw
              case rel => exact ⟨j + 1, hjl, by simp, hno', by first | rfl | trivial⟩
              case measure => simp [intOf]; omega
          · have j1 : ¬ (j : Int) < (s.size : Int) := by omega
            have hfe40 : fe = 40 := hfe'.out (by
              have h1 := hno.out
              rw [show j = s.data.toList.length by rw [size_l]; omega, List.take_length] at h1
              exact h1)
            subst hfe40
            go_wp2_with fail
            refine (num_any 40 _).mono ?_
            rintro e W9 ⟨rfl, hW9⟩
            subst hW9
            go_wp2_with fail
            go_ret
            exact ⟨rfl, o7.out⟩
end Go.Proofs.YtnboimoncpphlaaDoor
