import Derived.Test.YtldeehnpppmmpaaDnLaw
namespace Go.Proofs.Ytldeehnpppmmpaa
open Go.RowKit
open DnMath (Tot lx tb tt ck tb_tot tt_tot ck_tot less_tt lx_front lx_between)
set_option linter.unusedVariables false

set_option maxRecDepth 100000 in
set_option maxHeartbeats 8000000 in
theorem dnTogether_walk (P A B C : List (List UInt8)) (p a b c : Option Addr) (cp ca cb cc : Nat) (w : World) (Y : P.length + A.length + B.length + C.length ≤ 1048576) (u0 : P.length ≤ cp) (u1 : A.length ≤ ca) (u2 : B.length ≤ cb) (u3 : C.length ≤ cc) (rp : Row w p P) (ra : Row w a A) (rb : Row w b B) (rc : Row w c C) :
    Calls Try.prog 7 #[.slice p P.length cp, .slice a A.length ca, .slice b B.length cb, .slice c C.length cc] w fun e w' => e = .returned (.bool true) ∧ Below w.heap.size w w' := by
  have Y' : Hid (P.length + A.length + B.length + C.length ≤ 1048576 ∧ B.length ≤ cb) := ⟨Y, u2⟩
  have hR : Hid (Row w p P ∧ Row w a A ∧ Row w b B ∧ Row w c C) := ⟨rp, ra, rb, rc⟩
  have hfr : ck P (P ++ A) = if A = [] then 0 else -1 := lx_front tt_tot A P
  have hbt : ck (P ++ A) B ≤ 0 → ck B (P ++ C) ≤ 0 → P <+: B := lx_between tt_tot P A B C
  have hX : Hid (P <+: P ++ A) := List.prefix_append _ _
  have hZ : Hid (P <+: P ++ C) := List.prefix_append _ _
  have hs := Y
  obtain ⟨bA, hbA⟩ : ∃ bA, ((A.length : Int) == 0) = bA := ⟨_, rfl⟩
  obtain ⟨f, hf0⟩ : ∃ f, ck P (P ++ A) = f := ⟨_, rfl⟩
  have hf1 : (f == (1 : Int)) = false ∧ (f == (0 : Int)) = bA := by
    rw [← hf0, hfr, ← hbA]
    by_cases hA : A = []
    · subst hA; simp
    · rw [if_neg hA]
      refine ⟨rfl, ?_⟩
      symm
      rw [show ((-1 : Int) == 0) = false from rfl, beq_eq_false_iff_ne]
      intro q
      exact hA (List.eq_nil_of_length_eq_zero (by omega))
  obtain ⟨hf1, hf2⟩ := hf1
  have hf : Hid (ck P (P ++ A) = f) := hf0
  have hlX : Hid ((P ++ A).length = P.length + A.length) := List.length_append
  have hlZ : Hid ((P ++ C).length = P.length + C.length) := List.length_append
  -- the two lists that are made
  obtain ⟨a1, c1, w1, hr1, ho1, _, hb1⟩ := copy_new w P p cp (by omega) rp
  obtain ⟨v2, w2, hr2, ho2, hb2⟩ := append_row w1 w.heap.size _ P A a A.length ca ho1 (ra.below hb1) rfl hb1.size (by omega)
  obtain ⟨xa, xc, rfl⟩ : ∃ va vc, v2 = .slice va (P ++ A).length vc := by
    rcases ownS_form ho2 with ⟨rfl, h⟩ | ⟨g, cap, rfl, _⟩
    · rw [h]; exact ⟨_, _, rfl⟩
    · exact ⟨_, _, rfl⟩
  have B2 : Below w.heap.size w w2 := hb1.trans hb2
  obtain ⟨a3, c3, w3, hr3, ho3, _, hb3⟩ := copy_new w2 P p cp (by omega) (rp.below B2)
  obtain ⟨v4, w4, hr4, ho4, hb4⟩ := append_row w3 w2.heap.size _ P C c C.length cc ho3 ((rc.below B2).below hb3) rfl hb3.size (by omega)
  obtain ⟨za, zc, rfl⟩ : ∃ va vc, v4 = .slice va (P ++ C).length vc := by
    rcases ownS_form ho4 with ⟨rfl, h⟩ | ⟨g, cap, rfl, _⟩
    · rw [h]; exact ⟨_, _, rfl⟩
    · exact ⟨_, _, rfl⟩
  have B24 : Below w2.heap.size w2 w4 := hb3.trans hb4
  have B4 : Below w.heap.size w w4 := B2.trans (B24.mono B2.size)
  have o4 : Hid (Below w.heap.size w w4 ∧ Row w4 xa (P ++ A) ∧ Row w4 za (P ++ C)) := ⟨B4, (ownS_row ho2).1.below B24, (ownS_row ho4).1⟩
  clear ho1 hb1 ho2 hb2 ho3 hb3 ho4 hb4 B2 B24 B4 hfr hf0 Y u0 u1 u2 u3 rp ra rb rc hs
  generalize P ++ A = X at *
  generalize P ++ C = Z at *
  obtain ⟨xb, hxb⟩ : ∃ xb, ck X B = xb := ⟨_, rfl⟩
  obtain ⟨bz, hbz⟩ : ∃ bz, ck B Z = bz := ⟨_, rfl⟩
  rw [hxb, hbz] at hbt
  have hxb' : Hid (ck X B = xb) := hxb
  have hbz' : Hid (ck B Z = bz) := hbz
  clear hxb hbz
  obtain ⟨inB, hin⟩ : ∃ inB, decide (P <+: B) = inB := ⟨_, rfl⟩
  have hin' : Hid (decide (P <+: B) = inB) := hin
  have hcase : (xb ≤ 0 ∧ bz ≤ 0 ∧ inB = true) ∨ (xb ≤ 0 ∧ ¬ bz ≤ 0 ∧ (inB = true ∨ inB = false)) ∨ (¬ xb ≤ 0 ∧ (inB = true ∨ inB = false)) := by
    by_cases h1 : xb ≤ 0
    · by_cases h2 : bz ≤ 0
      · exact Or.inl ⟨h1, h2, by rw [← hin]; exact decide_eq_true (hbt h1 h2)⟩
      · exact Or.inr (Or.inl ⟨h1, h2, by cases inB <;> simp⟩)
    · exact Or.inr (Or.inr ⟨h1, by cases inB <;> simp⟩)
  clear hbt hin
  rcases hcase with ⟨h1, h2, rfl⟩ | ⟨h1, h2, rfl | rfl⟩ | ⟨h1, rfl | rfl⟩
  all_goals
    go_enter Try.func7, Try.ntmps7
    go_wp2_with (at_builtin; refine Lib.wpList_append_run _ rfl _ _ _ _ rfl _ _ rfl rfl _ _ hr1 ?_; refine (Hid.out (p := _) ?_))
    unfold Hid
    clear hr1
    go_wp2_with (at_builtin; refine Lib.wpList_append_run _ rfl _ _ _ _ rfl _ _ rfl rfl _ _ hr2 ?_; refine (Hid.out (p := _) ?_))
    unfold Hid
    clear hr2
    go_wp2_with (at_builtin; refine Lib.wpList_append_run _ rfl _ _ _ _ rfl _ _ rfl rfl _ _ hr3 ?_; refine (Hid.out (p := _) ?_))
    unfold Hid
    clear hr3
    go_wp2_with (at_builtin; refine Lib.wpList_append_run _ rfl _ _ _ _ rfl _ _ rfl rfl _ _ hr4 ?_)
    clear hr4
    have hs := Y'.out.1
    have hs1 := hlX.out
    have hs2 := hlZ.out
    have h := lawWithin_any P X p xa cp xc w4 (by omega) (by omega) (hR.out.1.below o4.out.1) o4.out.2.1
    rw [decide_eq_true hX.out] at h
    refine h.mono ?_
    rintro e w5 ⟨rfl, hb5⟩
    have o5 : Hid (Below w4.heap.size w4 w5) := hb5
    clear hb5 h hs hs1 hs2
    go_wp2_with fail
    have hs := Y'.out.1
    have hs1 := hlX.out
    have hs2 := hlZ.out
    have h := lawWithin_any P Z p za cp zc w5 (by omega) (by omega) ((hR.out.1.below o4.out.1).below o5.out) (o4.out.2.2.below o5.out)
    rw [decide_eq_true hZ.out] at h
    refine h.mono ?_
    rintro e w6 ⟨rfl, hb6⟩
    have o6 : Hid (Below w4.heap.size w4 w6) := o5.out.trans (hb6.mono o5.out.size)
    clear hb6 h hs hs1 hs2 o5
    go_wp2_with fail
    have hs := Y'.out.1
    have hs1 := hlX.out
    have hs2 := hlZ.out
    have h := lawCompare_any P X p xa cp xc w6 (by omega) (by omega) ((hR.out.1.below o4.out.1).below o6.out) (o4.out.2.1.below o6.out)
    rw [hf.out] at h
    refine h.mono ?_
    rintro e w7 ⟨rfl, hb7⟩
    have o7 : Hid (Below w4.heap.size w4 w7) := o6.out.trans (hb7.mono o6.out.size)
    clear hb7 h hs hs1 hs2 o6
    go_wp2_with fail
    have hs := Y'.out.1
    have hs1 := hlX.out
    have hs2 := hlZ.out
    have h := lawCompare_any X B xa b xc cb w7 (by omega) (by omega) (o4.out.2.1.below o7.out) ((hR.out.2.2.1.below o4.out.1).below o7.out)
    rw [hxb'.out] at h
    refine h.mono ?_
    rintro e w8 ⟨rfl, hb8⟩
    have o8 : Hid (Below w4.heap.size w4 w8) := o7.out.trans (hb8.mono o7.out.size)
    clear hb8 h hs hs1 hs2 o7
    go_wp2_with fail
    have hs := Y'.out.1
    have hs1 := hlX.out
    have hs2 := hlZ.out
    have h := lawCompare_any B Z b za cb zc w8 (by omega) (by omega) ((hR.out.2.2.1.below o4.out.1).below o8.out) (o4.out.2.2.below o8.out)
    rw [hbz'.out] at h
    refine h.mono ?_
    rintro e w9 ⟨rfl, hb9⟩
    have o9 : Hid (Below w4.heap.size w4 w9) := o8.out.trans (hb9.mono o8.out.size)
    clear hb9 h hs hs1 hs2 o8
    go_wp2_with fail
    have hs := Y'.out.1
    have h := lawWithin_any P B p b cp cb w9 (by omega) (by omega) ((hR.out.1.below o4.out.1).below o9.out) ((hR.out.2.2.1.below o4.out.1).below o9.out)
    rw [hin'.out] at h
    refine h.mono ?_
    rintro e w10 ⟨rfl, hb10⟩
    have o10 : Hid (Below w4.heap.size w4 w10) := o9.out.trans (hb10.mono o9.out.size)
    clear hb10 h hs o9
    first
    | (go_wp2_with fail
       go_ret
       exact ⟨rfl, o4.out.1.trans (o10.out.mono o4.out.1.size)⟩)
    | (have hpre : P <+: B := of_decide_eq_true hin'.out
       have hle : P.length ≤ B.length := hpre.length_le
       have i2 : (P.length : Int) ≤ (B.length : Int) := Int.ofNat_le.2 hle
       have n0 : (0 : Int) ≤ (P.length : Int) := Int.natCast_nonneg _
       have n1 : P.length ≤ cb := by have := Y'.out.2; omega
       have htk : B.take P.length = P := (List.prefix_iff_eq_take.1 hpre).symm
       have hs := Y'.out.1
       have rB : Row w10 b B := (hR.out.2.2.1.below o4.out.1).below o10.out
       have rT : Row w10 b P := by
         rw [← htk]
         exact Row.front (k := B.drop P.length) (by rw [List.take_append_drop]; exact rB)
       have h := sameTexts_any P P b p cb cp w10 (by omega) (by omega) rT ((hR.out.1.below o4.out.1).below o10.out)
       rw [decide_eq_true rfl] at h
       clear hpre htk rB rT hs hle
       go_wp2_with fail
       refine h.mono ?_
       rintro e w11 ⟨rfl, q11, rfl⟩
       clear h
       go_wp2_with fail
       go_ret
       exact ⟨rfl, below_drewN (o4.out.1.trans (o10.out.mono o4.out.1.size)) _⟩)
end Go.Proofs.Ytldeehnpppmmpaa
