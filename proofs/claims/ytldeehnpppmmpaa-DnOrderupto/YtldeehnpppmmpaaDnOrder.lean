import Derived.Test.YtldeehnpppmmpaaDnLaw
namespace Go.Proofs.Ytldeehnpppmmpaa
open Go.RowKit
open DnMath (Tot lx tb tt ck tb_tot tt_tot ck_tot less_tt lx_front lx_between)
set_option linter.unusedVariables false

set_option maxRecDepth 100000 in
set_option maxHeartbeats 8000000 in
theorem dnOrder_walk (A B C : List (List UInt8)) (a b c : Option Addr) (ca cb cc : Nat) (w : World) (Y : A.length + B.length + C.length ≤ 1048576) (u0 : A.length ≤ ca) (u1 : B.length ≤ cb) (u2 : C.length ≤ cc) (ra : Row w a A) (rb : Row w b B) (rc : Row w c C) :
    Calls Try.prog 3 #[.slice a A.length ca, .slice b B.length cb, .slice c C.length cc] w fun e w' => e = .returned (.bool true) ∧ Below w.heap.size w w' := by
  have Y' : Hid (A.length + B.length + C.length ≤ 1048576) := Y
  have hR : Hid (Row w a A ∧ Row w b B ∧ Row w c C) := ⟨ra, rb, rc⟩
  have T := ck_tot
  have hx := T.1 A B
  have hz := T.1 B C
  have hu := T.1 A C
  have hba := T.2.2.1 A B
  have hcb := T.2.2.1 B C
  have hca := T.2.2.1 A C
  have t1 := T.2.2.2 A B C
  have t2 := T.2.2.2 C B A
  have t0 : ck A B = 0 → ck A C = ck B C := fun q => by rw [(T.2.1 A B).1 q]
  have hsame : decide (A = B) = decide (ck A B = 0) := decide_eq_decide.2 (T.2.1 A B).symm
  have hsame' : Hid (decide (A = B) = decide (ck A B = 0)) := hsame
  have hfr := lx_front tt_tot C A
  obtain ⟨f, hf0⟩ : ∃ f, ck A (A ++ C) = f := ⟨_, rfl⟩
  have hf : Hid (ck A (A ++ C) = f) := hf0
  have hfc : (f = 0 ∧ ((C.length : Int) == 0) = true) ∨ (f = -1 ∧ ((C.length : Int) == 0) = false) := by
    have e : f = if C = [] then 0 else -1 := by rw [← hf0]; exact hfr
    by_cases hC : C = []
    · rw [if_pos hC] at e
      subst hC
      exact Or.inl ⟨e, rfl⟩
    · rw [if_neg hC] at e
      refine Or.inr ⟨e, ?_⟩
      rw [beq_eq_false_iff_ne]
      intro q
      exact hC (List.eq_nil_of_length_eq_zero (by omega))
  clear Y u0 u1 u2 ra rb rc T hfr hf0 hsame
  obtain ⟨x, hX⟩ : ∃ x, ck A B = x := ⟨_, rfl⟩
  obtain ⟨y, hY⟩ : ∃ y, ck B A = y := ⟨_, rfl⟩
  obtain ⟨z, hZ⟩ : ∃ z, ck B C = z := ⟨_, rfl⟩
  obtain ⟨u, hU⟩ : ∃ u, ck A C = u := ⟨_, rfl⟩
  rw [hX] at hx hba t1 t0
  rw [hY] at hba t2
  rw [hZ] at hz hcb t1 t0
  rw [hU] at hu hca t1 t0
  have hX' : Hid (ck A B = x ∧ ck B A = y ∧ ck B C = z ∧ ck A C = u) := ⟨hX, hY, hZ, hU⟩
  generalize ck C B = cb' at *
  generalize ck C A = ca' at *
  clear hX hY hZ hU
  rcases hx with rfl | rfl | rfl <;> rcases hz with rfl | rfl | rfl <;> rcases hu with rfl | rfl | rfl <;> first | (exfalso; omega) | skip
  all_goals
    subst hba
    clear hcb hca t1 t2 t0
    go_enter Try.func3, Try.ntmps3
    go_wp2_with fail
    have hs := Y'.out
    have h := lawCompare_any A B a b ca cb w (by omega) (by omega) hR.out.1 hR.out.2.1
    rw [hX'.out.1] at h
    refine h.mono ?_
    rintro e w1 ⟨rfl, hb1⟩
    have o1 : Hid (Below w.heap.size w w1) := hb1
    clear hb1 h hs
    go_wp2_with fail
    have hs := Y'.out
    have h := lawCompare_any B A b a cb ca w1 (by omega) (by omega) (hR.out.2.1.below o1.out) (hR.out.1.below o1.out)
    rw [hX'.out.2.1] at h
    refine h.mono ?_
    rintro e w2 ⟨rfl, hb2⟩
    have o2 : Hid (Below w.heap.size w w2) := o1.out.trans (hb2.mono o1.out.size)
    clear hb2 h hs o1
    go_wp2_with fail
    have hs := Y'.out
    have h := lawCompare_any B C b c cb cc w2 (by omega) (by omega) (hR.out.2.1.below o2.out) (hR.out.2.2.below o2.out)
    rw [hX'.out.2.2.1] at h
    refine h.mono ?_
    rintro e w3 ⟨rfl, hb3⟩
    have o3 : Hid (Below w.heap.size w w3) := o2.out.trans (hb3.mono o2.out.size)
    clear hb3 h hs o2
    go_wp2_with fail
    have hs := Y'.out
    have h := lawCompare_any A C a c ca cc w3 (by omega) (by omega) (hR.out.1.below o3.out) (hR.out.2.2.below o3.out)
    rw [hX'.out.2.2.2] at h
    refine h.mono ?_
    rintro e w4 ⟨rfl, hb4⟩
    have o4 : Hid (Below w.heap.size w w4) := o3.out.trans (hb4.mono o3.out.size)
    clear hb4 h hs o3
    go_wp2_with fail
    have hs := Y'.out
    have h := sameTexts_any A B a b ca cb w4 (by omega) (by omega) (hR.out.1.below o4.out) (hR.out.2.1.below o4.out)
    rw [hsame'.out, hX'.out.1] at h
    refine h.mono ?_
    rintro e w5 ⟨rfl, q5, rfl⟩
    have o5 : Hid (Below w.heap.size w (w4.drewN q5)) := below_drewN o4.out _
    clear h hs o4
    generalize w4.drewN q5 = W5 at *
    have hs := Y'.out
    obtain ⟨a6, c6, w6, hr6, ho6, _, hb6⟩ := copy_new W5 A a ca (by omega) (hR.out.1.below o5.out)
    obtain ⟨v7, w7, hr7, ho7, hb7⟩ := append_row w6 W5.heap.size _ A C c C.length cc ho6 (hR.out.2.2.below (o5.out.trans (hb6.mono o5.out.size))) rfl hb6.size (by omega)
    obtain ⟨va, vc, rfl⟩ : ∃ va vc, v7 = .slice va (A ++ C).length vc := by
      rcases ownS_form ho7 with ⟨rfl, h⟩ | ⟨g, cap, rfl, _⟩
      · rw [h]; exact ⟨_, _, rfl⟩
      · exact ⟨_, _, rfl⟩
    have HB7 : Below w.heap.size w w7 := o5.out.trans ((hb6.trans hb7).mono o5.out.size)
    have o7 : Hid (Below w.heap.size w w7 ∧ Row w7 va (A ++ C)) := ⟨HB7, (ownS_row ho7).1⟩
    have hAC : Hid (A.length + C.length = (A ++ C).length) := List.length_append.symm
    clear ho6 hb6 ho7 hb7 HB7 hs o5
    generalize hL : A ++ C = L at *
    have hL' : Hid (A ++ C = L) := hL
    clear hL
    go_wp2_with (at_builtin; refine Lib.wpList_append_run _ rfl _ _ _ _ rfl _ _ rfl rfl _ _ hr6 ?_; refine (Hid.out (p := _) ?_))
    unfold Hid
    clear hr6
    go_wp2_with (at_builtin; refine Lib.wpList_append_run _ rfl _ _ _ _ rfl _ _ rfl rfl _ _ hr7 ?_)
    have hs := Y'.out
    have hs2 := hAC.out
    have h := lawCompare_any A L a va ca vc w7 (by omega) (by omega) (hR.out.1.below o7.out.1) o7.out.2
    rw [hf.out] at h
    refine h.mono ?_
    rintro e w8 ⟨rfl, hb8⟩
    have o8 : Hid (Below w.heap.size w w8) := o7.out.1.trans (hb8.mono o7.out.1.size)
    clear h hs hs2 hb8 o7
    rcases hfc with ⟨rfl, hb⟩ | ⟨rfl, hb⟩
    · go_wp2_with fail
      go_ret
      exact ⟨rfl, o8.out⟩
    · go_wp2_with fail
      go_ret
      exact ⟨rfl, o8.out⟩
end Go.Proofs.Ytldeehnpppmmpaa
