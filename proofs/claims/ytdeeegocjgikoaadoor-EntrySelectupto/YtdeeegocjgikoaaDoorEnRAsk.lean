import Derived.Test.YtdeeegocjgikoaaDoorEnSelT
import Derived.Test.YtdeeegocjgikoaaDoorK9
import Derived.Test.YtdeeegocjgikoaaDoorRfCovs
namespace Go.Proofs.YtdeeegocjgikoaaDoor
open Go.RowKit
open TextMath (fold lo)
set_option linter.unusedVariables false

set_option maxRecDepth 100000 in
set_option maxHeartbeats 2000000 in
theorem rown_any (c : List UInt8) (w : World) (hc : c.length ≤ 1048576) (hT : NumTab w) :
    Calls Tryd.prog 53 #[.string (S c)] w fun e w' => e = .returned (.bool (ownB c)) ∧ Below w.heap.size w w' := by
  have hcs : (S c).size = c.length := by rw [← size_l, S_l]
  have hP := parseR_any (S c) (S (fold c)) (by rw [S_l]) w (by omega)
  have hT' : Hid (NumTab w) := hT
  have hcz : Hid ((canN (typD (S (fold c)))).size ≤ 140737488355328) := by
    have h1 := can_size (S (fold c))
    have h2 : (S (fold c)).size = c.length := by rw [← size_l, S_l]; unfold fold; simp
    unfold Hid
    omega
  clear hT
  obtain ⟨qq, hqq⟩ : ∃ qq, ownB c = qq := ⟨_, rfl⟩
  rw [hqq]
  have hq' : Hid (ownB c = qq) := hqq
  clear hqq
  go_enter Tryd.func53, Tryd.ntmps53
  go_wp2_with fail
  refine hP.mono ?_
  rintro e w1 ⟨hI, hb1⟩
  have o1 : Hid (Below w.heap.size w w1) := hb1
  clear hP hb1
  rcases hI with ⟨hok, va, r, vc, rfl, _⟩ | ⟨hok, rfl⟩
  · obtain ⟨vn, hvn⟩ : ∃ vn, r.length = vn := ⟨_, rfl⟩
    rw [hvn]
    obtain ⟨w2, hw2⟩ : ∃ W, w1.alloc (.cells #[.string (canN (typD (S (fold c)))), .slice va vn vc] 49) = W := ⟨_, rfl⟩
    have hb2 : Below w1.heap.size w1 w2 := by rw [← hw2]; exact (Below.refl _ _).alloc (Nat.le_refl _) _
    have b2 : Box w2 w1.heap.size 49 #[.string (canN (typD (S (fold c)))), .slice va vn vc] := by rw [← hw2]; exact Box.new _ _ _
    have o2 : Hid (Below w.heap.size w w2) := o1.out.trans (hb2.mono o1.out.size)
    have hF' : Hid (Calls Tryd.prog 71 #[.string (canN (typD (S (fold c))))] w2 fun e w' => FindIs w' w2.heap.size (S (fold (canN (typD (S (fold c)))).data.toList)) e ∧ Below w2.heap.size w2 w') := refFind_any (canN (typD (S (fold c)))) w2 hcz.out (hT'.out.below o2.out)
    have c0 : w2.cell? ⟨w1.heap.size, 0, none⟩ = some (.string (canN (typD (S (fold c))))) := (b2.cell 0 (by simp)).1
    have hans : Hid ((match rowOf (S (fold (canN (typD (S (fold c)))).data.toList)) with | some i => decide (USG.getD i.1 0 = 1) | none => false) = qq) := by unfold Hid; rw [← hq'.out]; unfold ownB; rw [hok]; rfl
    clear b2 hb2 hok hq' hvn
    generalize canN (typD (S (fold c))) = X at *
    generalize ((S c).size : Int) = pn at *
    go_upto_region 4 with fail
    clear hw2
    go_wp2_with fail
    refine hF'.out.mono ?_
    rintro e w3 ⟨hI, hb3⟩
    have o3 : Hid (Below w.heap.size w w3) := o2.out.trans (hb3.mono o2.out.size)
    clear hF' hb3 c0
    rcases hI with ⟨hr, rfl⟩ | ⟨i, v, hr, rfl, al, rfl, hal⟩
    · have hqf : Hid (qq = false) := by unfold Hid; rw [← hans.out, hr]
      go_wp2_with fail
      go_ret
      exact ⟨by rw [hqf.out]; rfl, o3.out.trans ((Below.refl _ _).alloc o3.out.size _)⟩
    · obtain ⟨aa, an, ac, rfl⟩ : ∃ aa an ac, al = .slice aa an ac := by
        rcases hal with ⟨_, rfl⟩ | ⟨_, g, cc, _, rfl, _⟩
        · exact ⟨_, _, _, rfl⟩
        · exact ⟨_, _, _, rfl⟩
      have hqf : Hid (qq = decide (USG.getD i.1 0 = 1)) := by unfold Hid; rw [← hans.out, hr]
      clear hal hans hr
      generalize USG.getD i.1 0 = ug at *
      generalize SYN.getD i.1 0 = sy at *
      go_wp2_with fail
      go_ret
      refine ⟨?_, o3.out.trans ((Below.refl _ _).alloc o3.out.size _)⟩
      rw [hqf.out]
      by_cases hu : ug = 1
      · simp [hu]
      · simp [hu]
  · have hqf : Hid (qq = false) := by unfold Hid; rw [← hq'.out]; exact ownB_bad hok
    clear hq' hok
    generalize ((desc (S (fold c))).2.1 : Int) = pn at *
    go_wp2_with fail
    go_ret
    exact ⟨by rw [hqf.out]; rfl, o1.out.trans ((Below.refl _ _).alloc o1.out.size _)⟩

set_option maxRecDepth 100000 in
set_option maxHeartbeats 2000000 in
theorem asked_any (t c : List UInt8) (w : World) (ht : t.length ≤ 1048576) (hc : c.length ≤ 1048576) (hT : NumTab w) (hK : KndTab w) :
    Calls Tryd.prog 33 #[.string (S t), .string (S c)] w fun e w' => e = .returned (.bool (askQ t c)) ∧ Below w.heap.size w w' := by
  have hts : (S t).size = t.length := by rw [← size_l, S_l]
  have hcs : (S c).size = c.length := by rw [← size_l, S_l]
  have hO : Hid (Calls Tryd.prog 53 #[.string (S c)] w fun e w' => e = .returned (.bool (ownB c)) ∧ Below w.heap.size w w') := rown_any c w hc hT
  have hV : Hid (∀ W, Below w.heap.size w W → Calls Tryd.prog 30 #[.string (S t), .string (S c)] W fun r w' => r = .returned (.bool (cvB t c)) ∧ Below W.heap.size W w') := fun W hW => by
    have h := coversR_any (S t) (S c) _ _ rfl rfl W (by omega) (by omega) (hK.below hW)
    rw [S_l, S_l] at h
    exact h
  clear hT hK
  unfold askQ
  by_cases e1 : t = starT
  · subst e1
    rw [if_pos rfl]
    have hS1 : S starT = ⟨#[42]⟩ := rfl
    rw [hS1]
    go_enter Tryd.func33, Tryd.ntmps33
    go_wp2_with (go_at_call 53; refine hO.out.mono ?_; rintro e w2 ⟨rfl, hb2⟩)
    go_ret
    exact ⟨rfl, hb2⟩
  · rw [if_neg e1]
    by_cases e2 : t = plusT
    · subst e2
      rw [if_pos rfl]
      have hS1 : S plusT = ⟨#[43]⟩ := rfl
      rw [hS1]
      go_enter Tryd.func33, Tryd.ntmps33
      go_wp2_with (go_at_call 53; refine hO.out.mono ?_; rintro e w2 ⟨rfl, hb2⟩)
      go_ret
      exact ⟨rfl, hb2⟩
    · rw [if_neg e2]
      by_cases e3 : t = noneT
      · subst e3
        rw [if_pos rfl]
        have hS1 : S noneT = ⟨#[49, 46, 49]⟩ := rfl
        rw [hS1]
        go_enter Tryd.func33, Tryd.ntmps33
        go_wp2_with (go_at_call 53; refine hO.out.mono ?_; rintro e w2 ⟨rfl, hb2⟩)
        go_ret
        exact ⟨rfl, hb2⟩
      · rw [if_neg e3]
        have r1 : ((S t).toList == [42]) = false := by rw [Lib.toList_data, S_l]; exact beq_eq_false_iff_ne.2 e1
        have r2 : ((S t).toList == [43]) = false := by rw [Lib.toList_data, S_l]; exact beq_eq_false_iff_ne.2 e2
        have r3 : ((S t).toList == [49, 46, 49]) = false := by rw [Lib.toList_data, S_l]; exact beq_eq_false_iff_ne.2 e3
        have q1 : ((S t).toList == (⟨#[42]⟩ : ByteArray).toList) = false := strNeW (y := starT) e1
        have q2 : ((S t).toList == (⟨#[43]⟩ : ByteArray).toList) = false := strNeW (y := plusT) e2
        have q3 : ((S t).toList == (⟨#[49, 46, 49]⟩ : ByteArray).toList) = false := strNeW (y := noneT) e3
        clear e1 e2 e3
        go_enter Tryd.func33, Tryd.ntmps33
        go_wp2_with (first | (go_at_call 53; refine hO.out.mono ?_; rintro e w2 ⟨rfl, hb2⟩) | (go_at_call 30; refine (hV.out w2 hb2).mono ?_; rintro e w3 ⟨rfl, hb3⟩))
        go_ret
        exact ⟨rfl, hb2.trans (hb3.mono hb2.size)⟩
end Go.Proofs.YtdeeegocjgikoaaDoor
