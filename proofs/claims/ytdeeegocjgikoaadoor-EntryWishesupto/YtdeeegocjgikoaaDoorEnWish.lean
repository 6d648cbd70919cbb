import Derived.Test.YtdeeegocjgikoaaDoorEnAsk
namespace Go.Proofs.YtdeeegocjgikoaaDoor
open Go.RowKit
open TextMath (fold lo)
set_option linter.unusedVariables false

/-- Is the attribute the directory's own? -/
def ownB (c : List UInt8) : Bool := (desc (S (fold c))).2.2 && (match rowOf (S (fold (canN (typD (S (fold c)))).data.toList)) with | some i => decide (USG.getD i.1 0 = 1) | none => false)
theorem row_nothing : rowOf (S (fold [])) = none := by decide +kernel
theorem ownB_bad {c : List UInt8} (h : (desc (S (fold c))).2.2 = false) : ownB c = false := by
  unfold ownB
  rw [h]
  rfl

set_option maxRecDepth 100000 in
set_option maxHeartbeats 2000000 in
theorem isOwn_any (c : List UInt8) (w : World) (hc : c.length ≤ 1048576) (hT : NumT3 w) :
    Calls Tryd.prog 35 #[.string (S c)] w fun e w' => e = .returned (.bool (ownB c)) ∧ Below w.heap.size w w' := by
  have hcs : (S c).size = c.length := by rw [← size_l, S_l]
  have hP := parse_any (S c) (S (fold c)) (by rw [S_l]) w (by omega)
  have hT' : Hid (NumT3 w) := hT
  have hcz : Hid ((canN (typD (S (fold c)))).size ≤ 140737488355328) := by
    have h1 := can_size (S (fold c))
    have h2 : (S (fold c)).size = c.length := by rw [← size_l, S_l]; unfold fold; simp
    unfold Hid
    omega
  clear hT
  obtain ⟨qq, hqq⟩ : ∃ qq, ownB c = qq := ⟨_, rfl⟩
  rw [hqq]
  have hq' : Hid (ownB c = qq) := hqq
  clear hqq
  go_enter Tryd.func35, Tryd.ntmps35
  go_wp2_with fail
  refine hP.mono ?_
  rintro e w1 ⟨hI, hb1⟩
  have o1 : Hid (Below w.heap.size w w1) := hb1
  clear hP hb1
  rcases hI with ⟨hok, v, L, rfl, hO, _, _⟩ | ⟨hok, rfl⟩
  · obtain ⟨va, vn, vc, rfl⟩ : ∃ va vn vc, v = .slice va vn vc := by
      obtain ⟨x, y, h, _⟩ := owns_slice (show World.ownsRow _ _ 9 1 _ _ _ from hO)
      exact ⟨_, _, _, h⟩
    obtain ⟨w2, hw2⟩ : ∃ W, w1.alloc (.cells #[.string (canN (typD (S (fold c)))), .slice va vn vc] 49) = W := ⟨_, rfl⟩
    have hb2 : Below w1.heap.size w1 w2 := by rw [← hw2]; exact (Below.refl _ _).alloc (Nat.le_refl _) _
    have b2 : Box w2 w1.heap.size 49 #[.string (canN (typD (S (fold c)))), .slice va vn vc] := by rw [← hw2]; exact Box.new _ _ _
    have o2 : Hid (Below w.heap.size w w2) := o1.out.trans (hb2.mono o1.out.size)
    have hF' : Hid (Calls Tryd.prog 54 #[.string (canN (typD (S (fold c))))] w2 fun e w' => FindIs w' w2.heap.size (S (fold (canN (typD (S (fold c)))).data.toList)) e ∧ Below w2.heap.size w2 w') := find_any (canN (typD (S (fold c)))) w2 hcz.out (hT'.out.below o2.out)
    have c0 : w2.cell? ⟨w1.heap.size, 0, none⟩ = some (.string (canN (typD (S (fold c))))) := (b2.cell 0 (by simp)).1
    have hans : Hid ((match rowOf (S (fold (canN (typD (S (fold c)))).data.toList)) with | some i => decide (USG.getD i.1 0 = 1) | none => false) = qq) := by unfold Hid; rw [← hq'.out]; unfold ownB; rw [hok]; rfl
    clear b2 hb2 hO hok hq'
    generalize canN (typD (S (fold c))) = X at *
    generalize ((desc (S (fold c))).2.1 : Int) = pn at *
    go_upto_region 2 with fail
    clear hw2
    go_wp2_with fail
    refine hF'.out.mono ?_
    rintro e w3 ⟨hI, hb3⟩
    have o3 : Hid (Below w.heap.size w w3) := o2.out.trans (hb3.mono o2.out.size)
    clear hF' hb3 c0
    rcases hI with ⟨hr, rfl⟩ | ⟨i, v, hr, rfl, al, rfl, hal⟩
    · have hqf : Hid (qq = false) := by unfold Hid; rw [← hans.out, hr]
      have k1 : ((0 : Int) == 1) = false := rfl
      go_wp2_with fail
      go_ret
      exact ⟨by rw [hqf.out]; rfl, o3.out.trans ((Below.refl _ _).alloc o3.out.size _)⟩
    · obtain ⟨aa, an, ac, rfl⟩ : ∃ aa an ac, al = .slice aa an ac := by
        rcases hal with ⟨_, rfl⟩ | ⟨_, g, cc, _, rfl, _⟩
        · exact ⟨_, _, _, rfl⟩
        · exact ⟨_, _, _, rfl⟩
      have hqf : Hid (qq = decide (USG.getD i.1 0 = 1)) := by unfold Hid; rw [← hans.out, hr]
      clear hal hans hr
      generalize USG.getD i.1 0 = ug at *
      generalize SYN.getD i.1 0 = sy at *
      go_wp2_with fail
      go_ret
      refine ⟨?_, o3.out.trans ((Below.refl _ _).alloc o3.out.size _)⟩
      rw [hqf.out]
      by_cases hu : ug = 1
      · simp [hu]
      · simp [hu]
  · have hqf : Hid (qq = false) := by unfold Hid; rw [← hq'.out]; exact ownB_bad hok
    obtain ⟨w2, hw2⟩ : ∃ W, w1.alloc (.cells #[.string ⟨#[]⟩, .slice none 0 0] 49) = W := ⟨_, rfl⟩
    have hb2 : Below w1.heap.size w1 w2 := by rw [← hw2]; exact (Below.refl _ _).alloc (Nat.le_refl _) _
    have b2 : Box w2 w1.heap.size 49 #[.string ⟨#[]⟩, .slice none 0 0] := by rw [← hw2]; exact Box.new _ _ _
    have o2 : Hid (Below w.heap.size w w2) := o1.out.trans (hb2.mono o1.out.size)
    have hF' : Hid (Calls Tryd.prog 54 #[.string ⟨#[]⟩] w2 fun e w' => FindIs w' w2.heap.size (S (fold [])) e ∧ Below w2.heap.size w2 w') := find_any ⟨#[]⟩ w2 (by decide) (hT'.out.below o2.out)
    have c0 : w2.cell? ⟨w1.heap.size, 0, none⟩ = some (.string ⟨#[]⟩) := (b2.cell 0 (by simp)).1
    have hw2' : Hid (w1.alloc (.cells #[.string ⟨#[]⟩, .slice none 0 0] 49) = w2) := hw2
    clear b2 hb2 hok hq' hw2
    generalize ((desc (S (fold c))).2.1 : Int) = pn at *
    go_upto_region 2 with fail
    rw [hw2'.out]
    go_wp2_with fail
    refine hF'.out.mono ?_
    rintro e w3 ⟨hI, hb3⟩
    have o3 : Hid (Below w.heap.size w w3) := o2.out.trans (hb3.mono o2.out.size)
    clear hF' hb3 c0
    rcases hI with ⟨hr, rfl⟩ | ⟨i, v, hr, rfl, al, rfl, hal⟩
    · go_wp2_with fail
      go_ret
      exact ⟨by rw [hqf.out]; rfl, o3.out.trans ((Below.refl _ _).alloc o3.out.size _)⟩
    · rw [row_nothing] at hr
      cases hr
end Go.Proofs.YtdeeegocjgikoaaDoor
