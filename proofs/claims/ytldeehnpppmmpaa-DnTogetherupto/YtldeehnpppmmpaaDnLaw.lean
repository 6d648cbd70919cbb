import Derived.Test.YtldeehnpppmmpaaDnRest
namespace Go.Proofs.Ytldeehnpppmmpaa
open Go.RowKit
open DnMath (Tot lx tb tt ck tb_tot tt_tot ck_tot less_tt lx_front lx_between)
set_option linter.unusedVariables false

/-- A row, copied onto a list that has just been laid. -/
theorem copy_new (w : World) (l : List (List UInt8)) (a : Option Addr) (c : Nat) (hl : l.length * 16 ≤ 140737488355328) (h1 : Row w a l) :
    ∃ a' c' w1, (Builtin.append_ #[22, 22] 22 #[.slice (some ⟨w.heap.size, 0, none⟩) 0 0, .slice a l.length c]).run Try.prog (w.alloc (.cells #[] 9)) = .ok (.slice a' l.length c') w1 ∧ OwnS w1 w.heap.size (.slice a' l.length c') l ∧ l.length ≤ c' ∧ Below w.heap.size w w1 := by
  have hbE : Below w.heap.size w (w.alloc (.cells #[] 9)) := (Below.refl _ _).alloc (Nat.le_refl _) _
  obtain ⟨v1, w1, hr1, ho1, hb1⟩ := append_row _ w.heap.size _ [] l a l.length c (own_empty w) (h1.below hbE) rfl hbE.size (by simpa using hl)
  rw [List.nil_append] at ho1
  rcases ownS_form ho1 with ⟨rfl, rfl⟩ | ⟨g, cap, rfl, hc, _⟩
  · exact ⟨_, _, w1, hr1, ho1, Nat.le_refl _, hbE.trans hb1⟩
  · exact ⟨_, _, w1, hr1, ho1, hc, hbE.trans hb1⟩

set_option maxHeartbeats 1000000 in
theorem lawCompare_any (l k : List (List UInt8)) (a b : Option Addr) (c d : Nat) (w : World) (hl : l.length * 16 ≤ 140737488355328) (hk : k.length * 16 ≤ 140737488355328) (h1 : Row w a l) (h2 : Row w b k) :
    Calls Try.prog 8 #[.slice a l.length c, .slice b k.length d] w fun e w' => e = .returned (.int .i64 (ck l k)) ∧ Below w.heap.size w w' := by
  obtain ⟨a1, c1, w1, hr1, ho1, _, hb1⟩ := copy_new w l a c hl h1
  obtain ⟨a2, c2, w2, hr2, ho2, _, hb2⟩ := copy_new w1 k b d hk (h2.below hb1)
  have hc := dnCompare_any l k a1 a2 c1 c2 w2 (by omega) (by omega) ((ownS_row ho1).1.below hb2) (ownS_row ho2).1
  have HB : Hid (Below w.heap.size w w2) := hb1.trans (hb2.mono hb1.size)
  clear ho1 hb1 ho2 hb2 h1 h2 hl hk
  go_enter Try.func8, Try.ntmps8
  go_wp2_with (at_builtin; refine Lib.wpList_append_run _ rfl _ _ _ _ rfl _ _ rfl rfl _ _ hr1 ?_; refine (Hid.out (p := _) ?_))
  unfold Hid
  clear hr1
  go_wp2_with (first | (go_at_call 11; refine hc.mono ?_; rintro e w' ⟨rfl, rfl⟩) | (at_builtin; refine Lib.wpList_append_run _ rfl _ _ _ _ rfl _ _ rfl rfl _ _ hr2 ?_))
  go_ret
  exact ⟨rfl, HB.out⟩

set_option maxHeartbeats 1000000 in
theorem lawWithin_any (l k : List (List UInt8)) (a b : Option Addr) (c d : Nat) (w : World) (hl : l.length * 16 ≤ 140737488355328) (hk : k.length * 16 ≤ 140737488355328) (h1 : Row w a l) (h2 : Row w b k) :
    Calls Try.prog 24 #[.slice a l.length c, .slice b k.length d] w fun e w' => e = .returned (.bool (decide (l <+: k))) ∧ Below w.heap.size w w' := by
  obtain ⟨a1, c1, w1, hr1, ho1, _, hb1⟩ := copy_new w l a c hl h1
  obtain ⟨a2, c2, w2, hr2, ho2, hc2, hb2⟩ := copy_new w1 k b d hk (h2.below hb1)
  have hc := dnWithin_any l k a1 a2 c1 c2 w2 (by omega) (by omega) hc2 ((ownS_row ho1).1.below hb2) (ownS_row ho2).1
  have HB : Hid (Below w.heap.size w w2) := hb1.trans (hb2.mono hb1.size)
  clear ho1 hb1 ho2 hb2 h1 h2 hl hk hc2
  go_enter Try.func24, Try.ntmps24
  go_wp2_with (at_builtin; refine Lib.wpList_append_run _ rfl _ _ _ _ rfl _ _ rfl rfl _ _ hr1 ?_; refine (Hid.out (p := _) ?_))
  unfold Hid
  clear hr1
  go_wp2_with (first | (go_at_call 14; refine hc.mono ?_; rintro e w' ⟨rfl, q, rfl⟩) | (at_builtin; refine Lib.wpList_append_run _ rfl _ _ _ _ rfl _ _ rfl rfl _ _ hr2 ?_))
  go_ret
  exact ⟨rfl, below_drewN HB.out _⟩

set_option maxHeartbeats 1000000 in
theorem sparedTexts_any (l : List (List UInt8)) (g cap : Nat) (b : Option Addr) (d : Nat) (w : World) (hl : l.length * 16 ≤ 140737488355328) (hcap : l.length + 1 ≤ cap) (h1 : Row w (some ⟨g, 0, none⟩) (l ++ [spr])) (h2 : Row w b l) :
    Calls Try.prog 13 #[.slice (some ⟨g, 0, none⟩) l.length cap, .slice b l.length d] w fun e w' => e = .returned (.bool true) ∧ ∃ q, w' = w.drewN q := by
  have hs := sameTexts_any l l (some ⟨g, 0, none⟩) b cap d w (by omega) (by omega) h1.front h2
  rw [decide_eq_true rfl] at hs
  obtain ⟨b', o', e, hc⟩ := h1 l.length (by simp)
  injection e with e
  injection e with e1 e2
  subst e1 e2
  rw [List.getElem_append_right (Nat.le_refl _)] at hc
  simp only [Nat.sub_self, List.getElem_cons_zero, Nat.zero_add] at hc
  have hS : S spr = ⟨#[115, 112, 97, 114, 101, 32, 114, 111, 111, 109]⟩ := rfl
  rw [hS] at hc
  have n0 : (0 : Int) ≤ (l.length : Int) := Int.natCast_nonneg _
  have n1 : l.length + 1 ≤ cap := hcap
  have n2 : (l.length : Int) < ((l.length + 1 : Nat) : Int) := Int.ofNat_lt.2 (Nat.lt_succ_self _)
  have n3 : wrap64 ((l.length : Int) + 1) = ((l.length + 1 : Nat) : Int) := by
    rw [IntWalk.wrap64_in] <;> omega
  have n4 : (0 : Int) ≤ ((l.length + 1 : Nat) : Int) := Int.natCast_nonneg _
  clear h1 h2 hl hcap hS
  generalize hn : l.length + 1 = n at *
  clear hn
  go_enter Try.func13, Try.ntmps13
  go_wp2_with (refine hs.mono ?_; rintro e w' ⟨rfl, q, rfl⟩)
  go_ret
  exact ⟨rfl, q, rfl⟩

set_option maxHeartbeats 1000000 in
theorem dnParent_any (l : List (List UInt8)) (a : Option Addr) (c : Nat) (w : World) (hl : l.length * 16 ≤ 140737488355328) (hc : l.length ≤ c) (h1 : Row w a l) :
    Calls Try.prog 16 #[.slice a l.length c] w fun e w' => ∃ a' c', e = .returned (.tuple #[.slice a' l.dropLast.length c', .bool (decide (0 < l.length))]) ∧ Row w' a' l.dropLast ∧ Below w.heap.size w w' := by
  by_cases h0 : l.length = 0
  · have := List.eq_nil_of_length_eq_zero h0
    subst this
    clear h0
    go_enter Try.func16, Try.ntmps16
    go_wp2_with fail
    go_ret2
    exact ⟨none, 0, rfl, Row.nil _ _, Below.refl _ _⟩
  · have hn : ((l.length : Int) == 0) = false := by rw [beq_eq_false_iff_ne]; omega
    have hdl : l.dropLast.length = l.length - 1 := List.length_dropLast
    have hrow : Row w a l.dropLast := Row.front (k := [l.getLast (by intro h; rw [h] at h0; simp at h0)]) (by rw [List.dropLast_concat_getLast]; exact h1)
    obtain ⟨v1, w1, hr1, ho1, hb1⟩ := append_row w w.heap.size (.slice none 0 0) [] l.dropLast a l.dropLast.length c (ownS_nil _ _) hrow rfl (Nat.le_refl _) (by rw [hdl]; simp; omega)
    rw [List.nil_append] at ho1
    obtain ⟨va, vc, rfl⟩ : ∃ va vc, v1 = .slice va l.dropLast.length vc := by
      rcases ownS_form ho1 with ⟨rfl, h⟩ | ⟨g, cap, rfl, _⟩
      · rw [h]; exact ⟨_, _, rfl⟩
      · exact ⟨_, _, rfl⟩
    have hfin : Hid (Row w1 va l.dropLast ∧ Below w.heap.size w w1) := ⟨(ownS_row ho1).1, hb1⟩
    have hpos : Hid (0 < l.length) := by unfold Hid; omega
    have n3 : wrap64 ((l.length : Int) - 1) = (l.dropLast.length : Int) := by
      rw [hdl, IntWalk.wrap64_in] <;> omega
    have n4 : (0 : Int) ≤ (l.dropLast.length : Int) := Int.natCast_nonneg _
    have n5 : l.dropLast.length ≤ c := by omega
    clear ho1 hb1 h1 hrow hc hl h0 hdl
    generalize l.dropLast.length = m at *
    go_enter Try.func16, Try.ntmps16
    go_wp2_with (at_builtin; refine Lib.wpList_append_run _ rfl _ _ _ _ rfl _ _ rfl rfl _ _ hr1 ?_)
    go_ret2
    exact ⟨va, vc, by rw [decide_eq_true hpos.out]; rfl, hfin.out⟩

set_option maxHeartbeats 1000000 in
theorem refParent_any (l : List (List UInt8)) (a : Option Addr) (c : Nat) (w : World) (hl : l.length * 16 ≤ 140737488355328) (hc : l.length ≤ c) (h1 : Row w a l) :
    Calls Try.prog 17 #[.slice a l.length c] w fun e w' => ∃ a' c', e = .returned (.tuple #[.slice a' l.dropLast.length c', .bool (decide (0 < l.length))]) ∧ Row w' a' l.dropLast ∧ Below w.heap.size w w' := by
  by_cases h0 : l.length = 0
  · have := List.eq_nil_of_length_eq_zero h0
    subst this
    clear h0
    go_enter Try.func17, Try.ntmps17
    go_wp2_with fail
    go_ret2
    exact ⟨none, 0, rfl, Row.nil _ _, Below.refl _ _⟩
  · have hn : ((l.length : Int) == 0) = false := by rw [beq_eq_false_iff_ne]; omega
    have hdl : l.dropLast.length = l.length - 1 := List.length_dropLast
    have hrow : Row w a l.dropLast := Row.front (k := [l.getLast (by intro h; rw [h] at h0; simp at h0)]) (by rw [List.dropLast_concat_getLast]; exact h1)
    obtain ⟨va, vc, w1, hr1, ho1, _, hb1⟩ := copy_new w l.dropLast a c (by omega) hrow
    have hfin : Hid (Row w1 va l.dropLast ∧ Below w.heap.size w w1) := ⟨(ownS_row ho1).1, hb1⟩
    have hpos : Hid (0 < l.length) := by unfold Hid; omega
    have n3 : wrap64 ((l.length : Int) - 1) = (l.dropLast.length : Int) := by
      rw [hdl, IntWalk.wrap64_in] <;> omega
    have n4 : (0 : Int) ≤ (l.dropLast.length : Int) := Int.natCast_nonneg _
    have n5 : l.dropLast.length ≤ c := by omega
    clear ho1 hb1 h1 hrow hc hl h0 hdl
    generalize l.dropLast.length = m at *
    go_enter Try.func17, Try.ntmps17
    go_wp2_with (at_builtin; refine Lib.wpList_append_run _ rfl _ _ _ _ rfl _ _ rfl rfl _ _ hr1 ?_)
    go_ret2
    exact ⟨va, vc, by rw [decide_eq_true hpos.out]; rfl, hfin.out⟩
end Go.Proofs.Ytldeehnpppmmpaa
