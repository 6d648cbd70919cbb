import Derived.Test.YtembeinglnojkaaDoorMgOwn
namespace Go.Proofs.YtembeinglnojkaaDoor
open Go.RowKit
set_option linter.unusedVariables false

/-- A row of controls appended to a row of the call's own. -/
theorem append_ctl (w : World) (B : Nat) (v : Value) (l k : List Ctl) (a : Option Addr) (n c : Nat) (hown : GOwn 52 4 oV w B v l) (hk : GRow 4 oV w a k) (hn : n = k.length) (hB : B ≤ w.heap.size) (hsz : (l.length + k.length) * 48 ≤ 140737488355328) :
    ∃ v' w', (Builtin.append_ #[34, 34] 34 #[v, .slice a n c]).run Tryd.prog w = .ok v' w' ∧ GOwn 52 4 oV w' B v' (l ++ k) ∧ Below B w w' := by
  subst hn
  obtain ⟨i0, hi, hz0, hz1, hz2⟩ := info_parts info_ctl
  by_cases h0 : k.length = 0
  · have hk0 := List.eq_nil_of_length_eq_zero h0
    subst hk0
    refine ⟨v, w, ?_, by rw [List.append_nil]; exact hown, Below.refl _ _⟩
    have hf := owns_form (show w.ownsRow B 52 4 v l.length _ from hown)
    cases a with
    | none =>
      rcases hf with ⟨rfl, h⟩ | ⟨g, cap, rfl, hc, _⟩
      · simp [Builtin.append_, run_underlying Tryd.underlying34, sizeOf, typeInfo, hi, Builtin.lenOf, Builtin.firstCells]
      · simp [Builtin.append_, run_underlying Tryd.underlying34, sizeOf, typeInfo, hi, Builtin.lenOf, Builtin.firstCells, hc, storeCells]
    | some d =>
      rcases hf with ⟨rfl, h⟩ | ⟨g, cap, rfl, hc, _⟩
      · simp [Builtin.append_, run_underlying Tryd.underlying34, sizeOf, typeInfo, hi, Builtin.lenOf, Builtin.firstCells, loadCells, loadCellsFrom]
      · simp [Builtin.append_, run_underlying Tryd.underlying34, sizeOf, typeInfo, hi, Builtin.lenOf, Builtin.firstCells, loadCells, loadCellsFrom, hc, storeCells]
  · obtain ⟨b, off, rfl, _⟩ := hk 0 (by omega)
    have hfl : (k.flatMap oV).length = k.length * 4 := flatV_len oV 4 oV_len k
    have hnews : ∀ j u, (k.flatMap oV)[j]? = some u → w.cell? ((⟨b, off, none⟩ : Addr).add j) = some u := by
      intro j u hj
      have hjn : j < k.length * 4 := by
        rcases Nat.lt_or_ge j (k.length * 4) with h' | h'
        · exact h'
        · rw [List.getElem?_eq_none (by rw [hfl]; exact h')] at hj; cases hj
      have hq : j / 4 < k.length := by omega
      obtain ⟨b', off', e, hc⟩ := hk (j / 4) hq
      injection e with e
      injection e with e1 e2
      subst e1 e2
      have ej : j / 4 * 4 + j % 4 = j := by omega
      have h2 := hc (j % 4) (by omega)
      have h3 := flatV_at oV 4 oV_len k (j / 4) hq (j % 4) (by omega)
      rw [ej, hj] at h3
      rw [show off + j / 4 * 4 + j % 4 = off + j by omega] at h2
      rw [add_off, h2, ← h3]
    have h1 : ∀ u ∈ k.flatMap oV, u.oneCell' = true := by
      intro u hu
      obtain ⟨x, _, hx⟩ := List.mem_flatMap.1 hu
      exact oV_one x u hx
    obtain ⟨g, cap, w', hr, h2, h3, _, _⟩ := run_append_lies (P := Tryd.prog) w 34 34 B 52 i0 _ 4 48 Tryd.underlying34 hi hz0 hz1 hz2 rfl (by decide) v l.length (l.flatMap oV) hown ⟨b, off, none⟩ k.length c (k.flatMap oV) hfl hnews h1 (by omega) (by unfold maxLen; omega) hsz hB w.heap.size rfl
    refine ⟨_, w', hr, ?_, (Below.refl _ _).grown h3 hB (fun j hj => (World.ownsRow.lt (show w.ownsRow B 52 4 v l.length (l.flatMap oV) from hown) _ hj).1)⟩
    unfold GOwn
    rw [List.flatMap_append, List.length_append]
    exact h2

set_option maxRecDepth 100000 in
set_option maxHeartbeats 1000000 in
theorem controls_any (l : List Ctl) (a : Option Addr) (c : Nat) (w : World) (hl : l.length ≤ 2932031007317) (h1 : GRow 4 oV w a l) :
    Calls Tryd.prog 16 #[.slice a l.length c] w fun e w' => ∃ g cap, e = .returned (.slice (some ⟨g, 0, none⟩) l.length cap) ∧ ((∀ W, Agr w.heap.size w' W → GRow 4 oV W (some ⟨g, 0, none⟩) (l ++ [zCt])) ∧ l.length + 1 ≤ cap) ∧ Below w.heap.size w w' := by
  obtain ⟨v1, w1, hr1, ho1, hb1⟩ := append_ctl w w.heap.size _ [] l a l.length c (GOwn.nil _ _ _ _ _) h1 rfl (Nat.le_refl _) (by simp; omega)
  rw [List.nil_append] at ho1
  obtain ⟨wA, hwA⟩ : ∃ wA, w1.alloc (.cells #[.string ⟨#[115, 112, 97, 114, 101]⟩, .bool false, .string ⟨#[]⟩, .bool false] 52) = wA := ⟨_, rfl⟩
  have hbA : Below w.heap.size w wA := by rw [← hwA]; exact hb1.alloc hb1.size _
  have hoA : GOwn 52 4 oV wA w.heap.size v1 l := by rw [← hwA]; exact World.ownsRow.alloc ho1 _
  have bA : Box wA w1.heap.size 52 #[.string ⟨#[115, 112, 97, 114, 101]⟩, .bool false, .string ⟨#[]⟩, .bool false] := by rw [← hwA]; exact Box.new _ _ _
  have hsA : GRow 4 oV wA (some ⟨w1.heap.size, 0, none⟩) [zCt] := by
    intro i hi
    simp at hi
    subst hi
    refine ⟨w1.heap.size, 0, rfl, fun j hj => ?_⟩
    match j, hj with
    | 0, _ => exact (bA.cell 0 (by simp)).1
    | 1, _ => exact (bA.cell 1 (by simp)).1
    | 2, _ => exact (bA.cell 2 (by simp)).1
    | 3, _ => exact (bA.cell 3 (by simp)).1
  obtain ⟨v2, w2, hr2, ho2, hb2⟩ := append_ctl wA w.heap.size v1 l [zCt] _ 1 1 hoA hsA rfl hbA.size (by simp; omega)
  obtain ⟨a2, c2, e2, hc2, hg2⟩ := ho2.row oV_len
  rw [List.length_append] at e2 hc2
  obtain ⟨g, rfl⟩ : ∃ g, a2 = some ⟨g, 0, none⟩ := by
    rcases owns_form (show World.ownsRow _ _ 52 4 _ _ _ from ho2) with ⟨_, h⟩ | ⟨g, cap, h, _⟩
    · simp at h
    · rw [e2] at h
      injection h with h
      exact ⟨g, h⟩
  subst e2
  have hag : ∀ W, Agr w.heap.size w2 W → GRow 4 oV W (some ⟨g, 0, none⟩) (l ++ [zCt]) := fun W hW => by
    have h3 : GOwn 52 4 oV W w.heap.size _ (l ++ [zCt]) := owns_same (show w2.ownsRow w.heap.size 52 4 _ _ _ from ho2) (fun b hb => hW b (World.ownsRow.lt (show w2.ownsRow w.heap.size 52 4 _ _ _ from ho2) b hb).1 (World.ownsRow.lt (show w2.ownsRow w.heap.size 52 4 _ _ _ from ho2) b hb).2)
    obtain ⟨a3, c3, e3, _, hg3⟩ := h3.row oV_len
    injection e3 with e3
    rw [e3]
    exact hg3
  have hfin : Hid (((∀ W, Agr w.heap.size w2 W → GRow 4 oV W (some ⟨g, 0, none⟩) (l ++ [zCt])) ∧ l.length + 1 ≤ c2) ∧ Below w.heap.size w w2) := ⟨⟨hag, hc2⟩, hbA.trans hb2⟩
  obtain ⟨va, vn, vc, rfl⟩ : ∃ va vn vc, v1 = .slice va vn vc := by
    obtain ⟨x, y, h, _⟩ := owns_slice (show World.ownsRow _ _ 52 4 _ _ _ from ho1)
    exact ⟨_, _, _, h⟩
  have n0 : (0 : Int) ≤ (l.length : Int) := Int.natCast_nonneg _
  have n1 : l.length ≤ c2 := by simp at hc2; omega
  simp only [List.length_cons, List.length_nil, Nat.zero_add] at hr2
  clear hb1 ho1 hbA hoA hsA ho2 hb2 hc2 hg2 h1 hl bA hag
  go_enter Tryd.func16, Tryd.ntmps16
  go_wp2_with (first | (at_builtin; refine Lib.wpList_append_run _ rfl _ _ _ _ rfl _ _ rfl rfl _ _ hr1 ?_) | (at_builtin; refine Lib.wpList_append_run _ rfl _ _ _ _ rfl _ _ rfl rfl _ _ hr2 ?_))
  go_ret
  exact ⟨g, c2, rfl, hfin.out⟩

set_option maxRecDepth 100000 in
set_option maxHeartbeats 1000000 in
theorem spares_any (l : List (List UInt8)) (a : Option Addr) (cap : Nat) (w : World) (hl : l.length ≤ 8796093021952) (h : MkT w a cap l) :
    Calls Tryd.prog 22 #[.slice a l.length cap] w fun e w' => e = .returned (.bool true) ∧ w' = w := by
  obtain ⟨b', o', rfl, hc⟩ := h.1 l.length (by simp)
  rw [List.getElem_append_right (Nat.le_refl _)] at hc
  simp only [Nat.sub_self, List.getElem_cons_zero] at hc
  have hS : S spr = ⟨#[115, 112, 97, 114, 101]⟩ := rfl
  rw [hS] at hc
  have n0 : (0 : Int) ≤ (l.length : Int) := Int.natCast_nonneg _
  have n1 : l.length + 1 ≤ cap := h.2
  have n2 : (l.length : Int) < ((l.length + 1 : Nat) : Int) := Int.ofNat_lt.2 (Nat.lt_succ_self _)
  have n3 : wrap64 ((l.length : Int) + 1) = ((l.length + 1 : Nat) : Int) := by
    rw [IntWalk.wrap64_in] <;> omega
  have n4 : (0 : Int) ≤ ((l.length + 1 : Nat) : Int) := Int.natCast_nonneg _
  clear h hl hS
  generalize hn : l.length + 1 = n at *
  clear hn
  go_enter Tryd.func22, Tryd.ntmps22
  go_wp2_with fail
  go_ret
  exact ⟨rfl, rfl⟩

set_option maxRecDepth 100000 in
set_option maxHeartbeats 1000000 in
theorem sparesControls_any (l : List Ctl) (a : Option Addr) (cap : Nat) (w : World) (hl : l.length ≤ 2932031007317) (h : GRow 4 oV w a (l ++ [zCt])) (hc : l.length + 1 ≤ cap) :
    Calls Tryd.prog 24 #[.slice a l.length cap] w fun e w' => e = .returned (.bool true) ∧ w' = w := by
  obtain ⟨b', o', rfl, hc0⟩ := h l.length (by simp)
  have hc1 := hc0 0 (by omega)
  rw [List.getElem_append_right (Nat.le_refl _)] at hc1
  simp only [Nat.sub_self, List.getElem_cons_zero] at hc1
  have hc2 : w.cell? ⟨b', o' + l.length * 4, none⟩ = some (.string ⟨#[115, 112, 97, 114, 101]⟩) := hc1
  have n0 : (0 : Int) ≤ (l.length : Int) := Int.natCast_nonneg _
  have n1 : l.length + 1 ≤ cap := hc
  have n2 : (l.length : Int) < ((l.length + 1 : Nat) : Int) := Int.ofNat_lt.2 (Nat.lt_succ_self _)
  have n3 : wrap64 ((l.length : Int) + 1) = ((l.length + 1 : Nat) : Int) := by
    rw [IntWalk.wrap64_in] <;> omega
  have n4 : (0 : Int) ≤ ((l.length + 1 : Nat) : Int) := Int.natCast_nonneg _
  clear h hl hc hc1 hc0
  generalize hn : l.length + 1 = n at *
  clear hn
  go_enter Tryd.func24, Tryd.ntmps24
  go_wp2_with fail
  go_ret
  exact ⟨rfl, rfl⟩

set_option maxRecDepth 100000 in
set_option maxHeartbeats 1000000 in
theorem sparesAttrs_any (l : List Att) (a : Option Addr) (cap : Nat) (w : World) (hl : l.length ≤ 2513169434843) (hx : ∀ x ∈ l, x.l.length ≤ 8796093021952) (h : MkG 3 tV tT zAt w a cap l) :
    Calls Tryd.prog 23 #[.slice a l.length cap] w fun e w' => e = .returned (.bool true) ∧ w' = w := by
  obtain ⟨b', o', rfl, hc0⟩ := h.1 l.length (by simp)
  have hc1 := hc0 0 (by omega)
  rw [List.getElem_append_right (Nat.le_refl _)] at hc1
  simp only [Nat.sub_self, List.getElem_cons_zero] at hc1
  have hc2 : w.cell? ⟨b', o' + l.length * 3, none⟩ = some (.string ⟨#[115, 112, 97, 114, 101]⟩) := hc1
  have n0 : (0 : Int) ≤ (l.length : Int) := Int.natCast_nonneg _
  have n1 : l.length + 1 ≤ cap := h.2.1
  have n2 : (l.length : Int) < ((l.length + 1 : Nat) : Int) := Int.ofNat_lt.2 (Nat.lt_succ_self _)
  have n3 : wrap64 ((l.length : Int) + 1) = ((l.length + 1 : Nat) : Int) := by
    rw [IntWalk.wrap64_in] <;> omega
  have n4 : (0 : Int) ≤ ((l.length + 1 : Nat) : Int) := Int.natCast_nonneg _
  have hG : Hid (MkG 3 tV tT zAt w (some ⟨b', o', none⟩) cap l ∧ ∀ x ∈ l, x.l.length ≤ 8796093021952) := ⟨h, hx⟩
  clear h hc1 hc0 hx
  generalize hn : l.length + 1 = n at *
  clear hn
  go_enter Tryd.func23, Tryd.ntmps23
  go_wp2_with fail
  go_loopw [4] (fun iv wr => ∃ i : Nat, i ≤ l.length ∧ iv = .int .i64 (i : Int) ∧ Hid (wr = w)) (fun iv _ => l.length - (intOf iv).toNat)
  case atStart => exact ⟨0, Nat.zero_le _, rfl, rfl⟩
  case round =>
    obtain ⟨i, hi, rfl, hw⟩ := hrel
    have hw' := hw.out
    subst hw'
    clear hc2 n1 n2 n3 n4 hw
    by_cases hlt : i < l.length
    · obtain ⟨b, off, e, h0⟩ := hG.out.1.1.front i hlt
      injection e with e
      injection e with e1 e2
      subst e1 e2
      have c2 := h0 2 (by omega)
      have hT := hG.out.1.2.2 _ (List.getElem_mem hlt)
      have hL := hG.out.2 _ (List.getElem_mem hlt)
      obtain ⟨⟨xd, xc, xa, xn, xl⟩, hx⟩ : ∃ x, l[i] = x := ⟨_, rfl⟩
      rw [hx] at c2 hT hL
      have c3 : wr.cell? ⟨b', o' + i * 3 + 2, none⟩ = some (.slice xa xl.length xn) := c2
      have hC : Hid (Calls Tryd.prog 22 #[.slice xa xl.length xn] wr fun e w' => e = .returned (.bool true) ∧ w' = wr) := spares_any xl xa xn wr hL hT
      have i0 : (0 : Int) ≤ (i : Int) := Int.natCast_nonneg _
      have i1 : (i : Int) < (l.length : Int) := Int.ofNat_lt.2 hlt
      have hlt' : Hid (i < l.length) := hlt
      clear c2 hT hL hx hlt h0
      go_wp2_with (go_at_call 22; refine hC.out.mono ?_; rintro e w' ⟨rfl, rfl⟩)
      go_roundw
      case rel => exact ⟨i + 1, hlt'.out, by simp, by unfold Hid; trivial⟩
      case measure => have := hlt'.out; simp [intOf]; omega
    · have e : i = l.length := by omega
      subst e
      have k1 : ¬ (l.length : Int) < (l.length : Int) := by omega
      go_wp2_with fail
      go_ret
      exact ⟨rfl, rfl⟩
end Go.Proofs.YtembeinglnojkaaDoor
