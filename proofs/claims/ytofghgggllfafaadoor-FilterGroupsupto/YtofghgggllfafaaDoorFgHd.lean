import Derived.Test.YtofghgggllfafaaDoorFgRmW
import Derived.Test.YtofghgggllfafaaDoorFlREq
namespace Go.Proofs.YtofghgggllfafaaDoor
open Go.RowKit
set_option linter.unusedVariables false

set_option maxRecDepth 100000 in
set_option maxHeartbeats 2000000 in
theorem heads_any (ys : List Nod) (a : Option Addr) (c : Nat) (w : World) (hn : ys.length ≤ 1048576) (h : MkG 9 nV nT zNo w a c ys) :
    Calls Tryd.prog 6 #[.slice a ys.length c] w fun e w' => (∃ g cap, e = .returned (.slice (some ⟨g, 0, none⟩) (ys.length + 1) cap) ∧ GRow 9 nV w' (some ⟨g, 0, none⟩) (ys ++ [zNo])) ∧ Below w.heap.size w w' := by
  have hlen : (ys ++ [zNo]).length = ys.length + 1 := by simp
  obtain ⟨v', w', hr, ho, hb, _⟩ := append_gen kd_nod w w.heap.size _ [] (ys ++ [zNo]) a (ys.length + 1) c (GOwn.nil _ _ _ _ _) h.1 hlen.symm (Nat.le_refl _) (by simp; omega) (by decide)
  rw [List.nil_append] at ho
  obtain ⟨a2, c2, e2, hc2, hg2⟩ := ho.row nV_len
  rw [hlen] at e2 hc2
  obtain ⟨g, rfl⟩ : ∃ g, a2 = some ⟨g, 0, none⟩ := by
    rcases owns_form (show World.ownsRow _ _ 38 9 _ _ _ from ho) with ⟨_, h⟩ | ⟨g, cap, h, _⟩
    · simp at h
    · rw [e2] at h
      injection h with h
      exact ⟨g, h⟩
  subst e2
  have hfin : Hid (GRow 9 nV w' (some ⟨g, 0, none⟩) (ys ++ [zNo]) ∧ Below w.heap.size w w') := ⟨hg2, hb⟩
  have n0 : (0 : Int) ≤ (ys.length : Int) := Int.natCast_nonneg _
  have n1 : ys.length + 1 ≤ c := h.2.1
  have n3 : wrap64 ((ys.length : Int) + 1) = ((ys.length + 1 : Nat) : Int) := by
    rw [IntWalk.wrap64_in] <;> omega
  have n4 : (0 : Int) ≤ ((ys.length + 1 : Nat) : Int) := Int.natCast_nonneg _
  clear h ho hc2 hg2 hb hlen hn
  generalize hm : ys.length + 1 = m at *
  clear hm
  go_enter Tryd.func6, Tryd.ntmps6
  go_wp2_with (at_builtin; refine Lib.wpList_append_run _ rfl _ _ _ _ rfl _ _ rfl rfl _ _ hr ?_)
  go_ret
  exact ⟨⟨g, c2, rfl, hfin.out.1⟩, hfin.out.2⟩

set_option maxRecDepth 100000 in
set_option maxHeartbeats 1000000 in
theorem sameTl_any (l : List (List UInt8)) (a b : Option Addr) (c d : Nat) (w : World) (hl : l.length ≤ 1048576) (h1 : Row w a l) (h2 : Row w b l) :
    Calls Tryd.prog 20 #[.slice a l.length c, .slice b l.length d] w fun e w' => e = .returned (.bool true) ∧ ∃ q, w' = w.drewN q := by
  go_enter Tryd.func20, Tryd.ntmps20
  go_wp2_with fail
  go_loopw [5] (fun iv wr => ∃ i q : Nat, i ≤ l.length ∧ iv = .int .i64 (i : Int) ∧ Hid (wr = w.drewN q)) (fun iv _ => l.length - (intOf iv).toNat)
  case atStart => exact ⟨0, 0, Nat.zero_le _, rfl, rfl⟩
  case round =>
    obtain ⟨i, q, hi, rfl, hw⟩ := hrel
    by_cases hlt : i < l.length
    · obtain ⟨b1, o1, rfl, c1⟩ := h1 i hlt
      obtain ⟨b2, o2, rfl, c2⟩ := h2 i hlt
      have hE : ∀ a, wr.cell? a = w.cell? a := fun a => by rw [hw.out]; rfl
      rw [← hE] at c1 c2
      have i0 : (0 : Int) ≤ (i : Int) := Int.natCast_nonneg _
      have i1 : (i : Int) < (l.length : Int) := Int.ofNat_lt.2 hlt
      generalize S l[i] = X at *
      clear hE h1 h2
      go_wp2_with fail
      go_quiet (fail)
      go_wp2_with fail
      go_roundw
      case rel => exact ⟨i + 1, _, hlt, by simp, by unfold Hid; rw [hw.out, World.drewN_drewN]⟩
      case measure => simp [intOf]; omega
    · have e : i = l.length := by omega
      subst e
      have k1 : ¬ (l.length : Int) < (l.length : Int) := by omega
      go_wp2_with fail
      go_ret
      exact ⟨rfl, _, hw.out⟩

set_option maxRecDepth 100000 in
set_option maxHeartbeats 1000000 in
theorem sameF_any (xs ys : List Nod) (a b : Option Addr) (c d : Nat) (w : World) (hn : xs.length ≤ 1048577) (hm : ys.length ≤ 1048577) (hlx : ∀ x ∈ xs, x.l.length ≤ 1048576) (hly : ∀ x ∈ ys, x.l.length ≤ 1048576) (h1 : FRow w a xs) (h2 : FRow w b ys) :
    Calls Tryd.prog 9 #[.slice a xs.length c, .slice b ys.length d] w fun e w' => e = .returned (.bool (fb xs ys)) ∧ Below w.heap.size w w' := by
  have hE : Hid (Calls Tryd.prog 19 #[.slice a xs.length c, .slice b ys.length d] w fun e w' => e = .returned (.bool (fb xs ys)) ∧ Below w.heap.size w w') := rEqual_any xs ys a b c d w hn hm hlx hly h1 h2
  clear h1 h2 hlx hly
  go_enter Tryd.func9, Tryd.ntmps9
  go_wp2_with (go_at_call 19; refine hE.out.mono ?_; rintro e w2 ⟨rfl, hb2⟩)
  go_ret
  exact ⟨rfl, hb2⟩
end Go.Proofs.YtofghgggllfafaaDoor
