import Derived.Test.YtddkefjcpgdomaaFrm9
import Derived.Test.YtddkefjcpgdomaaFrAsk
import Derived.Test.YtddkefjcpgdomaaFrSame
namespace Go.Proofs.Ytddkefjcpgdomaa
open Go.RowKit
open FrMath (Hdr lb bd within Out ends cut Cut)

/-- A row of numbers that came in. -/
def IsInts (w : World) (a : Option Addr) (len : Nat) : Prop := ∀ i, i < len → ∃ b off v, a = some ⟨b, off, none⟩ ∧ w.cell? ⟨b, off + i, none⟩ = some (.int .i64 v) ∧ -9223372036854775808 ≤ v ∧ v ≤ 9223372036854775807
theorem IsInts.below {w w' : World} {a : Option Addr} {len B : Nat} (h : IsInts w a len) (hB : w.heap.size ≤ B) (hb : Below B w w') : IsInts w' a len := fun i hi => by
  obtain ⟨b, off, v, e, h1, h2⟩ := h i hi
  refine ⟨b, off, v, e, ?_, h2⟩
  have hlt : b < w.heap.size := World.block_lt_of_cell? w _ h1
  rw [hb.cell (by show b < B; omega)]
  exact h1

/-- Where the cut lies. -/
theorem cut_num (v : Int) (n : Nat) (h1 : -9223372036854775808 ≤ v) (h2 : v ≤ 9223372036854775807) (hn : n ≤ 4194304) :
    (v < 0 → wrap64 (v + 1) = v + 1 ∧ wrap64 (-(v + 1)) = -(v + 1) ∧ ∃ q : Nat, (-(v + 1)).tmod ((n : Int) + 1) = (q : Int) ∧ q ≤ n) ∧ (¬ v < 0 → ∃ q : Nat, v.tmod ((n : Int) + 1) = (q : Int) ∧ q ≤ n) := by
  have key : ∀ x : Int, 0 ≤ x → ∃ q : Nat, x.tmod ((n : Int) + 1) = (q : Int) ∧ q ≤ n := fun x hx => by
    rw [Int.tmod_eq_emod_of_nonneg hx]
    have l0 := Int.emod_nonneg x (b := (n : Int) + 1) (by omega)
    have l1 := Int.emod_lt_of_pos x (b := (n : Int) + 1) (by omega)
    exact ⟨(x % ((n : Int) + 1)).toNat, by omega, by omega⟩
  refine ⟨fun hv => ⟨by unfold wrap64; omega, by unfold wrap64; omega, key _ (by omega)⟩, fun hv => key _ (by omega)⟩

set_option maxHeartbeats 1000000 in
theorem pieces_any (s0 : ByteArray) (a : Option Addr) (l c : Nat) (w : World) (hi : IsInts w a l) (hs : s0.size ≤ 2097152) (hl : l ≤ 2097152) :
    Calls Try.prog 20 #[.string s0, .slice a l c] w fun e w' => ∃ v ps, e = .returned v ∧ OwnS w' w.heap.size v ps ∧ ps.flatten = s0.data.toList ∧ ps.length ≤ l + 1 ∧ Below w.heap.size w w' := by
  go_enter Try.func20, Try.ntmps20
  go_wp2_with fail
  go_loopw [0, 5, 6] (fun sv' lv iv wr => ∃ (s : ByteArray) (i : Nat) (ps : List (List UInt8)), sv' = .string s ∧ iv = .int .i64 (i : Int) ∧ i ≤ l ∧ Hid (s.size ≤ s0.size) ∧ Hid (OwnS wr w.heap.size lv ps) ∧ Hid (ps.flatten ++ s.data.toList = s0.data.toList) ∧ Hid (ps.length = i) ∧ Below w.heap.size w wr) (fun _ _ iv _ => l - (intOf iv).toNat)
  case atStart => exact ⟨s0, 0, [], rfl, rfl, Nat.zero_le _, Nat.le_refl _, ownS_nil _ _, by unfold Hid; simp, rfl, Below.refl _ _⟩
  case round =>
    obtain ⟨s, i, ps, rfl, rfl, hil, hss, hown, hfl, hlen, HB⟩ := hrel
    obtain ⟨la, lc, rfl⟩ := ownS_len hown.out
    have hBs : w.heap.size ≤ wr.heap.size := HB.size
    by_cases hgo : i < l ∧ 0 < s.size
    · obtain ⟨h1, h2⟩ := hgo
      obtain ⟨b, off, v, rfl, hcell, v1, v2⟩ := hi.below (Nat.le_refl _) HB i h1
      obtain ⟨hneg, hpos⟩ := cut_num v s.size v1 v2 (by have := hss.out; omega)
      have i0 : (0 : Int) ≤ (i : Int) := Int.natCast_nonneg _
      have i1 : (i : Int) < (l : Int) := Int.ofNat_lt.2 h1
      have hsz : s.size ≤ 2097152 := by have := hss.out; omega
      have hl2 : Hid (ps.length ≤ 4194304) := by have := hlen.out; unfold Hid; omega
      have sne : ((s.size : Int) + 1 == 0) = false := by rw [beq_eq_false_iff_ne]; omega
      have hw : ∃ q : Nat, q ≤ s.size ∧ ((decide (v < 0) = true ∧ ∃ x y, wrap64 (v + 1) = x ∧ wrap64 (-x) = y ∧ y.tmod ((s.size : Int) + 1) = (q : Int)) ∨ (decide (v < 0) = false ∧ v.tmod ((s.size : Int) + 1) = (q : Int))) := by
        by_cases hv : v < 0
        · obtain ⟨w1, w2, q, hq, hqn⟩ := hneg hv
          exact ⟨q, hqn, Or.inl ⟨decide_eq_true hv, _, _, w1, w2, hq⟩⟩
        · obtain ⟨q, hq, hqn⟩ := hpos hv
          exact ⟨q, hqn, Or.inr ⟨decide_eq_false hv, hq⟩⟩
      obtain ⟨q, hqn, hcase⟩ := hw
      have q0 : (0 : Int) ≤ (q : Int) := Int.natCast_nonneg _
      have q1 : (q : Int) ≤ (s.size : Int) := Int.ofNat_le.2 hqn
      obtain ⟨X, hX⟩ : ∃ X, s.extract 0 q = X := ⟨_, rfl⟩
      obtain ⟨Y, hY⟩ : ∃ Y, s.extract q s.size = Y := ⟨_, rfl⟩
      have hXl : Hid (X = S (s.data.toList.take q)) := by unfold Hid; rw [← hX]; apply S_eq; exact take_l s q
      have hYl : Hid (Y.data.toList = s.data.toList.drop q) := by unfold Hid; rw [← hY]; exact drop_l s q
      have hYs : Hid (Y.size ≤ s0.size) := by unfold Hid; have := hss.out; rw [← hY, ByteArray.size_extract]; omega
      have hfl' : Hid ((ps ++ [s.data.toList.take q]).flatten ++ Y.data.toList = s0.data.toList) := by unfold Hid; rw [hYl.out, ← hfl.out]; simp
      have hmeas : Hid (l - (i + 1) < l - i) := by unfold Hid; omega
      have h1' : Hid (i + 1 ≤ l) := h1
      have hiw : Hid (wrap64 ((i : Int) + 1) = ((i + 1 : Nat) : Int)) := by unfold Hid wrap64; omega
      clear hneg hpos v1 v2 hfl hi hs
      rcases hcase with ⟨d1, x, y, e1, e2, e3⟩ | ⟨d1, e3⟩
      all_goals
        go_wp2_with (at_builtin; refine push_text _ rfl _ _ rfl w.heap.size _ ps (s.data.toList.take q) _ rfl rfl ?_ ?_ ?_ hl2.out ?_; (exact World.ownsRow.alloc hown.out _); (rw [← hXl.out]; exact heap_alloc_new _ _); (simp; omega); intro g6 cap6 w6 hown6 hgr6 hlie6 hb6)
        refine ⟨⟨Y, i + 1, ps ++ [s.data.toList.take q], rfl, by simp, h1'.out, hYs, hown6, hfl', ?_, (HB.alloc HB.size _).trans hb6⟩, ?_⟩
        · unfold Hid
          rw [List.length_append, hlen.out]
          rfl
        · have := hmeas.out
          simp [intOf]
          omega
    · have hl2 : Hid (ps.length ≤ 4194304) := by have := hlen.out; unfold Hid; omega
      have hXl : Hid (s = S s.data.toList) := (S_of s).symm
      have hfin : Hid ((ps ++ [s.data.toList]).flatten = s0.data.toList ∧ (ps ++ [s.data.toList]).length ≤ l + 1) := by
        unfold Hid
        refine ⟨by rw [← hfl.out]; simp, ?_⟩
        rw [List.length_append, hlen.out]
        simp
        omega
      have hcs : (¬ i < l) ∨ (i < l ∧ ¬ 0 < s.size) := by omega
      clear hgo hfl hi hs
      rcases hcs with h1 | ⟨h1, h2⟩
      all_goals
        go_wp2_with (at_builtin; refine push_text _ rfl _ _ rfl w.heap.size _ ps s.data.toList _ rfl rfl ?_ ?_ ?_ hl2.out ?_; (exact World.ownsRow.alloc hown.out _); (rw [← hXl.out]; exact heap_alloc_new _ _); (simp; omega); intro g6 cap6 w6 hown6 hgr6 hlie6 hb6)
        go_ret
        exact ⟨_, _, rfl, hown6, hfin.out.1, hfin.out.2, (HB.alloc HB.size _).trans hb6⟩
end Go.Proofs.Ytddkefjcpgdomaa
