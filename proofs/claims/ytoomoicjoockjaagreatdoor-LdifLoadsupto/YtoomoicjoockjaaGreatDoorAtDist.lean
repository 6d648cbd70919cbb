import Derived.Test.YtoomoicjoockjaaGreatDoorGLin
import Derived.Sort.OwnSorted
namespace Go.Proofs.YtoomoicjoockjaaGreatDoor
open Go.RowKit Go.Shelf Go.Sort
set_option linter.unusedVariables false

/-- Texts, the small ones ahead. -/
def srt (l : List (List UInt8)) : List (List UInt8) := l.mergeSort fun x y => decide (x ≤ y)
theorem srt_len (l : List (List UInt8)) : (srt l).length = l.length := by simp [srt]
theorem sv_enc (l : List (List UInt8)) : sv l = l.map encStr := rfl
theorem ownS_base {w : World} {B C : Nat} {v : Value} {l : List (List UInt8)} (h : OwnS w B v l) (hc : C ≤ B) : OwnS w C v l := by
  rcases h with ⟨h1, ⟨rfl, h2⟩ | ⟨g, cap, cur, rfl, h3, h4⟩⟩
  · exact ⟨h1, Or.inl ⟨rfl, h2⟩⟩
  · exact ⟨h1, Or.inr ⟨g, cap, cur, rfl, Nat.le_trans hc h3, h4⟩⟩
theorem sort_own (w : World) (B : Nat) (v : Value) (L : List (List UInt8)) (h : OwnS w B v L) (hl : L.length ≤ 4194304) :
    Calls Tryz.prog 89 #[v] w fun e w' => e = .returned (.tuple #[]) ∧ OwnS w' B v (srt L) ∧ w.grownBy w' v.ownBlock := by
  rcases h.2 with ⟨rfl, hn⟩ | ⟨g, cap, cur, rfl, hbase, hb, h1, h2, h3, h4⟩
  · have e : L = [] := List.eq_nil_of_length_eq_zero hn
    subst e
    refine (Tryz.slices_Sort_string_none none 0 w).mono ?_
    rintro e w' ⟨rfl, rfl⟩
    refine ⟨rfl, ?_, ⟨rfl, rfl, rfl, Nat.le_refl _, fun _ _ _ => rfl⟩⟩
    have e : srt [] = [] := by simp [srt]
    rw [e]
    exact ownS_nil _ _
  · refine (Tryz.slices_Sort_string g 0 cap L w (holds_of_block hb (by rw [Nat.mul_one] at h4; rw [h4, sv_enc])) (Array.getElem?_eq_some_iff.1 hb).1 (by omega)).mono ?_
    rintro e w' ⟨rfl, n, os, rfl⟩
    refine ⟨rfl, ?_, grownBy_sorted _⟩
    have h := ownsRow_sorted (ts := srt L) (ss := L) (os := os) (n := n) (srt_len L) hbase hb h1 h2 h3
    unfold OwnS
    rw [srt_len, sv_enc]
    exact h
theorem key_inv {v : Value} {kl : Lit} (h : keyOf Tryz.prog 9 v = some kl) : ∃ m : List UInt8, v = .string (S m) := by
  cases v <;> simp [keyOf, mapKey, Tryz.underlying9] at h
  rename_i s
  exact ⟨s.data.toList, rfl⟩
theorem key_lit {m : List UInt8} {kl : Lit} (h : keyOf Tryz.prog 9 (.string (S m)) = some kl) : kl = .string m := by
  simp [keyOf, mapKey, Tryz.underlying9] at h
  rw [← h.2]
  rfl

set_option maxRecDepth 100000 in
set_option maxHeartbeats 1000000 in
theorem distinct_any (a : Option Addr) (l : List (List UInt8)) (c : Nat) (w : World) (hv : TRow w a l) (hl : l.length ≤ 4194304) (hz : ∀ x ∈ l, x.length ≤ 4194304) :
    Calls Tryz.prog 67 #[.slice a l.length c] w fun e w' => ∃ v L, e = .returned v ∧ OwnS w' w.heap.size v (srt L) ∧ L.Nodup ∧ (∀ x, x ∈ L ↔ x ∈ l) ∧ Below w.heap.size w w' := by
  have hg := gather_any a l c w hv hl hz
  clear hv hz
  go_enter Tryz.func67, Tryz.ntmps67
  go_wp2_with (first
    | (go_at_call 88; refine hg.mono ?_; rintro e w1 ⟨rfl, D, L0, hM, hS, hL, hB, hsz⟩)
    | (at_range; refine wpList_range_own _ rfl _ 132 rfl 9 146 (Maps.string_keyed Tryz.underlying9) Tryz.underlying132 _ w.heap.size l.length _ rfl hM ?_; intro w0 hrg0 hg0 hs0))
  go_frame
  have hD : Hid (SetIs D L0 ∧ ∀ x, x ∈ L0 ↔ x ∈ l) := ⟨hS, hL⟩
  have hsl : Maps.size D ≤ l.length := hM.size_le
  clear hg hS hL
  go_loopw [3] (fun v wr => ∃ (left : Lit → Bool) (cnt : Nat) (L : List (List UInt8)), Hid (wr.ranges Tryz.prog 9 (unitElem (H := Unit)) w.heap.size w1.heap.size l.length D left cnt) ∧
      Hid (OwnS wr (w.heap.size + 1) v L ∧ L.length + cnt ≤ l.length ∧ L.Nodup ∧ (∀ kl, left kl = true → Maps.has D kl = true) ∧ ∀ x, x ∈ L ↔ Maps.has D (.string x) = true ∧ left (.string x) = false) ∧ Hid (Below w.heap.size w wr ∧ w1.heap.size < wr.heap.size)) (fun _ wr => wr.rangeLeft w.heap.size w1.heap.size)
  case atStart =>
    refine ⟨_, _, [], hrg0, ⟨ownS_nil _ _, by simpa using hsl, List.nodup_nil, fun _ h => h, fun x => by simp⟩, ?_, by omega⟩
    exact hB.grown hg0 hB.size (fun j hj => by cases hj)
  case round =>
    clear hrg0 hg0 hs0
    obtain ⟨left, cnt, L, hrg, hR, hW⟩ := hrel
    have hsz' : Hid (w.heap.size < w1.heap.size) := hsz
    clear hB hM
    go_wp2_with (at_next; refine wpList_next_ranges _ rfl _ rfl 9 (Maps.string_keyed Tryz.underlying9) _ (fun m : List UInt8 => Value.string (S m)) (fun _ : Unit => Value.agg #[]) (fun _ _ hk => key_inv hk) (fun _ _ hv => ⟨(), (unitElem_inv hv).1⟩) w.heap.size w1.heap.size l.length _ _ _ rfl hrg.out ?_ ?_)
    · intro hc0 hl0
      have hsort := sort_own wr (w.heap.size + 1) _ L hR.out.1 (by have := hR.out.2.1; omega)
      have hl0' : Hid (∀ kl, left kl = false) := hl0
      clear hl0
      go_wp2_with (go_at_call 89; refine hsort.mono ?_; rintro e w5 ⟨rfl, hO5, hg5⟩)
      go_ret
      refine ⟨_, L, rfl, ownS_base hO5 (Nat.le_succ _), hR.out.2.2.1, fun x => ?_, ?_⟩
      · rw [hR.out.2.2.2.2 x, hD.out.1.1 x, ← hD.out.2 x]
        simp [hl0'.out]
      · exact hW.out.1.grown hg5 hW.out.1.size (fun j hj => Nat.le_of_succ_le (ownS_lt hR.out.1 hj).1)
    · intro m u kl y w2 cnt2 hkey hlk hv hat hrg1 hlt hg1 hs1 hen
      have hkl := key_lit hkey
      subst hkl
      have hrg1' : Hid (w2.ranges Tryz.prog 9 (unitElem (H := Unit)) w.heap.size w1.heap.size l.length D (fun z => left z && !z.sameKey (.string m)) cnt2) := hrg1
      have hg1' : Hid (wr.grownBy w2 (some w1.heap.size)) := hg1
      have hs1' : Hid (w2.heap.size = wr.heap.size) := hs1
      have hlk' : Hid (left (.string m) = true) := hlk
      have hlt' : Hid (cnt2 < cnt) := hlt
      have hOw : Hid (OwnS w2 (w.heap.size + 1) _ L) := ownS_of hR.out.1 (fun g hgg => hg1.block g (ownS_lt hR.out.1 hgg).2 (fun e => row_ne_iter hR.out.1 hrg.out (by rw [hgg, ← e])))
      have hLl : Hid (L.length ≤ 4194304) := by have := hR.out.2.1; show _ ≤ _; omega
      clear hrg1 hg1 hs1 hlk hlt hv hat hkey
      go_wp2_with (at_builtin; refine push_text _ rfl _ _ rfl (w.heap.size + 1) _ L m _ rfl rfl ?_ ?_ ?_ hLl.out ?_; (exact World.ownsRow.alloc hOw.out _); (exact heap_alloc_new _ _); (have := hs1'.out; have := hsz'.out; have := hW.out.2; simp; omega); intro g6 cap6 w6 hown6 hgr6 hlie6 hb6)
      have hrg2 := (hrg1'.out.kept (World.grownBy_alloc _ _ none) (by simp) (by simp)).kept hgr6 (row_ne_low hOw.out (Nat.lt_succ_self _)) (row_ne_iter hOw.out hrg1'.out)
      go_roundw
      case rel =>
        refine ⟨_, cnt2, L ++ [m], hrg2, ⟨?_, ?_, ?_, ?_, ?_⟩, ?_, ?_⟩
        · exact hown6
        · have := hR.out.2.1; have := hlt'.out; simp; omega
        · rw [List.nodup_append]
          refine ⟨hR.out.2.2.1, by simp, ?_⟩
          intro x hx z hz e
          rw [List.mem_singleton] at hz
          subst hz
          subst e
          have h1 := ((hR.out.2.2.2.2 x).1 hx).2
          rw [hlk'.out] at h1
          cases h1
        · intro kl h
          rw [Bool.and_eq_true] at h
          exact hR.out.2.2.2.1 kl h.1
        · intro x
          rw [List.mem_append, List.mem_singleton, hR.out.2.2.2.2 x]
          have hm := hR.out.2.2.2.1 _ hlk'.out
          by_cases e : x = m
          · subst e
            simp [hm, Lit.sameKey]
          · simp [e, Lit.sameKey]
        · exact ((hW.out.1.grown hg1'.out hW.out.1.size (fun j hj => by cases hj; exact Nat.le_of_lt hsz'.out)).alloc (by have := hW.out.1.size; have := hs1'.out; omega) _).grown hgr6 (by have := hW.out.1.size; have := hs1'.out; simp; omega) (fun j hj => Nat.le_of_succ_le (ownS_lt hOw.out hj).1)
        · have := hgr6.size; have := hs1'.out; have := hW.out.2; simp at *; omega
      case measure => rw [hrg2.left_eq, hrg.out.left_eq]; exact hlt'.out
end Go.Proofs.YtoomoicjoockjaaGreatDoor
