import Derived.Test.YtfmhcgadgakbhaaGreatDoorRows
import Derived.Test.YtfmhcgadgakbhaaGreatDoorFxB
import Derived.Test.YtfmhcgadgakbhaaGreatDoorBytes
import Derived.Test.YtfmhcgadgakbhaaGreatDoorFxD
import Derived.Test.YtfmhcgadgakbhaaGreatDoorAtBook
import Derived.Maps.OwnSet
import Derived.Maps.RangeWalk
import Derived.Maps.Ext
import Derived.Maps.AppendAt
import Derived.BigQuiet
namespace Go.Proofs.YtfmhcgadgakbhaaGreatDoor
open Go.RowKit
open TextMath (ld wi seqLen check u)

set_option maxHeartbeats 400000 in
theorem lead_any (b : Int) (w : World) (h0 : 0 ≤ b) (h1 : b ≤ 255) :
    Calls Tryz.prog 97 #[.int .u8 b] w fun e w' => e = .returned (.tuple #[.int .i64 (ld b).1, .int .u8 (ld b).2.1, .int .u8 (ld b).2.2]) ∧ w' = w := by
  unfold ld
  go_enter Tryz.func97, Tryz.ntmps97
  go_wp2
  all_goals
    go_ret3
    refine ⟨?_, rfl⟩
    simp_all <;> omega

set_option maxHeartbeats 400000 in
theorem within_any (b lo hi : Int) (w : World) :
    Calls Tryz.prog 98 #[.int .u8 b, .int .u8 lo, .int .u8 hi] w fun e w' => e = .returned (.bool (wi b lo hi)) ∧ w' = w := by
  unfold wi
  go_enter Tryz.func98, Tryz.ntmps98
  go_wp2
  all_goals
    go_ret
    refine ⟨?_, rfl⟩
    simp_all <;> omega

theorem len_s (s : ByteArray) : (s.data.toList.length : Int) = s.size := by show ((s.data.toList.length : Nat) : Int) = ((s.data.size : Nat) : Int); simp

section
variable (s : ByteArray) (lo hi : Int) (hs : 0 < s.size)
theorem seq0 (hq : ld (u s[0]) = (0, lo, hi)) : (0 : Int) = seqLen s.data.toList := by
  simp only [seqLen, getD_s s 0 hs, hq, len_s]; simp
theorem seq1 (hq : ld (u s[0]) = (1, lo, hi)) : (1 : Int) = seqLen s.data.toList := by
  simp only [seqLen, getD_s s 0 hs, hq, len_s]; simp
  rw [if_neg (by omega)]; rfl
theorem seqS (n : Int) (hq : ld (u s[0]) = (n, lo, hi)) (hl : (s.size : Int) < n) : (0 : Int) = seqLen s.data.toList := by
  simp only [seqLen, getD_s s 0 hs, hq, len_s]
  rw [if_pos hl]; rfl
theorem seq2f (hl : ¬ s.size < 2) (hq : ld (u s[0]) = (2, lo, hi)) (hw : (!wi (s[1].toNat : Int) lo hi) = true) : (0 : Int) = seqLen s.data.toList := by
  simp only [seqLen, getD_s s 0 hs, getD_s s 1 (by omega), hq, len_s]
  rw [if_neg (by omega)]; simp only [Bool.not_eq_true'] at hw; simp [u, hw]
theorem seq2t (hl : ¬ s.size < 2) (hq : ld (u s[0]) = (2, lo, hi)) (hw : (!wi (s[1].toNat : Int) lo hi) = false) : (2 : Int) = seqLen s.data.toList := by
  simp only [seqLen, getD_s s 0 hs, getD_s s 1 (by omega), hq, len_s]
  rw [if_neg (by omega)]; simp only [Bool.not_eq_false'] at hw; simp [u, hw]
theorem seq3f (hl : ¬ s.size < 3) (hq : ld (u s[0]) = (3, lo, hi)) (hw : (!wi (s[2].toNat : Int) 128 191) = true) : (0 : Int) = seqLen s.data.toList := by
  simp only [seqLen, getD_s s 0 hs, getD_s s 1 (by omega), getD_s s 2 (by omega), hq, len_s]
  rw [if_neg (by omega)]; simp only [Bool.not_eq_true'] at hw; simp [u, hw]
theorem seq3g (hl : ¬ s.size < 3) (hq : ld (u s[0]) = (3, lo, hi)) (hw2 : (!wi (s[2].toNat : Int) 128 191) = false) (hw : (!wi (s[1].toNat : Int) lo hi) = true) : (0 : Int) = seqLen s.data.toList := by
  simp only [seqLen, getD_s s 0 hs, getD_s s 1 (by omega), getD_s s 2 (by omega), hq, len_s]
  rw [if_neg (by omega)]; simp only [Bool.not_eq_true', Bool.not_eq_false'] at hw hw2; simp [u, hw, hw2]
theorem seq3t (hl : ¬ s.size < 3) (hq : ld (u s[0]) = (3, lo, hi)) (hw2 : (!wi (s[2].toNat : Int) 128 191) = false) (hw : (!wi (s[1].toNat : Int) lo hi) = false) : (3 : Int) = seqLen s.data.toList := by
  simp only [seqLen, getD_s s 0 hs, getD_s s 1 (by omega), getD_s s 2 (by omega), hq, len_s]
  rw [if_neg (by omega)]; simp only [Bool.not_eq_false'] at hw hw2; simp [u, hw, hw2]
theorem seq4f (hl : ¬ s.size < 4) (hq : ld (u s[0]) = (4, lo, hi)) (hw : (!wi (s[3].toNat : Int) 128 191) = true) : (0 : Int) = seqLen s.data.toList := by
  simp only [seqLen, getD_s s 0 hs, getD_s s 1 (by omega), getD_s s 2 (by omega), getD_s s 3 (by omega), hq, len_s]
  rw [if_neg (by omega)]; simp only [Bool.not_eq_true'] at hw; simp [u, hw]
theorem seq4e (hl : ¬ s.size < 4) (hq : ld (u s[0]) = (4, lo, hi)) (hw3 : (!wi (s[3].toNat : Int) 128 191) = false) (hw : (!wi (s[2].toNat : Int) 128 191) = true) : (0 : Int) = seqLen s.data.toList := by
  simp only [seqLen, getD_s s 0 hs, getD_s s 1 (by omega), getD_s s 2 (by omega), getD_s s 3 (by omega), hq, len_s]
  rw [if_neg (by omega)]; simp only [Bool.not_eq_true', Bool.not_eq_false'] at hw hw3; simp [u, hw, hw3]
theorem seq4g (hl : ¬ s.size < 4) (hq : ld (u s[0]) = (4, lo, hi)) (hw3 : (!wi (s[3].toNat : Int) 128 191) = false) (hw2 : (!wi (s[2].toNat : Int) 128 191) = false) (hw : (!wi (s[1].toNat : Int) lo hi) = true) : (0 : Int) = seqLen s.data.toList := by
  simp only [seqLen, getD_s s 0 hs, getD_s s 1 (by omega), getD_s s 2 (by omega), getD_s s 3 (by omega), hq, len_s]
  rw [if_neg (by omega)]; simp only [Bool.not_eq_true', Bool.not_eq_false'] at hw hw2 hw3; simp [u, hw, hw2, hw3]
theorem seq4t (hl : ¬ s.size < 4) (hq : ld (u s[0]) = (4, lo, hi)) (hw3 : (!wi (s[3].toNat : Int) 128 191) = false) (hw2 : (!wi (s[2].toNat : Int) 128 191) = false) (hw : (!wi (s[1].toNat : Int) lo hi) = false) : (4 : Int) = seqLen s.data.toList := by
  simp only [seqLen, getD_s s 0 hs, getD_s s 1 (by omega), getD_s s 2 (by omega), getD_s s 3 (by omega), hq, len_s]
  rw [if_neg (by omega)]; simp only [Bool.not_eq_false'] at hw hw2 hw3; simp [u, hw, hw2, hw3]
end

set_option maxHeartbeats 1000000 in
theorem sequence_any (s : ByteArray) (w : World) (hs : 0 < s.size) (hm : s.size ≤ maxLen) :
    Calls Tryz.prog 65 #[.string s] w fun e w' => e = .returned (.int .i64 (seqLen s.data.toList)) ∧ w' = w := by
  unfold maxLen at hm
  have hb : s[0].toNat < 256 := s[0].toNat_lt
  have hc := TextMath.ld_cases (u s[0])
  obtain ⟨n, lo, hi, hq⟩ : ∃ n lo hi, ld (u s[0]) = (n, lo, hi) := ⟨_, _, _, rfl⟩
  rw [hq] at hc
  have Hq : Hid (ld (u s[0]) = (n, lo, hi)) := hq
  clear hq
  simp only [] at hc
  by_cases hl : (s.size : Int) < n
  · rcases hc with rfl | rfl | rfl | rfl | rfl
    · omega
    · omega
    all_goals
      go_enter Tryz.func65, Tryz.ntmps65
      go_wp2_with (go_at_call 97; refine (lead_any _ _ ?_ ?_).mono ?_; omega; omega; rintro e w' ⟨rfl, rfl⟩; rw [show ld ↑s[0].toNat = _ from Hq.out])
      go_ret
      exact ⟨ret_int (seqS s lo hi hs _ Hq.out hl), rfl⟩
  rcases hc with rfl | rfl | rfl | rfl | rfl
  all_goals
    go_enter Tryz.func65, Tryz.ntmps65
    go_wp2_with (first | (go_at_call 97; refine (lead_any _ _ ?_ ?_).mono ?_; omega; omega; rintro e w' ⟨rfl, rfl⟩; rw [show ld ↑s[0].toNat = _ from Hq.out]) | (go_at_call 98; refine (within_any _ _ _ _).mono ?_; rintro e w' ⟨rfl, rfl⟩))
    all_goals
      go_ret
      refine ⟨ret_int ?_, rfl⟩
      first
        | exact seq0 s lo hi hs Hq.out
        | exact seq1 s lo hi hs Hq.out
        | exact seq2f s lo hi hs (by omega) Hq.out ‹_›
        | exact seq2t s lo hi hs (by omega) Hq.out ‹_›
        | exact seq3f s lo hi hs (by omega) Hq.out ‹_›
        | exact seq3g s lo hi hs (by omega) Hq.out ‹_› ‹_›
        | exact seq3t s lo hi hs (by omega) Hq.out ‹_› ‹_›
        | exact seq4f s lo hi hs (by omega) Hq.out ‹_›
        | exact seq4e s lo hi hs (by omega) Hq.out ‹_› ‹_›
        | exact seq4g s lo hi hs (by omega) Hq.out ‹_› ‹_› ‹_›
        | exact seq4t s lo hi hs (by omega) Hq.out ‹_› ‹_› ‹_›
end Go.Proofs.YtfmhcgadgakbhaaGreatDoor

namespace Go.Proofs.YtfmhcgadgakbhaaGreatDoor
open Go.RowKit
open TextMath (ld wi seqLen check u)

/-- What Check answers of a text. -/
def chkV (l : List UInt8) : Value := .tuple #[.int .i64 (if (check l).1 = true then 0 else 10), .int .i64 ((check l).2 : Nat)]

theorem chkV_bad (l : List UInt8) (k : Nat) (hk : k < l.length) (hc : check l = ((check (l.drop k)).1, k + (check (l.drop k)).2)) (h0 : seqLen (l.drop k) = 0) :
    Ending.returned (.tuple #[.int .i64 10, .int .i64 (k : Nat)]) = .returned (chkV l) := by
  rw [TextMath.check_bad (l.drop k) (by simp; omega) h0] at hc
  unfold chkV; rw [hc]; simp
theorem chkV_end (l : List UInt8) (k : Nat) (hk : ¬ k < l.length) (hc : check l = ((check (l.drop k)).1, k + (check (l.drop k)).2)) :
    Ending.returned (.tuple #[.int .i64 0, .int .i64 (k : Nat)]) = .returned (chkV l) := by
  rw [List.drop_eq_nil_of_le (by omega), TextMath.check_nil] at hc
  unfold chkV; rw [hc]; simp
theorem chk_step (l : List UInt8) (k : Nat) (hc : check l = ((check (l.drop k)).1, k + (check (l.drop k)).2)) (h0 : seqLen (l.drop k) ≠ 0) :
    check l = ((check (l.drop (k + seqLen (l.drop k)))).1, k + seqLen (l.drop k) + (check (l.drop (k + seqLen (l.drop k)))).2) := by
  rw [TextMath.check_good (l.drop k) h0, List.drop_drop] at hc
  rw [hc]; simp; omega

set_option maxHeartbeats 400000 in
theorem check_any (s : ByteArray) (w : World) (hm : s.size ≤ maxLen) :
    Calls Tryz.prog 41 #[.string s] w fun e w' => e = .returned (chkV s.data.toList) ∧ w' = w := by
  have hm' := hm
  unfold maxLen at hm
  have hL : Hid (s.data.toList.length = s.size) := by show s.data.toList.length = s.data.size; simp
  go_enter Tryz.func41, Tryz.ntmps41
  go_wp2
  go_loop [4] (fun i => ∃ k : Nat, k ≤ s.size ∧ i = .int .i64 k ∧ Hid (check s.data.toList = ((check (s.data.toList.drop k)).1, k + (check (s.data.toList.drop k)).2))) (fun i => s.size - (intOf i).toNat)
  case atStart => exact ⟨0, Nat.zero_le _, rfl, by unfold Hid; simp⟩
  case round =>
    obtain ⟨k, hk, rfl, hc⟩ := hrel
    by_cases hlt : k < s.size
    · have hq := TextMath.seqLen_le (s.data.toList.drop k)
      have hq' : seqLen (s.data.toList.drop k) + k ≤ s.size := by rw [List.length_drop, hL.out] at hq; omega
      clear hq
      generalize hn : seqLen (s.data.toList.drop k) = n at *
      have Hn : Hid (seqLen (s.data.toList.drop k) = n) := hn
      clear hn
      by_cases hn0 : n = 0
      · subst hn0
        go_wp2_with (go_at_call 65; refine (sequence_any _ _ ?_ ?_).mono ?_; simp; omega; simp [maxLen]; omega; rintro e w' ⟨rfl, rfl⟩; rw [drop_l, Hn.out])
        go_ret2
        exact ⟨chkV_bad _ k (by rw [hL.out]; exact hlt) hc.out Hn.out, rfl⟩
      · have hz : (((n : Nat) : Int) == 0) = false := by simp; omega
        go_wp2_with (go_at_call 65; refine (sequence_any _ _ ?_ ?_).mono ?_; simp; omega; simp [maxLen]; omega; rintro e w' ⟨rfl, rfl⟩; rw [drop_l, Hn.out])
        go_round
        case rel => exact ⟨k + n, by omega, by go_num, by have h := chk_step _ k hc.out (by rw [Hn.out]; exact hn0); rw [Hn.out] at h; exact h⟩
        case measure => simp [intOf]; omega
    · go_wp2
      go_ret2
      exact ⟨chkV_end _ k (by rw [hL.out]; exact hlt) hc.out, rfl⟩
end Go.Proofs.YtfmhcgadgakbhaaGreatDoor

namespace Go.Proofs.YtfmhcgadgakbhaaGreatDoor
open Go.RowKit
set_option linter.unusedVariables false

theorem lit_ne {x y : List UInt8} (h : ¬ x = y) : (Lit.string x) ≠ .string y := fun e => h (by injection e)
/-- A row of texts by its cells: nothing, or a block. -/
def TRow (w : World) (a : Option Addr) (l : List (List UInt8)) : Prop := ∀ i (hi : i < l.length), ∃ g, a = some ⟨g, 0, none⟩ ∧ w.cell? ⟨g, i, none⟩ = some (.string (S l[i]))
theorem ownS_trow {w : World} {B : Nat} {v : Value} {l : List (List UInt8)} (h : OwnS w B v l) : ∃ a c, v = .slice a l.length c ∧ TRow w a l := by
  rcases ownS_form h with ⟨rfl, rfl⟩ | ⟨g, cap, rfl⟩
  · exact ⟨none, 0, rfl, fun i hi => by simp at hi⟩
  · exact ⟨_, _, rfl, fun i hi => ⟨g, rfl, ownS_cell h i hi⟩⟩
theorem TRow.below {w w' : World} {a : Option Addr} {l : List (List UInt8)} (h : TRow w a l) (hb : Below w.heap.size w w') : TRow w' a l := fun i hi => by
  obtain ⟨g, e, h1⟩ := h i hi
  refine ⟨g, e, ?_⟩
  rw [hb.cell (World.block_lt_of_cell? w _ h1)]
  exact h1

/-- A map that holds just the texts of a list, none twice. -/
def SetIs (D : DataW Unit) (L : List (List UInt8)) : Prop := (∀ x, Maps.has D (.string x) = decide (x ∈ L)) ∧ L.Nodup ∧ Maps.size D = L.length
theorem SetIs.zero : SetIs (.map []) [] := ⟨fun x => rfl, List.nodup_nil, rfl⟩
theorem SetIs.put {D : DataW Unit} {L : List (List UInt8)} (h : SetIs D L) (hm : Maps.IsMap D) (ht : Maps.Tidy D) (x : List UInt8) : ∃ L', SetIs (D.put (.string x) (.agg [])) L' ∧ ∀ y, y ∈ L' ↔ y ∈ L ∨ y = x := by
  have hx := h.1 x
  by_cases e : x ∈ L
  · refine ⟨L, ⟨fun y => ?_, h.2.1, ?_⟩, fun y => ⟨Or.inl, fun q => by rcases q with q | rfl <;> assumption⟩⟩
    · by_cases ey : y = x
      · subst ey; rw [Maps.has_put_same hm (show WideAt.IsKeyLit (Lit.string _) from trivial)]; simp [e]
      · rw [Maps.has_put_other (lit_ne ey), h.1 y]
    · rw [Maps.size_put ht, hx, if_pos (by simp [e])]; exact h.2.2
  · refine ⟨L ++ [x], ⟨fun y => ?_, ?_, ?_⟩, fun y => by simp⟩
    · by_cases ey : y = x
      · subst ey; rw [Maps.has_put_same hm (show WideAt.IsKeyLit (Lit.string _) from trivial)]; simp
      · rw [Maps.has_put_other (lit_ne ey), h.1 y]; simp [ey]
    · rw [List.nodup_append]
      refine ⟨h.2.1, by simp, ?_⟩
      intro a ha b hb
      simp at hb
      subst hb
      intro q
      subst q
      exact e ha
    · rw [Maps.size_put ht, hx, if_neg (by simp [e]), h.2.2]; simp
theorem SetIs.del {D : DataW Unit} {L : List (List UInt8)} (h : SetIs D L) (ht : Maps.Tidy D) (x : List UInt8) : SetIs (D.del (.string x)) (L.erase x) := by
  have hx := h.1 x
  have hs := Maps.size_del (k := .string x) ht
  refine ⟨fun y => ?_, h.2.1.erase x, ?_⟩
  · by_cases ey : y = x
    · subst ey; rw [Maps.has_del_same]; simp [h.2.1.mem_erase_iff]
    · rw [Maps.has_del_other (lit_ne ey), h.1 y]; simp [h.2.1.mem_erase_iff, ey]
  · rw [hx, h.2.2] at hs
    by_cases e : x ∈ L
    · rw [if_pos (by simp [e])] at hs
      rw [List.length_erase_of_mem e]
      omega
    · rw [if_neg (by simp [e])] at hs
      rw [List.erase_of_not_mem e]
      omega

/-- What gather leaves behind. -/
def GatherIs (w w' : World) (l : List (List UInt8)) : Prop := ∃ D L, w'.ownsMap Tryz.prog 9 (unitElem (H := Unit)) w.heap.size l.length D ∧ SetIs D L ∧ (∀ x, x ∈ L ↔ x ∈ l) ∧ Below w.heap.size w w' ∧ w.heap.size < w'.heap.size
/-- Whether each asked text is there. -/
def holds (there asked : List (List UInt8)) : Bool := asked.all fun x => decide (x ∈ there)
end Go.Proofs.YtfmhcgadgakbhaaGreatDoor

namespace Go.Proofs.YtfmhcgadgakbhaaGreatDoor
open Go.RowKit
set_option linter.unusedVariables false

theorem toListS (x : List UInt8) : (S x).toList = x := by rw [Lib.toList_data, S_l]
theorem strNe {x y : List UInt8} (h : ¬ x = y) : ((S x).toList == (S y).toList) = false := by
  rw [toListS, toListS]
  simp [h]
/-- A row of texts, wherever it lies. -/
def Row (w : World) (a : Option Addr) (l : List (List UInt8)) : Prop := ∀ i (hi : i < l.length), ∃ b off, a = some ⟨b, off, none⟩ ∧ w.cell? ⟨b, off + i, none⟩ = some (.string (S l[i]))
theorem TRow.row {w : World} {a : Option Addr} {l : List (List UInt8)} (h : TRow w a l) : Row w a l := fun i hi => by
  obtain ⟨g, e, h1⟩ := h i hi
  exact ⟨g, 0, e, by rw [Nat.zero_add]; exact h1⟩
theorem TRow.drop {w : World} {g : Nat} {l : List (List UInt8)} (h : TRow w (some ⟨g, 0, none⟩) l) (k : Nat) : Row w (some ⟨g, k, none⟩) (l.drop k) := fun i hi => by
  rw [List.length_drop] at hi
  obtain ⟨g', e, h1⟩ := h (k + i) (by omega)
  injection e with e
  injection e with e1
  subst e1
  refine ⟨g, k, rfl, ?_⟩
  rw [h1]
  simp
theorem Row.below {w w' : World} {a : Option Addr} {l : List (List UInt8)} (h : Row w a l) (hb : Below w.heap.size w w') : Row w' a l := fun i hi => by
  obtain ⟨b, off, e, h1⟩ := h i hi
  refine ⟨b, off, e, ?_⟩
  rw [hb.cell (World.block_lt_of_cell? w _ h1)]
  exact h1
theorem takeStep {l k : List (List UInt8)} {i : Nat} (h : l.take i = k.take i) (h1 : i < l.length) (h2 : i < k.length) (e : l[i] = k[i]) : l.take (i + 1) = k.take (i + 1) := by
  rw [List.take_succ_eq_append_getElem h1, List.take_succ_eq_append_getElem h2, h, e]

end Go.Proofs.YtfmhcgadgakbhaaGreatDoor
