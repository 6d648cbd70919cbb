import Derived.Test.YtnboimoncpphlabDoorRfKey
namespace Go.Proofs.YtnboimoncpphlabDoor
open Go.RowKit
open TextMath (fold lo)
set_option linter.unusedVariables false

def glue (x : List UInt8) (L : List (List UInt8)) : List (List UInt8) := (x ++ L.headD []) :: L.tail
theorem glue_nil (c : UInt8) (l : List UInt8) : glue [] (sp c l) = sp c l := by
  unfold glue
  rw [List.nil_append, ← sp_cons]
theorem glue_on (c b : UInt8) (x l : List UInt8) (h : b ≠ c) : glue x (sp c (b :: l)) = glue (x ++ [b]) (sp c l) := by
  unfold glue
  rw [sp_on c b l h]
  simp
theorem glue_at (c : UInt8) (x l : List UInt8) : glue x (sp c (c :: l)) = x :: sp c l := by
  unfold glue
  rw [sp_at]
  simp
theorem cur_step (l : List UInt8) (a k : Nat) (h : a ≤ k) (hk : k < l.length) : (l.drop a).take (k + 1 - a) = (l.drop a).take (k - a) ++ [l[k]] := by
  rw [show k + 1 - a = (k - a) + 1 by omega, List.take_succ_eq_append_getElem (by rw [List.length_drop]; omega)]
  congr 2
  rw [List.getElem_drop]
  congr 1
  omega
theorem ext_lR (s : ByteArray) (a b : Nat) : (s.extract a b).data.toList = (s.data.toList.drop a).take (b - a) := by
  rw [ByteArray.data_extract, Array.toList_extract, List.extract_eq_take_drop]
theorem beqU (b c : UInt8) : ((b.toNat : Int) == (c.toNat : Int)) = decide (b = c) := by
  by_cases h : b = c
  · subst h; simp
  · rw [decide_eq_false h, beq_eq_false_iff_ne]
    intro q
    exact h (UInt8.toNat_inj.1 (by omega))
set_option maxRecDepth 100000 in
set_option maxHeartbeats 2000000 in
theorem parts_any (s : ByteArray) (c : UInt8) (w : World) (hs : s.size ≤ 4194304) :
    Calls Tryd.prog 55 #[.string s, .int .u8 (c.toNat : Int)] w fun e w' => (∃ v, e = .returned v ∧ OwnS w' w.heap.size v (sp c s.data.toList)) ∧ Below w.heap.size w w' := by
  have hs' : Hid (s.size ≤ 4194304) := hs
  go_enter Tryd.func55, Tryd.ntmps55
  go_wp2_with fail
  go_loopw [5, 6, 7] (fun lv av iv wr => ∃ (k a : Nat) (ms : List (List UInt8)), k ≤ s.size ∧ a ≤ k ∧ av = .int .i64 (a : Int) ∧ iv = .int .i64 (k : Int) ∧ (∃ oa ol oc, lv = .slice oa ol oc ∧ OwnS wr w.heap.size (.slice oa ol oc) ms) ∧ Below w.heap.size w wr ∧ Hid (sp c s.data.toList = ms ++ glue ((s.data.toList.drop a).take (k - a)) (sp c (s.data.toList.drop k)) ∧ ms.length ≤ a)) (fun _ _ iv _ => s.size - (intOf iv).toNat)
  case atStart =>
    refine ⟨0, 0, [], Nat.zero_le _, Nat.le_refl _, rfl, rfl, ⟨none, 0, 0, rfl, ownS_nil _ _⟩, Below.refl _ _, ?_, by simp⟩
    show _ = [] ++ glue _ _
    rw [List.drop_zero, Nat.sub_zero, List.take_zero, List.nil_append, glue_nil]
  case round =>
    obtain ⟨k, a, ms, hk, hak, rfl, rfl, ⟨oa, ol, oc, rfl, hown0⟩, hB0, hsp⟩ := hrel
    have hown : Hid (OwnS wr w.heap.size (.slice oa ol oc) ms) := hown0
    have hB : Hid (Below w.heap.size w wr) := hB0
    have hsz : w.heap.size ≤ wr.heap.size := hB0.size
    clear hown0 hB0
    have a0 : (0 : Int) ≤ (a : Int) := Int.natCast_nonneg _
    have a1 : (a : Int) ≤ (k : Int) := Int.ofNat_le.2 hak
    by_cases hlt : k < s.size
    · have hl : k < s.data.toList.length := by rw [size_l]; exact hlt
      have hdr := List.drop_eq_getElem_cons hl
      have hbq := beqU s[k] c
      have k0 : (0 : Int) ≤ (k : Int) := Int.natCast_nonneg _
      have k1 : (k : Int) < (s.size : Int) := Int.ofNat_lt.2 hlt
      have k2 : (k : Int) ≤ (s.size : Int) := by omega
      by_cases hc : s[k] = c
      · rw [decide_eq_true hc] at hbq
        obtain ⟨M, hM⟩ : ∃ M, s.extract a k = M := ⟨_, rfl⟩
        have hMl : M.data.toList = (s.data.toList.drop a).take (k - a) := by rw [← hM, ext_lR]
        have hnx : Hid (sp c s.data.toList = (ms ++ [M.data.toList]) ++ glue ((s.data.toList.drop (k + 1)).take (k + 1 - (k + 1))) (sp c (s.data.toList.drop (k + 1))) ∧ (ms ++ [M.data.toList]).length ≤ k + 1) := by
          refine ⟨?_, ?_⟩
          · rw [hsp.out.1, hdr, ← getB s k hlt, hc, glue_at, Nat.sub_self, List.take_zero, glue_nil, hMl]
            simp
          · have := hsp.out.2
            rw [List.length_append]
            simp
            omega
        have hSM : Hid (S M.data.toList = M) := S_of M
        have hl3 : Hid (ms.length ≤ 4194304) := by have := hsp.out.2; have := hs'.out; unfold Hid; omega
        have hlt' : Hid (k < s.size) := hlt
        clear hsp hdr hMl hc
        go_wp2_with (at_builtin; refine push_text _ rfl _ _ rfl w.heap.size _ ms M.data.toList _ rfl rfl ?_ ?_ ?_ hl3.out ?_; (exact World.ownsRow.alloc hown.out _); (rw [hSM.out]; exact heap_alloc_new _ _); (simp; omega); intro g6 cap6 w6 hown6 hgr6 hlie6 hb6)
        refine ⟨⟨k + 1, k + 1, ms ++ [M.data.toList], hlt'.out, Nat.le_refl _, by simp, by simp, ⟨_, _, _, rfl, hown6⟩, (hB.out.alloc hsz _).trans hb6, hnx⟩, ?_⟩
        have := hlt'.out
        simp [intOf]
        omega
      · rw [decide_eq_false hc] at hbq
        have hnx : Hid (sp c s.data.toList = ms ++ glue ((s.data.toList.drop a).take (k + 1 - a)) (sp c (s.data.toList.drop (k + 1))) ∧ ms.length ≤ a) := by
          refine ⟨?_, hsp.out.2⟩
          rw [hsp.out.1, hdr, glue_on c _ _ _ (by rw [← getB s k hlt]; exact hc), cur_step _ _ _ hak hl]
        have hlt' : Hid (k < s.size) := hlt
        clear hsp hdr hc
        go_wp2_with fail
        go_roundw
        case rel => exact ⟨k + 1, a, ms, hlt'.out, by omega, rfl, by simp, ⟨_, _, _, rfl, hown.out⟩, hB.out, hnx⟩
        case measure => have := hlt'.out; simp [intOf]; omega
    · have hke : k = s.size := by omega
      subst hke
      obtain ⟨M, hM⟩ : ∃ M, s.extract a s.size = M := ⟨_, rfl⟩
      have hMl : M.data.toList = (s.data.toList.drop a).take (s.size - a) := by rw [← hM, ext_lR]
      have hfin : Hid (sp c s.data.toList = ms ++ [M.data.toList]) := by
        unfold Hid
        rw [hsp.out.1, show s.data.toList.drop s.size = [] from List.drop_of_length_le (by rw [size_l]; exact Nat.le_refl _), hMl]
        show _ = _
        simp [glue, sp]
      have hSM : Hid (S M.data.toList = M) := S_of M
      have hl3 : Hid (ms.length ≤ 4194304) := by have := hsp.out.2; have := hs'.out; unfold Hid; omega
      have k1 : ¬ (s.size : Int) < (s.size : Int) := by omega
      have k2 : (s.size : Int) ≤ (s.size : Int) := Int.le_refl _
      clear hsp hMl
      go_wp2_with (at_builtin; refine push_text _ rfl _ _ rfl w.heap.size _ ms M.data.toList _ rfl rfl ?_ ?_ ?_ hl3.out ?_; (exact World.ownsRow.alloc hown.out _); (rw [hSM.out]; exact heap_alloc_new _ _); (simp; omega); intro g6 cap6 w6 hown6 hgr6 hlie6 hb6)
      go_ret
      exact ⟨⟨_, rfl, by rw [hfin.out]; exact hown6⟩, (hB.out.alloc hsz _).trans hb6⟩
end Go.Proofs.YtnboimoncpphlabDoor
