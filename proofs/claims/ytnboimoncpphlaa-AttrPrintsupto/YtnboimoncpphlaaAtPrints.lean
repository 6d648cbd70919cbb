import Derived.Test.YtnboimoncpphlaaAtPrint
namespace Go.Proofs.Ytnboimoncpphlaa
open Go.RowKit

set_option maxHeartbeats 1000000 in
/-- 'same' of two rows alike only draws. -/
theorem same_strs (a a' : Option Addr) (n c c' : Nat) (X : Nat → ByteArray) (w : World) (hn : n ≤ 4194304) (h1 : Strs w a n X) (h2 : Strs w a' n X) :
    Calls Try.prog 7 #[.slice a n c, .slice a' n c'] w fun r w' => r = .returned (.bool true) ∧ ∃ k, w' = w.drewN k := by
  go_enter Try.func7, Try.ntmps7
  go_wp2_with fail
  go_loopw [5] (fun iv wr => ∃ (k q : Nat), k ≤ n ∧ iv = .int .i64 (k : Int) ∧ Hid (wr = w.drewN q)) (fun iv _ => n - (intOf iv).toNat)
  case atStart => exact ⟨0, 0, Nat.zero_le _, rfl, rfl⟩
  case round =>
    obtain ⟨k, q, hk, rfl, hw⟩ := hrel
    by_cases hlt : k < n
    · obtain ⟨b, off, rfl, a0⟩ := h1 k hlt
      obtain ⟨b', off', rfl, b0⟩ := h2 k hlt
      have hE : ∀ a, wr.cell? a = w.cell? a := fun a => by rw [hw.out]; rfl
      rw [← hE] at a0 b0
      have k0 : (0 : Int) ≤ (k : Int) := Int.natCast_nonneg _
      have k1 : (k : Int) < (n : Int) := Int.ofNat_lt.2 hlt
      generalize X k = x at *
      clear hE
      go_wp2_with fail
      go_quiet (fail)
      go_wp2_with fail
      go_roundw
      case rel => exact ⟨k + 1, _, hlt, by simp, by unfold Hid; rw [hw.out, World.drewN_drewN]⟩
      case measure => simp [intOf]; omega
    · have hke : k = n := by omega
      subst hke
      go_wp2_with fail
      go_ret
      exact ⟨rfl, q, hw.out⟩

/-- A row that came in, copied onto nil. -/
theorem copy_strs (a : Option Addr) (n c : Nat) (X : Nat → ByteArray) (w : World) (hX : Strs w a n X) (hn : n ≤ 4194304) :
    ∃ v1 w1, (Builtin.append_ #[22, 22] 22 #[.slice none 0 0, .slice a n c]).run Try.prog w = .ok v1 w1 ∧ OwnS w1 w.heap.size v1 (lst X n) ∧ Below w.heap.size w w1 := by
  obtain ⟨i0, hi, hz0, hz1, hz2⟩ := info_parts info_str
  by_cases h0 : n = 0
  · subst h0
    refine ⟨.slice none 0 0, w, ?_, ownS_nil _ _, Below.refl _ _⟩
    cases a with
    | none => simp [Builtin.append_, run_underlying Try.underlying22, sizeOf, typeInfo, hi, Builtin.lenOf, Builtin.firstCells]
    | some d => simp [Builtin.append_, run_underlying Try.underlying22, sizeOf, typeInfo, hi, Builtin.lenOf, Builtin.firstCells, loadCells, loadCellsFrom]
  · obtain ⟨b, off, rfl, _⟩ := hX 0 (by omega)
    have hnews : ∀ j u, (sv (lst X n))[j]? = some u → w.cell? ((⟨b, off, none⟩ : Addr).add j) = some u := by
      intro j u hj
      have hjn : j < n := by
        rcases Nat.lt_or_ge j n with h' | h'
        · exact h'
        · rw [List.getElem?_eq_none (by rw [sv_len, lst_len]; exact h')] at hj; cases hj
      obtain ⟨b', off', e, hc⟩ := hX j hjn
      injection e with e
      injection e with e1 e2
      subst e1 e2
      rw [add_off, hc, ← hj]
      simp [sv, lst, hjn, S_of]
    obtain ⟨g, cap, w', hr, h2, h3, _, _⟩ := run_append_lies (P := Try.prog) w 22 22 w.heap.size 9 i0 _ 1 16 Try.underlying22 hi hz0 hz1 hz2 rfl (by decide) (.slice none 0 0) 0 [] (World.ownsRow_nil w _ _ _) ⟨b, off, none⟩ n c (sv (lst X n)) (by rw [sv_len, lst_len, Nat.mul_one]) hnews (sv_one _) (by omega) (by unfold maxLen; omega) (by omega) (Nat.le_refl _) w.heap.size rfl
    refine ⟨_, w', hr, ?_, (Below.refl _ _).grown h3 (Nat.le_refl _) (fun k hk => by cases hk)⟩
    rw [Nat.zero_add, List.nil_append] at h2
    unfold OwnS
    rw [Nat.zero_add, lst_len]
    exact h2

set_option maxRecDepth 100000 in
set_option maxHeartbeats 1000000 in
theorem attrPrints_walk (t : ByteArray) (a : Option Addr) (n c : Nat) (X : Nat → ByteArray) (w : World) (hX : Strs w a n X) (hsz : t.size + tot X n ≤ 2097152) :
    Calls Try.prog 3 #[.string t, .slice a n c] w fun e w' => e = .returned (.bool true) ∧ Below w.heap.size w w' := by
  have hn : n ≤ 2097152 := by have := tot_ge X n; omega
  obtain ⟨v1, w1, hr1, ho1, hb1⟩ := copy_strs a n c X w hX (by omega)
  obtain ⟨wA, hwA⟩ : ∃ wA, w1.alloc (.cells #[.string ⟨#[115, 112, 97, 114, 101]⟩] 9) = wA := ⟨_, rfl⟩
  have hwA' : Hid (wA.heap[w1.heap.size]? = some (.cells #[.string (S [115, 112, 97, 114, 101])] 9 (0, 0)) ∧ Below w.heap.size w wA ∧ OwnS wA w.heap.size v1 (lst X n)) := by
    refine ⟨?_, ?_, ?_⟩
    · rw [← hwA]; exact heap_alloc_new w1 _
    · rw [← hwA]; exact hb1.alloc hb1.size _
    · rw [← hwA]; exact World.ownsRow.alloc ho1 _
  have hn' : Hid (n ≤ 2097152 ∧ t.size + tot X n ≤ 2097152) := ⟨hn, hsz⟩
  have hX' : Hid (Strs w a n X) := hX
  obtain ⟨va, vn, vc, rfl⟩ : ∃ va vn vc, v1 = .slice va vn vc := by
    rcases ownS_form ho1 with ⟨rfl, _⟩ | ⟨g, cap, rfl⟩
    · exact ⟨_, _, _, rfl⟩
    · exact ⟨_, _, _, rfl⟩
  clear ho1 hb1 hn hsz
  go_enter Try.func3, Try.ntmps3
  go_wp2_with (first | (at_builtin; refine Lib.wpList_append_run _ rfl _ _ _ _ rfl _ _ rfl rfl _ _ hr1 ?_) | (at_builtin; refine push_text _ rfl _ _ rfl w.heap.size _ (lst X n) [115, 112, 97, 114, 101] w1.heap.size rfl rfl ?_ ?_ ?_ ?_ ?_; (exact hwA'.out.2.2); (exact hwA'.out.1); (exact hwA'.out.2.1.size); (rw [lst_len]; have := hn'.out.1; omega); intro g2 cap2 w2 ho2 _ _ hb2))
  have HB2 : Below w.heap.size w w2 := hwA'.out.2.1.trans hb2
  have ho2' : OwnS w2 w.heap.size (.slice (some ⟨g2, 0, none⟩) (lst X n ++ [[115, 112, 97, 114, 101]]).length cap2) (lst X n ++ [[115, 112, 97, 114, 101]]) := by rw [List.length_append]; exact ho2
  have hS2 : Hid (Strs w2 (some ⟨g2, 0, none⟩) n X) := ownS_strs ho2'
  have hcl : w2.cell? ⟨g2, n, none⟩ = some (.string ⟨#[115, 112, 97, 114, 101]⟩) := by
    have h := ownS_cell ho2' n (by rw [List.length_append, lst_len]; simp)
    rw [h, List.getElem_append_right (by rw [lst_len]; exact Nat.le_refl _)]
    simp [lst_len, S]
  have hcl' : Hid (w2.cell? ⟨g2, n, none⟩ = some (.string ⟨#[115, 112, 97, 114, 101]⟩)) := hcl
  have hcap : n + 1 ≤ cap2 := by
    rcases ho2.2 with ⟨h, _⟩ | ⟨g, cap, cur, h, _, _, h5, _⟩
    · injection h with h
      cases h
    · injection h with _ h6 h7
      rw [lst_len] at h6
      omega
  have hg2 : Hid (g2 < w2.heap.size) := World.block_lt_of_cell? w2 _ hcl
  have hP1 : Hid (Calls Try.prog 5 #[.agg #[.string t, .slice a n c]] w2 fun e w' => e = .returned (.string (S (prt t.data.toList X n))) ∧ Below w2.heap.size w2 w') := refPrint_any t a n c X w2 (hX.below HB2) (by have := hn'.out.2; omega)
  have HB2' : Hid (Below w.heap.size w w2) := HB2
  rw [lst_len]
  clear ho2 ho2' hcl hb2 hwA' hwA hr1 HB2
  refine hP1.out.mono ?_
  rintro e w3 ⟨rfl, hb3⟩
  have hS3 := hS2.out.below hb3
  have hP2 : Hid (Calls Try.prog 6 #[.agg #[.string t, .slice (some ⟨g2, 0, none⟩) n cap2]] w3 fun e w' => e = .returned (.string (S (prt t.data.toList X n))) ∧ Below w3.heap.size w3 w') := attrPrint_any t _ n cap2 X w3 hS3 (by have := hn'.out.2; omega)
  have hb3' : Hid (Below w2.heap.size w2 w3) := hb3
  have n0 : (0 : Int) ≤ (n : Int) := Int.natCast_nonneg _
  have n1 : n ≤ cap2 := by omega
  have n2 : n ≤ n + 1 := by omega
  clear hb3 hS3 hP1
  go_wp2_with fail
  refine hP2.out.mono ?_
  rintro e w4 ⟨rfl, hb4⟩
  have hb24 : Below w2.heap.size w2 w4 := hb3'.out.trans (hb4.mono hb3'.out.size)
  have HB4 : Below w.heap.size w w4 := HB2'.out.trans (hb24.mono HB2'.out.size)
  have hsm : Hid (Calls Try.prog 7 #[.slice (some ⟨g2, 0, none⟩) n cap2, .slice a n c] w4 fun r w' => r = .returned (.bool true) ∧ ∃ k, w' = w4.drewN k) := same_strs _ _ n cap2 c X w4 (by have := hn'.out.1; omega) (hS2.out.below hb24) (hX.below HB4)
  have hc4 : w4.cell? ⟨g2, n, none⟩ = some (.string ⟨#[115, 112, 97, 114, 101]⟩) := by rw [hb24.cell (by exact hg2.out)]; exact hcl'.out
  have HB4' : Hid (Below w.heap.size w w4) := HB4
  clear hb4 hb24 HB4 hP2
  have n3 : (n : Int) < ((n + 1 : Nat) : Int) := Int.ofNat_lt.2 (Nat.lt_succ_self n)
  go_wp2_with (go_at_call 7; refine hsm.out.mono ?_; rintro e w5 ⟨rfl, k5, rfl⟩; have hc5 : (w4.drewN k5).cell? ⟨g2, n, none⟩ = some (.string ⟨#[115, 112, 97, 114, 101]⟩) := hc4)
  go_ret
  exact ⟨rfl, below_drewN HB4'.out _⟩
end Go.Proofs.Ytnboimoncpphlaa
