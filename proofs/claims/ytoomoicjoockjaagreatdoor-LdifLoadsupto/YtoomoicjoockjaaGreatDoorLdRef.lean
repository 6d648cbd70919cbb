import Derived.Test.YtoomoicjoockjaaGreatDoorGLd
namespace Go.Proofs.YtoomoicjoockjaaGreatDoor
open Go.RowKit
open LdMath

/-- The texts of lines. -/
def txs (l : List (Nat × List UInt8)) : List (List UInt8) := l.map (·.2)
theorem txs_snoc (l : List (Nat × List UInt8)) (x : Nat × List UInt8) : txs (l ++ [x]) = txs l ++ [x.2] := by simp [txs]
theorem txs_len (l : List (Nat × List UInt8)) : (txs l).length = l.length := by simp [txs]

theorem last_of (b : List UInt8) (p i : Nat) (hp : p < i) (hi : i ≤ b.length) : ((b.take i).drop p).getLast? = b[i - 1]? := by
  rw [List.getLast?_drop, List.length_take, if_neg (by omega), List.getLast?_take]
  rw [if_neg (by omega)]
  rw [List.getElem?_eq_getElem (by omega)]
  rfl
theorem trim_a (s : ByteArray) (p i : Nat) (hi : i ≤ s.size) (h : p < i) (h13 : s.data.toList[i - 1]? = some 13) : S (trimCR ((s.data.toList.take i).drop p)) = s.extract p (i - 1) := by
  unfold trimCR
  rw [if_pos (by rw [last_of _ _ _ h (by rw [size_l]; exact hi)]; exact h13)]
  refine (S_eq _ _ ?_).symm
  rw [extr_l, List.dropLast_eq_take, List.length_drop, List.length_take, List.take_drop]
  have e : (p + (min i s.data.toList.length - p - 1)) = i - 1 := by rw [size_l]; omega
  rw [e, List.take_take]
  congr 2
  omega
theorem trim_b (s : ByteArray) (p i : Nat) (hi : i ≤ s.size) (hp : p ≤ i) (h : p < i → ¬ s.data.toList[i - 1]? = some 13) : S (trimCR ((s.data.toList.take i).drop p)) = s.extract p i := by
  have hn : ¬ ((s.data.toList.take i).drop p).getLast? = some 13 := by
    by_cases hlt : p < i
    · rw [last_of _ _ _ hlt (by rw [size_l]; exact hi)]
      exact h hlt
    · rw [List.drop_of_length_le (by rw [List.length_take]; omega)]
      simp
  unfold trimCR
  rw [if_neg hn]
  refine (S_eq _ _ ?_).symm
  rw [extr_l]

set_option maxRecDepth 100000 in
set_option maxHeartbeats 1000000 in
theorem has_any (s : ByteArray) (c : UInt8) (w : World) (hs : s.size ≤ 1099511627776) : Calls Tryz.prog 40 #[.string s, .int .u8 (c.toNat : Int)] w fun e w' => e = .returned (.bool (s.data.toList.contains c)) ∧ w' = w := by
  go_enter Tryz.func40, Tryz.ntmps40
  go_wp2
  go_loopw [5] (fun iv wr => ∃ i : Nat, i ≤ s.size ∧ iv = .int .i64 (i : Int) ∧ wr = w ∧ Hid ((s.data.toList.take i).contains c = false)) (fun iv _ => s.size - (intOf iv).toNat)
  case atStart => exact ⟨0, Nat.zero_le _, rfl, rfl, by unfold Hid; simp⟩
  case round =>
    obtain ⟨i, hle, rfl, rfl, hc⟩ := hrel
    have i0 : (0 : Int) ≤ (i : Int) := Int.natCast_nonneg _
    have i1 : (i : Int) < 1099511627777 := by omega
    by_cases hlt : i < s.size
    · by_cases he : s[i] = c
      · have hb : ((s[i].toNat : Int) == (c.toNat : Int)) = true := by rw [he]; simp
        have hres : Hid (s.data.toList.contains c = true) := by
          unfold Hid
          rw [List.contains_iff_mem, ← he]
          exact List.mem_of_getElem? (get_at' s i hlt)
        go_wp2
        go_ret
        exact ⟨ret_bool hres.out.symm, rfl⟩
      · have hb : ((s[i].toNat : Int) == (c.toNat : Int)) = false := by
          rw [beq_eq_false_iff_ne]
          intro e
          apply he
          apply UInt8.toNat_inj.1
          omega
        have hn : Hid ((s.data.toList.take (i + 1)).contains c = false) := by
          unfold Hid
          rw [take_snoc s i hlt, List.contains_append, hc.out]
          simp
          exact fun e => he e.symm
        have hlt' : Hid (i < s.size) := hlt
        go_wp2
        go_roundw
        case rel => exact ⟨i + 1, hlt'.out, by simp, trivial, hn⟩
        case measure => have := hlt'.out; simp [intOf]; omega
    · have he : i = s.size := by omega
      subst he
      have hres : Hid (s.data.toList.contains c = false) := by
        have := hc.out
        rw [List.take_of_length_le (by rw [size_l]; exact Nat.le_refl _)] at this
        exact this
      go_wp2
      go_ret
      exact ⟨ret_bool hres.out.symm, rfl⟩

set_option maxRecDepth 100000 in
set_option maxHeartbeats 2000000 in
theorem rphys_any (s : ByteArray) (hs : s.size ≤ 1048576) (w : World) : Calls Tryz.prog 26 #[.string s] w fun e w' => ∃ v, e = .returned v ∧ OwnS w' w.heap.size v (txs (phys s.data.toList)) ∧ Below w.heap.size w w' := by
  go_enter Tryz.func26, Tryz.ntmps26
  go_wp2
  go_loopw [3, 4, 5] (fun lv bv iv wr => ∃ (i p : Nat) (a : Option Addr) (n c : Nat), i ≤ s.size ∧ p = lo s.data.toList i ∧ lv = .slice a n c ∧ bv = .int .i64 (p : Int) ∧ iv = .int .i64 (i : Int) ∧ Hid (OwnS wr w.heap.size (.slice a n c) (txs (pl s.data.toList i))) ∧ Hid (Below w.heap.size w wr)) (fun _ _ iv _ => s.size - (intOf iv).toNat)
  case atStart => exact ⟨0, 0, none, 0, 0, Nat.zero_le _, rfl, rfl, rfl, rfl, ownS_nil _ _, Below.refl _ _⟩
  case round =>
    obtain ⟨i, p, a, n, c, hle, hp, rfl, rfl, rfl, hO, hB⟩ := hrel
    have i0 : (0 : Int) ≤ (i : Int) := Int.natCast_nonneg _
    have p0 : (0 : Int) ≤ (p : Int) := Int.natCast_nonneg _
    have hpi : p ≤ i := by rw [hp]; exact lo_le _ _
    have p1 : (p : Int) ≤ (i : Int) := by omega
    have i1 : (i : Int) < 1048577 := by omega
    have hlen : (txs (pl s.data.toList i)).length ≤ 4194304 := by rw [txs_len]; have := pl_len s.data.toList i; omega
    by_cases hlt : i < s.size
    · have i2 : (i : Int) < (s.size : Int) := by omega
      by_cases h10 : s[i] = 10
      · have hb : ((s[i].toNat : Int) == 10) = true := by rw [h10]; rfl
        have h10' : s.data.toList[i]? = some 10 := by rw [get_at' s i hlt, h10]
        have hE : Hid (txs (pl s.data.toList (i + 1)) = txs (pl s.data.toList i) ++ [trimCR ((s.data.toList.take i).drop p)]) := by unfold Hid; rw [pl_lf _ _ h10', txs_snoc, ← hp]
        have hlo : Hid (i + 1 = lo s.data.toList (i + 1)) := (lo_lf _ _ h10').symm
        have hlt' : Hid (i < s.size) := hlt
        by_cases hpl : p < i
        · obtain ⟨q, hq⟩ : ∃ q, i - 1 = q := ⟨_, rfl⟩
          have q0 : (0 : Int) ≤ (q : Int) := Int.natCast_nonneg _
          have q1 : (i : Int) - 1 = (q : Int) := by omega
          have q2 : wrap64 ((i : Int) - 1) = (q : Int) := by unfold wrap64; omega
          have q3 : q < s.size := by omega
          have q4 : (p : Int) ≤ (q : Int) := by omega
          have q5 : (q : Int) ≤ (s.size : Int) := by omega
          by_cases h13 : s[q] = 13
          · have hc : ((s[q].toNat : Int) == 13) = true := by rw [h13]; rfl
            have hm0 := trim_a s p i (by omega) hpl (by rw [hq, get_at' s q q3, h13])
            rw [hq] at hm0
            obtain ⟨m, hmm⟩ : ∃ m, trimCR ((s.data.toList.take i).drop p) = m := ⟨_, rfl⟩
            rw [hmm] at hm0 hE
            have hm : S m = s.extract p q := hm0
            clear hm0 hmm h13 h10 h10' hp hpi hle hq hs p1
            go_wp2_with (at_builtin; refine push_text _ rfl _ _ rfl w.heap.size _ (txs (pl s.data.toList i)) m wr.heap.size rfl rfl (World.ownsRow.alloc hO.out _) (by rw [hm]; exact heap_alloc_last wr _) (by have := hB.out.size; simp; omega) hlen ?_; intro g2 cap2 w2 hO2 hg2 _ hb2)
            have hB2 : Hid (Below w.heap.size w w2) := (hB.out.alloc hB.out.size _).trans hb2
            go_roundw
            case rel => exact ⟨i + 1, i + 1, _, _, _, hlt'.out, hlo.out, rfl, by simp, by simp, by unfold Hid; rw [hE.out]; unfold OwnS at hO2 ⊢; rw [List.length_append]; rw [List.length_append] at hO2; exact hO2, hB2⟩
            case measure => have := hlt'.out; simp [intOf]; omega
          · have hc : ((s[q].toNat : Int) == 13) = false := by
              rw [beq_eq_false_iff_ne]
              intro e
              apply h13
              apply UInt8.toNat_inj.1
              show _ = 13
              omega
            have hm0 := trim_b s p i (by omega) hpi (fun _ e => by rw [hq, get_at' s q q3] at e; injection e with e; exact h13 e)
            obtain ⟨m, hmm⟩ : ∃ m, trimCR ((s.data.toList.take i).drop p) = m := ⟨_, rfl⟩
            rw [hmm] at hm0 hE
            have hm : S m = s.extract p i := hm0
            have i3 : (i : Int) ≤ (s.size : Int) := by omega
            clear hm0 hmm h13 h10 h10' hp hpi hle hq hs
            go_wp2_with (at_builtin; refine push_text _ rfl _ _ rfl w.heap.size _ (txs (pl s.data.toList i)) m wr.heap.size rfl rfl (World.ownsRow.alloc hO.out _) (by rw [hm]; exact heap_alloc_last wr _) (by have := hB.out.size; simp; omega) hlen ?_; intro g2 cap2 w2 hO2 hg2 _ hb2)
            have hB2 : Hid (Below w.heap.size w w2) := (hB.out.alloc hB.out.size _).trans hb2
            go_roundw
            case rel => exact ⟨i + 1, i + 1, _, _, _, hlt'.out, hlo.out, rfl, by simp, by simp, by unfold Hid; rw [hE.out]; unfold OwnS at hO2 ⊢; rw [List.length_append]; rw [List.length_append] at hO2; exact hO2, hB2⟩
            case measure => have := hlt'.out; simp [intOf]; omega
        · have hm0 := trim_b s p i (by omega) hpi (fun h => absurd h hpl)
          have hpe : p = i := by omega
          obtain ⟨m, hmm⟩ : ∃ m, trimCR ((s.data.toList.take i).drop p) = m := ⟨_, rfl⟩
          rw [hmm] at hm0 hE
          rw [hpe] at hm0
          have hm : S m = ByteArray.empty := hm0.trans (by simp)
          have i3 : (i : Int) ≤ (s.size : Int) := by omega
          subst hpe
          clear hm0 hmm h10 h10' hp hpi hle hs hpl p1
          go_wp2_with (at_builtin; refine push_text _ rfl _ _ rfl w.heap.size _ (txs (pl s.data.toList p)) m wr.heap.size rfl rfl (World.ownsRow.alloc hO.out _) (by rw [hm]; exact heap_alloc_last wr _) (by have := hB.out.size; simp; omega) hlen ?_; intro g2 cap2 w2 hO2 hg2 _ hb2)
          have hB2 : Hid (Below w.heap.size w w2) := (hB.out.alloc hB.out.size _).trans hb2
          go_roundw
          case rel => exact ⟨p + 1, p + 1, _, _, _, hlt'.out, hlo.out, rfl, by simp, by simp, by unfold Hid; rw [hE.out]; unfold OwnS at hO2 ⊢; rw [List.length_append]; rw [List.length_append] at hO2; exact hO2, hB2⟩
          case measure => have := hlt'.out; simp [intOf]; omega
      · have hb : ((s[i].toNat : Int) == 10) = false := by
          rw [beq_eq_false_iff_ne]
          intro e
          apply h10
          apply UInt8.toNat_inj.1
          show _ = 10
          omega
        have h10n : ¬ s.data.toList[i]? = some 10 := by rw [get_at' s i hlt]; intro e; injection e with e; exact h10 e
        have hE : Hid (i + 1 ≤ s.size ∧ p = lo s.data.toList (i + 1) ∧ pl s.data.toList (i + 1) = pl s.data.toList i) := ⟨hlt, by rw [lo_no _ _ h10n]; exact hp, pl_no _ _ h10n⟩
        clear h10 h10n hp hpi hlen hle
        go_wp2
        go_roundw
        case rel => exact ⟨i + 1, p, a, n, c, hE.out.1, hE.out.2.1, rfl, rfl, by simp, by rw [hE.out.2.2]; exact hO, hB⟩
        case measure => have := hE.out.1; simp [intOf]; omega
    · have he : i = s.size := by omega
      subst he
      have hsl := size_l s
      have hO' := hO.out
      rw [← hsl] at hp hO' hlen
      by_cases hpl : p < s.size
      · obtain ⟨m, hmm⟩ : ∃ m, s.data.toList.drop p = m := ⟨_, rfl⟩
        have hm : S m = s.extract p s.size := by rw [← hmm]; exact (S_eq _ _ (drop_l s p)).symm
        have hE : Hid (txs (phys s.data.toList) = txs (pl s.data.toList s.data.toList.length) ++ [m]) := by
          unfold Hid phys rst
          rw [if_pos (by rw [← hp, hsl]; exact hpl), txs_snoc, ← hp, hmm]
        have hpl' : (p : Int) < (s.size : Int) := by omega
        clear hp hpi hle hmm hlt hpl hs p1 hsl hO
        go_wp2_with (at_builtin; refine push_text _ rfl _ _ rfl w.heap.size _ (txs (pl s.data.toList s.data.toList.length)) m wr.heap.size rfl rfl (World.ownsRow.alloc hO' _) (by rw [hm]; exact heap_alloc_last wr _) (by have := hB.out.size; simp; omega) hlen ?_; intro g2 cap2 w2 hO2 hg2 _ hb2)
        go_ret
        refine ⟨_, rfl, ?_, (hB.out.alloc hB.out.size _).trans hb2⟩
        rw [hE.out]
        unfold OwnS at hO2 ⊢
        rw [List.length_append] at hO2 ⊢
        exact hO2
      · obtain rfl : p = s.size := by omega
        have hE : Hid (txs (phys s.data.toList) = txs (pl s.data.toList s.data.toList.length)) := by
          unfold Hid phys rst
          rw [if_neg (by rw [← hp, hsl]; omega), List.append_nil]
        clear hp hpi hle hlt hpl hs p1 hsl hO i0 p0 i1 hlen
        go_wp2
        go_ret
        refine ⟨_, rfl, ?_, hB.out⟩
        rw [hE.out]
        exact hO'
end Go.Proofs.YtoomoicjoockjaaGreatDoor
