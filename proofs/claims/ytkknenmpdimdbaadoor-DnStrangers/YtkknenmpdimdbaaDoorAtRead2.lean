import Derived.Test.YtkknenmpdimdbaaDoorAtRead
import Derived.Shelf.Abstract
namespace Go.Proofs.YtkknenmpdimdbaaDoor
open Go.RowKit

theorem runE_le (p : UInt8 → Bool) (l : List UInt8) (b : Nat) (h : b ≤ l.length) : b ≤ runE p l b ∧ runE p l b ≤ l.length := by
  unfold runE
  have h1 : ((l.drop b).takeWhile p).length ≤ (l.drop b).length := (List.takeWhile_prefix p).length_le
  rw [List.length_drop] at h1
  omega
/-- Where the number that begins at b ends. -/
def numE (l : List UInt8) (b : Nat) : Nat := if (l.getD b 0).toNat = 48 ∧ b < l.length then b + 1 else runE isD l b
theorem numE_le (l : List UInt8) (b : Nat) (h : b ≤ l.length) : b ≤ numE l b ∧ numE l b ≤ l.length := by
  unfold numE
  split
  · rename_i h'
    omega
  · exact runE_le _ _ _ h
theorem enter_digit : ∀ args W, (callFunc 71 args).run Tryd.prog W = .ok (.enter 71 args) W := enters_of Tryd.func71 (by kernel_rfl) rfl
theorem enter_key : ∀ args W, (callFunc 62 args).run Tryd.prog W = .ok (.enter 62 args) W := enters_of Tryd.func62 (by kernel_rfl) rfl
set_option maxHeartbeats 400000 in
theorem numberEnd_any (s : ByteArray) (b : Nat) (w : World) (hb : b ≤ s.size) (hs : s.size ≤ 140737488355328) :
    Calls Tryd.prog 72 #[.string s, .int .i64 (b : Int)] w fun e w' => e = .returned (.int .i64 (numE s.data.toList b : Int)) ∧ w' = w := by
  have hr : Hid (Calls Tryd.prog 61 #[.string s, .int .i64 (b : Int), .func (.func 71) #[] #[]] w fun e w' => e = .returned (.int .i64 (runE isD s.data.toList b : Int)) ∧ w' = w) := runEnd_any isD _ enter_digit digit_any s b w hb hs
  by_cases hlt : b < s.size
  · have hg := getD_s s b hlt
    by_cases h0 : s[b].toNat = 48
    · have hn : Hid (numE s.data.toList b = b + 1) := by unfold Hid numE; rw [if_pos ⟨by rw [hg]; exact h0, by rw [size_l]; exact hlt⟩]
      clear hg
      go_enter Tryd.func72, Tryd.ntmps72
      go_wp2_with fail
      go_ret
      exact ⟨ret_int (by rw [hn.out]; simp), rfl⟩
    · have hn : Hid (numE s.data.toList b = runE isD s.data.toList b) := by unfold Hid numE; rw [if_neg (by rw [hg]; exact fun h => h0 h.1)]
      clear hg
      go_enter Tryd.func72, Tryd.ntmps72
      go_wp2_with fail
      refine hr.out.mono ?_
      rintro e W1 ⟨rfl, rfl⟩
      go_wp2_with fail
      go_ret
      exact ⟨ret_int (by rw [hn.out]), rfl⟩
  · have hn : Hid (numE s.data.toList b = runE isD s.data.toList b) := by unfold Hid numE; rw [if_neg (by rw [size_l]; exact fun h => hlt h.2)]
    go_enter Tryd.func72, Tryd.ntmps72
    go_wp2_with fail
    refine hr.out.mono ?_
    rintro e W1 ⟨rfl, rfl⟩
    go_wp2_with fail
    go_ret
    exact ⟨ret_int (by rw [hn.out]), rfl⟩
/-- How far an identifier reaches from e on, where m numbers are begun; whether it is whole. -/
def idE (l : List UInt8) : Nat → Nat → Nat → Nat × Bool
  | 0, _, e => (e, false)
  | n + 1, m, e => if numE l e = e then (e, false) else if numE l e = l.length ∨ ¬ (l.getD (numE l e) 0).toNat = 46 then (numE l e, decide (2 ≤ m)) else idE l n (m + 1) (numE l e + 1)
theorem ret_pair {a b : Int} {x y : Bool} (h : a = b) (h' : x = y) : Ending.returned (.tuple #[.int .i64 a, .bool x]) = .returned (.tuple #[.int .i64 b, .bool y]) := by rw [h, h']
set_option maxHeartbeats 1000000 in
theorem identifierEnd_any (s : ByteArray) (w : World) (hs : s.size ≤ 140737488355328) :
    Calls Tryd.prog 63 #[.string s] w fun e w' => e = .returned (.tuple #[.int .i64 ((idE s.data.toList (s.size + 1) 1 0).1 : Int), .bool (idE s.data.toList (s.size + 1) 1 0).2]) ∧ w' = w := by
  obtain ⟨r, hr⟩ : ∃ r, idE s.data.toList (s.size + 1) 1 0 = r := ⟨_, rfl⟩
  have hL : Hid (s.data.toList.length = s.size) := size_l s
  rw [hr]
  have hr' : Hid (idE s.data.toList (s.size + 1 - 0) 1 0 = r) := hr
  clear hr
  go_enter Tryd.func63, Tryd.ntmps63
  go_wp2_with fail
  go_loopw [2, 4] (fun iv mv wr => ∃ k m n : Nat, k ≤ s.size ∧ m ≤ k + 1 ∧ iv = .int .i64 (k : Int) ∧ mv = .int .i64 (m : Int) ∧ Hid (wr = w) ∧ Hid (s.size + 1 - k ≤ n ∧ idE s.data.toList n m k = r)) (fun iv _ _ => s.size - (intOf iv).toNat)
  case atStart => exact ⟨0, 1, s.size + 1 - 0, by omega, by omega, rfl, rfl, rfl, ⟨by omega, hr'.out⟩⟩
  case round =>
    obtain ⟨k, m, n, hk, hm, rfl, rfl, hw, hrk⟩ := hrel
    have hN : Hid (Calls Tryd.prog 72 #[.string s, .int .i64 (k : Int)] wr fun e w' => e = .returned (.int .i64 (numE s.data.toList k : Int)) ∧ w' = wr) := numberEnd_any s k wr hk hs
    have hle := numE_le s.data.toList k (by rw [hL.out]; exact hk)
    rw [hL.out] at hle
    obtain ⟨n1, hn1⟩ : ∃ n1, n = n1 + 1 := ⟨n - 1, by have := hrk.out.1; omega⟩
    have hrs := hrk.out.2
    rw [hn1, idE] at hrs
    rw [hL.out] at hrs
    have hn1' : Hid (n = n1 + 1) := hn1
    obtain ⟨x, hx⟩ : ∃ x, numE s.data.toList k = x := ⟨_, rfl⟩
    rw [hx] at hN hle hrs
    obtain ⟨hl1, hl2⟩ := hle
    clear hx hn1
    by_cases e1 : x = k
    · rw [if_pos e1] at hrs
      have hfin : Hid (r = (k, false)) := hrs.symm
      subst e1
      clear hrs
      go_wp2_with fail
      refine hN.out.mono ?_
      rintro e W1 ⟨rfl, hW1⟩
      have hw1 : Hid (W1 = w) := by unfold Hid; rw [hW1]; exact hw.out
      clear hW1 hN
      go_wp2_with fail
      go_ret2
      exact ⟨ret_pair (by rw [hfin.out]) (by rw [hfin.out]), hw1.out⟩
    · rw [if_neg e1] at hrs
      by_cases e2 : x = s.size
      · rw [if_pos (Or.inl e2)] at hrs
        have hfin : Hid (r = (x, decide (2 ≤ m))) := hrs.symm
        clear hrs
        go_wp2_with fail
        refine hN.out.mono ?_
        rintro e W1 ⟨rfl, hW1⟩
        have hw1 : Hid (W1 = w) := by unfold Hid; rw [hW1]; exact hw.out
        clear hW1 hN
        go_wp2_with fail
        go_ret2
        exact ⟨ret_pair (by rw [hfin.out]; show ((s.size : Nat) : Int) = (x : Int); rw [e2]) (by rw [hfin.out]; simp; omega), hw1.out⟩
      · have hlt : x < s.size := by omega
        rw [getD_s s x hlt] at hrs
        by_cases e3 : s[x].toNat = 46
        · rw [if_neg (fun h => h.elim e2 (fun h => h e3))] at hrs
          have hfin : Hid (idE s.data.toList n1 (m + 1) (x + 1) = r) := hrs
          have hlt' : Hid (x < s.size ∧ k < x) := ⟨hlt, by omega⟩
          clear hrs
          go_wp2_with fail
          refine hN.out.mono ?_
          rintro e W1 ⟨rfl, hW1⟩
          have hw1 : Hid (W1 = w) := by unfold Hid; rw [hW1]; exact hw.out
          clear hW1 hN
          go_wp2_with fail
          refine ⟨⟨x + 1, m + 1, n1, by omega, by omega, by simp, by simp, hw1, ⟨?_, hfin.out⟩⟩, ?_⟩
          · have := hrk.out.1; have := hn1'.out; omega
          · have := hlt'.out
            simp [intOf]
            omega
        · rw [if_pos (Or.inr e3)] at hrs
          have hfin : Hid (r = (x, decide (2 ≤ m))) := hrs.symm
          have e3' : ((s[x].toNat : Int) != 46) = true := by rw [bne_iff_ne]; omega
          clear hrs e3
          go_wp2_with fail
          refine hN.out.mono ?_
          rintro e W1 ⟨rfl, hW1⟩
          have hw1 : Hid (W1 = w) := by unfold Hid; rw [hW1]; exact hw.out
          clear hW1 hN
          go_wp2_with fail
          go_ret2
          exact ⟨ret_pair (by rw [hfin.out]) (by rw [hfin.out]; simp; omega), hw1.out⟩
/-- How far a type's text reaches, and whether it is a whole one up to there. -/
def typE (l : List UInt8) : Nat × Bool := if ¬ l = [] ∧ isL (l.getD 0 0) = true then (runE isK l 1, true) else idE l (l.length + 1) 1 0
theorem idE_le (l : List UInt8) : ∀ n m e, e ≤ l.length → (idE l n m e).1 ≤ l.length
  | 0, _, _, h => h
  | n + 1, m, e, h => by
    have h1 := numE_le l e h
    unfold idE
    split
    · exact h
    · split
      · exact h1.2
      · rename_i h2
        refine idE_le l n (m + 1) _ ?_
        rcases Nat.lt_or_ge (numE l e) l.length with h3 | h3
        · omega
        · exact absurd (Or.inl (by omega)) h2
theorem typE_le (l : List UInt8) : (typE l).1 ≤ l.length := by
  unfold typE
  split
  · rename_i h
    exact (runE_le _ _ _ (List.length_pos_iff.2 h.1)).2
  · exact idE_le _ _ _ _ (Nat.zero_le _)
set_option maxHeartbeats 1000000 in
theorem typeEnd_any (s : ByteArray) (w : World) (hs : s.size ≤ 140737488355328) :
    Calls Tryd.prog 47 #[.string s] w fun e w' => e = .returned (.tuple #[.int .i64 ((typE s.data.toList).1 : Int), .bool (typE s.data.toList).2]) ∧ w' = w := by
  have hI : Hid (Calls Tryd.prog 63 #[.string s] w fun e w' => e = .returned (.tuple #[.int .i64 ((idE s.data.toList (s.size + 1) 1 0).1 : Int), .bool (idE s.data.toList (s.size + 1) 1 0).2]) ∧ w' = w) := identifierEnd_any s w hs
  obtain ⟨r, hr⟩ : ∃ r, typE s.data.toList = r := ⟨_, rfl⟩
  rw [hr]
  have hr' : Hid (typE s.data.toList = r) := hr
  clear hr
  by_cases h0 : s.size = 0
  · have hnil : s.data.toList = [] := List.length_eq_zero_iff.1 (by rw [size_l]; exact h0)
    have hem : s.toList.isEmpty = true := by rw [Lib.toList_data, hnil]; rfl
    have hfin : Hid (r = idE s.data.toList (s.size + 1) 1 0) := by unfold Hid; rw [← hr'.out]; unfold typE; rw [if_neg (fun h => h.1 hnil), size_l]
    clear hnil h0
    go_enter Tryd.func47, Tryd.ntmps47
    go_wp2_with fail
    refine hI.out.mono ?_
    rintro e W1 ⟨rfl, rfl⟩
    go_wp2_with fail
    go_ret2
    exact ⟨by rw [hfin.out]; rfl, rfl⟩
  · have hlt : 0 < s.size := by omega
    have hnn : ¬ s.data.toList = [] := fun h => h0 (by rw [← size_l, h]; rfl)
    have hem : s.toList.isEmpty = false := by rw [Lib.toList_data]; simpa using hnn
    have hg := getD_s s 0 hlt
    have hT : Hid (Calls Tryd.prog 60 #[.int .u8 (s[0].toNat : Int)] w fun e w' => e = .returned (.bool (isL s[0])) ∧ w' = w) := letter_any s[0] w
    have hK : Hid (Calls Tryd.prog 61 #[.string s, .int .i64 1, .func (.func 62) #[] #[]] w fun e w' => e = .returned (.int .i64 (runE isK s.data.toList 1 : Int)) ∧ w' = w) := runEnd_any isK _ enter_key key_any s 1 w hlt hs
    cases hl : isL s[0] with
    | true =>
      have hfin : Hid (r = (runE isK s.data.toList 1, true)) := by unfold Hid; rw [← hr'.out]; unfold typE; rw [if_pos ⟨hnn, by rw [hg]; exact hl⟩]
      rw [hl] at hT
      clear hg hnn h0 hl
      go_enter Tryd.func47, Tryd.ntmps47
      go_wp2_with fail
      refine hT.out.mono ?_
      rintro e W1 ⟨rfl, rfl⟩
      go_wp2_with fail
      refine hK.out.mono ?_
      rintro e W1 ⟨rfl, rfl⟩
      go_wp2_with fail
      go_ret2
      exact ⟨by rw [hfin.out]; rfl, rfl⟩
    | false =>
      have hfin : Hid (r = idE s.data.toList (s.size + 1) 1 0) := by unfold Hid; rw [← hr'.out]; unfold typE; rw [if_neg (fun h => by rw [hg, hl] at h; exact absurd h.2 (by decide)), size_l]
      rw [hl] at hT
      clear hg hnn h0 hl
      go_enter Tryd.func47, Tryd.ntmps47
      go_wp2_with fail
      refine hT.out.mono ?_
      rintro e W1 ⟨rfl, rfl⟩
      go_wp2_with fail
      refine hI.out.mono ?_
      rintro e W1 ⟨rfl, rfl⟩
      go_wp2_with fail
      go_ret2
      exact ⟨by rw [hfin.out]; rfl, rfl⟩
end Go.Proofs.YtkknenmpdimdbaaDoor
