import Derived.Test.YtfmhcgadgakbhaaGreatDoorRows
import Derived.KernelRfl
import Derived.Test.YtfmhcgadgakbhaaGreatDoorBytes
import Derived.Shelf.Abstract
import Derived.Test.YtfmhcgadgakbhaaGreatDoorFxA
namespace Go.Proofs.YtfmhcgadgakbhaaGreatDoor
theorem info_u8 : (Tryz.prog.info? 5).map (fun i => (i.zero, i.size, i.bytes)) = some (some (.int .u8 0), 1, 1) := by kernel_rfl
end Go.Proofs.YtfmhcgadgakbhaaGreatDoor

namespace Go.Proofs.YtfmhcgadgakbhaaGreatDoor
open Go.RowKit

/-- A small letter; a digit; a key character (of a folded text). -/
def isL (b : UInt8) : Bool := decide (97 ≤ (b.toNat : Int)) && decide ((b.toNat : Int) ≤ 122)
def isD (b : UInt8) : Bool := decide (48 ≤ (b.toNat : Int)) && decide ((b.toNat : Int) ≤ 57)
def isK (b : UInt8) : Bool := isL b || isD b || decide ((b.toNat : Int) = 45)
theorem letter_any (b : UInt8) (w : World) : Calls Tryz.prog 92 #[.int .u8 (b.toNat : Int)] w fun e w' => e = .returned (.bool (isL b)) ∧ w' = w := by
  unfold isL
  by_cases h1 : (97 : Int) ≤ b.toNat
  · by_cases h2 : (b.toNat : Int) ≤ 122
    · go_enter Tryz.func92, Tryz.ntmps92
      go_wp2_with fail
      go_ret
      exact ⟨ret_bool (by simp [h1, h2]), rfl⟩
    · go_enter Tryz.func92, Tryz.ntmps92
      go_wp2_with fail
      go_ret
      exact ⟨ret_bool (by simp [h2]), rfl⟩
  · go_enter Tryz.func92, Tryz.ntmps92
    go_wp2_with fail
    go_ret
    exact ⟨ret_bool (by simp; omega), rfl⟩
theorem digit_any (b : UInt8) (w : World) : Calls Tryz.prog 110 #[.int .u8 (b.toNat : Int)] w fun e w' => e = .returned (.bool (isD b)) ∧ w' = w := by
  unfold isD
  by_cases h1 : (48 : Int) ≤ b.toNat
  · by_cases h2 : (b.toNat : Int) ≤ 57
    · go_enter Tryz.func110, Tryz.ntmps110
      go_wp2_with fail
      go_ret
      exact ⟨ret_bool (by simp [h1, h2]), rfl⟩
    · go_enter Tryz.func110, Tryz.ntmps110
      go_wp2_with fail
      go_ret
      exact ⟨ret_bool (by simp [h2]), rfl⟩
  · go_enter Tryz.func110, Tryz.ntmps110
    go_wp2_with fail
    go_ret
    exact ⟨ret_bool (by simp; omega), rfl⟩
set_option maxHeartbeats 1000000 in
theorem key_any (b : UInt8) (w : World) : Calls Tryz.prog 94 #[.int .u8 (b.toNat : Int)] w fun e w' => e = .returned (.bool (isK b)) ∧ w' = w := by
  have hl : Hid (Calls Tryz.prog 92 #[.int .u8 (b.toNat : Int)] w fun e w' => e = .returned (.bool (isL b)) ∧ w' = w) := letter_any b w
  have hd : Hid (Calls Tryz.prog 110 #[.int .u8 (b.toNat : Int)] w fun e w' => e = .returned (.bool (isD b)) ∧ w' = w) := digit_any b w
  unfold isK
  generalize isL b = x at *
  generalize isD b = y at *
  cases x with
  | true =>
    go_enter Tryz.func94, Tryz.ntmps94
    go_wp2_with fail
    refine hl.out.mono ?_
    rintro e W1 ⟨rfl, rfl⟩
    go_wp2_with fail
    go_ret
    exact ⟨rfl, rfl⟩
  | false =>
    cases y with
    | true =>
      go_enter Tryz.func94, Tryz.ntmps94
      go_wp2_with fail
      refine hl.out.mono ?_
      rintro e W1 ⟨rfl, rfl⟩
      go_wp2_with fail
      refine hd.out.mono ?_
      rintro e W1 ⟨rfl, rfl⟩
      go_wp2_with fail
      go_ret
      exact ⟨rfl, rfl⟩
    | false =>
      go_enter Tryz.func94, Tryz.ntmps94
      go_wp2_with fail
      refine hl.out.mono ?_
      rintro e W1 ⟨rfl, rfl⟩
      go_wp2_with fail
      refine hd.out.mono ?_
      rintro e W1 ⟨rfl, rfl⟩
      by_cases h : (b.toNat : Int) = 45
      · go_wp2_with fail
        go_ret
        exact ⟨ret_bool (by simp [h]), rfl⟩
      · go_wp2_with fail
        go_ret
        exact ⟨ret_bool (by simp [h]), rfl⟩

/-- Where the bytes of a kind from b on end. -/
def runE (p : UInt8 → Bool) (l : List UInt8) (b : Nat) : Nat := b + ((l.drop b).takeWhile p).length
theorem runE_on (p : UInt8 → Bool) (l : List UInt8) (b : Nat) (h : b < l.length) (hp : p l[b] = true) : runE p l b = runE p l (b + 1) := by
  unfold runE
  rw [List.drop_eq_getElem_cons h, List.takeWhile_cons, if_pos hp, List.length_cons]
  omega
theorem runE_off (p : UInt8 → Bool) (l : List UInt8) (b : Nat) (h : b < l.length) (hp : p l[b] = false) : runE p l b = b := by
  unfold runE
  rw [List.drop_eq_getElem_cons h, List.takeWhile_cons, if_neg (by rw [hp]; decide)]
  rfl
theorem runE_end (p : UInt8 → Bool) (l : List UInt8) (b : Nat) (h : l.length ≤ b) : runE p l b = b := by
  unfold runE
  rw [List.drop_eq_nil_of_le h]
  rfl
set_option maxHeartbeats 400000 in
theorem runEnd_any (p : UInt8 → Bool) (q : FuncId) (hent : ∀ args W, (callFunc q args).run Tryz.prog W = .ok (.enter q args) W)
    (hq : ∀ (b : UInt8) (w : World), Calls Tryz.prog q #[.int .u8 (b.toNat : Int)] w fun e w' => e = .returned (.bool (p b)) ∧ w' = w)
    (s : ByteArray) (b : Nat) (w : World) (hb : b ≤ s.size) (hs : s.size ≤ 140737488355328) :
    Calls Tryz.prog 93 #[.string s, .int .i64 (b : Int), .func (.func q) #[] #[]] w fun e w' => e = .returned (.int .i64 (runE p s.data.toList b : Int)) ∧ w' = w := by
  have hq' : ∀ b w, Hid (Calls Tryz.prog q #[.int .u8 (UInt8.toNat b : Int)] w fun e w' => e = .returned (.bool (p b)) ∧ w' = w) := hq
  clear hq
  obtain ⟨r, hr⟩ : ∃ r, runE p s.data.toList b = r := ⟨_, rfl⟩
  have hL : Hid (s.data.toList.length = s.size) := size_l s
  rw [hr]
  have hr' : Hid (runE p s.data.toList b = r) := hr
  clear hr
  go_enter Tryz.func93, Tryz.ntmps93
  go_wp2_with fail
  go_loopw [7] (fun iv wr => ∃ k : Nat, k ≤ s.size ∧ iv = .int .i64 (k : Int) ∧ Hid (wr = w) ∧ Hid (runE p s.data.toList k = r)) (fun iv _ => s.size - (intOf iv).toNat)
  case atStart => exact ⟨b, hb, rfl, rfl, hr'⟩
  case round =>
    obtain ⟨k, hk, rfl, hw, hrk⟩ := hrel
    by_cases hlt : k < s.size
    · have hkl : k < s.data.toList.length := by rw [hL.out]; exact hlt
      have hget : s.data.toList[k] = s[k] := rfl
      have hc := hq' s[k] wr
      have hon := runE_on p s.data.toList k hkl
      have hoff := runE_off p s.data.toList k hkl
      rw [hget] at hon hoff
      have hon' : Hid (p s[k] = true → runE p s.data.toList k = runE p s.data.toList (k + 1)) := hon
      have hoff' : Hid (p s[k] = false → runE p s.data.toList k = k) := hoff
      clear hon hoff hget
      generalize hpx : p s[k] = x at *
      clear hpx
      go_wp2_with fail
      refine hc.out.mono ?_
      rintro e W1 ⟨rfl, hW1⟩
      have hw1 : Hid (W1 = w) := by unfold Hid; rw [hW1]; exact hw.out
      clear hW1 hc
      cases x with
      | true =>
        have hnx : Hid (runE p s.data.toList (k + 1) = r) := by unfold Hid; rw [← hon'.out rfl]; exact hrk.out
        have hlt' : Hid (k < s.size) := hlt
        go_wp2_with fail
        refine ⟨⟨k + 1, hlt'.out, by simp, hw1, hnx⟩, ?_⟩
        have := hlt'.out
        simp [intOf]
        omega
      | false =>
        have hfin : Hid (r = k) := by unfold Hid; rw [← hrk.out]; exact hoff'.out rfl
        go_wp2_with fail
        go_ret
        exact ⟨ret_int (by rw [hfin.out]), hw1.out⟩
    · have hke : k = s.size := by omega
      have hfin : Hid (r = k) := by unfold Hid; rw [← hrk.out]; exact runE_end _ _ _ (by rw [hL.out]; omega)
      go_wp2_with fail
      go_ret
      exact ⟨ret_int (by rw [hfin.out]), hw.out⟩
end Go.Proofs.YtfmhcgadgakbhaaGreatDoor

namespace Go.Proofs.YtfmhcgadgakbhaaGreatDoor
open Go.RowKit

theorem runE_le (p : UInt8 → Bool) (l : List UInt8) (b : Nat) (h : b ≤ l.length) : b ≤ runE p l b ∧ runE p l b ≤ l.length := by
  unfold runE
  have h1 : ((l.drop b).takeWhile p).length ≤ (l.drop b).length := (List.takeWhile_prefix p).length_le
  rw [List.length_drop] at h1
  omega
/-- Where the number that begins at b ends. -/
def numE (l : List UInt8) (b : Nat) : Nat := if (l.getD b 0).toNat = 48 ∧ b < l.length then b + 1 else runE isD l b
theorem numE_le (l : List UInt8) (b : Nat) (h : b ≤ l.length) : b ≤ numE l b ∧ numE l b ≤ l.length := by
  unfold numE
  split
  · rename_i h'
    omega
  · exact runE_le _ _ _ h
theorem enter_digit : ∀ args W, (callFunc 110 args).run Tryz.prog W = .ok (.enter 110 args) W := enters_of Tryz.func110 (by kernel_rfl) rfl
theorem enter_key : ∀ args W, (callFunc 94 args).run Tryz.prog W = .ok (.enter 94 args) W := enters_of Tryz.func94 (by kernel_rfl) rfl
set_option maxHeartbeats 400000 in
theorem numberEnd_any (s : ByteArray) (b : Nat) (w : World) (hb : b ≤ s.size) (hs : s.size ≤ 140737488355328) :
    Calls Tryz.prog 111 #[.string s, .int .i64 (b : Int)] w fun e w' => e = .returned (.int .i64 (numE s.data.toList b : Int)) ∧ w' = w := by
  have hr : Hid (Calls Tryz.prog 93 #[.string s, .int .i64 (b : Int), .func (.func 110) #[] #[]] w fun e w' => e = .returned (.int .i64 (runE isD s.data.toList b : Int)) ∧ w' = w) := runEnd_any isD _ enter_digit digit_any s b w hb hs
  by_cases hlt : b < s.size
  · have hg := getD_s s b hlt
    by_cases h0 : s[b].toNat = 48
    · have hn : Hid (numE s.data.toList b = b + 1) := by unfold Hid numE; rw [if_pos ⟨by rw [hg]; exact h0, by rw [size_l]; exact hlt⟩]
      clear hg
      go_enter Tryz.func111, Tryz.ntmps111
      go_wp2_with fail
      go_ret
      exact ⟨ret_int (by rw [hn.out]; simp), rfl⟩
    · have hn : Hid (numE s.data.toList b = runE isD s.data.toList b) := by unfold Hid numE; rw [if_neg (by rw [hg]; exact fun h => h0 h.1)]
      clear hg
      go_enter Tryz.func111, Tryz.ntmps111
      go_wp2_with fail
      refine hr.out.mono ?_
      rintro e W1 ⟨rfl, rfl⟩
      go_wp2_with fail
      go_ret
      exact ⟨ret_int (by rw [hn.out]), rfl⟩
  · have hn : Hid (numE s.data.toList b = runE isD s.data.toList b) := by unfold Hid numE; rw [if_neg (by rw [size_l]; exact fun h => hlt h.2)]
    go_enter Tryz.func111, Tryz.ntmps111
    go_wp2_with fail
    refine hr.out.mono ?_
    rintro e W1 ⟨rfl, rfl⟩
    go_wp2_with fail
    go_ret
    exact ⟨ret_int (by rw [hn.out]), rfl⟩
/-- How far an identifier reaches from e on, where m numbers are begun; whether it is whole. -/
def idE (l : List UInt8) : Nat → Nat → Nat → Nat × Bool
  | 0, _, e => (e, false)
  | n + 1, m, e => if numE l e = e then (e, false) else if numE l e = l.length ∨ ¬ (l.getD (numE l e) 0).toNat = 46 then (numE l e, decide (2 ≤ m)) else idE l n (m + 1) (numE l e + 1)
theorem ret_pair {a b : Int} {x y : Bool} (h : a = b) (h' : x = y) : Ending.returned (.tuple #[.int .i64 a, .bool x]) = .returned (.tuple #[.int .i64 b, .bool y]) := by rw [h, h']
set_option maxHeartbeats 1000000 in
theorem identifierEnd_any (s : ByteArray) (w : World) (hs : s.size ≤ 140737488355328) :
    Calls Tryz.prog 95 #[.string s] w fun e w' => e = .returned (.tuple #[.int .i64 ((idE s.data.toList (s.size + 1) 1 0).1 : Int), .bool (idE s.data.toList (s.size + 1) 1 0).2]) ∧ w' = w := by
  obtain ⟨r, hr⟩ : ∃ r, idE s.data.toList (s.size + 1) 1 0 = r := ⟨_, rfl⟩
  have hL : Hid (s.data.toList.length = s.size) := size_l s
  rw [hr]
  have hr' : Hid (idE s.data.toList (s.size + 1 - 0) 1 0 = r) := hr
  clear hr
  go_enter Tryz.func95, Tryz.ntmps95
  go_wp2_with fail
  go_loopw [2, 4] (fun iv mv wr => ∃ k m n : Nat, k ≤ s.size ∧ m ≤ k + 1 ∧ iv = .int .i64 (k : Int) ∧ mv = .int .i64 (m : Int) ∧ Hid (wr = w) ∧ Hid (s.size + 1 - k ≤ n ∧ idE s.data.toList n m k = r)) (fun iv _ _ => s.size - (intOf iv).toNat)
  case atStart => exact ⟨0, 1, s.size + 1 - 0, by omega, by omega, rfl, rfl, rfl, ⟨by omega, hr'.out⟩⟩
  case round =>
    obtain ⟨k, m, n, hk, hm, rfl, rfl, hw, hrk⟩ := hrel
    have hN : Hid (Calls Tryz.prog 111 #[.string s, .int .i64 (k : Int)] wr fun e w' => e = .returned (.int .i64 (numE s.data.toList k : Int)) ∧ w' = wr) := numberEnd_any s k wr hk hs
    have hle := numE_le s.data.toList k (by rw [hL.out]; exact hk)
    rw [hL.out] at hle
    obtain ⟨n1, hn1⟩ : ∃ n1, n = n1 + 1 := ⟨n - 1, by have := hrk.out.1; omega⟩
    have hrs := hrk.out.2
    rw [hn1, idE] at hrs
    rw [hL.out] at hrs
    have hn1' : Hid (n = n1 + 1) := hn1
    obtain ⟨x, hx⟩ : ∃ x, numE s.data.toList k = x := ⟨_, rfl⟩
    rw [hx] at hN hle hrs
    obtain ⟨hl1, hl2⟩ := hle
    clear hx hn1
    by_cases e1 : x = k
    · rw [if_pos e1] at hrs
      have hfin : Hid (r = (k, false)) := hrs.symm
      subst e1
      clear hrs
      go_wp2_with fail
      refine hN.out.mono ?_
      rintro e W1 ⟨rfl, hW1⟩
      have hw1 : Hid (W1 = w) := by unfold Hid; rw [hW1]; exact hw.out
      clear hW1 hN
      go_wp2_with fail
      go_ret2
      exact ⟨ret_pair (by rw [hfin.out]) (by rw [hfin.out]), hw1.out⟩
    · rw [if_neg e1] at hrs
      by_cases e2 : x = s.size
      · rw [if_pos (Or.inl e2)] at hrs
        have hfin : Hid (r = (x, decide (2 ≤ m))) := hrs.symm
        clear hrs
        go_wp2_with fail
        refine hN.out.mono ?_
        rintro e W1 ⟨rfl, hW1⟩
        have hw1 : Hid (W1 = w) := by unfold Hid; rw [hW1]; exact hw.out
        clear hW1 hN
        go_wp2_with fail
        go_ret2
        exact ⟨ret_pair (by rw [hfin.out]; show ((s.size : Nat) : Int) = (x : Int); rw [e2]) (by rw [hfin.out]; simp; omega), hw1.out⟩
      · have hlt : x < s.size := by omega
        rw [getD_s s x hlt] at hrs
        by_cases e3 : s[x].toNat = 46
        · rw [if_neg (fun h => h.elim e2 (fun h => h e3))] at hrs
          have hfin : Hid (idE s.data.toList n1 (m + 1) (x + 1) = r) := hrs
          have hlt' : Hid (x < s.size ∧ k < x) := ⟨hlt, by omega⟩
          clear hrs
          go_wp2_with fail
          refine hN.out.mono ?_
          rintro e W1 ⟨rfl, hW1⟩
          have hw1 : Hid (W1 = w) := by unfold Hid; rw [hW1]; exact hw.out
          clear hW1 hN
          go_wp2_with fail
          refine ⟨⟨x + 1, m + 1, n1, by omega, by omega, by simp, by simp, hw1, ⟨?_, hfin.out⟩⟩, ?_⟩
          · have := hrk.out.1; have := hn1'.out; omega
          · have := hlt'.out
            simp [intOf]
            omega
        · rw [if_pos (Or.inr e3)] at hrs
          have hfin : Hid (r = (x, decide (2 ≤ m))) := hrs.symm
          have e3' : ((s[x].toNat : Int) != 46) = true := by rw [bne_iff_ne]; omega
          clear hrs e3
          go_wp2_with fail
          refine hN.out.mono ?_
          rintro e W1 ⟨rfl, hW1⟩
          have hw1 : Hid (W1 = w) := by unfold Hid; rw [hW1]; exact hw.out
          clear hW1 hN
          go_wp2_with fail
          go_ret2
          exact ⟨ret_pair (by rw [hfin.out]) (by rw [hfin.out]; simp; omega), hw1.out⟩
/-- How far a type's text reaches, and whether it is a whole one up to there. -/
def typE (l : List UInt8) : Nat × Bool := if ¬ l = [] ∧ isL (l.getD 0 0) = true then (runE isK l 1, true) else idE l (l.length + 1) 1 0
theorem idE_le (l : List UInt8) : ∀ n m e, e ≤ l.length → (idE l n m e).1 ≤ l.length
  | 0, _, _, h => h
  | n + 1, m, e, h => by
    have h1 := numE_le l e h
    unfold idE
    split
    · exact h
    · split
      · exact h1.2
      · rename_i h2
        refine idE_le l n (m + 1) _ ?_
        rcases Nat.lt_or_ge (numE l e) l.length with h3 | h3
        · omega
        · exact absurd (Or.inl (by omega)) h2
theorem typE_le (l : List UInt8) : (typE l).1 ≤ l.length := by
  unfold typE
  split
  · rename_i h
    exact (runE_le _ _ _ (List.length_pos_iff.2 h.1)).2
  · exact idE_le _ _ _ _ (Nat.zero_le _)
set_option maxHeartbeats 1000000 in
theorem typeEnd_any (s : ByteArray) (w : World) (hs : s.size ≤ 140737488355328) :
    Calls Tryz.prog 61 #[.string s] w fun e w' => e = .returned (.tuple #[.int .i64 ((typE s.data.toList).1 : Int), .bool (typE s.data.toList).2]) ∧ w' = w := by
  have hI : Hid (Calls Tryz.prog 95 #[.string s] w fun e w' => e = .returned (.tuple #[.int .i64 ((idE s.data.toList (s.size + 1) 1 0).1 : Int), .bool (idE s.data.toList (s.size + 1) 1 0).2]) ∧ w' = w) := identifierEnd_any s w hs
  obtain ⟨r, hr⟩ : ∃ r, typE s.data.toList = r := ⟨_, rfl⟩
  rw [hr]
  have hr' : Hid (typE s.data.toList = r) := hr
  clear hr
  by_cases h0 : s.size = 0
  · have hnil : s.data.toList = [] := List.length_eq_zero_iff.1 (by rw [size_l]; exact h0)
    have hem : s.toList.isEmpty = true := by rw [Lib.toList_data, hnil]; rfl
    have hfin : Hid (r = idE s.data.toList (s.size + 1) 1 0) := by unfold Hid; rw [← hr'.out]; unfold typE; rw [if_neg (fun h => h.1 hnil), size_l]
    clear hnil h0
    go_enter Tryz.func61, Tryz.ntmps61
    go_wp2_with fail
    refine hI.out.mono ?_
    rintro e W1 ⟨rfl, rfl⟩
    go_wp2_with fail
    go_ret2
    exact ⟨by rw [hfin.out]; rfl, rfl⟩
  · have hlt : 0 < s.size := by omega
    have hnn : ¬ s.data.toList = [] := fun h => h0 (by rw [← size_l, h]; rfl)
    have hem : s.toList.isEmpty = false := by rw [Lib.toList_data]; simpa using hnn
    have hg := getD_s s 0 hlt
    have hT : Hid (Calls Tryz.prog 92 #[.int .u8 (s[0].toNat : Int)] w fun e w' => e = .returned (.bool (isL s[0])) ∧ w' = w) := letter_any s[0] w
    have hK : Hid (Calls Tryz.prog 93 #[.string s, .int .i64 1, .func (.func 94) #[] #[]] w fun e w' => e = .returned (.int .i64 (runE isK s.data.toList 1 : Int)) ∧ w' = w) := runEnd_any isK _ enter_key key_any s 1 w hlt hs
    cases hl : isL s[0] with
    | true =>
      have hfin : Hid (r = (runE isK s.data.toList 1, true)) := by unfold Hid; rw [← hr'.out]; unfold typE; rw [if_pos ⟨hnn, by rw [hg]; exact hl⟩]
      rw [hl] at hT
      clear hg hnn h0 hl
      go_enter Tryz.func61, Tryz.ntmps61
      go_wp2_with fail
      refine hT.out.mono ?_
      rintro e W1 ⟨rfl, rfl⟩
      go_wp2_with fail
      refine hK.out.mono ?_
      rintro e W1 ⟨rfl, rfl⟩
      go_wp2_with fail
      go_ret2
      exact ⟨by rw [hfin.out]; rfl, rfl⟩
    | false =>
      have hfin : Hid (r = idE s.data.toList (s.size + 1) 1 0) := by unfold Hid; rw [← hr'.out]; unfold typE; rw [if_neg (fun h => by rw [hg, hl] at h; exact absurd h.2 (by decide)), size_l]
      rw [hl] at hT
      clear hg hnn h0 hl
      go_enter Tryz.func61, Tryz.ntmps61
      go_wp2_with fail
      refine hT.out.mono ?_
      rintro e W1 ⟨rfl, rfl⟩
      go_wp2_with fail
      refine hI.out.mono ?_
      rintro e W1 ⟨rfl, rfl⟩
      go_wp2_with fail
      go_ret2
      exact ⟨by rw [hfin.out]; rfl, rfl⟩
end Go.Proofs.YtfmhcgadgakbhaaGreatDoor

namespace Go.Proofs.YtfmhcgadgakbhaaGreatDoor
open Go.RowKit
open TextMath (fold lo)

/-- What ParseType answers of a folded text: the canonical type, the error, the place. -/
def parsT (f : ByteArray) : ByteArray × Int × Nat := if (typE f.data.toList).2 = true ∧ ¬ (typE f.data.toList).1 < f.size then (canN f, 0, (typE f.data.toList).1) else (⟨#[]⟩, 40, (typE f.data.toList).1)
set_option maxRecDepth 100000 in
set_option maxHeartbeats 1000000 in
theorem parseType_any (s : ByteArray) (w : World) (hs : s.size ≤ 140737488355328) :
    Calls Tryz.prog 39 #[.string s] w fun e w' => e = .returned (.tuple #[.string (parsT (S (fold s.data.toList))).1, .int .i64 (parsT (S (fold s.data.toList))).2.1, .int .i64 ((parsT (S (fold s.data.toList))).2.2 : Int)]) ∧ Below w.heap.size w w' := by
  obtain ⟨f, hf⟩ : ∃ f, S (fold s.data.toList) = f := ⟨_, rfl⟩
  have hF : Hid (Calls Tryz.prog 43 #[.string s] w fun e w' => e = .returned (.string f) ∧ Below w.heap.size w w') := by
    have h := fold_any s w (by unfold maxLen; omega)
    rw [hf] at h
    exact h
  have hfs : f.size ≤ 140737488355328 := by
    rw [← hf, S_size]
    unfold fold
    rw [List.length_map, size_l]
    exact hs
  have hfz : Hid (f.size ≤ maxLen) := by unfold Hid maxLen; omega
  rw [hf]
  clear hf
  obtain ⟨r, hr⟩ : ∃ r, parsT f = r := ⟨_, rfl⟩
  rw [hr]
  unfold parsT at hr
  have hT : ∀ W, Hid (Calls Tryz.prog 61 #[.string f] W fun e w' => e = .returned (.tuple #[.int .i64 ((typE f.data.toList).1 : Int), .bool (typE f.data.toList).2]) ∧ w' = W) := fun W => typeEnd_any f W hfs
  obtain ⟨p, hp⟩ : ∃ p, (typE f.data.toList).1 = p := ⟨_, rfl⟩
  obtain ⟨b, hb⟩ : ∃ b, (typE f.data.toList).2 = b := ⟨_, rfl⟩
  rw [hp, hb] at hr
  rw [hp, hb] at hT
  clear hp hb
  by_cases hok : b = true ∧ ¬ p < f.size
  · rw [if_pos hok] at hr
    have hfin : Hid (r = (canN f, 0, p)) := hr.symm
    obtain ⟨rfl, hnp⟩ := hok
    clear hr
    go_enter Tryz.func39, Tryz.ntmps39
    go_wp2_with fail
    refine hF.out.mono ?_
    rintro e W1 ⟨rfl, hb1⟩
    have hb1' : Hid (Below w.heap.size w W1) := hb1
    have hT1 := hT W1
    clear hT hF hb1
    go_wp2_with fail
    refine hT1.out.mono ?_
    rintro e W1' ⟨rfl, hW1⟩
    obtain ⟨W2, hW2⟩ : ∃ W2, W1.alloc (.cells #[.string f] 9) = W2 := ⟨_, rfl⟩
    have hB2 : Below W1.heap.size W1 W2 := by rw [← hW2]; exact (Below.refl _ _).alloc (Nat.le_refl _) _
    have hc2 : W2.cell? ⟨W1.heap.size, 0, none⟩ = some (.string f) := by rw [← hW2]; exact (row_cell (heap_alloc_last W1 _) (j := 0) (by simp)).1
    have hOB := openBook_one f W1.heap.size W2 hc2
    have hH2 : Hid (Below w.heap.size w W2) := hb1'.out.trans (hB2.mono hb1'.out.size)
    subst hW1
    clear hT1 hb1' hB2 hc2
    go_wp2_with fail
    refine hOB.mono ?_
    rintro e W3 ⟨B, cs, hB, rfl, hcs, hcz, hco, hlast, hM3, hB3⟩
    have st := st_book W3 cs hcz hco
    obtain ⟨W4, hW4⟩ : ∃ W4, W3.alloc (.cells cs 100) = W4 := ⟨_, rfl⟩
    rw [hW4] at st
    have hB4 : Below W3.heap.size W3 W4 := by rw [← hW4]; exact (Below.refl _ _).alloc (Nat.le_refl _) _
    have hb4 : W4.heap[W3.heap.size]? = some (.cells cs 100 (0, 0)) := by rw [← hW4]; exact heap_alloc_last W3 _
    have hM4 : W4.ownsMap Tryz.prog 9 (plainElem (H := Nat) Tryz.prog 3) B 186 (mapD [f] (upF 62)) := by
      have h := hM3.out.kept (World.grownBy_alloc W3 (.cells cs 100) none) (by simp)
      rw [hW4] at h
      exact h
    have hbk4 : Book W4 W3.heap.size B := by unfold Book; rw [hcs.out]; exact hb4
    have hH4 : Hid (Below w.heap.size w W4) := by
      have h3 : Below W2.heap.size W2 W4 := hB3.trans (hB4.mono hB3.size)
      exact hH2.out.trans (h3.mono hH2.out.size)
    have hC : Hid (Calls Tryz.prog 63 #[.pointer (some ⟨W3.heap.size, 0, none⟩), .string f] W4 fun e w' => e = .returned (.string (canN f)) ∧ w' = W4) := canonical_any f W3.heap.size B W4 hbk4 hM4 hfz.out
    clear hM3 hB3 hB4 hb4 hH2 hOB hW4 hW2 hco hlast hM4 hbk4 hcs hB
    go_wp2_with fail
    refine hC.out.mono ?_
    rintro e W5 ⟨rfl, hW5⟩
    subst hW5
    clear st hcz hC
    go_wp2_with fail
    go_ret3
    exact ⟨by rw [hfin.out]; rfl, hH4.out⟩
  · rw [if_neg hok] at hr
    have hfin : Hid (r = (⟨#[]⟩, 40, p)) := hr.symm
    clear hr
    go_enter Tryz.func39, Tryz.ntmps39
    go_wp2_with fail
    refine hF.out.mono ?_
    rintro e W1 ⟨rfl, hb1⟩
    have hb1' : Hid (Below w.heap.size w W1) := hb1
    have hT1 := hT W1
    clear hT hF hb1
    go_wp2_with fail
    refine hT1.out.mono ?_
    rintro e W1' ⟨rfl, hW1⟩
    subst hW1
    clear hT1
    cases b with
    | false =>
      clear hok
      go_wp2_with fail
      go_ret3
      exact ⟨by rw [hfin.out]; rfl, hb1'.out⟩
    | true =>
      have hlt : p < f.size := by
        rcases Nat.lt_or_ge p f.size with h | h
        · exact h
        · exact absurd ⟨rfl, by omega⟩ hok
      clear hok
      go_wp2_with fail
      go_ret3
      exact ⟨by rw [hfin.out]; rfl, hb1'.out⟩
end Go.Proofs.YtfmhcgadgakbhaaGreatDoor

namespace Go.Proofs.YtfmhcgadgakbhaaGreatDoor
namespace TextMath

def u (b : UInt8) : Int := (b.toNat : Int)

def ld (b : Int) : Int × Int × Int :=
  if b ≤ 127 then (1, 0, 0) else if b < 194 then (0, 0, 0) else if b ≤ 223 then (2, 128, 191)
  else if b = 224 then (3, 160, 191) else if b = 237 then (3, 128, 159) else if b ≤ 239 then (3, 128, 191)
  else if b = 240 then (4, 144, 191) else if b ≤ 243 then (4, 128, 191) else if b = 244 then (4, 128, 143) else (0, 0, 0)

def wi (b lo hi : Int) : Bool := decide (lo ≤ b) && decide (b ≤ hi)

def seqLen (l : List UInt8) : Nat :=
  let n := (ld (u (l.getD 0 0))).1
  if (l.length : Int) < n then 0
  else if n = 4 ∧ wi (u (l.getD 3 0)) 128 191 = false then 0
  else if (n = 4 ∨ n = 3) ∧ wi (u (l.getD 2 0)) 128 191 = false then 0
  else if (n = 4 ∨ n = 3 ∨ n = 2) ∧ wi (u (l.getD 1 0)) (ld (u (l.getD 0 0))).2.1 (ld (u (l.getD 0 0))).2.2 = false then 0
  else n.toNat

theorem ld_cases (b : Int) : (ld b).1 = 0 ∨ (ld b).1 = 1 ∨ (ld b).1 = 2 ∨ (ld b).1 = 3 ∨ (ld b).1 = 4 := by
  unfold ld; repeat' split
  all_goals simp

theorem seqLen_le (l : List UInt8) : seqLen l ≤ l.length := by
  unfold seqLen; simp only []
  repeat' split
  all_goals omega

theorem seqLen_le4 (l : List UInt8) : seqLen l ≤ 4 := by
  have := ld_cases (u (l.getD 0 0))
  unfold seqLen; simp only []
  repeat' split
  all_goals omega

theorem getD_app (l b : List UInt8) (i : Nat) (h : i < l.length) : (l ++ b).getD i 0 = l.getD i 0 := by
  simp [List.getD, List.getElem?_append_left h]

theorem getD_take (l : List UInt8) (m i : Nat) (h : i < m) : (l.take m).getD i 0 = l.getD i 0 := by
  simp [List.getD, List.getElem?_take_of_lt h]

/-- The sequence hangs on its own bytes alone. -/
theorem seqLen_congr (l k : List UInt8) (h0 : k.getD 0 0 = l.getD 0 0) (n : Nat) (hn : seqLen l = n) (hp : 0 < n) (hl : n ≤ k.length)
    (h : ∀ i, i < n → k.getD i 0 = l.getD i 0) : seqLen k = n := by
  have hc := ld_cases (u (l.getD 0 0))
  have hle := seqLen_le l
  unfold seqLen at hn ⊢
  simp only [h0] at hn ⊢
  generalize (ld (u (l.getD 0 0))) = q at *
  obtain ⟨m, lo, hi⟩ := q
  simp only [] at hc hn ⊢
  rcases hc with rfl | rfl | rfl | rfl | rfl
  · simp at hn; omega
  · have hnn : n = 1 := by
      repeat' split at hn
      all_goals simp_all
    subst hnn
    simp; omega
  · have hnn : n = 2 := by
      repeat' split at hn
      all_goals simp_all
    subst hnn
    have h1 := h 1 (by omega)
    simp only [h1]
    simp at hn ⊢
    repeat' split at hn
    all_goals simp_all
    all_goals omega
  · have hnn : n = 3 := by
      repeat' split at hn
      all_goals simp_all
    subst hnn
    have h1 := h 1 (by omega)
    have h2 := h 2 (by omega)
    simp only [h1, h2]
    simp at hn ⊢
    repeat' split at hn
    all_goals simp_all
    all_goals omega
  · have hnn : n = 4 := by
      repeat' split at hn
      all_goals simp_all
    subst hnn
    have h1 := h 1 (by omega)
    have h2 := h 2 (by omega)
    have h3 := h 3 (by omega)
    simp only [h1, h2, h3]
    simp at hn ⊢
    repeat' split at hn
    all_goals simp_all
    all_goals omega

theorem seqLen_app (l b : List UInt8) (hp : 0 < seqLen l) : seqLen (l ++ b) = seqLen l := by
  have hle := seqLen_le l
  exact seqLen_congr l (l ++ b) (getD_app l b 0 (by omega)) _ rfl hp (by simp; omega) fun i hi => getD_app l b i (by omega)

theorem seqLen_take (l : List UInt8) (m : Nat) (hm : seqLen l ≤ m) (hp : 0 < seqLen l) : seqLen (l.take m) = seqLen l := by
  have hle := seqLen_le l
  exact seqLen_congr l (l.take m) (getD_take l m 0 (by omega)) _ rfl hp (by simp; omega) fun i hi => getD_take l m i (by omega)

theorem seqLen_zero_app (l b : List UInt8) (h4 : 4 ≤ l.length) (h0 : seqLen l = 0) : seqLen (l ++ b) = 0 := by
  have hc := ld_cases (u (l.getD 0 0))
  unfold seqLen at h0 ⊢
  simp only [getD_app l b 0 (by omega), getD_app l b 1 (by omega), getD_app l b 2 (by omega), getD_app l b 3 (by omega)] at h0 ⊢
  generalize (ld (u (l.getD 0 0))) = q at *
  obtain ⟨m, lo, hi⟩ := q
  simp only [] at hc h0 ⊢
  have e1 : ¬ (l.length : Int) < m := by omega
  have e2 : ¬ ((l ++ b).length : Int) < m := by simp; omega
  rw [if_neg e1] at h0
  rw [if_neg e2]
  exact h0

/-- Check, by the text that is left. -/
def chk : Nat → List UInt8 → Bool × Nat
  | 0, _ => (true, 0)
  | f + 1, l => if l.length = 0 then (true, 0) else if seqLen l = 0 then (false, 0) else ((chk f (l.drop (seqLen l))).1, seqLen l + (chk f (l.drop (seqLen l))).2)

theorem chk_fuel : ∀ (f g : Nat) (l : List UInt8), l.length ≤ f → l.length ≤ g → chk f l = chk g l
  | 0, 0, _, _, _ => rfl
  | 0, g + 1, l, h, _ => by simp [chk, Nat.le_zero.1 h]
  | f + 1, 0, l, _, h => by simp [chk, Nat.le_zero.1 h]
  | f + 1, g + 1, l, hf, hg => by
    unfold chk
    by_cases h0 : l.length = 0
    · simp [h0]
    · by_cases h1 : seqLen l = 0
      · simp [h1]
      · rw [if_neg h0, if_neg h1, if_neg h0, if_neg h1, chk_fuel f g (l.drop (seqLen l)) (by simp; omega) (by simp; omega)]

def check (l : List UInt8) : Bool × Nat := chk l.length l

theorem check_nil : check [] = (true, 0) := rfl
theorem check_bad (l : List UInt8) (h0 : l.length ≠ 0) (h : seqLen l = 0) : check l = (false, 0) := by
  unfold check
  obtain ⟨n, hn⟩ := Nat.exists_eq_succ_of_ne_zero h0
  rw [hn]; unfold chk; rw [if_neg h0, if_pos h]
theorem check_good (l : List UInt8) (h : seqLen l ≠ 0) : check l = ((check (l.drop (seqLen l))).1, seqLen l + (check (l.drop (seqLen l))).2) := by
  have h0 : l.length ≠ 0 := by have := seqLen_le l; omega
  obtain ⟨n, hn⟩ := Nat.exists_eq_succ_of_ne_zero h0
  have e : check l = chk (n + 1) l := by unfold check; rw [hn]
  rw [e]; unfold chk; rw [if_neg h0, if_neg h]
  have e2 : chk n (l.drop (seqLen l)) = check (l.drop (seqLen l)) := chk_fuel _ _ _ (by simp; omega) (by simp)
  rw [e2]

theorem check_ind {M : List UInt8 → Prop} (h0 : M []) (h1 : ∀ l, l.length ≠ 0 → seqLen l = 0 → M l) (h2 : ∀ l, seqLen l ≠ 0 → M (l.drop (seqLen l)) → M l) : ∀ (n : Nat) (l : List UInt8), l.length ≤ n → M l
  | 0, l, h => by
    have : l = [] := List.eq_nil_of_length_eq_zero (by omega)
    subst this; exact h0
  | n + 1, l, h => by
    by_cases e : l.length = 0
    · have : l = [] := List.eq_nil_of_length_eq_zero e
      subst this; exact h0
    · by_cases e1 : seqLen l = 0
      · exact h1 l e e1
      · exact h2 l e1 (check_ind h0 h1 h2 n _ (by simp; omega))

theorem check_place (l : List UInt8) : (check l).2 ≤ l.length ∧ ((check l).1 = true → (check l).2 = l.length) ∧ ((check l).1 = false → (check l).2 < l.length) := by
  refine check_ind (M := fun l => (check l).2 ≤ l.length ∧ ((check l).1 = true → (check l).2 = l.length) ∧ ((check l).1 = false → (check l).2 < l.length)) ?_ ?_ ?_ l.length l (Nat.le_refl _)
  · simp [check_nil]
  · intro l h0 h1
    rw [check_bad l h0 h1]; simp; omega
  · intro l h1 ih
    have hle := seqLen_le l
    rw [check_good l h1]
    simp only [List.length_drop] at ih
    refine ⟨by simp only []; omega, fun e => ?_, fun e => ?_⟩
    · have := ih.2.1 e; simp only []; omega
    · have := ih.2.2 e; simp only []; omega

theorem check_take (l : List UInt8) : check (l.take (check l).2) = (true, (check l).2) := by
  refine check_ind (M := fun l => check (l.take (check l).2) = (true, (check l).2)) ?_ ?_ ?_ l.length l (Nat.le_refl _)
  · rfl
  · intro l h0 h1
    rw [check_bad l h0 h1]; rfl
  · intro l h1 ih
    rw [check_good l h1]
    simp only []
    generalize hp : (check (l.drop (seqLen l))).2 = p at *
    have ht : seqLen (l.take (seqLen l + p)) = seqLen l := seqLen_take l _ (by omega) (by omega)
    rw [check_good _ (by rw [ht]; exact h1), ht]
    have e : (l.take (seqLen l + p)).drop (seqLen l) = (l.drop (seqLen l)).take p := by
      rw [List.drop_take]; congr 1; omega
    rw [e, ih]

theorem check_app_good (l b : List UInt8) (h : (check l).1 = true) : check (l ++ b) = ((check b).1, l.length + (check b).2) := by
  revert h
  refine check_ind (M := fun l => (check l).1 = true → check (l ++ b) = ((check b).1, l.length + (check b).2)) ?_ ?_ ?_ l.length l (Nat.le_refl _)
  · intro _; simp
  · intro l h0 h1 h
    rw [check_bad l h0 h1] at h; cases h
  · intro l h1 ih h
    have hle := seqLen_le l
    rw [check_good l h1] at h
    have hs := seqLen_app l b (by omega)
    rw [check_good _ (by rw [hs]; exact h1), hs, List.drop_append_of_le_length hle, ih h]
    simp only [List.length_drop]
    congr 1; omega

theorem check_app_bad (l b : List UInt8) (h : (check l).1 = false) (h4 : (check l).2 + 4 ≤ l.length) : check (l ++ b) = (false, (check l).2) := by
  revert h h4
  refine check_ind (M := fun l => (check l).1 = false → (check l).2 + 4 ≤ l.length → check (l ++ b) = (false, (check l).2)) ?_ ?_ ?_ l.length l (Nat.le_refl _)
  · intro h; cases h
  · intro l h0 h1 h h4
    rw [check_bad l h0 h1] at h4 ⊢
    rw [check_bad (l ++ b) (by simp only [List.length_append]; omega) (seqLen_zero_app l b (by simpa using h4) h1)]
  · intro l h1 ih h h4
    have hle := seqLen_le l
    rw [check_good l h1] at h h4 ⊢
    simp only [] at h h4
    have hs := seqLen_app l b (by omega)
    rw [check_good _ (by rw [hs]; exact h1), hs, List.drop_append_of_le_length hle, ih h (by simp only [List.length_drop]; omega)]

end TextMath
end Go.Proofs.YtfmhcgadgakbhaaGreatDoor
