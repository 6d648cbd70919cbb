import Derived.Test.YtoomoicjoockjaaGreatDoorGMap
import Derived.Test.YtoomoicjoockjaaGreatDoorGNorm
import Derived.Test.YtoomoicjoockjaaGreatDoorAtOwn
import Derived.Test.YtoomoicjoockjaaGreatDoorBytes
import Derived.Test.YtoomoicjoockjaaGreatDoorInfo
import Derived.Shelf.Abstract
import Derived.Test.YtoomoicjoockjaaGreatDoorAtBook
import Derived.Maps.OwnSet
import Derived.Maps.RangeWalk
import Derived.Maps.Ext
import Derived.Maps.AppendAt
namespace Go.Proofs.YtoomoicjoockjaaGreatDoor
open Go.RowKit
set_option linter.unusedVariables false

/-- A row's name; the number of the row above. -/
def nmN (n : Nat) : List UInt8 := if h : n < 62 then (rowL ⟨n, h⟩).1.data.toList else []
def upN (n : Nat) : Nat := (SUP.getD n 0).toNat
/-- The names from a row on upwards; 0: none. -/
def chn : Nat → Nat → List (List UInt8)
  | 0, _ => []
  | k + 1, n => if n = 0 then [] else nmN n :: chn k (upN n)
theorem up_lt : ∀ n : Fin 62, SUP.getD n.val 0 = (upN n.val : Int) ∧ upN n.val < 62 := by decide +kernel
theorem chn_step : ∀ n : Fin 62, ¬ n.val = 0 → chn 3 n.val = nmN n.val :: chn 3 (upN n.val) := by decide +kernel
theorem chn_len : ∀ n : Fin 62, (chn 3 n.val).length ≤ 3 := by decide +kernel
/-- The number of the row that a text names; 0, if it names none. -/
def noN (f : ByteArray) : Nat := match rowOf f with
  | none => 0
  | some i => i.1
theorem noN_lt (f : ByteArray) : noN f < 62 := by
  unfold noN
  cases rowOf f with
  | none => decide
  | some i => exact i.2
/-- What lineage answers of a folded text. -/
def lin (f : ByteArray) : List (List UInt8) := (canN f).data.toList :: chn 3 (upN (noN f))
theorem up_zero : upN 0 = 0 := by decide

set_option maxRecDepth 100000 in
set_option maxHeartbeats 400000 in
theorem canonicalG_any (zs : List ByteArray) (f : ByteArray) (hf : f ∈ zs) (b B : Nat) (W : World) (hbk : Book W b B) (hM : W.ownsMap Tryz.prog 9 (plainElem (H := Nat) Tryz.prog 3) B 186 (mapD zs (upF 62))) (hfz : f.size ≤ maxLen) :
    Calls Tryz.prog 66 #[.pointer (some ⟨b, 0, none⟩), .string f] W fun e w' => e = .returned (.string (canN f)) ∧ w' = W := by
  have hV := view_all zs f hf
  obtain ⟨D, hD⟩ : ∃ D, mapD zs (upF 62) = D := ⟨_, rfl⟩
  rw [hD] at hM hV
  have hM4 : Hid (W.ownsMap Tryz.prog 9 (plainElem (H := Nat) Tryz.prog 3) B 186 D) := hM
  have hkey : Hid (keyOf Tryz.prog 9 (.string f) = some (.string f.data.toList)) := key_str f hfz
  have q4 := hbk.map
  have hbk' : Hid (Book W b B) := hbk
  have hV' : Hid (View D f (rowOf f)) := hV
  clear hD hM hbk hV
  cases hrow : rowOf f with
  | none =>
    have hhas' : Maps.has D (.string f.data.toList) = false := by have := hV'.out.2.1; rw [hrow] at this; exact this
    have hfin : Hid (canN f = f) := by unfold Hid canN; rw [hrow]
    clear hV'
    go_enter Tryz.func66, Tryz.ntmps66
    go_wp2_with (at_lookup; refine wpList_lookup_own_ok_int _ rfl _ _ 105 rfl 9 3 .i64 (Maps.string_keyed Tryz.underlying9) Tryz.underlying105 Tryz.underlying3 (Tryz.zeroValue3 _) B 186 D rfl hM4.out _ _ rfl hkey.out ?_; intro c hatc hwc)
    go_ret
    exact ⟨by rw [hfin.out]; rfl, rfl⟩
  | some i =>
    have hhas' : Maps.has D (.string f.data.toList) = true := by have := hV'.out.2.1; rw [hrow] at this; exact this
    have hati' : Hid (D.atKey (.string f.data.toList) (.lit (.int .i64 0)) = .lit (.int .i64 (i.1 : Int))) := hV'.out.2.2 i hrow _
    have hfin : Hid (canN f = (rowL i).1) := by unfold Hid canN; rw [hrow]
    obtain ⟨c0, _, _⟩ := hbk'.out.cells i
    have i0 : (0 : Int) ≤ (i.1 : Int) := Int.natCast_nonneg _
    have i1 : (i.1 : Int) < 62 := by have := i.2; omega
    clear hV'
    go_enter Tryz.func66, Tryz.ntmps66
    go_wp2_with (at_lookup; refine wpList_lookup_own_ok_int _ rfl _ _ 105 rfl 9 3 .i64 (Maps.string_keyed Tryz.underlying9) Tryz.underlying105 Tryz.underlying3 (Tryz.zeroValue3 _) B 186 D rfl hM4.out _ _ rfl hkey.out ?_; intro c hatc hwc; obtain rfl : c = (i.1 : Int) := (by rw [hati'.out] at hatc; injection hatc with hatc; injection hatc with _ hatc; exact hatc.symm))
    go_ret
    exact ⟨by rw [hfin.out]; rfl, rfl⟩

/-- What the map says of a text, as a number. -/
theorem atNo (zs : List ByteArray) (f : ByteArray) (hf : f ∈ zs) : (mapD zs (upF 62)).atKey (.string f.data.toList) (.lit (.int .i64 0)) = .lit (.int .i64 (noN f : Int)) := by
  have hV := view_all zs f hf
  unfold noN
  cases hrow : rowOf f with
  | none =>
    rw [hrow] at hV
    have h := hV.2.1
    exact Maps.atKey_of_not_has h _
  | some i => exact hV.2.2 i hrow _

end Go.Proofs.YtoomoicjoockjaaGreatDoor

namespace Go.Proofs.YtoomoicjoockjaaGreatDoor
open Go.RowKit

/-- A small letter; a digit; a key character (of a folded text). -/
def isL (b : UInt8) : Bool := decide (97 ≤ (b.toNat : Int)) && decide ((b.toNat : Int) ≤ 122)
def isD (b : UInt8) : Bool := decide (48 ≤ (b.toNat : Int)) && decide ((b.toNat : Int) ≤ 57)
def isK (b : UInt8) : Bool := isL b || isD b || decide ((b.toNat : Int) = 45)
theorem letter_any (b : UInt8) (w : World) : Calls Tryz.prog 97 #[.int .u8 (b.toNat : Int)] w fun e w' => e = .returned (.bool (isL b)) ∧ w' = w := by
  unfold isL
  by_cases h1 : (97 : Int) ≤ b.toNat
  · by_cases h2 : (b.toNat : Int) ≤ 122
    · go_enter Tryz.func97, Tryz.ntmps97
      go_wp2_with fail
      go_ret
      exact ⟨ret_bool (by simp [h1, h2]), rfl⟩
    · go_enter Tryz.func97, Tryz.ntmps97
      go_wp2_with fail
      go_ret
      exact ⟨ret_bool (by simp [h2]), rfl⟩
  · go_enter Tryz.func97, Tryz.ntmps97
    go_wp2_with fail
    go_ret
    exact ⟨ret_bool (by simp; omega), rfl⟩
theorem digit_any (b : UInt8) (w : World) : Calls Tryz.prog 99 #[.int .u8 (b.toNat : Int)] w fun e w' => e = .returned (.bool (isD b)) ∧ w' = w := by
  unfold isD
  by_cases h1 : (48 : Int) ≤ b.toNat
  · by_cases h2 : (b.toNat : Int) ≤ 57
    · go_enter Tryz.func99, Tryz.ntmps99
      go_wp2_with fail
      go_ret
      exact ⟨ret_bool (by simp [h1, h2]), rfl⟩
    · go_enter Tryz.func99, Tryz.ntmps99
      go_wp2_with fail
      go_ret
      exact ⟨ret_bool (by simp [h2]), rfl⟩
  · go_enter Tryz.func99, Tryz.ntmps99
    go_wp2_with fail
    go_ret
    exact ⟨ret_bool (by simp; omega), rfl⟩
set_option maxHeartbeats 1000000 in
theorem key_any (b : UInt8) (w : World) : Calls Tryz.prog 85 #[.int .u8 (b.toNat : Int)] w fun e w' => e = .returned (.bool (isK b)) ∧ w' = w := by
  have hl : Hid (Calls Tryz.prog 97 #[.int .u8 (b.toNat : Int)] w fun e w' => e = .returned (.bool (isL b)) ∧ w' = w) := letter_any b w
  have hd : Hid (Calls Tryz.prog 99 #[.int .u8 (b.toNat : Int)] w fun e w' => e = .returned (.bool (isD b)) ∧ w' = w) := digit_any b w
  unfold isK
  generalize isL b = x at *
  generalize isD b = y at *
  cases x with
  | true =>
    go_enter Tryz.func85, Tryz.ntmps85
    go_wp2_with fail
    refine hl.out.mono ?_
    rintro e W1 ⟨rfl, rfl⟩
    go_wp2_with fail
    go_ret
    exact ⟨rfl, rfl⟩
  | false =>
    cases y with
    | true =>
      go_enter Tryz.func85, Tryz.ntmps85
      go_wp2_with fail
      refine hl.out.mono ?_
      rintro e W1 ⟨rfl, rfl⟩
      go_wp2_with fail
      refine hd.out.mono ?_
      rintro e W1 ⟨rfl, rfl⟩
      go_wp2_with fail
      go_ret
      exact ⟨rfl, rfl⟩
    | false =>
      go_enter Tryz.func85, Tryz.ntmps85
      go_wp2_with fail
      refine hl.out.mono ?_
      rintro e W1 ⟨rfl, rfl⟩
      go_wp2_with fail
      refine hd.out.mono ?_
      rintro e W1 ⟨rfl, rfl⟩
      by_cases h : (b.toNat : Int) = 45
      · go_wp2_with fail
        go_ret
        exact ⟨ret_bool (by simp [h]), rfl⟩
      · go_wp2_with fail
        go_ret
        exact ⟨ret_bool (by simp [h]), rfl⟩

/-- Where the bytes of a kind from b on end. -/
def runE (p : UInt8 → Bool) (l : List UInt8) (b : Nat) : Nat := b + ((l.drop b).takeWhile p).length
theorem runE_on (p : UInt8 → Bool) (l : List UInt8) (b : Nat) (h : b < l.length) (hp : p l[b] = true) : runE p l b = runE p l (b + 1) := by
  unfold runE
  rw [List.drop_eq_getElem_cons h, List.takeWhile_cons, if_pos hp, List.length_cons]
  omega
theorem runE_off (p : UInt8 → Bool) (l : List UInt8) (b : Nat) (h : b < l.length) (hp : p l[b] = false) : runE p l b = b := by
  unfold runE
  rw [List.drop_eq_getElem_cons h, List.takeWhile_cons, if_neg (by rw [hp]; decide)]
  rfl
theorem runE_end (p : UInt8 → Bool) (l : List UInt8) (b : Nat) (h : l.length ≤ b) : runE p l b = b := by
  unfold runE
  rw [List.drop_eq_nil_of_le h]
  rfl
set_option maxHeartbeats 400000 in
theorem runEnd_any (p : UInt8 → Bool) (q : FuncId) (hent : ∀ args W, (callFunc q args).run Tryz.prog W = .ok (.enter q args) W)
    (hq : ∀ (b : UInt8) (w : World), Calls Tryz.prog q #[.int .u8 (b.toNat : Int)] w fun e w' => e = .returned (.bool (p b)) ∧ w' = w)
    (s : ByteArray) (b : Nat) (w : World) (hb : b ≤ s.size) (hs : s.size ≤ 140737488355328) :
    Calls Tryz.prog 84 #[.string s, .int .i64 (b : Int), .func (.func q) #[] #[]] w fun e w' => e = .returned (.int .i64 (runE p s.data.toList b : Int)) ∧ w' = w := by
  have hq' : ∀ b w, Hid (Calls Tryz.prog q #[.int .u8 (UInt8.toNat b : Int)] w fun e w' => e = .returned (.bool (p b)) ∧ w' = w) := hq
  clear hq
  obtain ⟨r, hr⟩ : ∃ r, runE p s.data.toList b = r := ⟨_, rfl⟩
  have hL : Hid (s.data.toList.length = s.size) := size_l s
  rw [hr]
  have hr' : Hid (runE p s.data.toList b = r) := hr
  clear hr
  go_enter Tryz.func84, Tryz.ntmps84
  go_wp2_with fail
  go_loopw [7] (fun iv wr => ∃ k : Nat, k ≤ s.size ∧ iv = .int .i64 (k : Int) ∧ Hid (wr = w) ∧ Hid (runE p s.data.toList k = r)) (fun iv _ => s.size - (intOf iv).toNat)
  case atStart => exact ⟨b, hb, rfl, rfl, hr'⟩
  case round =>
    obtain ⟨k, hk, rfl, hw, hrk⟩ := hrel
    by_cases hlt : k < s.size
    · have hkl : k < s.data.toList.length := by rw [hL.out]; exact hlt
      have hget : s.data.toList[k] = s[k] := rfl
      have hc := hq' s[k] wr
      have hon := runE_on p s.data.toList k hkl
      have hoff := runE_off p s.data.toList k hkl
      rw [hget] at hon hoff
      have hon' : Hid (p s[k] = true → runE p s.data.toList k = runE p s.data.toList (k + 1)) := hon
      have hoff' : Hid (p s[k] = false → runE p s.data.toList k = k) := hoff
      clear hon hoff hget
      generalize hpx : p s[k] = x at *
      clear hpx
      go_wp2_with fail
      refine hc.out.mono ?_
      rintro e W1 ⟨rfl, hW1⟩
      have hw1 : Hid (W1 = w) := by unfold Hid; rw [hW1]; exact hw.out
      clear hW1 hc
      cases x with
      | true =>
        have hnx : Hid (runE p s.data.toList (k + 1) = r) := by unfold Hid; rw [← hon'.out rfl]; exact hrk.out
        have hlt' : Hid (k < s.size) := hlt
        go_wp2_with fail
        refine ⟨⟨k + 1, hlt'.out, by simp, hw1, hnx⟩, ?_⟩
        have := hlt'.out
        simp [intOf]
        omega
      | false =>
        have hfin : Hid (r = k) := by unfold Hid; rw [← hrk.out]; exact hoff'.out rfl
        go_wp2_with fail
        go_ret
        exact ⟨ret_int (by rw [hfin.out]), hw1.out⟩
    · have hke : k = s.size := by omega
      have hfin : Hid (r = k) := by unfold Hid; rw [← hrk.out]; exact runE_end _ _ _ (by rw [hL.out]; omega)
      go_wp2_with fail
      go_ret
      exact ⟨ret_int (by rw [hfin.out]), hw.out⟩
end Go.Proofs.YtoomoicjoockjaaGreatDoor

namespace Go.Proofs.YtoomoicjoockjaaGreatDoor
open Go.RowKit

theorem runE_le (p : UInt8 → Bool) (l : List UInt8) (b : Nat) (h : b ≤ l.length) : b ≤ runE p l b ∧ runE p l b ≤ l.length := by
  unfold runE
  have h1 : ((l.drop b).takeWhile p).length ≤ (l.drop b).length := (List.takeWhile_prefix p).length_le
  rw [List.length_drop] at h1
  omega
/-- Where the number that begins at b ends. -/
def numE (l : List UInt8) (b : Nat) : Nat := if (l.getD b 0).toNat = 48 ∧ b < l.length then b + 1 else runE isD l b
theorem numE_le (l : List UInt8) (b : Nat) (h : b ≤ l.length) : b ≤ numE l b ∧ numE l b ≤ l.length := by
  unfold numE
  split
  · rename_i h'
    omega
  · exact runE_le _ _ _ h
theorem enter_digit : ∀ args W, (callFunc 99 args).run Tryz.prog W = .ok (.enter 99 args) W := enters_of Tryz.func99 (by kernel_rfl) rfl
theorem enter_key : ∀ args W, (callFunc 85 args).run Tryz.prog W = .ok (.enter 85 args) W := enters_of Tryz.func85 (by kernel_rfl) rfl
set_option maxHeartbeats 400000 in
theorem numberEnd_any (s : ByteArray) (b : Nat) (w : World) (hb : b ≤ s.size) (hs : s.size ≤ 140737488355328) :
    Calls Tryz.prog 111 #[.string s, .int .i64 (b : Int)] w fun e w' => e = .returned (.int .i64 (numE s.data.toList b : Int)) ∧ w' = w := by
  have hr : Hid (Calls Tryz.prog 84 #[.string s, .int .i64 (b : Int), .func (.func 99) #[] #[]] w fun e w' => e = .returned (.int .i64 (runE isD s.data.toList b : Int)) ∧ w' = w) := runEnd_any isD _ enter_digit digit_any s b w hb hs
  by_cases hlt : b < s.size
  · have hg := getD_s s b hlt
    by_cases h0 : s[b].toNat = 48
    · have hn : Hid (numE s.data.toList b = b + 1) := by unfold Hid numE; rw [if_pos ⟨by rw [hg]; exact h0, by rw [size_l]; exact hlt⟩]
      clear hg
      go_enter Tryz.func111, Tryz.ntmps111
      go_wp2_with fail
      go_ret
      exact ⟨ret_int (by rw [hn.out]; simp), rfl⟩
    · have hn : Hid (numE s.data.toList b = runE isD s.data.toList b) := by unfold Hid numE; rw [if_neg (by rw [hg]; exact fun h => h0 h.1)]
      clear hg
      go_enter Tryz.func111, Tryz.ntmps111
      go_wp2_with fail
      refine hr.out.mono ?_
      rintro e W1 ⟨rfl, rfl⟩
      go_wp2_with fail
      go_ret
      exact ⟨ret_int (by rw [hn.out]), rfl⟩
  · have hn : Hid (numE s.data.toList b = runE isD s.data.toList b) := by unfold Hid numE; rw [if_neg (by rw [size_l]; exact fun h => hlt h.2)]
    go_enter Tryz.func111, Tryz.ntmps111
    go_wp2_with fail
    refine hr.out.mono ?_
    rintro e W1 ⟨rfl, rfl⟩
    go_wp2_with fail
    go_ret
    exact ⟨ret_int (by rw [hn.out]), rfl⟩
/-- How far an identifier reaches from e on, where m numbers are begun; whether it is whole. -/
def idE (l : List UInt8) : Nat → Nat → Nat → Nat × Bool
  | 0, _, e => (e, false)
  | n + 1, m, e => if numE l e = e then (e, false) else if numE l e = l.length ∨ ¬ (l.getD (numE l e) 0).toNat = 46 then (numE l e, decide (2 ≤ m)) else idE l n (m + 1) (numE l e + 1)
theorem ret_pair {a b : Int} {x y : Bool} (h : a = b) (h' : x = y) : Ending.returned (.tuple #[.int .i64 a, .bool x]) = .returned (.tuple #[.int .i64 b, .bool y]) := by rw [h, h']
set_option maxHeartbeats 1000000 in
theorem identifierEnd_any (s : ByteArray) (w : World) (hs : s.size ≤ 140737488355328) :
    Calls Tryz.prog 98 #[.string s] w fun e w' => e = .returned (.tuple #[.int .i64 ((idE s.data.toList (s.size + 1) 1 0).1 : Int), .bool (idE s.data.toList (s.size + 1) 1 0).2]) ∧ w' = w := by
  obtain ⟨r, hr⟩ : ∃ r, idE s.data.toList (s.size + 1) 1 0 = r := ⟨_, rfl⟩
  have hL : Hid (s.data.toList.length = s.size) := size_l s
  rw [hr]
  have hr' : Hid (idE s.data.toList (s.size + 1 - 0) 1 0 = r) := hr
  clear hr
  go_enter Tryz.func98, Tryz.ntmps98
  go_wp2_with fail
  go_loopw [2, 4] (fun iv mv wr => ∃ k m n : Nat, k ≤ s.size ∧ m ≤ k + 1 ∧ iv = .int .i64 (k : Int) ∧ mv = .int .i64 (m : Int) ∧ Hid (wr = w) ∧ Hid (s.size + 1 - k ≤ n ∧ idE s.data.toList n m k = r)) (fun iv _ _ => s.size - (intOf iv).toNat)
  case atStart => exact ⟨0, 1, s.size + 1 - 0, by omega, by omega, rfl, rfl, rfl, ⟨by omega, hr'.out⟩⟩
  case round =>
    obtain ⟨k, m, n, hk, hm, rfl, rfl, hw, hrk⟩ := hrel
    have hN : Hid (Calls Tryz.prog 111 #[.string s, .int .i64 (k : Int)] wr fun e w' => e = .returned (.int .i64 (numE s.data.toList k : Int)) ∧ w' = wr) := numberEnd_any s k wr hk hs
    have hle := numE_le s.data.toList k (by rw [hL.out]; exact hk)
    rw [hL.out] at hle
    obtain ⟨n1, hn1⟩ : ∃ n1, n = n1 + 1 := ⟨n - 1, by have := hrk.out.1; omega⟩
    have hrs := hrk.out.2
    rw [hn1, idE] at hrs
    rw [hL.out] at hrs
    have hn1' : Hid (n = n1 + 1) := hn1
    obtain ⟨x, hx⟩ : ∃ x, numE s.data.toList k = x := ⟨_, rfl⟩
    rw [hx] at hN hle hrs
    obtain ⟨hl1, hl2⟩ := hle
    clear hx hn1
    by_cases e1 : x = k
    · rw [if_pos e1] at hrs
      have hfin : Hid (r = (k, false)) := hrs.symm
      subst e1
      clear hrs
      go_wp2_with fail
      refine hN.out.mono ?_
      rintro e W1 ⟨rfl, hW1⟩
      have hw1 : Hid (W1 = w) := by unfold Hid; rw [hW1]; exact hw.out
      clear hW1 hN
      go_wp2_with fail
      go_ret2
      exact ⟨ret_pair (by rw [hfin.out]) (by rw [hfin.out]), hw1.out⟩
    · rw [if_neg e1] at hrs
      by_cases e2 : x = s.size
      · rw [if_pos (Or.inl e2)] at hrs
        have hfin : Hid (r = (x, decide (2 ≤ m))) := hrs.symm
        clear hrs
        go_wp2_with fail
        refine hN.out.mono ?_
        rintro e W1 ⟨rfl, hW1⟩
        have hw1 : Hid (W1 = w) := by unfold Hid; rw [hW1]; exact hw.out
        clear hW1 hN
        go_wp2_with fail
        go_ret2
        exact ⟨ret_pair (by rw [hfin.out]; show ((s.size : Nat) : Int) = (x : Int); rw [e2]) (by rw [hfin.out]; simp; omega), hw1.out⟩
      · have hlt : x < s.size := by omega
        rw [getD_s s x hlt] at hrs
        by_cases e3 : s[x].toNat = 46
        · rw [if_neg (fun h => h.elim e2 (fun h => h e3))] at hrs
          have hfin : Hid (idE s.data.toList n1 (m + 1) (x + 1) = r) := hrs
          have hlt' : Hid (x < s.size ∧ k < x) := ⟨hlt, by omega⟩
          clear hrs
          go_wp2_with fail
          refine hN.out.mono ?_
          rintro e W1 ⟨rfl, hW1⟩
          have hw1 : Hid (W1 = w) := by unfold Hid; rw [hW1]; exact hw.out
          clear hW1 hN
          go_wp2_with fail
          refine ⟨⟨x + 1, m + 1, n1, by omega, by omega, by simp, by simp, hw1, ⟨?_, hfin.out⟩⟩, ?_⟩
          · have := hrk.out.1; have := hn1'.out; omega
          · have := hlt'.out
            simp [intOf]
            omega
        · rw [if_pos (Or.inr e3)] at hrs
          have hfin : Hid (r = (x, decide (2 ≤ m))) := hrs.symm
          have e3' : ((s[x].toNat : Int) != 46) = true := by rw [bne_iff_ne]; omega
          clear hrs e3
          go_wp2_with fail
          refine hN.out.mono ?_
          rintro e W1 ⟨rfl, hW1⟩
          have hw1 : Hid (W1 = w) := by unfold Hid; rw [hW1]; exact hw.out
          clear hW1 hN
          go_wp2_with fail
          go_ret2
          exact ⟨ret_pair (by rw [hfin.out]) (by rw [hfin.out]; simp; omega), hw1.out⟩
/-- How far a type's text reaches, and whether it is a whole one up to there. -/
def typE (l : List UInt8) : Nat × Bool := if ¬ l = [] ∧ isL (l.getD 0 0) = true then (runE isK l 1, true) else idE l (l.length + 1) 1 0
theorem idE_le (l : List UInt8) : ∀ n m e, e ≤ l.length → (idE l n m e).1 ≤ l.length
  | 0, _, _, h => h
  | n + 1, m, e, h => by
    have h1 := numE_le l e h
    unfold idE
    split
    · exact h
    · split
      · exact h1.2
      · rename_i h2
        refine idE_le l n (m + 1) _ ?_
        rcases Nat.lt_or_ge (numE l e) l.length with h3 | h3
        · omega
        · exact absurd (Or.inl (by omega)) h2
theorem typE_le (l : List UInt8) : (typE l).1 ≤ l.length := by
  unfold typE
  split
  · rename_i h
    exact (runE_le _ _ _ (List.length_pos_iff.2 h.1)).2
  · exact idE_le _ _ _ _ (Nat.zero_le _)
set_option maxHeartbeats 1000000 in
theorem typeEnd_any (s : ByteArray) (w : World) (hs : s.size ≤ 140737488355328) :
    Calls Tryz.prog 83 #[.string s] w fun e w' => e = .returned (.tuple #[.int .i64 ((typE s.data.toList).1 : Int), .bool (typE s.data.toList).2]) ∧ w' = w := by
  have hI : Hid (Calls Tryz.prog 98 #[.string s] w fun e w' => e = .returned (.tuple #[.int .i64 ((idE s.data.toList (s.size + 1) 1 0).1 : Int), .bool (idE s.data.toList (s.size + 1) 1 0).2]) ∧ w' = w) := identifierEnd_any s w hs
  obtain ⟨r, hr⟩ : ∃ r, typE s.data.toList = r := ⟨_, rfl⟩
  rw [hr]
  have hr' : Hid (typE s.data.toList = r) := hr
  clear hr
  by_cases h0 : s.size = 0
  · have hnil : s.data.toList = [] := List.length_eq_zero_iff.1 (by rw [size_l]; exact h0)
    have hem : s.toList.isEmpty = true := by rw [Lib.toList_data, hnil]; rfl
    have hfin : Hid (r = idE s.data.toList (s.size + 1) 1 0) := by unfold Hid; rw [← hr'.out]; unfold typE; rw [if_neg (fun h => h.1 hnil), size_l]
    clear hnil h0
    go_enter Tryz.func83, Tryz.ntmps83
    go_wp2_with fail
    refine hI.out.mono ?_
    rintro e W1 ⟨rfl, rfl⟩
    go_wp2_with fail
    go_ret2
    exact ⟨by rw [hfin.out]; rfl, rfl⟩
  · have hlt : 0 < s.size := by omega
    have hnn : ¬ s.data.toList = [] := fun h => h0 (by rw [← size_l, h]; rfl)
    have hem : s.toList.isEmpty = false := by rw [Lib.toList_data]; simpa using hnn
    have hg := getD_s s 0 hlt
    have hT : Hid (Calls Tryz.prog 97 #[.int .u8 (s[0].toNat : Int)] w fun e w' => e = .returned (.bool (isL s[0])) ∧ w' = w) := letter_any s[0] w
    have hK : Hid (Calls Tryz.prog 84 #[.string s, .int .i64 1, .func (.func 85) #[] #[]] w fun e w' => e = .returned (.int .i64 (runE isK s.data.toList 1 : Int)) ∧ w' = w) := runEnd_any isK _ enter_key key_any s 1 w hlt hs
    cases hl : isL s[0] with
    | true =>
      have hfin : Hid (r = (runE isK s.data.toList 1, true)) := by unfold Hid; rw [← hr'.out]; unfold typE; rw [if_pos ⟨hnn, by rw [hg]; exact hl⟩]
      rw [hl] at hT
      clear hg hnn h0 hl
      go_enter Tryz.func83, Tryz.ntmps83
      go_wp2_with fail
      refine hT.out.mono ?_
      rintro e W1 ⟨rfl, rfl⟩
      go_wp2_with fail
      refine hK.out.mono ?_
      rintro e W1 ⟨rfl, rfl⟩
      go_wp2_with fail
      go_ret2
      exact ⟨by rw [hfin.out]; rfl, rfl⟩
    | false =>
      have hfin : Hid (r = idE s.data.toList (s.size + 1) 1 0) := by unfold Hid; rw [← hr'.out]; unfold typE; rw [if_neg (fun h => by rw [hg, hl] at h; exact absurd h.2 (by decide)), size_l]
      rw [hl] at hT
      clear hg hnn h0 hl
      go_enter Tryz.func83, Tryz.ntmps83
      go_wp2_with fail
      refine hT.out.mono ?_
      rintro e W1 ⟨rfl, rfl⟩
      go_wp2_with fail
      refine hI.out.mono ?_
      rintro e W1 ⟨rfl, rfl⟩
      go_wp2_with fail
      go_ret2
      exact ⟨by rw [hfin.out]; rfl, rfl⟩
end Go.Proofs.YtoomoicjoockjaaGreatDoor

namespace Go.Proofs.YtoomoicjoockjaaGreatDoor
open Go.RowKit
open TextMath (fold lo)

/-- What ParseType answers of a folded text: the canonical type, the error, the place. -/
def parsT (f : ByteArray) : ByteArray × Int × Nat := if (typE f.data.toList).2 = true ∧ ¬ (typE f.data.toList).1 < f.size then (canN f, 0, (typE f.data.toList).1) else (⟨#[]⟩, 40, (typE f.data.toList).1)
end Go.Proofs.YtoomoicjoockjaaGreatDoor

namespace Go.Proofs.YtoomoicjoockjaaGreatDoor
open Go.RowKit
set_option linter.unusedVariables false

theorem mk_set (n : Nat) (w : World) : (Instr.makeMap 132 (some (.int .i64 (n : Int)))).run Tryz.prog w = .ok (.map (some w.heap.size)) (w.alloc (.map #[] 0)) := by
  simp [Instr.makeMap, run_underlying Tryz.underlying132, asInt]
  rfl
theorem lit_ne {x y : List UInt8} (h : ¬ x = y) : (Lit.string x) ≠ .string y := fun e => h (by injection e)
/-- A row of texts by its cells: nothing, or a block. -/
def TRow (w : World) (a : Option Addr) (l : List (List UInt8)) : Prop := ∀ i (hi : i < l.length), ∃ g, a = some ⟨g, 0, none⟩ ∧ w.cell? ⟨g, i, none⟩ = some (.string (S l[i]))
theorem ownS_trow {w : World} {B : Nat} {v : Value} {l : List (List UInt8)} (h : OwnS w B v l) : ∃ a c, v = .slice a l.length c ∧ TRow w a l := by
  rcases ownS_form h with ⟨rfl, rfl⟩ | ⟨g, cap, rfl⟩
  · exact ⟨none, 0, rfl, fun i hi => by simp at hi⟩
  · exact ⟨_, _, rfl, fun i hi => ⟨g, rfl, ownS_cell h i hi⟩⟩
theorem TRow.below {w w' : World} {a : Option Addr} {l : List (List UInt8)} (h : TRow w a l) (hb : Below w.heap.size w w') : TRow w' a l := fun i hi => by
  obtain ⟨g, e, h1⟩ := h i hi
  refine ⟨g, e, ?_⟩
  rw [hb.cell (World.block_lt_of_cell? w _ h1)]
  exact h1

/-- A map that holds just the texts of a list, none twice. -/
def SetIs (D : DataW Unit) (L : List (List UInt8)) : Prop := (∀ x, Maps.has D (.string x) = decide (x ∈ L)) ∧ L.Nodup ∧ Maps.size D = L.length
theorem SetIs.zero : SetIs (.map []) [] := ⟨fun x => rfl, List.nodup_nil, rfl⟩
theorem SetIs.put {D : DataW Unit} {L : List (List UInt8)} (h : SetIs D L) (hm : Maps.IsMap D) (ht : Maps.Tidy D) (x : List UInt8) : ∃ L', SetIs (D.put (.string x) (.agg [])) L' ∧ ∀ y, y ∈ L' ↔ y ∈ L ∨ y = x := by
  have hx := h.1 x
  by_cases e : x ∈ L
  · refine ⟨L, ⟨fun y => ?_, h.2.1, ?_⟩, fun y => ⟨Or.inl, fun q => by rcases q with q | rfl <;> assumption⟩⟩
    · by_cases ey : y = x
      · subst ey; rw [Maps.has_put_same hm (show WideAt.IsKeyLit (Lit.string _) from trivial)]; simp [e]
      · rw [Maps.has_put_other (lit_ne ey), h.1 y]
    · rw [Maps.size_put ht, hx, if_pos (by simp [e])]; exact h.2.2
  · refine ⟨L ++ [x], ⟨fun y => ?_, ?_, ?_⟩, fun y => by simp⟩
    · by_cases ey : y = x
      · subst ey; rw [Maps.has_put_same hm (show WideAt.IsKeyLit (Lit.string _) from trivial)]; simp
      · rw [Maps.has_put_other (lit_ne ey), h.1 y]; simp [ey]
    · rw [List.nodup_append]
      refine ⟨h.2.1, by simp, ?_⟩
      intro a ha b hb
      simp at hb
      subst hb
      intro q
      subst q
      exact e ha
    · rw [Maps.size_put ht, hx, if_neg (by simp [e]), h.2.2]; simp
theorem SetIs.del {D : DataW Unit} {L : List (List UInt8)} (h : SetIs D L) (ht : Maps.Tidy D) (x : List UInt8) : SetIs (D.del (.string x)) (L.erase x) := by
  have hx := h.1 x
  have hs := Maps.size_del (k := .string x) ht
  refine ⟨fun y => ?_, h.2.1.erase x, ?_⟩
  · by_cases ey : y = x
    · subst ey; rw [Maps.has_del_same]; simp [h.2.1.mem_erase_iff]
    · rw [Maps.has_del_other (lit_ne ey), h.1 y]; simp [h.2.1.mem_erase_iff, ey]
  · rw [hx, h.2.2] at hs
    by_cases e : x ∈ L
    · rw [if_pos (by simp [e])] at hs
      rw [List.length_erase_of_mem e]
      omega
    · rw [if_neg (by simp [e])] at hs
      rw [List.erase_of_not_mem e]
      omega

/-- What gather leaves behind. -/
def GatherIs (w w' : World) (l : List (List UInt8)) : Prop := ∃ D L, w'.ownsMap Tryz.prog 9 (unitElem (H := Unit)) w.heap.size l.length D ∧ SetIs D L ∧ (∀ x, x ∈ L ↔ x ∈ l) ∧ Below w.heap.size w w' ∧ w.heap.size < w'.heap.size
set_option maxRecDepth 100000 in
set_option maxHeartbeats 1000000 in
theorem gather_any (a : Option Addr) (l : List (List UInt8)) (c : Nat) (w : World) (hv : TRow w a l) (hl : l.length ≤ 4194304) (hz : ∀ x ∈ l, x.length ≤ 4194304) :
    Calls Tryz.prog 88 #[.slice a l.length c] w fun e w' => e = .returned (.map (some w.heap.size)) ∧ GatherIs w w' l := by
  have hmm := mk_set l.length
  have hv' : Hid (TRow w a l) := hv
  have hz' : Hid (∀ x ∈ l, x.length ≤ 4194304) := hz
  clear hv hz
  go_enter Tryz.func88, Tryz.ntmps88
  go_wp2_with fail
  clear hmm
  go_loopw [11] (fun iv wr => ∃ (k : Nat) (D : DataW Unit) (L : List (List UInt8)), k ≤ l.length ∧ iv = .int .i64 (k : Int) ∧ Hid (wr.ownsMap Tryz.prog 9 (unitElem (H := Unit)) w.heap.size k D) ∧ Hid (SetIs D L ∧ ∀ x, x ∈ L ↔ x ∈ l.take k) ∧ Hid (Below w.heap.size w wr ∧ w.heap.size < wr.heap.size)) (fun iv _ => l.length - (intOf iv).toNat)
  case atStart =>
    exact ⟨0, .map [], [], Nat.zero_le _, rfl, World.ownsMap_made _ _ _ _, ⟨SetIs.zero, fun x => by simp⟩, (Below.refl _ _).alloc (Nat.le_refl _) _, by simp⟩
  case round =>
    obtain ⟨k, D, L, hk, rfl, hM, hD, hB⟩ := hrel
    by_cases hlt : k < l.length
    · obtain ⟨g, rfl, hc⟩ := (hv'.out.below hB.out.1) k hlt
      have k0 : (0 : Int) ≤ (k : Int) := Int.natCast_nonneg _
      have k1 : (k : Int) < (l.length : Int) := Int.ofNat_lt.2 hlt
      have hkey : Hid (keyOf Tryz.prog 9 (.string (S l[k])) = some (.string l[k])) := by
        have h := key_str (S l[k]) (by rw [S_size]; have := hz'.out _ (List.getElem_mem hlt); unfold maxLen; omega)
        rw [S_l] at h
        exact h
      obtain ⟨L', hL1, hL2⟩ := hD.out.1.put hM.out.isMap (hM.out.tidy (Maps.string_keyed Tryz.underlying9)) l[k]
      have hD' : Hid (SetIs (D.put (.string l[k]) (.agg [])) L' ∧ ∀ x, x ∈ L' ↔ x ∈ l.take (k + 1)) := by
        refine ⟨hL1, fun x => ?_⟩
        rw [hL2, hD.out.2, List.take_succ_eq_append_getElem hlt, List.mem_append, List.mem_singleton]
      have hkm : k < maxLen := by unfold maxLen; omega
      clear hD hL1 hL2
      generalize S l[k] = X at *
      go_wp2_with (at_mapUpdate; refine wpList_mapUpdate_own _ rfl _ _ _ 132 rfl 9 146 (Maps.string_keyed Tryz.underlying9) Tryz.underlying132 (unitElem (H := Unit)) w.heap.size k D rfl hM.out hkm _ _ _ rfl rfl hkey.out _ [] unitElem_mk ?_; intro w1 hown1 hgrow1)
      go_roundw
      case rel =>
        refine ⟨k + 1, _, L', hlt, by simp, hown1, hD', ?_⟩
        exact ⟨hB.out.1.grown hgrow1 hB.out.1.size (fun j hj => by cases hj; exact Nat.le_refl _), Nat.lt_of_lt_of_le hB.out.2 hgrow1.size⟩
      case measure => simp [intOf]; omega
    · have hke : k = l.length := by omega
      have k1 : ¬ (k : Int) < (l.length : Int) := by omega
      have hfin : Hid (wr.ownsMap Tryz.prog 9 (unitElem (H := Unit)) w.heap.size l.length D ∧ SetIs D L ∧ (∀ x, x ∈ L ↔ x ∈ l)) := by
        rw [hke] at hM hD
        refine ⟨hM.out, hD.out.1, fun x => ?_⟩
        rw [hD.out.2 x, List.take_length]
      clear hM hD hke
      go_wp2_with fail
      go_ret
      exact ⟨rfl, D, L, hfin.out.1, hfin.out.2.1, hfin.out.2.2, hB.out⟩

/-- Whether each asked text is there. -/
def holds (there asked : List (List UInt8)) : Bool := asked.all fun x => decide (x ∈ there)
end Go.Proofs.YtoomoicjoockjaaGreatDoor
