import Derived.Test.YtgdinncdhjeokaaGreatDoorFAtMap
import Derived.Test.YtgdinncdhjeokaaGreatDoorFNorm
import Derived.Test.YtgdinncdhjeokaaGreatDoorAtOwn
import Derived.Test.YtgdinncdhjeokaaGreatDoorBytes
import Derived.Test.YtgdinncdhjeokaaGreatDoorInfo
namespace Go.Proofs.YtgdinncdhjeokaaGreatDoor
open Go.RowKit
set_option linter.unusedVariables false

/-- A row's name; the number of the row above. -/
def nmN (n : Nat) : List UInt8 := if h : n < 62 then (rowL ⟨n, h⟩).1.data.toList else []
def upN (n : Nat) : Nat := (SUP.getD n 0).toNat
/-- The names from a row on upwards; 0: none. -/
def chn : Nat → Nat → List (List UInt8)
  | 0, _ => []
  | k + 1, n => if n = 0 then [] else nmN n :: chn k (upN n)
theorem up_lt : ∀ n : Fin 62, SUP.getD n.val 0 = (upN n.val : Int) ∧ upN n.val < 62 := by decide +kernel
theorem chn_step : ∀ n : Fin 62, ¬ n.val = 0 → chn 3 n.val = nmN n.val :: chn 3 (upN n.val) := by decide +kernel
theorem chn_len : ∀ n : Fin 62, (chn 3 n.val).length ≤ 3 := by decide +kernel
/-- The number of the row that a text names; 0, if it names none. -/
def noN (f : ByteArray) : Nat := match rowOf f with
  | none => 0
  | some i => i.1
theorem noN_lt (f : ByteArray) : noN f < 62 := by
  unfold noN
  cases rowOf f with
  | none => decide
  | some i => exact i.2
/-- What lineage answers of a folded text. -/
def lin (f : ByteArray) : List (List UInt8) := (canN f).data.toList :: chn 3 (upN (noN f))
theorem up_zero : upN 0 = 0 := by decide

set_option maxRecDepth 100000 in
set_option maxHeartbeats 400000 in
theorem canonicalG_any (zs : List ByteArray) (f : ByteArray) (hf : f ∈ zs) (b B : Nat) (W : World) (hbk : Book W b B) (hM : W.ownsMap Tryz.prog 9 (plainElem (H := Nat) Tryz.prog 3) B 186 (mapD zs (upF 62))) (hfz : f.size ≤ maxLen) :
    Calls Tryz.prog 67 #[.pointer (some ⟨b, 0, none⟩), .string f] W fun e w' => e = .returned (.string (canN f)) ∧ w' = W := by
  have hV := view_all zs f hf
  obtain ⟨D, hD⟩ : ∃ D, mapD zs (upF 62) = D := ⟨_, rfl⟩
  rw [hD] at hM hV
  have hM4 : Hid (W.ownsMap Tryz.prog 9 (plainElem (H := Nat) Tryz.prog 3) B 186 D) := hM
  have hkey : Hid (keyOf Tryz.prog 9 (.string f) = some (.string f.data.toList)) := key_str f hfz
  have q4 := hbk.map
  have hbk' : Hid (Book W b B) := hbk
  have hV' : Hid (View D f (rowOf f)) := hV
  clear hD hM hbk hV
  cases hrow : rowOf f with
  | none =>
    have hhas' : Maps.has D (.string f.data.toList) = false := by have := hV'.out.2.1; rw [hrow] at this; exact this
    have hfin : Hid (canN f = f) := by unfold Hid canN; rw [hrow]
    clear hV'
    go_enter Tryz.func67, Tryz.ntmps67
    go_wp2_with (at_lookup; refine wpList_lookup_own_ok_int _ rfl _ _ 118 rfl 9 3 .i64 (Maps.string_keyed Tryz.underlying9) Tryz.underlying118 Tryz.underlying3 (Tryz.zeroValue3 _) B 186 D rfl hM4.out _ _ rfl hkey.out ?_; intro c hatc hwc)
    go_ret
    exact ⟨by rw [hfin.out]; rfl, rfl⟩
  | some i =>
    have hhas' : Maps.has D (.string f.data.toList) = true := by have := hV'.out.2.1; rw [hrow] at this; exact this
    have hati' : Hid (D.atKey (.string f.data.toList) (.lit (.int .i64 0)) = .lit (.int .i64 (i.1 : Int))) := hV'.out.2.2 i hrow _
    have hfin : Hid (canN f = (rowL i).1) := by unfold Hid canN; rw [hrow]
    obtain ⟨c0, _, _⟩ := hbk'.out.cells i
    have i0 : (0 : Int) ≤ (i.1 : Int) := Int.natCast_nonneg _
    have i1 : (i.1 : Int) < 62 := by have := i.2; omega
    clear hV'
    go_enter Tryz.func67, Tryz.ntmps67
    go_wp2_with (at_lookup; refine wpList_lookup_own_ok_int _ rfl _ _ 118 rfl 9 3 .i64 (Maps.string_keyed Tryz.underlying9) Tryz.underlying118 Tryz.underlying3 (Tryz.zeroValue3 _) B 186 D rfl hM4.out _ _ rfl hkey.out ?_; intro c hatc hwc; obtain rfl : c = (i.1 : Int) := (by rw [hati'.out] at hatc; injection hatc with hatc; injection hatc with _ hatc; exact hatc.symm))
    go_ret
    exact ⟨by rw [hfin.out]; rfl, rfl⟩

/-- What the map says of a text, as a number. -/
theorem atNo (zs : List ByteArray) (f : ByteArray) (hf : f ∈ zs) : (mapD zs (upF 62)).atKey (.string f.data.toList) (.lit (.int .i64 0)) = .lit (.int .i64 (noN f : Int)) := by
  have hV := view_all zs f hf
  unfold noN
  cases hrow : rowOf f with
  | none =>
    rw [hrow] at hV
    have h := hV.2.1
    exact Maps.atKey_of_not_has h _
  | some i => exact hV.2.2 i hrow _

end Go.Proofs.YtgdinncdhjeokaaGreatDoor

namespace Go.Proofs.YtgdinncdhjeokaaGreatDoor
open Go.RowKit

/-- A small letter; a digit; a key character (of a folded text). -/
def isL (b : UInt8) : Bool := decide (97 ≤ (b.toNat : Int)) && decide ((b.toNat : Int) ≤ 122)
def isD (b : UInt8) : Bool := decide (48 ≤ (b.toNat : Int)) && decide ((b.toNat : Int) ≤ 57)
def isK (b : UInt8) : Bool := isL b || isD b || decide ((b.toNat : Int) = 45)
theorem letter_any (b : UInt8) (w : World) : Calls Tryz.prog 88 #[.int .u8 (b.toNat : Int)] w fun e w' => e = .returned (.bool (isL b)) ∧ w' = w := by
  unfold isL
  by_cases h1 : (97 : Int) ≤ b.toNat
  · by_cases h2 : (b.toNat : Int) ≤ 122
    · go_enter Tryz.func88, Tryz.ntmps88
      go_wp2_with fail
      go_ret
      exact ⟨ret_bool (by simp [h1, h2]), rfl⟩
    · go_enter Tryz.func88, Tryz.ntmps88
      go_wp2_with fail
      go_ret
      exact ⟨ret_bool (by simp [h2]), rfl⟩
  · go_enter Tryz.func88, Tryz.ntmps88
    go_wp2_with fail
    go_ret
    exact ⟨ret_bool (by simp; omega), rfl⟩
theorem digit_any (b : UInt8) (w : World) : Calls Tryz.prog 90 #[.int .u8 (b.toNat : Int)] w fun e w' => e = .returned (.bool (isD b)) ∧ w' = w := by
  unfold isD
  by_cases h1 : (48 : Int) ≤ b.toNat
  · by_cases h2 : (b.toNat : Int) ≤ 57
    · go_enter Tryz.func90, Tryz.ntmps90
      go_wp2_with fail
      go_ret
      exact ⟨ret_bool (by simp [h1, h2]), rfl⟩
    · go_enter Tryz.func90, Tryz.ntmps90
      go_wp2_with fail
      go_ret
      exact ⟨ret_bool (by simp [h2]), rfl⟩
  · go_enter Tryz.func90, Tryz.ntmps90
    go_wp2_with fail
    go_ret
    exact ⟨ret_bool (by simp; omega), rfl⟩
set_option maxHeartbeats 1000000 in
theorem key_any (b : UInt8) (w : World) : Calls Tryz.prog 78 #[.int .u8 (b.toNat : Int)] w fun e w' => e = .returned (.bool (isK b)) ∧ w' = w := by
  have hl : Hid (Calls Tryz.prog 88 #[.int .u8 (b.toNat : Int)] w fun e w' => e = .returned (.bool (isL b)) ∧ w' = w) := letter_any b w
  have hd : Hid (Calls Tryz.prog 90 #[.int .u8 (b.toNat : Int)] w fun e w' => e = .returned (.bool (isD b)) ∧ w' = w) := digit_any b w
  unfold isK
  generalize isL b = x at *
  generalize isD b = y at *
  cases x with
  | true =>
    go_enter Tryz.func78, Tryz.ntmps78
    go_wp2_with fail
    refine hl.out.mono ?_
    rintro e W1 ⟨rfl, rfl⟩
    go_wp2_with fail
    go_ret
    exact ⟨rfl, rfl⟩
  | false =>
    cases y with
    | true =>
      go_enter Tryz.func78, Tryz.ntmps78
      go_wp2_with fail
      refine hl.out.mono ?_
      rintro e W1 ⟨rfl, rfl⟩
      go_wp2_with fail
      refine hd.out.mono ?_
      rintro e W1 ⟨rfl, rfl⟩
      go_wp2_with fail
      go_ret
      exact ⟨rfl, rfl⟩
    | false =>
      go_enter Tryz.func78, Tryz.ntmps78
      go_wp2_with fail
      refine hl.out.mono ?_
      rintro e W1 ⟨rfl, rfl⟩
      go_wp2_with fail
      refine hd.out.mono ?_
      rintro e W1 ⟨rfl, rfl⟩
      by_cases h : (b.toNat : Int) = 45
      · go_wp2_with fail
        go_ret
        exact ⟨ret_bool (by simp [h]), rfl⟩
      · go_wp2_with fail
        go_ret
        exact ⟨ret_bool (by simp [h]), rfl⟩

/-- Where the bytes of a kind from b on end. -/
def runE (p : UInt8 → Bool) (l : List UInt8) (b : Nat) : Nat := b + ((l.drop b).takeWhile p).length
theorem runE_on (p : UInt8 → Bool) (l : List UInt8) (b : Nat) (h : b < l.length) (hp : p l[b] = true) : runE p l b = runE p l (b + 1) := by
  unfold runE
  rw [List.drop_eq_getElem_cons h, List.takeWhile_cons, if_pos hp, List.length_cons]
  omega
theorem runE_off (p : UInt8 → Bool) (l : List UInt8) (b : Nat) (h : b < l.length) (hp : p l[b] = false) : runE p l b = b := by
  unfold runE
  rw [List.drop_eq_getElem_cons h, List.takeWhile_cons, if_neg (by rw [hp]; decide)]
  rfl
theorem runE_end (p : UInt8 → Bool) (l : List UInt8) (b : Nat) (h : l.length ≤ b) : runE p l b = b := by
  unfold runE
  rw [List.drop_eq_nil_of_le h]
  rfl
set_option maxHeartbeats 400000 in
theorem runEnd_any (p : UInt8 → Bool) (q : FuncId) (hent : ∀ args W, (callFunc q args).run Tryz.prog W = .ok (.enter q args) W)
    (hq : ∀ (b : UInt8) (w : World), Calls Tryz.prog q #[.int .u8 (b.toNat : Int)] w fun e w' => e = .returned (.bool (p b)) ∧ w' = w)
    (s : ByteArray) (b : Nat) (w : World) (hb : b ≤ s.size) (hs : s.size ≤ 140737488355328) :
    Calls Tryz.prog 77 #[.string s, .int .i64 (b : Int), .func (.func q) #[] #[]] w fun e w' => e = .returned (.int .i64 (runE p s.data.toList b : Int)) ∧ w' = w := by
  have hq' : ∀ b w, Hid (Calls Tryz.prog q #[.int .u8 (UInt8.toNat b : Int)] w fun e w' => e = .returned (.bool (p b)) ∧ w' = w) := hq
  clear hq
  obtain ⟨r, hr⟩ : ∃ r, runE p s.data.toList b = r := ⟨_, rfl⟩
  have hL : Hid (s.data.toList.length = s.size) := size_l s
  rw [hr]
  have hr' : Hid (runE p s.data.toList b = r) := hr
  clear hr
  go_enter Tryz.func77, Tryz.ntmps77
  go_wp2_with fail
  go_loopw [7] (fun iv wr => ∃ k : Nat, k ≤ s.size ∧ iv = .int .i64 (k : Int) ∧ Hid (wr = w) ∧ Hid (runE p s.data.toList k = r)) (fun iv _ => s.size - (intOf iv).toNat)
  case atStart => exact ⟨b, hb, rfl, rfl, hr'⟩
  case round =>
    obtain ⟨k, hk, rfl, hw, hrk⟩ := hrel
    by_cases hlt : k < s.size
    · have hkl : k < s.data.toList.length := by rw [hL.out]; exact hlt
      have hget : s.data.toList[k] = s[k] := rfl
      have hc := hq' s[k] wr
      have hon := runE_on p s.data.toList k hkl
      have hoff := runE_off p s.data.toList k hkl
      rw [hget] at hon hoff
      have hon' : Hid (p s[k] = true → runE p s.data.toList k = runE p s.data.toList (k + 1)) := hon
      have hoff' : Hid (p s[k] = false → runE p s.data.toList k = k) := hoff
      clear hon hoff hget
      generalize hpx : p s[k] = x at *
      clear hpx
      go_wp2_with fail
      refine hc.out.mono ?_
      rintro e W1 ⟨rfl, hW1⟩
      have hw1 : Hid (W1 = w) := by unfold Hid; rw [hW1]; exact hw.out
      clear hW1 hc
      cases x with
      | true =>
        have hnx : Hid (runE p s.data.toList (k + 1) = r) := by unfold Hid; rw [← hon'.out rfl]; exact hrk.out
        have hlt' : Hid (k < s.size) := hlt
        go_wp2_with fail
        refine ⟨⟨k + 1, hlt'.out, by simp, hw1, hnx⟩, ?_⟩
        have := hlt'.out
        simp [intOf]
        omega
      | false =>
        have hfin : Hid (r = k) := by unfold Hid; rw [← hrk.out]; exact hoff'.out rfl
        go_wp2_with fail
        go_ret
        exact ⟨ret_int (by rw [hfin.out]), hw1.out⟩
    · have hke : k = s.size := by omega
      have hfin : Hid (r = k) := by unfold Hid; rw [← hrk.out]; exact runE_end _ _ _ (by rw [hL.out]; omega)
      go_wp2_with fail
      go_ret
      exact ⟨ret_int (by rw [hfin.out]), hw.out⟩
end Go.Proofs.YtgdinncdhjeokaaGreatDoor
