import Derived.Test.YtkknenmpdimdbaaGreatDoorFW8
import Derived.Shelf.Abstract
import Derived.Shelf.SlSortCmp.SmallK
namespace Go.Proofs.YtkknenmpdimdbaaGreatDoor
open Go.RowKit
theorem runE_le (p : UInt8 → Bool) (l : List UInt8) (b : Nat) (h : b ≤ l.length) : b ≤ runE p l b ∧ runE p l b ≤ l.length := by
 unfold runE
 have h1 : ((l.drop b).takeWhile p).length ≤ (l.drop b).length := (List.takeWhile_prefix p).length_le
 rw [List.length_drop] at h1
 omega
def numE (l : List UInt8) (b : Nat) : Nat := if (l.getD b 0).toNat = 48 ∧ b < l.length then b + 1 else runE isD l b
theorem numE_le (l : List UInt8) (b : Nat) (h : b ≤ l.length) : b ≤ numE l b ∧ numE l b ≤ l.length := by
 unfold numE
 split
 ·rename_i h'
  omega
 ·exact runE_le _ _ _ h
theorem enter_digit : ∀ args W, (callFunc 143 args).run Tryz.prog W = .ok (.enter 143 args) W := enters_of Tryz.func143 (by kernel_rfl) rfl
theorem enter_key : ∀ args W, (callFunc 114 args).run Tryz.prog W = .ok (.enter 114 args) W := enters_of Tryz.func114 (by kernel_rfl) rfl
set_option maxHeartbeats 400000 in
theorem numberEnd_any (s : ByteArray) (b : Nat) (w : World) (hb : b ≤ s.size) (hs : s.size ≤ 140737488355328) :
  Calls Tryz.prog 144 #[.string s, .int .i64 (b : Int)] w fun e w' => e = .returned (.int .i64 (numE s.data.toList b : Int)) ∧ w' = w := by
 have hr : Hid (Calls Tryz.prog 113 #[.string s, .int .i64 (b : Int), .func (.func 143) #[] #[]] w fun e w' => e = .returned (.int .i64 (runE isD s.data.toList b : Int)) ∧ w' = w) := runEnd_any isD _ enter_digit digit_any s b w hb hs
 by_cases hlt : b < s.size
 ·have hg := getD_s s b hlt
  by_cases h0 : s[b].toNat = 48
  ·have hn : Hid (numE s.data.toList b = b + 1) := by unfold Hid numE; rw [if_pos ⟨by rw [hg]; exact h0, by rw [size_l]; exact hlt⟩]
   clear hg
   go_enter Tryz.func144, Tryz.ntmps144
   go_wp2_with fail
   go_ret
   exact ⟨ret_int (by rw [hn.out]; simp), rfl⟩
  ·have hn : Hid (numE s.data.toList b = runE isD s.data.toList b) := by unfold Hid numE; rw [if_neg (by rw [hg]; exact fun h => h0 h.1)]
   clear hg
   go_enter Tryz.func144, Tryz.ntmps144
   go_wp2_with fail
   refine hr.out.mono ?_
   rintro e W1 ⟨rfl, rfl⟩
   go_wp2_with fail
   go_ret
   exact ⟨ret_int (by rw [hn.out]), rfl⟩
 ·have hn : Hid (numE s.data.toList b = runE isD s.data.toList b) := by unfold Hid numE; rw [if_neg (by rw [size_l]; exact fun h => hlt h.2)]
  go_enter Tryz.func144, Tryz.ntmps144
  go_wp2_with fail
  refine hr.out.mono ?_
  rintro e W1 ⟨rfl, rfl⟩
  go_wp2_with fail
  go_ret
  exact ⟨ret_int (by rw [hn.out]), rfl⟩
def idE (l : List UInt8) : Nat → Nat → Nat → Nat × Bool
 | 0, _, e => (e, false)
 | n + 1, m, e => if numE l e = e then (e, false) else if numE l e = l.length ∨ ¬ (l.getD (numE l e) 0).toNat = 46 then (numE l e, decide (2 ≤ m)) else idE l n (m + 1) (numE l e + 1)
theorem ret_pair {a b : Int} {x y : Bool} (h : a = b) (h' : x = y) : Ending.returned (.tuple #[.int .i64 a, .bool x]) = .returned (.tuple #[.int .i64 b, .bool y]) := by rw [h, h']
set_option maxHeartbeats 1000000 in
theorem identifierEnd_any (s : ByteArray) (w : World) (hs : s.size ≤ 140737488355328) :
  Calls Tryz.prog 115 #[.string s] w fun e w' => e = .returned (.tuple #[.int .i64 ((idE s.data.toList (s.size + 1) 1 0).1 : Int), .bool (idE s.data.toList (s.size + 1) 1 0).2]) ∧ w' = w := by
 obtain ⟨r, hr⟩ : ∃ r, idE s.data.toList (s.size + 1) 1 0 = r := ⟨_, rfl⟩
 have hL : Hid (s.data.toList.length = s.size) := size_l s
 rw [hr]
 have hr' : Hid (idE s.data.toList (s.size + 1 - 0) 1 0 = r) := hr
 clear hr
 go_enter Tryz.func115, Tryz.ntmps115
 go_wp2_with fail
 go_loopw [2, 4] (fun iv mv wr => ∃ k m n : Nat, k ≤ s.size ∧ m ≤ k + 1 ∧ iv = .int .i64 (k : Int) ∧ mv = .int .i64 (m : Int) ∧ Hid (wr = w) ∧ Hid (s.size + 1 - k ≤ n ∧ idE s.data.toList n m k = r)) (fun iv _ _ => s.size - (intOf iv).toNat)
 case atStart => exact ⟨0, 1, s.size + 1 - 0, by omega, by omega, rfl, rfl, rfl, ⟨by omega, hr'.out⟩⟩
 case round =>
  obtain ⟨k, m, n, hk, hm, rfl, rfl, hw, hrk⟩ := hrel
  have hN : Hid (Calls Tryz.prog 144 #[.string s, .int .i64 (k : Int)] wr fun e w' => e = .returned (.int .i64 (numE s.data.toList k : Int)) ∧ w' = wr) := numberEnd_any s k wr hk hs
  have hle := numE_le s.data.toList k (by rw [hL.out]; exact hk)
  rw [hL.out] at hle
  obtain ⟨n1, hn1⟩ : ∃ n1, n = n1 + 1 := ⟨n - 1, by have := hrk.out.1; omega⟩
  have hrs := hrk.out.2
  rw [hn1, idE] at hrs
  rw [hL.out] at hrs
  have hn1' : Hid (n = n1 + 1) := hn1
  obtain ⟨x, hx⟩ : ∃ x, numE s.data.toList k = x := ⟨_, rfl⟩
  rw [hx] at hN hle hrs
  obtain ⟨hl1, hl2⟩ := hle
  clear hx hn1
  by_cases e1 : x = k
  ·rw [if_pos e1] at hrs
   have hfin : Hid (r = (k, false)) := hrs.symm
   subst e1
   clear hrs
   go_wp2_with fail
   refine hN.out.mono ?_
   rintro e W1 ⟨rfl, hW1⟩
   have hw1 : Hid (W1 = w) := by unfold Hid; rw [hW1]; exact hw.out
   clear hW1 hN
   go_wp2_with fail
   go_ret2
   exact ⟨ret_pair (by rw [hfin.out]) (by rw [hfin.out]), hw1.out⟩
  ·rw [if_neg e1] at hrs
   by_cases e2 : x = s.size
   ·rw [if_pos (Or.inl e2)] at hrs
    have hfin : Hid (r = (x, decide (2 ≤ m))) := hrs.symm
    clear hrs
    go_wp2_with fail
    refine hN.out.mono ?_
    rintro e W1 ⟨rfl, hW1⟩
    have hw1 : Hid (W1 = w) := by unfold Hid; rw [hW1]; exact hw.out
    clear hW1 hN
    go_wp2_with fail
    go_ret2
    exact ⟨ret_pair (by rw [hfin.out]; show ((s.size : Nat) : Int) = (x : Int); rw [e2]) (by rw [hfin.out]; simp; omega), hw1.out⟩
   ·have hlt : x < s.size := by omega
    rw [getD_s s x hlt] at hrs
    by_cases e3 : s[x].toNat = 46
    ·rw [if_neg (fun h => h.elim e2 (fun h => h e3))] at hrs
     have hfin : Hid (idE s.data.toList n1 (m + 1) (x + 1) = r) := hrs
     have hlt' : Hid (x < s.size ∧ k < x) := ⟨hlt, by omega⟩
     clear hrs
     go_wp2_with fail
     refine hN.out.mono ?_
     rintro e W1 ⟨rfl, hW1⟩
     have hw1 : Hid (W1 = w) := by unfold Hid; rw [hW1]; exact hw.out
     clear hW1 hN
     go_wp2_with fail
     refine ⟨⟨x + 1, m + 1, n1, by omega, by omega, by simp, by simp, hw1, ⟨?_, hfin.out⟩⟩, ?_⟩
     ·have := hrk.out.1; have := hn1'.out; omega
     ·have := hlt'.out
      simp [intOf]
      omega
    ·rw [if_pos (Or.inr e3)] at hrs
     have hfin : Hid (r = (x, decide (2 ≤ m))) := hrs.symm
     have e3' : ((s[x].toNat : Int) != 46) = true := by rw [bne_iff_ne]; omega
     clear hrs e3
     go_wp2_with fail
     refine hN.out.mono ?_
     rintro e W1 ⟨rfl, hW1⟩
     have hw1 : Hid (W1 = w) := by unfold Hid; rw [hW1]; exact hw.out
     clear hW1 hN
     go_wp2_with fail
     go_ret2
     exact ⟨ret_pair (by rw [hfin.out]) (by rw [hfin.out]; simp; omega), hw1.out⟩
def typE (l : List UInt8) : Nat × Bool := if ¬ l = [] ∧ isL (l.getD 0 0) = true then (runE isK l 1, true) else idE l (l.length + 1) 1 0
theorem idE_le (l : List UInt8) : ∀ n m e, e ≤ l.length → (idE l n m e).1 ≤ l.length
 | 0, _, _, h => h
 | n + 1, m, e, h => by
  have h1 := numE_le l e h
  unfold idE
  split
  ·exact h
  ·split
   ·exact h1.2
   ·rename_i h2
    refine idE_le l n (m + 1) _ ?_
    rcases Nat.lt_or_ge (numE l e) l.length with h3 | h3
    ·omega
    ·exact absurd (Or.inl (by omega)) h2
theorem typE_le (l : List UInt8) : (typE l).1 ≤ l.length := by
 unfold typE
 split
 ·rename_i h
  exact (runE_le _ _ _ (List.length_pos_iff.2 h.1)).2
 ·exact idE_le _ _ _ _ (Nat.zero_le _)
set_option maxHeartbeats 1000000 in
theorem typeEnd_any (s : ByteArray) (w : World) (hs : s.size ≤ 140737488355328) :
  Calls Tryz.prog 82 #[.string s] w fun e w' => e = .returned (.tuple #[.int .i64 ((typE s.data.toList).1 : Int), .bool (typE s.data.toList).2]) ∧ w' = w := by
 have hI : Hid (Calls Tryz.prog 115 #[.string s] w fun e w' => e = .returned (.tuple #[.int .i64 ((idE s.data.toList (s.size + 1) 1 0).1 : Int), .bool (idE s.data.toList (s.size + 1) 1 0).2]) ∧ w' = w) := identifierEnd_any s w hs
 obtain ⟨r, hr⟩ : ∃ r, typE s.data.toList = r := ⟨_, rfl⟩
 rw [hr]
 have hr' : Hid (typE s.data.toList = r) := hr
 clear hr
 by_cases h0 : s.size = 0
 ·have hnil : s.data.toList = [] := List.length_eq_zero_iff.1 (by rw [size_l]; exact h0)
  have hem : s.toList.isEmpty = true := by rw [Lib.toList_data, hnil]; rfl
  have hfin : Hid (r = idE s.data.toList (s.size + 1) 1 0) := by unfold Hid; rw [← hr'.out]; unfold typE; rw [if_neg (fun h => h.1 hnil), size_l]
  clear hnil h0
  go_enter Tryz.func82, Tryz.ntmps82
  go_wp2_with fail
  refine hI.out.mono ?_
  rintro e W1 ⟨rfl, rfl⟩
  go_wp2_with fail
  go_ret2
  exact ⟨by rw [hfin.out]; rfl, rfl⟩
 ·have hlt : 0 < s.size := by omega
  have hnn : ¬ s.data.toList = [] := fun h => h0 (by rw [← size_l, h]; rfl)
  have hem : s.toList.isEmpty = false := by rw [Lib.toList_data]; simpa using hnn
  have hg := getD_s s 0 hlt
  have hT : Hid (Calls Tryz.prog 112 #[.int .u8 (s[0].toNat : Int)] w fun e w' => e = .returned (.bool (isL s[0])) ∧ w' = w) := letter_any s[0] w
  have hK : Hid (Calls Tryz.prog 113 #[.string s, .int .i64 1, .func (.func 114) #[] #[]] w fun e w' => e = .returned (.int .i64 (runE isK s.data.toList 1 : Int)) ∧ w' = w) := runEnd_any isK _ enter_key key_any s 1 w hlt hs
  cases hl : isL s[0] with
  | true =>
   have hfin : Hid (r = (runE isK s.data.toList 1, true)) := by unfold Hid; rw [← hr'.out]; unfold typE; rw [if_pos ⟨hnn, by rw [hg]; exact hl⟩]
   rw [hl] at hT
   clear hg hnn h0 hl
   go_enter Tryz.func82, Tryz.ntmps82
   go_wp2_with fail
   refine hT.out.mono ?_
   rintro e W1 ⟨rfl, rfl⟩
   go_wp2_with fail
   refine hK.out.mono ?_
   rintro e W1 ⟨rfl, rfl⟩
   go_wp2_with fail
   go_ret2
   exact ⟨by rw [hfin.out]; rfl, rfl⟩
  | false =>
   have hfin : Hid (r = idE s.data.toList (s.size + 1) 1 0) := by unfold Hid; rw [← hr'.out]; unfold typE; rw [if_neg (fun h => by rw [hg, hl] at h; exact absurd h.2 (by decide)), size_l]
   rw [hl] at hT
   clear hg hnn h0 hl
   go_enter Tryz.func82, Tryz.ntmps82
   go_wp2_with fail
   refine hT.out.mono ?_
   rintro e W1 ⟨rfl, rfl⟩
   go_wp2_with fail
   refine hI.out.mono ?_
   rintro e W1 ⟨rfl, rfl⟩
   go_wp2_with fail
   go_ret2
   exact ⟨by rw [hfin.out]; rfl, rfl⟩
end Go.Proofs.YtkknenmpdimdbaaGreatDoor

namespace Go.Proofs.YtkknenmpdimdbaaGreatDoor
open Go.RowKit
open TextMath (fold lo)
def parsT (f : ByteArray) : ByteArray × Int × Nat := if (typE f.data.toList).2 = true ∧ ¬ (typE f.data.toList).1 < f.size then (canN f, 0, (typE f.data.toList).1) else (⟨#[]⟩, 40, (typE f.data.toList).1)
set_option maxRecDepth 100000 in
set_option maxHeartbeats 1000000 in
theorem parseType_any (s : ByteArray) (w : World) (hs : s.size ≤ 140737488355328) :
  Calls Tryz.prog 51 #[.string s] w fun e w' => e = .returned (.tuple #[.string (parsT (S (fold s.data.toList))).1, .int .i64 (parsT (S (fold s.data.toList))).2.1, .int .i64 ((parsT (S (fold s.data.toList))).2.2 : Int)]) ∧ Below w.heap.size w w' := by
 obtain ⟨f, hf⟩ : ∃ f, S (fold s.data.toList) = f := ⟨_, rfl⟩
 have hF : Hid (Calls Tryz.prog 81 #[.string s] w fun e w' => e = .returned (.string f) ∧ Below w.heap.size w w') := by
  have h := fold_any s w (by unfold maxLen; omega)
  rw [hf] at h
  exact h
 have hfs : f.size ≤ 140737488355328 := by
  rw [← hf, S_size]
  unfold fold
  rw [List.length_map, size_l]
  exact hs
 have hfz : Hid (f.size ≤ maxLen) := by unfold Hid maxLen; omega
 rw [hf]
 clear hf
 obtain ⟨r, hr⟩ : ∃ r, parsT f = r := ⟨_, rfl⟩
 rw [hr]
 unfold parsT at hr
 have hT : ∀ W, Hid (Calls Tryz.prog 82 #[.string f] W fun e w' => e = .returned (.tuple #[.int .i64 ((typE f.data.toList).1 : Int), .bool (typE f.data.toList).2]) ∧ w' = W) := fun W => typeEnd_any f W hfs
 obtain ⟨p, hp⟩ : ∃ p, (typE f.data.toList).1 = p := ⟨_, rfl⟩
 obtain ⟨b, hb⟩ : ∃ b, (typE f.data.toList).2 = b := ⟨_, rfl⟩
 rw [hp, hb] at hr
 rw [hp, hb] at hT
 clear hp hb
 by_cases hok : b = true ∧ ¬ p < f.size
 ·rw [if_pos hok] at hr
  have hfin : Hid (r = (canN f, 0, p)) := hr.symm
  obtain ⟨rfl, hnp⟩ := hok
  clear hr
  go_enter Tryz.func51, Tryz.ntmps51
  go_wp2_with fail
  refine hF.out.mono ?_
  rintro e W1 ⟨rfl, hb1⟩
  have hb1' : Hid (Below w.heap.size w W1) := hb1
  have hT1 := hT W1
  clear hT hF hb1
  go_wp2_with fail
  refine hT1.out.mono ?_
  rintro e W1' ⟨rfl, hW1⟩
  obtain ⟨W2, hW2⟩ : ∃ W2, W1.alloc (.cells #[.string f] 9) = W2 := ⟨_, rfl⟩
  have hB2 : Below W1.heap.size W1 W2 := by rw [← hW2]; exact (Below.refl _ _).alloc (Nat.le_refl _) _
  have hc2 : W2.cell? ⟨W1.heap.size, 0, none⟩ = some (.string f) := by rw [← hW2]; exact (row_cell (heap_alloc_last W1 _) (j := 0) (by simp)).1
  have hOB := openBook_one f W1.heap.size W2 hc2
  have hH2 : Hid (Below w.heap.size w W2) := hb1'.out.trans (hB2.mono hb1'.out.size)
  subst hW1
  clear hT1 hb1' hB2 hc2
  go_wp2_with fail
  refine hOB.mono ?_
  rintro e W3 ⟨B, cs, hB, rfl, hcs, hcz, hco, hlast, hM3, hB3⟩
  have st := st_book W3 cs hcz hco
  obtain ⟨W4, hW4⟩ : ∃ W4, W3.alloc (.cells cs 133) = W4 := ⟨_, rfl⟩
  rw [hW4] at st
  have hB4 : Below W3.heap.size W3 W4 := by rw [← hW4]; exact (Below.refl _ _).alloc (Nat.le_refl _) _
  have hb4 : W4.heap[W3.heap.size]? = some (.cells cs 133 (0, 0)) := by rw [← hW4]; exact heap_alloc_last W3 _
  have hM4 : W4.ownsMap Tryz.prog 9 (plainElem (H := Nat) Tryz.prog 3) B 186 (mapD [f] (upF 62)) := by
   have h := hM3.out.kept (World.grownBy_alloc W3 (.cells cs 133) none) (by simp)
   rw [hW4] at h
   exact h
  have hbk4 : Book W4 W3.heap.size B := by unfold Book; rw [hcs.out]; exact hb4
  have hH4 : Hid (Below w.heap.size w W4) := by
   have h3 : Below W2.heap.size W2 W4 := hB3.trans (hB4.mono hB3.size)
   exact hH2.out.trans (h3.mono hH2.out.size)
  have hC : Hid (Calls Tryz.prog 84 #[.pointer (some ⟨W3.heap.size, 0, none⟩), .string f] W4 fun e w' => e = .returned (.string (canN f)) ∧ w' = W4) := canonical_any f W3.heap.size B W4 hbk4 hM4 hfz.out
  clear hM3 hB3 hB4 hb4 hH2 hOB hW4 hW2 hco hlast hM4 hbk4 hcs hB
  go_wp2_with fail
  refine hC.out.mono ?_
  rintro e W5 ⟨rfl, hW5⟩
  subst hW5
  clear st hcz hC
  go_wp2_with fail
  go_ret3
  exact ⟨by rw [hfin.out]; rfl, hH4.out⟩
 ·rw [if_neg hok] at hr
  have hfin : Hid (r = (⟨#[]⟩, 40, p)) := hr.symm
  clear hr
  go_enter Tryz.func51, Tryz.ntmps51
  go_wp2_with fail
  refine hF.out.mono ?_
  rintro e W1 ⟨rfl, hb1⟩
  have hb1' : Hid (Below w.heap.size w W1) := hb1
  have hT1 := hT W1
  clear hT hF hb1
  go_wp2_with fail
  refine hT1.out.mono ?_
  rintro e W1' ⟨rfl, hW1⟩
  subst hW1
  clear hT1
  cases b with
  | false =>
   clear hok
   go_wp2_with fail
   go_ret3
   exact ⟨by rw [hfin.out]; rfl, hb1'.out⟩
  | true =>
   have hlt : p < f.size := by
    rcases Nat.lt_or_ge p f.size with h | h
    ·exact h
    ·exact absurd ⟨rfl, by omega⟩ hok
   clear hok
   go_wp2_with fail
   go_ret3
   exact ⟨by rw [hfin.out]; rfl, hb1'.out⟩
end Go.Proofs.YtkknenmpdimdbaaGreatDoor

namespace Go.Proofs.YtkknenmpdimdbaaGreatDoor
namespace TextMath
def u (b : UInt8) : Int := (b.toNat : Int)
def ld (b : Int) : Int × Int × Int :=
 if b ≤ 127 then (1, 0, 0) else if b < 194 then (0, 0, 0) else if b ≤ 223 then (2, 128, 191)
 else if b = 224 then (3, 160, 191) else if b = 237 then (3, 128, 159) else if b ≤ 239 then (3, 128, 191)
 else if b = 240 then (4, 144, 191) else if b ≤ 243 then (4, 128, 191) else if b = 244 then (4, 128, 143) else (0, 0, 0)
def wi (b lo hi : Int) : Bool := decide (lo ≤ b) && decide (b ≤ hi)
def seqLen (l : List UInt8) : Nat :=
 let n := (ld (u (l.getD 0 0))).1
 if (l.length : Int) < n then 0
 else if n = 4 ∧ wi (u (l.getD 3 0)) 128 191 = false then 0
 else if (n = 4 ∨ n = 3) ∧ wi (u (l.getD 2 0)) 128 191 = false then 0
 else if (n = 4 ∨ n = 3 ∨ n = 2) ∧ wi (u (l.getD 1 0)) (ld (u (l.getD 0 0))).2.1 (ld (u (l.getD 0 0))).2.2 = false then 0
 else n.toNat
theorem ld_cases (b : Int) : (ld b).1 = 0 ∨ (ld b).1 = 1 ∨ (ld b).1 = 2 ∨ (ld b).1 = 3 ∨ (ld b).1 = 4 := by
 unfold ld; repeat' split
 all_goals simp
theorem seqLen_le (l : List UInt8) : seqLen l ≤ l.length := by
 unfold seqLen; simp only []
 repeat' split
 all_goals omega
theorem getD_app (l b : List UInt8) (i : Nat) (h : i < l.length) : (l ++ b).getD i 0 = l.getD i 0 := by
 simp [List.getD, List.getElem?_append_left h]
theorem seqLen_congr (l k : List UInt8) (h0 : k.getD 0 0 = l.getD 0 0) (n : Nat) (hn : seqLen l = n) (hp : 0 < n) (hl : n ≤ k.length)
  (h : ∀ i, i < n → k.getD i 0 = l.getD i 0) : seqLen k = n := by
 have hc := ld_cases (u (l.getD 0 0))
 have hle := seqLen_le l
 unfold seqLen at hn ⊢
 simp only [h0] at hn ⊢
 generalize (ld (u (l.getD 0 0))) = q at *
 obtain ⟨m, lo, hi⟩ := q
 simp only [] at hc hn ⊢
 rcases hc with rfl | rfl | rfl | rfl | rfl
 ·simp at hn; omega
 ·have hnn : n = 1 := by
   repeat' split at hn
   all_goals simp_all
  subst hnn
  simp; omega
 ·have hnn : n = 2 := by
   repeat' split at hn
   all_goals simp_all
  subst hnn
  have h1 := h 1 (by omega)
  simp only [h1]
  simp at hn ⊢
  repeat' split at hn
  all_goals simp_all
  all_goals omega
 ·have hnn : n = 3 := by
   repeat' split at hn
   all_goals simp_all
  subst hnn
  have h1 := h 1 (by omega)
  have h2 := h 2 (by omega)
  simp only [h1, h2]
  simp at hn ⊢
  repeat' split at hn
  all_goals simp_all
  all_goals omega
 ·have hnn : n = 4 := by
   repeat' split at hn
   all_goals simp_all
  subst hnn
  have h1 := h 1 (by omega)
  have h2 := h 2 (by omega)
  have h3 := h 3 (by omega)
  simp only [h1, h2, h3]
  simp at hn ⊢
  repeat' split at hn
  all_goals simp_all
  all_goals omega
theorem seqLen_app (l b : List UInt8) (hp : 0 < seqLen l) : seqLen (l ++ b) = seqLen l := by
 have hle := seqLen_le l
 exact seqLen_congr l (l ++ b) (getD_app l b 0 (by omega)) _ rfl hp (by simp; omega) fun i hi => getD_app l b i (by omega)
def chk : Nat → List UInt8 → Bool × Nat
 | 0, _ => (true, 0)
 | f + 1, l => if l.length = 0 then (true, 0) else if seqLen l = 0 then (false, 0) else ((chk f (l.drop (seqLen l))).1, seqLen l + (chk f (l.drop (seqLen l))).2)
theorem chk_fuel : ∀ (f g : Nat) (l : List UInt8), l.length ≤ f → l.length ≤ g → chk f l = chk g l
 | 0, 0, _, _, _ => rfl
 | 0, g + 1, l, h, _ => by simp [chk, Nat.le_zero.1 h]
 | f + 1, 0, l, _, h => by simp [chk, Nat.le_zero.1 h]
 | f + 1, g + 1, l, hf, hg => by
  unfold chk
  by_cases h0 : l.length = 0
  ·simp [h0]
  ·by_cases h1 : seqLen l = 0
   ·simp [h1]
   ·rw [if_neg h0, if_neg h1, if_neg h0, if_neg h1, chk_fuel f g (l.drop (seqLen l)) (by simp; omega) (by simp; omega)]
def check (l : List UInt8) : Bool × Nat := chk l.length l
theorem check_nil : check [] = (true, 0) := rfl
theorem check_bad (l : List UInt8) (h0 : l.length ≠ 0) (h : seqLen l = 0) : check l = (false, 0) := by
 unfold check
 obtain ⟨n, hn⟩ := Nat.exists_eq_succ_of_ne_zero h0
 rw [hn]; unfold chk; rw [if_neg h0, if_pos h]
theorem check_good (l : List UInt8) (h : seqLen l ≠ 0) : check l = ((check (l.drop (seqLen l))).1, seqLen l + (check (l.drop (seqLen l))).2) := by
 have h0 : l.length ≠ 0 := by have := seqLen_le l; omega
 obtain ⟨n, hn⟩ := Nat.exists_eq_succ_of_ne_zero h0
 have e : check l = chk (n + 1) l := by unfold check; rw [hn]
 rw [e]; unfold chk; rw [if_neg h0, if_neg h]
 have e2 : chk n (l.drop (seqLen l)) = check (l.drop (seqLen l)) := chk_fuel _ _ _ (by simp; omega) (by simp)
 rw [e2]
theorem check_ind {M : List UInt8 → Prop} (h0 : M []) (h1 : ∀ l, l.length ≠ 0 → seqLen l = 0 → M l) (h2 : ∀ l, seqLen l ≠ 0 → M (l.drop (seqLen l)) → M l) : ∀ (n : Nat) (l : List UInt8), l.length ≤ n → M l
 | 0, l, h => by
  have : l = [] := List.eq_nil_of_length_eq_zero (by omega)
  subst this; exact h0
 | n + 1, l, h => by
  by_cases e : l.length = 0
  ·have : l = [] := List.eq_nil_of_length_eq_zero e
   subst this; exact h0
  ·by_cases e1 : seqLen l = 0
   ·exact h1 l e e1
   ·exact h2 l e1 (check_ind h0 h1 h2 n _ (by simp; omega))
theorem check_app_good (l b : List UInt8) (h : (check l).1 = true) : check (l ++ b) = ((check b).1, l.length + (check b).2) := by
 revert h
 refine check_ind (M := fun l => (check l).1 = true → check (l ++ b) = ((check b).1, l.length + (check b).2)) ?_ ?_ ?_ l.length l (Nat.le_refl _)
 ·intro _; simp
 ·intro l h0 h1 h
  rw [check_bad l h0 h1] at h; cases h
 ·intro l h1 ih h
  have hle := seqLen_le l
  rw [check_good l h1] at h
  have hs := seqLen_app l b (by omega)
  rw [check_good _ (by rw [hs]; exact h1), hs, List.drop_append_of_le_length hle, ih h]
  simp only [List.length_drop]
  congr 1; omega
end TextMath
end Go.Proofs.YtkknenmpdimdbaaGreatDoor

namespace Go.Proofs.YtkknenmpdimdbaaGreatDoor
namespace Ke
open TextMath (fold lo normal check)
open Go.Sort
set_option linter.unusedVariables false
abbrev PR := List UInt8 × List UInt8
def mst (n i : Nat) (b : UInt8) : Bool := b == 92 || b == 34 || b == 43 || b == 44 || b == 59 || b == 60 || b == 62 || (b == 35 && i == 0) || (b == 32 && (i == 0 || i + 1 == n))
def ec (n i : Nat) (b : UInt8) : List UInt8 := if b = 0 then [92, 48, 48] else if mst n i b then [92, b] else [b]
def escF (n : Nat) : Nat → List UInt8 → List UInt8
 | _, [] => []
 | i, b :: t => ec n i b ++ escF n (i + 1) t
def escV (v : List UInt8) : List UInt8 := escF v.length 0 v
theorem ec_len (n i : Nat) (b : UInt8) : (ec n i b).length ≤ 3 := by unfold ec; split <;> (try split) <;> simp
theorem escF_len (n : Nat) : ∀ (l : List UInt8) (i : Nat), (escF n i l).length ≤ 3 * l.length
 | [], _ => Nat.zero_le _
 | b :: t, i => by
  have := escF_len n t (i + 1)
  have := ec_len n i b
  simp only [escF, List.length_append, List.length_cons]
  omega
theorem escV_len (v : List UInt8) : (escV v).length ≤ 3 * v.length := escF_len _ _ _
theorem escF_snoc (n : Nat) (b : UInt8) : ∀ (l : List UInt8) (i : Nat), escF n i (l ++ [b]) = escF n i l ++ ec n (i + l.length) b
 | [], i => by simp [escF]
 | a :: t, i => by
  have := escF_snoc n b t (i + 1)
  simp only [List.cons_append, escF, this, List.length_cons, List.append_assoc]
  rw [show i + 1 + t.length = i + (t.length + 1) from by omega]
theorem mst48 (n i : Nat) : mst n i 48 = false := by
 unfold mst
 have h1 : ((48 : UInt8) == 35) = false := by decide
 have h2 : ((48 : UInt8) == 32) = false := by decide
 rw [h1, h2]
 rfl
theorem mst92 (n i : Nat) : mst n i 92 = true := by
 unfold mst
 rfl
theorem mst43 (n i : Nat) : mst n i 43 = true := by
 unfold mst
 rfl
theorem ec_head (n i : Nat) (b : UInt8) : ∃ c t, ec n i b = c :: t ∧ c ≠ 43 := by
 unfold ec
 split
 ·exact ⟨_, _, rfl, by decide⟩
 ·split
  ·exact ⟨_, _, rfl, by decide⟩
  ·rename_i h
   refine ⟨_, _, rfl, fun e => ?_⟩
   subst e
   exact h (mst43 n i)
theorem ec_inj {n i m j : Nat} {b c : UInt8} {X Y : List UInt8} (h : ec n i b ++ X = ec m j c ++ Y) : b = c ∧ X = Y := by
 unfold ec at h
 by_cases hb : b = 0
 ·by_cases hc : c = 0
  ·rw [if_pos hb, if_pos hc] at h
   exact ⟨by rw [hb, hc], by simpa using h⟩
  ·rw [if_pos hb, if_neg hc] at h
   by_cases hm : mst m j c = true
   ·rw [if_pos hm] at h
    simp at h
    have := h.1
    subst this
    rw [mst48] at hm
    cases hm
   ·rw [if_neg hm] at h
    simp at h
    have := h.1
    subst this
    exact absurd (mst92 m j) hm
 ·by_cases hc : c = 0
  ·rw [if_neg hb, if_pos hc] at h
   by_cases hm : mst n i b = true
   ·rw [if_pos hm] at h
    simp at h
    have := h.1
    subst this
    rw [mst48] at hm
    cases hm
   ·rw [if_neg hm] at h
    simp at h
    have := h.1
    subst this
    exact absurd (mst92 n i) hm
  ·rw [if_neg hb, if_neg hc] at h
   by_cases hm : mst n i b = true
   ·by_cases hk : mst m j c = true
    ·rw [if_pos hm, if_pos hk] at h
     simpa using h
    ·rw [if_pos hm, if_neg hk] at h
     simp at h
     have := h.1
     subst this
     exact absurd (mst92 m j) hk
   ·by_cases hk : mst m j c = true
    ·rw [if_neg hm, if_pos hk] at h
     simp at h
     have := h.1
     subst this
     exact absurd (mst92 n i) hm
    ·rw [if_neg hm, if_neg hk] at h
     simpa using h
def Pl (r : List UInt8) : Prop := r = [] ∨ ∃ t, r = 43 :: t
theorem escF_inj : ∀ (l l' : List UInt8) (n i m j : Nat) (r r' : List UInt8), Pl r → Pl r' → escF n i l ++ r = escF m j l' ++ r' → l = l' ∧ r = r'
 | [], [], _, _, _, _, r, r', _, _, h => ⟨rfl, by simpa [escF] using h⟩
 | [], c :: t, n, i, m, j, r, r', hr, hr', h => by
  obtain ⟨d, u, e, hd⟩ := ec_head m j c
  simp only [escF, e, List.nil_append, List.cons_append] at h
  rcases hr with e' | ⟨q, e'⟩
  ·rw [e'] at h; cases h
  ·rw [e'] at h
   injection h with h _
   exact absurd h.symm hd
 | b :: t, [], n, i, m, j, r, r', hr, hr', h => by
  obtain ⟨d, u, e, hd⟩ := ec_head n i b
  simp only [escF, e, List.nil_append, List.cons_append] at h
  rcases hr' with e' | ⟨q, e'⟩
  ·rw [e'] at h; cases h
  ·rw [e'] at h
   injection h with h _
   exact absurd h hd
 | b :: t, c :: t', n, i, m, j, r, r', hr, hr', h => by
  simp only [escF, List.append_assoc] at h
  obtain ⟨h1, h2⟩ := ec_inj h
  obtain ⟨h3, h4⟩ := escF_inj t t' n (i + 1) m (j + 1) r r' hr hr' h2
  exact ⟨by rw [h1, h3], h4⟩
def pt1 (p : PR) : List UInt8 := p.1 ++ 61 :: escV p.2
def ptT (l : List PR) : List UInt8 := l.flatMap fun p => 43 :: pt1 p
def ptx : List PR → List UInt8
 | [] => []
 | p :: t => pt1 p ++ ptT t
theorem ptT_pl (l : List PR) : Pl (ptT l) := by
 cases l with
 | nil => exact Or.inl rfl
 | cons p t => exact Or.inr ⟨pt1 p ++ ptT t, by simp [ptT]⟩
theorem ptx_snoc (l : List PR) (p : PR) : ptx (l ++ [p]) = ptx l ++ (if l = [] then pt1 p else 43 :: pt1 p) := by
 cases l with
 | nil => simp [ptx, ptT]
 | cons a t => simp [ptx, ptT]
theorem split61 : ∀ (a b : List UInt8) (X Y : List UInt8), 61 ∉ a → 61 ∉ b → a ++ 61 :: X = b ++ 61 :: Y → a = b ∧ X = Y
 | [], [], X, Y, _, _, h => ⟨rfl, by simpa using h⟩
 | [], c :: b, X, Y, _, hb, h => by
  simp at h
  exact absurd (by rw [h.1]; simp) hb
 | c :: a, [], X, Y, ha, _, h => by
  simp at h
  exact absurd (by rw [h.1]; simp) ha
 | c :: a, d :: b, X, Y, ha, hb, h => by
  simp only [List.cons_append] at h
  injection h with h1 h2
  obtain ⟨h3, h4⟩ := split61 a b X Y (fun q => ha (by simp [q])) (fun q => hb (by simp [q])) h2
  exact ⟨by rw [h1, h3], h4⟩
theorem pt_inj : ∀ (t t' : List PR) (p q : PR), 61 ∉ p.1 → 61 ∉ q.1 → (∀ x ∈ t, 61 ∉ x.1) → (∀ x ∈ t', 61 ∉ x.1) → pt1 p ++ ptT t = pt1 q ++ ptT t' → p = q ∧ t = t'
 | t, t', p, q, hp, hq, ht, ht', h => by
  unfold pt1 at h
  simp only [List.append_assoc, List.cons_append] at h
  obtain ⟨h1, h2⟩ := split61 _ _ _ _ hp hq h
  obtain ⟨h3, h4⟩ := escF_inj p.2 q.2 p.2.length 0 q.2.length 0 (ptT t) (ptT t') (ptT_pl t) (ptT_pl t') h2
  refine ⟨Prod.ext h1 h3, ?_⟩
  match t, t' with
  | [], [] => rfl
  | [], c :: t' => simp [ptT] at h4
  | c :: t, [] => simp [ptT] at h4
  | c :: t, d :: t' =>
   have h5 : pt1 c ++ ptT t = pt1 d ++ ptT t' := by simpa [ptT] using h4
   obtain ⟨h6, h7⟩ := pt_inj t t' c d (ht c (by simp)) (ht' d (by simp)) (fun x hx => ht x (by simp [hx])) (fun x hx => ht' x (by simp [hx])) h5
   rw [h6, h7]
theorem ptx_inj (l l' : List PR) (h : ∀ x ∈ l, 61 ∉ x.1) (h' : ∀ x ∈ l', 61 ∉ x.1) (e : ptx l = ptx l') : l = l' := by
 match l, l' with
 | [], [] => rfl
 | [], c :: t => simp [ptx, pt1] at e
 | c :: t, [] => simp [ptx, pt1] at e
 | c :: t, d :: t' =>
  obtain ⟨h6, h7⟩ := pt_inj t t' c d (h c (by simp)) (h' d (by simp)) (fun x hx => h x (by simp [hx])) (fun x hx => h' x (by simp [hx])) e
  rw [h6, h7]
def tyR (s : List UInt8) : ByteArray × Int × Nat := parsT (S (fold s))
def tyOk (s : List UInt8) : Bool := decide ((tyR s).2.1 = 0)
def tyC (s : List UInt8) : List UInt8 := (tyR s).1.data.toList
theorem tyR_er (s : List UInt8) : (tyR s).2.1 = if tyOk s = true then 0 else 40 := by
 unfold tyOk tyR parsT
 split <;> simp
def Gd (x : UInt8) : Prop := isK x = true ∨ x.toNat = 46
theorem Gd.ne {x : UInt8} (h : Gd x) : x ≠ 61 := fun e => by
 subst e
 rcases h with h | h
 ·revert h; decide
 ·revert h; decide
theorem isD_K (x : UInt8) (h : isD x = true) : isK x = true := by unfold isK; rw [h]; simp
theorem run_good (p : UInt8 → Bool) (hp : ∀ x, p x = true → Gd x) (l : List UInt8) (e : Nat) (h : ∀ x ∈ l.take e, Gd x) : ∀ x ∈ l.take (runE p l e), Gd x := by
 intro x hx
 unfold runE at hx
 rw [List.take_add, List.mem_append] at hx
 rcases hx with hx | hx
 ·exact h x hx
 ·have e1 : (l.drop e).take ((l.drop e).takeWhile p).length = (l.drop e).takeWhile p := by
   generalize l.drop e = k
   induction k with
   | nil => rfl
   | cons a k ih =>
    rw [List.takeWhile_cons]
    split
    ·rw [List.length_cons, List.take_succ_cons, ih]
    ·rfl
  rw [e1] at hx
  have hp' : ∀ (k : List UInt8) (y : UInt8), y ∈ k.takeWhile p → p y = true := fun k => by
   induction k with
   | nil => intro y hy; simp at hy
   | cons a k ih =>
    intro y hy
    rw [List.takeWhile_cons] at hy
    split at hy
    ·rename_i ha
     rcases List.mem_cons.1 hy with e | e
     ·rw [e]; exact ha
     ·exact ih y e
    ·simp at hy
  exact hp x (hp' _ _ hx)
theorem take_one (l : List UInt8) (e : Nat) (P : UInt8 → Prop) (h : ∀ x ∈ l.take e, P x) (h1 : e < l.length → P (l.getD e 0)) : ∀ x ∈ l.take (e + 1), P x := by
 intro x hx
 rw [List.take_add, List.mem_append] at hx
 rcases hx with hx | hx
 ·exact h x hx
 ·rcases Nat.lt_or_ge e l.length with he | he
  ·have e1 : (l.drop e).take 1 = [l.getD e 0] := by
    rw [List.drop_eq_getElem_cons he, List.take_succ_cons, List.take_zero, List.getD_eq_getElem?_getD, List.getElem?_eq_getElem he]
    rfl
   rw [e1, List.mem_singleton] at hx
   rw [hx]
   exact h1 he
  ·rw [List.drop_of_length_le he] at hx
   simp at hx
theorem num_good (l : List UInt8) (e : Nat) (h : ∀ x ∈ l.take e, Gd x) : ∀ x ∈ l.take (numE l e), Gd x := by
 unfold numE
 split
 ·rename_i hc
  refine take_one l e Gd h (fun _ => Or.inl ?_)
  have : (l.getD e 0).toNat = 48 := hc.1
  unfold isK isL isD
  rw [this]
  decide
 ·exact run_good isD (fun x hx => Or.inl (isD_K x hx)) l e h
theorem id_good (l : List UInt8) : ∀ (n m e : Nat), (∀ x ∈ l.take e, Gd x) → ∀ x ∈ l.take (idE l n m e).1, Gd x
 | 0, m, e, h => h
 | n + 1, m, e, h => by
  unfold idE
  split
  ·exact h
  ·split
   ·exact num_good l e h
   ·rename_i hn
    refine id_good l n (m + 1) (numE l e + 1) (take_one l _ Gd (num_good l e h) (fun _ => Or.inr ?_))
    by_cases hq : (l.getD (numE l e) 0).toNat = 46
    ·exact hq
    ·exact absurd (Or.inr hq) hn
theorem typ_good (l : List UInt8) : ∀ x ∈ l.take (typE l).1, Gd x := by
 unfold typE
 split
 ·rename_i hc
  refine run_good isK (fun x hx => Or.inl hx) l 1 (take_one l 0 Gd (fun x hx => by simp at hx) (fun _ => Or.inl ?_))
  unfold isK
  rw [hc.2]
  rfl
 ·exact id_good l _ _ _ (fun x hx => by simp at hx)
theorem nm61 : ∀ i : Fin 62, ∀ b ∈ (rowL i).1.data.toList, b ≠ 61 := by decide +kernel
theorem tyC61 (s : List UInt8) (h : tyOk s = true) : 61 ∉ tyC s := by
 unfold tyOk at h
 have h := of_decide_eq_true h
 unfold tyC tyR parsT at *
 split at h
 ·rename_i hc
  rw [if_pos hc]
  show 61 ∉ (canN (S (fold s))).data.toList
  unfold canN
  split
  ·intro hm
   have hk := typ_good (S (fold s)).data.toList
   rw [List.take_of_length_le (by rw [size_l]; omega)] at hk
   exact (hk _ hm).ne rfl
  ·rename_i i _
   exact fun hm => nm61 i _ hm rfl
 ·simp at h
end Ke
end Go.Proofs.YtkknenmpdimdbaaGreatDoor

namespace Go.Proofs.YtkknenmpdimdbaaGreatDoor
namespace Ke
open TextMath (fold lo normal check)
open Go.Sort Go.Lib
set_option linter.unusedVariables false
def cfP (x y : PR) : Int := compareBytes x.1 y.1
theorem cmp_lt : ∀ a b : List UInt8, compareBytes a b < 0 ↔ a < b
 | [], [] => by simp [compareBytes]
 | [], b :: k => by simp [compareBytes]
 | a :: l, [] => by simp [compareBytes]
 | a :: l, b :: k => by
  rw [List.cons_lt_cons_iff, ← cmp_lt l k, show compareBytes (a :: l) (b :: k) = (if a < b then (-1 : Int) else if b < a then 1 else compareBytes l k) from by rw [compareBytes]]
  by_cases h1 : a < b
  ·simp [h1]
  ·by_cases h2 : b < a
   ·have hne : a ≠ b := fun e => by subst e; exact absurd h2 (UInt8.lt_irrefl _)
    simp [h1, h2, hne]
   ·have he : a = b := UInt8.le_antisymm (UInt8.not_lt.1 h2) (UInt8.not_lt.1 h1)
    subst he
    simp [h1]
theorem lt_iff (x y : PR) : ltOf cfP x y = true ↔ x.1 < y.1 := by
 unfold ltOf cfP
 rw [decide_eq_true_iff, cmp_lt]
theorem lt_no (x y : PR) : ltOf cfP x y = false ↔ y.1 ≤ x.1 := by
 rw [← Bool.not_eq_true, lt_iff]
 exact Iff.rfl
theorem swo : SWO (ltOf cfP) where
 irrefl := fun x => by rw [lt_no]; exact List.le_refl _
 trans := fun x y z h1 h2 => by rw [lt_iff] at *; exact List.lt_trans h1 h2
 ntrans := fun x y z h1 h2 => by rw [lt_no] at *; exact List.le_trans h2 h1
def srtP (l : List PR) : List PR := (insertionSort (ltOf cfP) l.toArray 0 l.toArray.size).toList
theorem srt_holds (l : List PR) : (srtP l).Perm l ∧ (srtP l).length = l.length ∧ (srtP l).Pairwise fun x y => x.1 ≤ y.1 := by
 obtain ⟨⟨h1, h2, h3⟩, h4⟩ := insertionSort_holds (lt := ltOf cfP) swo l.toArray 0 l.toArray.size (Nat.zero_le _) (Nat.le_refl _)
 unfold srtP
 generalize insertionSort (ltOf cfP) l.toArray 0 l.toArray.size = D at *
 have e : D.extract 0 l.toArray.size = D := by
  rw [← h1]
  simp
 rw [e] at h3
 have e2 : l.toArray.extract 0 l.toArray.size = l.toArray := by simp
 rw [e2] at h3
 refine ⟨h3, by simpa using h1, ?_⟩
 rw [List.pairwise_iff_getElem]
 intro i j hi hj hij
 have hi' : i < D.size := by simpa using hi
 have hj' : j < D.size := by simpa using hj
 have hq := h4 i j (Nat.zero_le _) hij (by rw [← h1]; exact hj')
 rw [lt_no] at hq
 rw [getElem!_pos D i hi', getElem!_pos D j hj'] at hq
 simpa using hq
theorem sorted_eq : ∀ (l k : List PR), (l.map Prod.fst).Nodup → (l.Pairwise fun x y => x.1 ≤ y.1) → (k.Pairwise fun x y => x.1 ≤ y.1) → l.Perm k → l = k
 | [], k, _, _, _, hp => (List.nil_perm.1 hp).symm
 | a :: l, [], _, _, _, hp => by simp at hp
 | a :: l, b :: k, hn, hl, hk, hp => by
  have hnk : ((b :: k).map Prod.fst).Nodup := (hp.map Prod.fst).nodup_iff.1 hn
  have hab : a = b := by
   have ha : a ∈ b :: k := hp.subset (by simp)
   have hb : b ∈ a :: l := hp.symm.subset (by simp)
   rcases List.mem_cons.1 ha with e | e
   ·exact e
   ·rcases List.mem_cons.1 hb with e' | e'
    ·exact e'.symm
    ·have h1 : a.1 ≤ b.1 := (List.pairwise_cons.1 hl).1 b e'
     have h2 : b.1 ≤ a.1 := (List.pairwise_cons.1 hk).1 a e
     have h3 : a.1 = b.1 := List.le_antisymm h1 h2
     rw [List.map_cons, List.nodup_cons] at hn
     exact absurd (by rw [h3]; exact List.mem_map_of_mem e') hn.1
  subst hab
  rw [sorted_eq l k (by rw [List.map_cons, List.nodup_cons] at hn; exact hn.2) (List.pairwise_cons.1 hl).2 (List.pairwise_cons.1 hk).2 (List.Perm.cons_inv hp)]
theorem srt_eq (l k : List PR) (hn : (l.map Prod.fst).Nodup) (hp : l.Perm k) : srtP l = srtP k := by
 obtain ⟨h1, _, h2⟩ := srt_holds l
 obtain ⟨k1, _, k2⟩ := srt_holds k
 exact sorted_eq _ _ ((h1.map Prod.fst).nodup_iff.2 hn) h2 k2 (h1.trans (hp.trans k1.symm))
def utf (v : List UInt8) : Bool := (check v).1
def cn (p : PR) : PR := (tyC p.1, normal p.2)
def OkI (l : List PR) (i : Nat) : Prop := ∃ h : i < l.length, tyOk l[i].1 = true ∧ tyC l[i].1 ∉ (l.take i).map (fun p => tyC p.1) ∧ utf l[i].2 = true
def OkP (l : List PR) : Prop := 1 ≤ l.length ∧ l.length ≤ 8 ∧ ∀ i, i < l.length → OkI l i
def OkD (L : List (List PR)) : Prop := L.length ≤ 64 ∧ ∀ r ∈ L, OkP r
def keyTx (l : List PR) : List UInt8 := ptx (srtP (l.map cn))
def keys (L : List (List PR)) : List (List UInt8) := (L.map keyTx).reverse
theorem okP_nodup {l : List PR} (h : OkP l) : ((l.map cn).map Prod.fst).Nodup := by
 rw [List.map_map]
 have e : (Prod.fst ∘ cn) = fun p : PR => tyC p.1 := rfl
 rw [e]
 unfold List.Nodup
 rw [List.pairwise_iff_getElem]
 intro i j hi hj hij
 have hj' : j < l.length := by simpa using hj
 obtain ⟨_, _, h2, _⟩ := h.2.2 j hj'
 intro he
 apply h2
 rw [List.getElem_map, List.getElem_map] at he
 rw [← he]
 refine List.mem_map.2 ⟨l[i], ?_, rfl⟩
 rw [List.mem_take_iff_getElem]
 exact ⟨i, by omega, rfl⟩
theorem okP_61 {l : List PR} (h : OkP l) : ∀ x ∈ srtP (l.map cn), 61 ∉ x.1 := by
 intro x hx
 obtain ⟨p, hp, rfl⟩ := List.mem_map.1 ((srt_holds (l.map cn)).1.subset hx)
 obtain ⟨i, hi, rfl⟩ := List.getElem_of_mem hp
 obtain ⟨_, h1, _⟩ := h.2.2 i hi
 exact tyC61 _ h1
def Alike (a b : List PR) : Prop := a.length = b.length ∧ ∀ p ∈ a, ∃ q ∈ b, cn q = cn p
theorem perm_of_sub : ∀ (a b : List PR), a.Nodup → (∀ x ∈ a, x ∈ b) → a.length = b.length → a.Perm b
 | [], b, _, _, hl => by
  have := List.eq_nil_of_length_eq_zero hl.symm
  subst this
  exact List.Perm.refl _
 | x :: a, b, hn, hs, hl => by
  have hx : x ∈ b := hs x (by simp)
  obtain ⟨s, t, rfl⟩ := List.append_of_mem hx
  rw [List.nodup_cons] at hn
  have hp : a.Perm (s ++ t) := perm_of_sub a (s ++ t) hn.2 (fun y hy => by
   have h1 := hs y (by simp [hy])
   have hne : y ≠ x := fun e => hn.1 (by rw [← e]; exact hy)
   simp only [List.mem_append, List.mem_cons] at h1 ⊢
   rcases h1 with h1 | h1 | h1
   ·exact Or.inl h1
   ·exact absurd h1 hne
   ·exact Or.inr h1) (by simp at hl ⊢; omega)
  exact (hp.cons x).trans List.perm_middle.symm
theorem nodup_of_fst {l : List PR} (h : (l.map Prod.fst).Nodup) : l.Nodup := by
 unfold List.Nodup at *
 rw [List.pairwise_map] at h
 exact h.imp (fun h e => h (by rw [e]))
theorem key_same {a b : List PR} (ha : OkP a) (hb : OkP b) : keyTx a = keyTx b ↔ Alike a b := by
 constructor
 ·intro e
  have h1 := ptx_inj _ _ (okP_61 ha) (okP_61 hb) e
  have p1 := (srt_holds (a.map cn)).1
  have p2 := (srt_holds (b.map cn)).1
  rw [h1] at p1
  have hp : (a.map cn).Perm (b.map cn) := p1.symm.trans p2
  refine ⟨by simpa using hp.length_eq, fun p hp' => ?_⟩
  have := hp.subset (List.mem_map_of_mem (f := cn) hp')
  obtain ⟨q, hq, e⟩ := List.mem_map.1 this
  exact ⟨q, hq, e⟩
 ·rintro ⟨hl, hs⟩
  unfold keyTx
  rw [srt_eq (a.map cn) (b.map cn) (okP_nodup ha)]
  refine perm_of_sub _ _ (nodup_of_fst (okP_nodup ha)) (fun x hx => ?_) (by simpa using hl)
  obtain ⟨p, hp, rfl⟩ := List.mem_map.1 hx
  obtain ⟨q, hq, e⟩ := hs p hp
  rw [← e]
  exact List.mem_map_of_mem hq
end Ke
end Go.Proofs.YtkknenmpdimdbaaGreatDoor
