import Derived.Test.YtkknenmpdimdbaaGreatDoorFW20
import Derived.Test.YtkknenmpdimdbaaGreatDoorFW9
import Derived.Test.YtkknenmpdimdbaaGreatDoorFW10
import Derived.Test.YtkknenmpdimdbaaGreatDoorBytes
import Derived.Lib.AppendZeros
import Derived.Test.YtkknenmpdimdbaaGreatDoorFW8
import Derived.Test.YtkknenmpdimdbaaGreatDoorFW19
import Derived.Deep.RegionHeld3
import Derived.Deep.RegionLaw
import Derived.Deep.DrawnRows
import Derived.Deep.AppendLies
namespace Go.Proofs.YtkknenmpdimdbaaGreatDoor
namespace Pa
open Go.RowKit
open TextMath (fold lo normal check wo)
set_option linter.unusedVariables false
set_option linter.unusedSimpArgs false
set_option maxRecDepth 100000
theorem idx_es : ∀ c : UInt8, decide (0 ≤ Lib.indexByte esL c) = es c := fun c => by
 have key : ∀ n : Fin 256, decide (0 ≤ Lib.indexByte esL (UInt8.ofNat n.val)) = es (UInt8.ofNat n.val) := by decide +kernel
 have := key ⟨c.toNat, c.toNat_lt⟩
 rw [UInt8.ofNat_toNat] at this
 exact this
def esA : ByteArray := { data := #[92, 34, 43, 44, 59, 60, 62, 35, 61, 32] }
theorem ib_any (c : UInt8) (w : World) : Calls Tryz.prog 170 #[.string esA, .int .u8 (c.toNat : Int)] w fun e w' => (∃ z : Int, e = .returned (.int .i64 z) ∧ (0 ≤ z ↔ es c = true)) ∧ w' = w := by
 refine (Tryz.strings_IndexByte esA (c.toNat : Int) w).mono ?_
 rintro e w' ⟨rfl, rfl⟩
 refine ⟨⟨_, rfl, ?_⟩, rfl⟩
 have h : ((c.toNat : Int).toNat.toUInt8) = c := by simp
 rw [h, ← idx_es c, decide_eq_true_iff]
 rfl
set_option maxHeartbeats 2000000 in
theorem kindBehind_any (s : ByteArray) (w : World) (hs : s.size ≤ 4096) :
  Calls Tryz.prog 163 #[.string s] w fun e w' => e = .returned (.int .i64 (kB s.data.toList : Int)) ∧ ∃ n, w' = w.drewN n := by
 have hL : s.data.toList.length = s.size := size_l s
 by_cases h0 : s.size = 0
 ·have hz : s = ⟨#[]⟩ := by
   apply ByteArray.ext
   apply Array.eq_empty_of_size_eq_zero
   exact h0
  subst hz
  clear hL h0
  go_enter Tryz.func163, Tryz.ntmps163
  go_wp2_with fail
  go_ret
  exact ⟨rfl, 0, rfl⟩
 ·obtain ⟨a, l, hl⟩ : ∃ a l, s.data.toList = a :: l := by
   cases h : s.data.toList with
   | nil => rw [h] at hL; simp at hL; omega
   | cons a l => exact ⟨a, l, rfl⟩
  have h00 : 0 < s.size := by omega
  have ha : s[0] = a := by
   have : s.data.toList[0]'(by rw [hL]; exact h00) = a := by simp [hl]
   exact this
  have hne : (s.toList == []) = false := by rw [Lib.toList_data, hl]; rfl
  have h0i : (0 : Int) < (s.size : Int) := by omega
  have hib : Hid (∀ W, Calls Tryz.prog 170 #[.string esA, .int .u8 (a.toNat : Int)] W fun e w' => (∃ z : Int, e = .returned (.int .i64 z) ∧ (0 ≤ z ↔ es a = true)) ∧ w' = W) := fun W => ib_any a W
  have hE : esA = { data := #[92, 34, 43, 44, 59, 60, 62, 35, 61, 32] } := rfl
  rw [hE] at hib
  rw [hl]
  by_cases hes : es a = true
  ·have hk : kB (a :: l) = 4 := by simp [kB, hes]
   rw [hk]
   clear hE hl hL hk
   go_enter Tryz.func163, Tryz.ntmps163
   go_wp2_with (go_at_call 170; refine (hib.out _).mono ?_; rintro e w' ⟨⟨z, rfl, hz⟩, rfl⟩; have hz0 : 0 ≤ z := hz.2 hes)
   go_ret
   exact ⟨rfl, 0, rfl⟩
  ·cases l with
   | nil =>
    have hk : kB [a] = 1 := by simp [kB, hes]
    have hs1 : s.size = 1 := by rw [hl] at hL; simpa using hL.symm
    have h2 : ¬ (2 : Int) ≤ (s.size : Int) := by omega
    rw [hk]
    clear hE hl hL hk hs1
    go_enter Tryz.func163, Tryz.ntmps163
    go_wp2_with (go_at_call 170; refine (hib.out _).mono ?_; rintro e w' ⟨⟨z, rfl, hz⟩, rfl⟩; have hz0 : ¬ 0 ≤ z := fun h => hes (hz.1 h))
    go_ret
    exact ⟨rfl, 0, rfl⟩
   | cons b r =>
    have h1s : 1 < s.size := by rw [hl] at hL; simp at hL; omega
    have h2 : (2 : Int) ≤ (s.size : Int) := by omega
    have h1i : (1 : Int) < (s.size : Int) := by omega
    have hb : s[1] = b := by
     have : s.data.toList[1]'(by rw [hL]; exact h1s) = b := by simp [hl]
     exact this
    by_cases hda : hd a = true
    ·by_cases hdb : hd b = true
     ·have hk : kB (a :: b :: r) = 3 := by simp [kB, hes, hda, hdb]
      rw [hk]
      clear hE hl hL hk
      go_enter Tryz.func163, Tryz.ntmps163
      go_wp2_with (first
       | (go_at_call 170; refine (hib.out _).mono ?_; rintro e w' ⟨⟨z, rfl, hz⟩, rfl⟩; have hz0 : ¬ 0 ≤ z := fun h => hes (hz.1 h); have T1 : True := trivial)
       | (clear T1; go_at_call 153; refine (hexDigit_any a _).mono ?_; rintro e w' ⟨rfl, rfl⟩; rw [hda]; have T2 : True := trivial)
       | (clear T2; go_at_call 153; refine (hexDigit_any b _).mono ?_; rintro e w' ⟨rfl, rfl⟩; rw [hdb]))
      go_ret
      exact ⟨rfl, 0, rfl⟩
     ·have hdb' : hd b = false := by simpa using hdb
      have hk : kB (a :: b :: r) = 1 := by simp [kB, hes, hda, hdb']
      rw [hk]
      clear hE hl hL hk hdb
      go_enter Tryz.func163, Tryz.ntmps163
      go_wp2_with (first
       | (go_at_call 170; refine (hib.out _).mono ?_; rintro e w' ⟨⟨z, rfl, hz⟩, rfl⟩; have hz0 : ¬ 0 ≤ z := fun h => hes (hz.1 h); have T1 : True := trivial)
       | (clear T1; go_at_call 153; refine (hexDigit_any a _).mono ?_; rintro e w' ⟨rfl, rfl⟩; rw [hda]; have T2 : True := trivial)
       | (clear T2; go_at_call 153; refine (hexDigit_any b _).mono ?_; rintro e w' ⟨rfl, rfl⟩; rw [hdb']))
      go_ret
      exact ⟨rfl, 0, rfl⟩
    ·have hda' : hd a = false := by simpa using hda
     have hk : kB (a :: b :: r) = 1 := by simp [kB, hes, hda']
     rw [hk]
     clear hE hl hL hk hda
     go_enter Tryz.func163, Tryz.ntmps163
     go_wp2_with (first
      | (go_at_call 170; refine (hib.out _).mono ?_; rintro e w' ⟨⟨z, rfl, hz⟩, rfl⟩; have hz0 : ¬ 0 ≤ z := fun h => hes (hz.1 h); have T1 : True := trivial)
      | (clear T1; go_at_call 153; refine (hexDigit_any a _).mono ?_; rintro e w' ⟨rfl, rfl⟩; rw [hda']))
     go_ret
     exact ⟨rfl, 0, rfl⟩
set_option maxHeartbeats 4000000 in
theorem kindOf_any (s : ByteArray) (w : World) (hs : s.size ≤ 4096) :
  Calls Tryz.prog 149 #[.string s] w fun e w' => e = .returned (.int .i64 (kO s.data.toList : Int)) ∧ ∃ n, w' = w.drewN n := by
 have hL : s.data.toList.length = s.size := size_l s
 by_cases h0 : s.size = 0
 ·have hz : s = ⟨#[]⟩ := by
   apply ByteArray.ext
   apply Array.eq_empty_of_size_eq_zero
   exact h0
  subst hz
  clear hL h0
  go_enter Tryz.func149, Tryz.ntmps149
  go_wp2_with fail
  go_ret
  exact ⟨rfl, 0, rfl⟩
 ·obtain ⟨a, l, hl⟩ : ∃ a l, s.data.toList = a :: l := by
   cases h : s.data.toList with
   | nil => rw [h] at hL; simp at hL; omega
   | cons a l => exact ⟨a, l, rfl⟩
  have h00 : 0 < s.size := by omega
  have ha : s[0] = a := by
   have : s.data.toList[0]'(by rw [hL]; exact h00) = a := by simp [hl]
   exact this
  have hne : (s.toList == []) = false := by rw [Lib.toList_data, hl]; rfl
  have h0i : (0 : Int) < (s.size : Int) := by omega
  have heq : ∀ (n : Nat), n < 256 → ∀ x : Bool, decide (a = UInt8.ofNat n) = x → ((a.toNat : Int) == (n : Int)) = x := fun n hn x hx => by
   rw [← hx, Bool.eq_iff_iff, beq_iff_eq, decide_eq_true_iff]
   constructor
   ·intro h; exact UInt8.toNat_inj.1 (by rw [UInt8.toNat_ofNat']; omega)
   ·rintro rfl; rw [UInt8.toNat_ofNat']; omega
  rw [hl]
  have hB : Hid (a = 92 → ∀ W, Calls Tryz.prog 163 #[.string (s.extract 1 s.size)] W fun e w' => e = .returned (.int .i64 (kB l : Int)) ∧ ∃ n, w' = W.drewN n) := fun _ W => by
   have h := kindBehind_any (s.extract 1 s.size) W (by rw [ByteArray.size_extract]; omega)
   have e : (s.extract 1 s.size).data.toList = l := by
    have := ext_lf s 1 s.size
    rw [this]
    unfold lf
    rw [hl]
    show (List.drop 1 (a :: l)).take _ = l
    rw [List.drop_one, List.tail_cons, List.take_of_length_le (by rw [hl] at hL; simp at hL; omega)]
   rw [e] at h
   exact h
  by_cases ha44 : a = 44
  ·skip
   have f44 : ((a.toNat : Int) == 44) = true := heq 44 (by decide) _ (by subst ha44; decide)
   have f43 : ((a.toNat : Int) == 43) = false := heq 43 (by decide) _ (by subst ha44; decide)
   have f92 : ((a.toNat : Int) == 92) = false := heq 92 (by decide) _ (by subst ha44; decide)
   have f0 : ((a.toNat : Int) == 0) = false := heq 0 (by decide) _ (by subst ha44; decide)
   have f34 : ((a.toNat : Int) == 34) = false := heq 34 (by decide) _ (by subst ha44; decide)
   have f59 : ((a.toNat : Int) == 59) = false := heq 59 (by decide) _ (by subst ha44; decide)
   have f60 : ((a.toNat : Int) == 60) = false := heq 60 (by decide) _ (by subst ha44; decide)
   have f62 : ((a.toNat : Int) == 62) = false := heq 62 (by decide) _ (by subst ha44; decide)
   have f32 : ((a.toNat : Int) == 32) = false := heq 32 (by decide) _ (by subst ha44; decide)
   have hk : kO (a :: l) = 0 := by subst ha44; rfl
   rw [hk]
   clear heq hl hL h0 hB hk
   clear ha44
   go_enter Tryz.func149, Tryz.ntmps149
   go_wp2_with fail
   go_ret
   exact ⟨rfl, 0, rfl⟩
  by_cases ha43 : a = 43
  ·skip
   have f44 : ((a.toNat : Int) == 44) = false := heq 44 (by decide) _ (by subst ha43; decide)
   have f43 : ((a.toNat : Int) == 43) = true := heq 43 (by decide) _ (by subst ha43; decide)
   have f92 : ((a.toNat : Int) == 92) = false := heq 92 (by decide) _ (by subst ha43; decide)
   have f0 : ((a.toNat : Int) == 0) = false := heq 0 (by decide) _ (by subst ha43; decide)
   have f34 : ((a.toNat : Int) == 34) = false := heq 34 (by decide) _ (by subst ha43; decide)
   have f59 : ((a.toNat : Int) == 59) = false := heq 59 (by decide) _ (by subst ha43; decide)
   have f60 : ((a.toNat : Int) == 60) = false := heq 60 (by decide) _ (by subst ha43; decide)
   have f62 : ((a.toNat : Int) == 62) = false := heq 62 (by decide) _ (by subst ha43; decide)
   have f32 : ((a.toNat : Int) == 32) = false := heq 32 (by decide) _ (by subst ha43; decide)
   have hk : kO (a :: l) = 0 := by subst ha43; rfl
   rw [hk]
   clear heq hl hL h0 hB hk
   clear ha43
   go_enter Tryz.func149, Tryz.ntmps149
   go_wp2_with fail
   go_ret
   exact ⟨rfl, 0, rfl⟩
  by_cases ha92 : a = 92
  ·skip
   have f44 : ((a.toNat : Int) == 44) = false := heq 44 (by decide) _ (by subst ha92; decide)
   have f43 : ((a.toNat : Int) == 43) = false := heq 43 (by decide) _ (by subst ha92; decide)
   have f92 : ((a.toNat : Int) == 92) = true := heq 92 (by decide) _ (by subst ha92; decide)
   have f0 : ((a.toNat : Int) == 0) = false := heq 0 (by decide) _ (by subst ha92; decide)
   have f34 : ((a.toNat : Int) == 34) = false := heq 34 (by decide) _ (by subst ha92; decide)
   have f59 : ((a.toNat : Int) == 59) = false := heq 59 (by decide) _ (by subst ha92; decide)
   have f60 : ((a.toNat : Int) == 60) = false := heq 60 (by decide) _ (by subst ha92; decide)
   have f62 : ((a.toNat : Int) == 62) = false := heq 62 (by decide) _ (by subst ha92; decide)
   have f32 : ((a.toNat : Int) == 32) = false := heq 32 (by decide) _ (by subst ha92; decide)
   have hB' : Hid (∀ W, Calls Tryz.prog 163 #[.string (s.extract 1 s.size)] W fun e w' => e = .returned (.int .i64 (kB l : Int)) ∧ ∃ n, w' = W.drewN n) := fun W => hB.out ha92 W
   have hk : kO (a :: l) = kB l := by subst ha92; rfl
   rw [hk]
   clear heq hl hL h0 hB hk ha92 ha44 ha43
   generalize kB l = kk at *
   go_enter Tryz.func149, Tryz.ntmps149
   go_wp2_with fail
   refine (hB'.out _).mono ?_
   rintro e w' ⟨rfl, n, rfl⟩
   go_wp2_with fail
   go_ret
   exact ⟨rfl, n, rfl⟩
  by_cases ha0 : a = 0
  ·skip
   have f44 : ((a.toNat : Int) == 44) = false := heq 44 (by decide) _ (by subst ha0; decide)
   have f43 : ((a.toNat : Int) == 43) = false := heq 43 (by decide) _ (by subst ha0; decide)
   have f92 : ((a.toNat : Int) == 92) = false := heq 92 (by decide) _ (by subst ha0; decide)
   have f0 : ((a.toNat : Int) == 0) = true := heq 0 (by decide) _ (by subst ha0; decide)
   have f34 : ((a.toNat : Int) == 34) = false := heq 34 (by decide) _ (by subst ha0; decide)
   have f59 : ((a.toNat : Int) == 59) = false := heq 59 (by decide) _ (by subst ha0; decide)
   have f60 : ((a.toNat : Int) == 60) = false := heq 60 (by decide) _ (by subst ha0; decide)
   have f62 : ((a.toNat : Int) == 62) = false := heq 62 (by decide) _ (by subst ha0; decide)
   have f32 : ((a.toNat : Int) == 32) = false := heq 32 (by decide) _ (by subst ha0; decide)
   have hk : kO (a :: l) = 2 := by subst ha0; rfl
   rw [hk]
   clear heq hl hL h0 hB hk
   clear ha0
   go_enter Tryz.func149, Tryz.ntmps149
   go_wp2_with fail
   go_ret
   exact ⟨rfl, 0, rfl⟩
  by_cases ha34 : a = 34
  ·skip
   have f44 : ((a.toNat : Int) == 44) = false := heq 44 (by decide) _ (by subst ha34; decide)
   have f43 : ((a.toNat : Int) == 43) = false := heq 43 (by decide) _ (by subst ha34; decide)
   have f92 : ((a.toNat : Int) == 92) = false := heq 92 (by decide) _ (by subst ha34; decide)
   have f0 : ((a.toNat : Int) == 0) = false := heq 0 (by decide) _ (by subst ha34; decide)
   have f34 : ((a.toNat : Int) == 34) = true := heq 34 (by decide) _ (by subst ha34; decide)
   have f59 : ((a.toNat : Int) == 59) = false := heq 59 (by decide) _ (by subst ha34; decide)
   have f60 : ((a.toNat : Int) == 60) = false := heq 60 (by decide) _ (by subst ha34; decide)
   have f62 : ((a.toNat : Int) == 62) = false := heq 62 (by decide) _ (by subst ha34; decide)
   have f32 : ((a.toNat : Int) == 32) = false := heq 32 (by decide) _ (by subst ha34; decide)
   have hk : kO (a :: l) = 2 := by subst ha34; rfl
   rw [hk]
   clear heq hl hL h0 hB hk
   clear ha34
   go_enter Tryz.func149, Tryz.ntmps149
   go_wp2_with fail
   go_ret
   exact ⟨rfl, 0, rfl⟩
  by_cases ha59 : a = 59
  ·skip
   have f44 : ((a.toNat : Int) == 44) = false := heq 44 (by decide) _ (by subst ha59; decide)
   have f43 : ((a.toNat : Int) == 43) = false := heq 43 (by decide) _ (by subst ha59; decide)
   have f92 : ((a.toNat : Int) == 92) = false := heq 92 (by decide) _ (by subst ha59; decide)
   have f0 : ((a.toNat : Int) == 0) = false := heq 0 (by decide) _ (by subst ha59; decide)
   have f34 : ((a.toNat : Int) == 34) = false := heq 34 (by decide) _ (by subst ha59; decide)
   have f59 : ((a.toNat : Int) == 59) = true := heq 59 (by decide) _ (by subst ha59; decide)
   have f60 : ((a.toNat : Int) == 60) = false := heq 60 (by decide) _ (by subst ha59; decide)
   have f62 : ((a.toNat : Int) == 62) = false := heq 62 (by decide) _ (by subst ha59; decide)
   have f32 : ((a.toNat : Int) == 32) = false := heq 32 (by decide) _ (by subst ha59; decide)
   have hk : kO (a :: l) = 2 := by subst ha59; rfl
   rw [hk]
   clear heq hl hL h0 hB hk
   clear ha59
   go_enter Tryz.func149, Tryz.ntmps149
   go_wp2_with fail
   go_ret
   exact ⟨rfl, 0, rfl⟩
  by_cases ha60 : a = 60
  ·skip
   have f44 : ((a.toNat : Int) == 44) = false := heq 44 (by decide) _ (by subst ha60; decide)
   have f43 : ((a.toNat : Int) == 43) = false := heq 43 (by decide) _ (by subst ha60; decide)
   have f92 : ((a.toNat : Int) == 92) = false := heq 92 (by decide) _ (by subst ha60; decide)
   have f0 : ((a.toNat : Int) == 0) = false := heq 0 (by decide) _ (by subst ha60; decide)
   have f34 : ((a.toNat : Int) == 34) = false := heq 34 (by decide) _ (by subst ha60; decide)
   have f59 : ((a.toNat : Int) == 59) = false := heq 59 (by decide) _ (by subst ha60; decide)
   have f60 : ((a.toNat : Int) == 60) = true := heq 60 (by decide) _ (by subst ha60; decide)
   have f62 : ((a.toNat : Int) == 62) = false := heq 62 (by decide) _ (by subst ha60; decide)
   have f32 : ((a.toNat : Int) == 32) = false := heq 32 (by decide) _ (by subst ha60; decide)
   have hk : kO (a :: l) = 2 := by subst ha60; rfl
   rw [hk]
   clear heq hl hL h0 hB hk
   clear ha60
   go_enter Tryz.func149, Tryz.ntmps149
   go_wp2_with fail
   go_ret
   exact ⟨rfl, 0, rfl⟩
  by_cases ha62 : a = 62
  ·skip
   have f44 : ((a.toNat : Int) == 44) = false := heq 44 (by decide) _ (by subst ha62; decide)
   have f43 : ((a.toNat : Int) == 43) = false := heq 43 (by decide) _ (by subst ha62; decide)
   have f92 : ((a.toNat : Int) == 92) = false := heq 92 (by decide) _ (by subst ha62; decide)
   have f0 : ((a.toNat : Int) == 0) = false := heq 0 (by decide) _ (by subst ha62; decide)
   have f34 : ((a.toNat : Int) == 34) = false := heq 34 (by decide) _ (by subst ha62; decide)
   have f59 : ((a.toNat : Int) == 59) = false := heq 59 (by decide) _ (by subst ha62; decide)
   have f60 : ((a.toNat : Int) == 60) = false := heq 60 (by decide) _ (by subst ha62; decide)
   have f62 : ((a.toNat : Int) == 62) = true := heq 62 (by decide) _ (by subst ha62; decide)
   have f32 : ((a.toNat : Int) == 32) = false := heq 32 (by decide) _ (by subst ha62; decide)
   have hk : kO (a :: l) = 2 := by subst ha62; rfl
   rw [hk]
   clear heq hl hL h0 hB hk
   clear ha62
   go_enter Tryz.func149, Tryz.ntmps149
   go_wp2_with fail
   go_ret
   exact ⟨rfl, 0, rfl⟩
  by_cases ha32 : a = 32
  ·skip
   have f44 : ((a.toNat : Int) == 44) = false := heq 44 (by decide) _ (by subst ha32; decide)
   have f43 : ((a.toNat : Int) == 43) = false := heq 43 (by decide) _ (by subst ha32; decide)
   have f92 : ((a.toNat : Int) == 92) = false := heq 92 (by decide) _ (by subst ha32; decide)
   have f0 : ((a.toNat : Int) == 0) = false := heq 0 (by decide) _ (by subst ha32; decide)
   have f34 : ((a.toNat : Int) == 34) = false := heq 34 (by decide) _ (by subst ha32; decide)
   have f59 : ((a.toNat : Int) == 59) = false := heq 59 (by decide) _ (by subst ha32; decide)
   have f60 : ((a.toNat : Int) == 60) = false := heq 60 (by decide) _ (by subst ha32; decide)
   have f62 : ((a.toNat : Int) == 62) = false := heq 62 (by decide) _ (by subst ha32; decide)
   have f32 : ((a.toNat : Int) == 32) = true := heq 32 (by decide) _ (by subst ha32; decide)
   have hk : kO (a :: l) = 6 := by subst ha32; rfl
   rw [hk]
   clear heq hl hL h0 hB hk
   clear ha32
   go_enter Tryz.func149, Tryz.ntmps149
   go_wp2_with fail
   go_ret
   exact ⟨rfl, 0, rfl⟩
  have f44 : ((a.toNat : Int) == 44) = false := heq 44 (by decide) _ (by rw [decide_eq_false_iff_not]; exact ha44)
  have f43 : ((a.toNat : Int) == 43) = false := heq 43 (by decide) _ (by rw [decide_eq_false_iff_not]; exact ha43)
  have f92 : ((a.toNat : Int) == 92) = false := heq 92 (by decide) _ (by rw [decide_eq_false_iff_not]; exact ha92)
  have f0 : ((a.toNat : Int) == 0) = false := heq 0 (by decide) _ (by rw [decide_eq_false_iff_not]; exact ha0)
  have f34 : ((a.toNat : Int) == 34) = false := heq 34 (by decide) _ (by rw [decide_eq_false_iff_not]; exact ha34)
  have f59 : ((a.toNat : Int) == 59) = false := heq 59 (by decide) _ (by rw [decide_eq_false_iff_not]; exact ha59)
  have f60 : ((a.toNat : Int) == 60) = false := heq 60 (by decide) _ (by rw [decide_eq_false_iff_not]; exact ha60)
  have f62 : ((a.toNat : Int) == 62) = false := heq 62 (by decide) _ (by rw [decide_eq_false_iff_not]; exact ha62)
  have f32 : ((a.toNat : Int) == 32) = false := heq 32 (by decide) _ (by rw [decide_eq_false_iff_not]; exact ha32)
  have hk : kO (a :: l) = 5 := by
   have hbar : bar a = false := by unfold bar; simp [ha0, ha34, ha59, ha60, ha62]
   unfold kO
   simp [ha44, ha43, ha92, ha32, hbar]
  rw [hk]
  clear heq hl hL h0 hB hk
  go_enter Tryz.func149, Tryz.ntmps149
  go_wp2_with fail
  go_ret
  exact ⟨rfl, 0, rfl⟩
end Pa
end Go.Proofs.YtkknenmpdimdbaaGreatDoor

namespace Go.Proofs.YtkknenmpdimdbaaGreatDoor
namespace Bl
open TextMath (fold check lo seqLen ld wi u bl sqA sqB normal normal_eq check_good check_bad check_ind check_app_good ld_cases seqLen_le)
open Ke (utf cn tyOk tyC tyR OkI OkP OkD keyTx keys Alike key_same PR)
set_option linter.unusedVariables false
def bk (f : Bool) (c : UInt8) : List UInt8 := if c = 32 ∧ f = true then [32, 10, 32] else [c]
def blk (b1 b2 b3 : Bool) (v : List UInt8) : List UInt8 := (if b1 = true then [9] else []) ++ v.flatMap (bk b2) ++ (if b3 = true then [32, 13] else [])
end Bl
end Go.Proofs.YtkknenmpdimdbaaGreatDoor

namespace Go.Proofs.YtkknenmpdimdbaaGreatDoor
namespace Bl
open Go.RowKit
open TextMath (fold lo normal)
open Du (GOwn GRow Kd append_gen flatV_at)
set_option linter.unusedVariables false
def bV (b : UInt8) : List Value := [.int .u8 (b.toNat : Int)]
theorem bV_len (b : UInt8) : (bV b).length = 1 := rfl
theorem bV_flat (l : List UInt8) : l.flatMap bV = bv l := by
 induction l with
 | nil => rfl
 | cons c l ih => rw [List.flatMap_cons, ih]; rfl
theorem KDb : Kd 5 87 1 1 bV := by
 refine ⟨Tryz.underlying87, ?_, by decide, by decide, bV_len, fun x u hu => by simp only [bV, List.mem_singleton] at hu; subst hu; rfl⟩
 have h : (Tryz.prog.info? 5).map (fun i => (i.zero, i.size, i.bytes)) = some (some (.int .u8 0), 1, 1) := by kernel_rfl
 obtain ⟨i0, hi, hz0, hz1, hz2⟩ := info_parts h
 exact ⟨i0, _, hi, hz0, hz1, hz2, rfl⟩
theorem g_new {α : Type} {k : Nat} (V : α → List Value) (hV : ∀ x, (V x).length = k) (w : World) (t : TypeId) (l : List α) : GRow k V (w.alloc (.cells (l.flatMap V).toArray t)) (some ⟨w.heap.size, 0, none⟩) l := fun i hi => by
 refine ⟨_, _, rfl, fun j hj => ?_⟩
 have h1 : (w.alloc (.cells (l.flatMap V).toArray t)).heap[w.heap.size]? = some (.cells (l.flatMap V).toArray t (0, 0)) := heap_alloc_new _ _
 rw [cell_of_row _ _ _ _ _ _ h1, Nat.zero_add, List.getElem?_toArray]
 exact flatV_at V k hV l i hi j hj
end Bl
end Go.Proofs.YtkknenmpdimdbaaGreatDoor

namespace Go.Proofs.YtkknenmpdimdbaaGreatDoor
open Go.RowKit
open TextMath (dg hex)
attribute [local go_sem ↓] Go.wp_at_zero Go.wp_at_succ
end Go.Proofs.YtkknenmpdimdbaaGreatDoor

namespace Go.Proofs.YtkknenmpdimdbaaGreatDoor
open Go.RowKit
open TextMath (dg hex wo unhex pre)
set_option maxHeartbeats 400000 in
theorem hexWorth_any (c : UInt8) (w : World) :
  Calls Tryz.prog 164 #[.int .u8 (c.toNat : Int)] w fun e w' => e = .returned (.tuple #[.int .u8 (((wo c).getD 0 : Nat) : Int), .bool (wo c).isSome]) ∧ w = w' := by
 have hc256 : c.toNat < 256 := c.toNat_lt
 unfold wo
 generalize c.toNat = n at *
 by_cases h1 : 48 ≤ n ∧ n ≤ 57
 ·rw [if_pos h1]
  obtain ⟨h1, h2⟩ := h1
  go_enter Tryz.func164, Tryz.ntmps164
  go_wp2
  go_ret2
  refine ⟨?_, rfl⟩
  simp; omega
 ·rw [if_neg h1]
  have d1 : (decide ((48 : Int) ≤ n) && decide ((n : Int) ≤ 57)) = false := by simp; omega
  by_cases h2 : 97 ≤ n ∧ n ≤ 102
  ·rw [if_pos h2]
   obtain ⟨h2, h3⟩ := h2
   have g1 : ¬ (n : Int) ≤ 57 := by omega
   have g2 : (48 : Int) ≤ n := by omega
   clear h1 d1
   go_enter Tryz.func164, Tryz.ntmps164
   go_wp2
   go_ret2
   refine ⟨?_, rfl⟩
   simp; omega
  ·rw [if_neg h2]
   by_cases h3 : 65 ≤ n ∧ n ≤ 70
   ·rw [if_pos h3]
    obtain ⟨h3, h4⟩ := h3
    have g1 : ¬ (n : Int) ≤ 57 := by omega
    have g2 : (48 : Int) ≤ n := by omega
    have g3 : ¬ (97 : Int) ≤ n := by omega
    clear h1 d1 h2
    go_enter Tryz.func164, Tryz.ntmps164
    go_wp2
    go_ret2
    refine ⟨?_, rfl⟩
    simp; omega
   ·rw [if_neg h3]
    clear d1
    go_enter Tryz.func164, Tryz.ntmps164
    go_wp2
    all_goals
     first
      | (exfalso; omega)
      | (
        go_ret2
        exact ⟨rfl, rfl⟩)
end Go.Proofs.YtkknenmpdimdbaaGreatDoor

namespace Go.Proofs.YtkknenmpdimdbaaGreatDoor
open Go.RowKit
open TextMath (dg hex wo unhex pre)
def uhV (n : Nat) : Except Nat (List UInt8) → Value
 | .ok t => .tuple #[.string (S t), .int .i64 0, .int .i64 (n : Int)]
 | .error p => .tuple #[.string ⟨#[]⟩, .int .i64 11, .int .i64 (p : Int)]
theorem ret_tup {a b : Value} (h : a = b) : Ending.returned a = .returned b := by rw [h]
theorem or16 (x y : Nat) (hx : x < 16) (hy : y < 16) : bits .or .u8 ((x : Int) * 16) (y : Int) = ((16 * x + y : Nat) : Int) := by
 have e := u8_or_nat (16 * x) y (by omega) (by omega)
 have h := nat_join 4 (16 * x) y (by omega) (by omega)
 rw [h] at e
 have e2 : ((x : Int) * 16) = ((16 * x : Nat) : Int) := by omega
 rw [e2, e]
section
variable (l : List UInt8) (k : Nat) (o : List UInt8)
theorem st_even (he : k % 2 = 0) (h : unhex l 0 = pre o (unhex (l.drop (k - k % 2)) (k - k % 2))) : unhex l 0 = pre o (unhex (l.drop (k + 1 - (k + 1) % 2)) (k + 1 - (k + 1) % 2)) := by
 have e : k + 1 - (k + 1) % 2 = k - k % 2 := by omega
 rw [e]; exact h
theorem st_bad0 (hk : k < l.length) (he : k % 2 = 0) (h : unhex l 0 = pre o (unhex (l.drop (k - k % 2)) (k - k % 2))) (hb : wo l[k] = none) : unhex l 0 = .error k := by
 rw [h, he, Nat.sub_zero, List.drop_eq_getElem_cons hk, TextMath.unhex_bad _ _ _ hb]; rfl
theorem drop2 (hk : k < l.length) (ho : k % 2 = 1) : l.drop (k - k % 2) = l[k - 1]'(by omega) :: l[k] :: l.drop (k + 1) := by
 rw [ho, List.drop_eq_getElem_cons (by omega)]
 have e : k - 1 + 1 = k := by omega
 rw [e, List.drop_eq_getElem_cons hk]
theorem st_bad1 (hk : k < l.length) (ho : k % 2 = 1) (h : unhex l 0 = pre o (unhex (l.drop (k - k % 2)) (k - k % 2))) (x : Nat) (hx : wo (l[k - 1]'(by omega)) = some x) (hb : wo l[k] = none) : unhex l 0 = .error k := by
 rw [h, drop2 l k hk ho, TextMath.unhex_bad2 _ _ _ _ x hx hb, ho]
 have e : k - 1 + 1 = k := by omega
 rw [e]; rfl
theorem st_pair (hk : k < l.length) (ho : k % 2 = 1) (h : unhex l 0 = pre o (unhex (l.drop (k - k % 2)) (k - k % 2))) (x y : Nat) (hx : wo (l[k - 1]'(by omega)) = some x) (hy : wo l[k] = some y) :
  unhex l 0 = pre (o ++ [UInt8.ofNat (16 * x + y)]) (unhex (l.drop (k + 1 - (k + 1) % 2)) (k + 1 - (k + 1) % 2)) := by
 have e : k + 1 - (k + 1) % 2 = k + 1 := by omega
 have e2 : k - 1 + 2 = k + 1 := by omega
 rw [h, drop2 l k hk ho, TextMath.unhex_pair _ _ _ _ x y hx hy, TextMath.pre_pre, e, ho, e2]
theorem st_end0 (hk : k = l.length) (he : k % 2 = 0) (h : unhex l 0 = pre o (unhex (l.drop (k - k % 2)) (k - k % 2))) : unhex l 0 = .ok o := by
 rw [h, he, Nat.sub_zero, List.drop_eq_nil_of_le (by omega)]; simp [unhex, pre]
theorem st_end1 (hk : k = l.length) (ho : k % 2 = 1) (h : unhex l 0 = pre o (unhex (l.drop (k - k % 2)) (k - k % 2))) (x : Nat) (hx : wo (l[k - 1]'(by omega)) = some x) : unhex l 0 = .error k := by
 rw [h, ho, List.drop_eq_getElem_cons (by omega), List.drop_eq_nil_of_le (by omega), TextMath.unhex_odd _ _ x hx]
 have e : k - 1 + 1 = k := by omega
 rw [e]; rfl
end
set_option maxRecDepth 100000 in
set_option maxHeartbeats 1000000 in
theorem unhex_any (s : ByteArray) (w : World) (hm : s.size ≤ 281474976710656) :
  Calls Tryz.prog 151 #[.string s] w fun e w' => e = .returned (uhV s.size (unhex s.data.toList 0)) ∧ Below w.heap.size w w' := by
 have hL : Hid (s.data.toList.length = s.size) := size_l s
 obtain ⟨i0, hi, hz0, hz1, hz2⟩ := info_parts info_u8
 go_enter Tryz.func151, Tryz.ntmps151
 go_wp2_with (at_make; refine wpList_make_own _ rfl _ _ 87 rfl w.heap.size 5 i0 (.int .u8 0) 1 Tryz.underlying87 hi hz0 hz1 _ _ _ (s.size / 2) rfl rfl ?_ ?_ ?_ ?_ ?_; (omega); (rw [hz2]; omega); (unfold maxLen; omega); (exact Nat.le_refl _); intro w1 hown1 hgrow1)
 have hb1 : Below w.heap.size w w1 := (Below.refl _ _).grown hgrow1 (Nat.le_refl _) (fun k h => by cases h)
 go_loopw [5, 6, 7] (fun out high i wr => ∃ (k x : Nat) (o : List UInt8), k ≤ s.size ∧ i = .int .i64 k ∧ x < 16 ∧ high = .int .u8 (x : Int) ∧ out = .slice (some ⟨w.heap.size, 0, none⟩) (k / 2) (s.size / 2) ∧ Below w.heap.size w wr ∧ w.heap.size < wr.heap.size ∧ wr.ownsRow w.heap.size 5 1 (.slice (some ⟨w.heap.size, 0, none⟩) (k / 2) (s.size / 2)) (k / 2) (bv o)
   ∧ Hid (unhex s.data.toList 0 = pre o (unhex (s.data.toList.drop (k - k % 2)) (k - k % 2))) ∧ Hid (∀ (h : k - 1 < s.data.toList.length), k % 2 = 1 → wo s.data.toList[k - 1] = some x)) (fun _ _ i _ => s.size - (intOf i).toNat)
 case atStart => exact ⟨0, 0, [], Nat.zero_le _, rfl, by omega, rfl, rfl, hb1, (hown1.lt _ rfl).2, hown1, by unfold Hid; simp [TextMath.pre_nil], fun _ h => by omega⟩
 case round =>
  clear hown1 hgrow1 hb1
  obtain ⟨k, x, o, hk, rfl, hx16, rfl, rfl, hb, hgs, hown, hun, hwx⟩ := hrel
  by_cases hlt : k < s.size
  ·have hkl : k < s.data.toList.length := by rw [hL.out]; exact hlt
   cases hw : wo s[k] with
   | none =>
    have hres : Hid (unhex s.data.toList 0 = .error k) := by
     rcases Nat.mod_two_eq_zero_or_one k with h0 | h1
     ·exact st_bad0 _ k o hkl h0 hun.out hw
     ·exact st_bad1 _ k o hkl h1 hun.out x (hwx.out (by omega) h1) hw
    have Hw : Hid (wo s[k] = none) := hw
    clear hw hun hwx hown
    go_wp2_with (go_at_call 164; refine (hexWorth_any _ _).mono ?_; rintro e w' ⟨rfl, rfl⟩; rw [Hw.out])
    go_ret3
    exact ⟨ret_tup (by rw [hres.out]; rfl), hb⟩
   | some y =>
    have hy16 := TextMath.wo_lt _ _ hw
    rcases Nat.mod_two_eq_zero_or_one k with h0 | h1
    ·have HU : Hid (_ = _) := st_even _ k o h0 hun.out
     have hh : (((k : Nat) : Int) % 2 == 0) = true := by simp; omega
     have hk2 : (k + 1) / 2 = k / 2 := by omega
     have HX : Hid (∀ (h : k + 1 - 1 < s.data.toList.length), (k + 1) % 2 = 1 → wo s.data.toList[k + 1 - 1] = some y) := fun _ _ => hw
     have Hw : Hid (wo s[k] = some y) := hw
     clear hw hun hwx
     go_wp2_with (go_at_call 164; refine (hexWorth_any _ _).mono ?_; rintro e w' ⟨rfl, rfl⟩; rw [Hw.out])
     go_roundw
     case rel => exact ⟨k + 1, y, o, by omega, by go_num, hy16, rfl, by rw [hk2], hb, hgs, by rw [hk2]; exact hown, HU, HX⟩
     case measure => simp [intOf]; omega
    ·have HU : Hid (_ = _) := st_pair _ k o hkl h1 hun.out x y (hwx.out (by omega) h1) hw
     have hh : (((k : Nat) : Int) % 2 == 0) = false := by simp; omega
     have hk2 : (k + 1) / 2 = k / 2 + 1 := by omega
     have hroom : k / 2 + 1 ≤ s.size / 2 := by omega
     have hor := or16 x y hx16 hy16
     have hnew : Hid (bv (o ++ [UInt8.ofNat (16 * x + y)]) = bv o ++ [.int .u8 ((16 * x + y : Nat) : Int)]) := by
      unfold Hid; rw [bv_app]; congr 1
      show [Value.int .u8 ((UInt8.ofNat (16 * x + y)).toNat : Int)] = _
      rw [UInt8.toNat_ofNat', Nat.mod_eq_of_lt (by omega)]
     have HX : Hid (∀ (h : k + 1 - 1 < s.data.toList.length), (k + 1) % 2 = 1 → wo s.data.toList[k + 1 - 1] = some x) := fun _ h => by omega
     have Hw : Hid (wo s[k] = some y) := hw
     clear hw hun hwx
     generalize 16 * x + y = z at *
     go_wp2_with (first | (go_at_call 164; refine (hexWorth_any _ _).mono ?_; rintro e w' ⟨rfl, rfl⟩; rw [Hw.out]) | (at_builtin; refine wpList_append_fits _ rfl _ _ 87 rfl w.heap.size 5 i0 1 Tryz.underlying87 hi hz1 w.heap.size (k / 2) (s.size / 2) _ rfl (hown.alloc _) ⟨wr.heap.size, 0, none⟩ 1 1 [.int .u8 (z : Int)] rfl rfl ?_ ?_ ?_ ?_; exact cell_one_new _ _ _; (intro u hu; simp at hu; subst hu; rfl); omega; intro w1 hown1 hgrow1))
     go_roundw
     case rel =>
      refine ⟨k + 1, x, o ++ [UInt8.ofNat z], by omega, by go_num, hx16, rfl, by rw [hk2], ?_, ?_, ?_, HU, HX⟩
      ·exact (hb.alloc (by omega) _).grown hgrow1 (by simp; omega) (fun k h => by injection h with h; omega)
      ·have := hgrow1.size; simp at this; omega
      ·rw [hk2, hnew.out]; exact hown1
     case measure => simp [intOf]; omega
  ·have hke : k = s.size := by omega
   rcases Nat.mod_two_eq_zero_or_one k with h0 | h1
   ·have HR : Hid (unhex s.data.toList 0 = .ok o) := st_end0 _ k o (by rw [hL.out]; exact hke) h0 hun.out
    subst hke
    have hback := own_back (P := Tryz.prog) wr w.heap.size 87 9 5 w.heap.size _ _ _ Tryz.underlying87 Tryz.underlying5 Tryz.underlying9 hown
    have hh : (((s.size : Nat) : Int) % 2 != 0) = false := by simp; omega
    clear hown hun hwx
    go_wp2
    go_ret3
    exact ⟨ret_tup (by rw [HR.out]; rfl), hb⟩
   ·have HR : Hid (unhex s.data.toList 0 = .error k) := st_end1 _ k o (by rw [hL.out]; exact hke) h1 hun.out x (hwx.out (by rw [hL.out]; omega) h1)
    subst hke
    have hh : (((s.size : Nat) : Int) % 2 != 0) = true := by rw [bne_iff_ne]; omega
    clear hown hun hwx
    go_wp2
    go_ret3
    exact ⟨ret_tup (by rw [HR.out]; rfl), hb⟩
end Go.Proofs.YtkknenmpdimdbaaGreatDoor
