import Derived.Test.YtkknenmpdimdbaaGreatDoorFW18
import Derived.Test.YtkknenmpdimdbaaGreatDoorFW45
import Derived.Test.YtkknenmpdimdbaaGreatDoorFW46
namespace Go.Proofs.YtkknenmpdimdbaaGreatDoor
namespace Ke
open Go.RowKit
open TextMath (fold lo normal check)
open Du (PRow DRow PX sd sd_len drow_at pV pV_len prow_at)
set_option linter.unusedVariables false
set_option linter.unusedSimpArgs false
set_option maxRecDepth 100000
theorem okP_of {ps : List PR} (h : rerr ps = 0) : OkP ps := by
 have h1 : ¬ ps.length = 0 := fun e => by unfold rerr at h; rw [if_pos e] at h; exact absurd h (by decide)
 have h2 : ¬ 8 < ps.length := fun e => by unfold rerr at h; rw [if_neg h1, if_pos e] at h; exact absurd h (by decide)
 have key : ∀ k, k ≤ ps.length → ∀ j, j < k → OkI ps j := fun k => by
  induction k with
  | zero => intro _ j hj; omega
  | succ k ih =>
   intro hk j hj
   have hI := ih (by omega)
   by_cases e : j = k
   ·subst e
    have hk' : j < ps.length := by omega
    have q1 : tyOk ps[j].1 = true := Classical.byContradiction fun c => by rw [rer_ty (by omega) (by omega) j hk' hI c] at h; exact absurd h (by decide)
    have q2 : tyC ps[j].1 ∉ tys (ps.take j) := fun c => by rw [rer_in (by omega) (by omega) j hk' hI q1 c] at h; exact absurd h (by decide)
    have q3 : utf ps[j].2 = true := Classical.byContradiction fun c => by rw [rer_ut (by omega) (by omega) j hk' hI q1 q2 c] at h; exact absurd h (by decide)
    exact ⟨hk', q1, q2, q3⟩
   ·exact hI j (by omega)
 exact ⟨by omega, by omega, fun j hj => key ps.length (Nat.le_refl _) j hj⟩
def RtF (w : World) (ps : List PR) (e : Ending) (w' : World) : Prop :=
 Below w.heap.size w w' ∧ ((rerr ps = 0 ∧ e = .returned (.tuple #[.string (S (keyTx ps)), .int .i64 0, .int .i64 0])) ∨ (rerr ps ≠ 0 ∧ e = .returned (.tuple #[.string ⟨#[]⟩, .int .i64 (rerr ps : Int), .int .i64 0])))
theorem less_S (a b : List UInt8) : Op.bytesLess (S a).toList (S b).toList = decide (a < b) := by
 rw [Bool.eq_iff_iff, Lib.toList_data, Lib.toList_data, S_l, S_l, less_iff]
 simp
theorem cat0 (X l e : List UInt8) : S X ++ S l ++ { data := #[61] } ++ S e = S (X ++ (l ++ 61 :: e)) := S_eq _ _ (by simp only [app_l, S_l]; simp)
theorem cat1 (X l e : List UInt8) : S X ++ { data := #[43] } ++ S l ++ { data := #[61] } ++ S e = S (X ++ 43 :: (l ++ 61 :: e)) := S_eq _ _ (by simp only [app_l, S_l]; simp)
theorem eq_S (a b : List UInt8) : ((S a).toList == (S b).toList) = decide (a = b) := by
 rw [Bool.eq_iff_iff, Lib.toList_data, Lib.toList_data, S_l, S_l]
 simp
set_option maxHeartbeats 4000000 in
theorem rpart_any (a : Option Addr) (c n : Nat) (ps : List PR) (w : World) (hG : RowTab w) (hn : ps.length = n) (hr : PRow w a ps) (hz : ∀ p ∈ ps, p.1.length + p.2.length ≤ 4194300) (hnb : n ≤ 140737488355328) :
  Calls Tryz.prog 24 #[.slice a n c] w fun e w' => RtF w ps e w' := by
 have nb : (n : Int) ≤ 140737488355328 := by omega
 have hn' : Hid (ps.length = n) := hn
 have hr' : Hid (PRow w a ps) := hr
 have hz' : Hid (∀ p ∈ ps, p.1.length + p.2.length ≤ 4194300) := hz
 have hW : Hid (Calls Tryz.prog 46 #[.slice a n c] w fun e w' => e = .returned (.int .i64 (rerr ps : Int)) ∧ Below w.heap.size w w') := wrong_any a c n ps w hG hn hr hz hnb
 have hsumB : Hid (OkP ps → ((srtP (ps.map cn)).map ptW).sum ≤ 1000000000000) := fun hok => by
  have h1 := sum_le (srtP (ps.map cn)) 10000000000 (fun x hx => by
   obtain ⟨p, hp, rfl⟩ := List.mem_map.1 ((srt_holds (ps.map cn)).1.subset hx)
   have h2 := hz p hp
   have h3 := tyC_len p.1
   have h4 := normal_len p.2
   unfold ptW cn
   simp only
   omega)
  have h2 := (srt_holds (ps.map cn)).2.1
  rw [List.length_map] at h2
  have h3 := hok.2.1
  rw [h2] at h1
  have : ps.length * 10000000000 ≤ 8 * 10000000000 := Nat.mul_le_mul_right _ h3
  omega
 clear hr hz hG hn hnb
 go_enter Tryz.func24, Tryz.ntmps24
 go_wp2_with fail
 refine hW.out.mono ?_
 rintro e W1 ⟨rfl, hb1⟩
 have hb1' : Hid (Below w.heap.size w W1) := hb1
 clear hW hb1
 by_cases hq : rerr ps = 0
 ·have hok : Hid (OkP ps) := okP_of hq
  have hq0 : Hid (rerr ps = 0) := hq
  rw [hq]
  clear hq
  go_wp2_with fail
  go_loopw [6, 7, 8] (fun sv lv nv wr => ∃ k : Nat, k ≤ n ∧ nv = .int .i64 (k : Int) ∧ sv = .string (S (ptx ((srtP (ps.map cn)).take k))) ∧ lv = .string (S (lastT ps k)) ∧ Hid (Below w.heap.size w wr)) (fun _ _ nv _ => n - (intOf nv).toNat)
  case atStart => exact ⟨0, Nat.zero_le _, rfl, rfl, rfl, hb1'⟩
  case round =>
   obtain ⟨k, hk, rfl, rfl, rfl, hB⟩ := hrel
   have k0 : (0 : Int) ≤ (k : Int) := Int.natCast_nonneg _
   by_cases hlt : k < n
   ·have k1 : (k : Int) < (n : Int) := Int.ofNat_lt.2 hlt
    have hlt' : Hid (k < n) := hlt
    obtain ⟨T, hT⟩ : ∃ T, lastT ps k = T := ⟨_, rfl⟩
    obtain ⟨X, hX⟩ : ∃ X, ptx ((srtP (ps.map cn)).take k) = X := ⟨_, rfl⟩
    have hT' : Hid (lastT ps k = T) := hT
    have hX' : Hid (ptx ((srtP (ps.map cn)).take k) = X) := hX
    rw [hT, hX]
    clear hT hX hk hlt
    go_wp2_with fail
    go_loopw [9, 10, 11] (fun av vv iv wr => ∃ (i : Nat) (least value : List UInt8), i ≤ n ∧ iv = .int .i64 (i : Int) ∧ av = .string (S least) ∧ vv = .string (S value) ∧ Hid (Sel T (ps.take i) least value ∧ Below w.heap.size w wr)) (fun _ _ iv _ => n - (intOf iv).toNat)
    case atStart => exact ⟨0, [], [], Nat.zero_le _, rfl, rfl, rfl, Sel.zero _ _, hB.out⟩
    case round =>
     obtain ⟨i, least, value, hi, rfl, rfl, rfl, hR⟩ := hrel
     have i0 : (0 : Int) ≤ (i : Int) := Int.natCast_nonneg _
     by_cases hil : i < n
     ·have i1 : (i : Int) < (n : Int) := Int.ofNat_lt.2 hil
      have hiP : i < ps.length := by rw [hn'.out]; exact hil
      obtain ⟨pb, po, rfl, c3, c4⟩ := prow_at (hr'.out.below pV_len hR.out.2) i hiP
      have hpc : Hid (∀ W, Below w.heap.size w W → W.cell? ⟨pb, po + i * 2 + 1, none⟩ = some (.string (S ps[i].2))) := fun W hW => by
       obtain ⟨b', o', e, _, h⟩ := prow_at (hr'.out.below pV_len hW) i hiP
       injection e with e
       injection e with e1 e2
       subst e1 e2
       exact h
      have hP : Hid (Calls Tryz.prog 47 #[.string (S ps[i].1)] wr fun e w' => (∃ m : Nat, e = .returned (.tuple #[.string (S (tyC ps[i].1)), .int .i64 (if tyOk ps[i].1 = true then 0 else 40), .int .i64 (m : Int)])) ∧ Below wr.heap.size wr w') := rparse_ty _ wr (by have := hz'.out _ (List.getElem_mem hiP); omega)
      have htk : Hid (T < tyC ps[i].1 → (least = [] ∨ tyC ps[i].1 < least) → Sel T (ps.take (i + 1)) (tyC ps[i].1) ps[i].2) := fun h1 h2 => by rw [List.take_succ_eq_append_getElem hiP]; exact hR.out.1.take _ h1 h2
      have hsk : Hid (¬ (T < tyC ps[i].1 ∧ (least = [] ∨ tyC ps[i].1 < least)) → Sel T (ps.take (i + 1)) least value) := fun h => by rw [List.take_succ_eq_append_getElem hiP]; exact hR.out.1.skip _ h
      have hil' : Hid (i < n) := hil
      generalize ps[i] = p at *
      obtain ⟨t, v⟩ := p
      dsimp only at c3 c4 hpc hP htk hsk
      have hBR : Hid (Below w.heap.size w wr) := hR.out.2
      have l1 := less_S (tyC t) T
      have l0 : ((S (tyC t)).toList == (S T).toList) = decide (tyC t = T) := eq_S _ _
      have l2 := less_S (tyC t) least
      have l3 : ((S least).toList == []) = decide (least = []) := by rw [Lib.toList_data, S_l]; cases least <;> simp
      clear hR hil hiP hi c4
      go_wp2_with fail
      refine hP.out.mono ?_
      rintro e W2 ⟨⟨m2, rfl⟩, hb2⟩
      have hB2 : Hid (Below w.heap.size w W2) := hBR.out.trans (hb2.mono hBR.out.size)
      have c5 := hpc.out W2 hB2.out
      clear hP hb2 hpc c3 hBR
      by_cases q1 : T < tyC t
      ·rw [decide_eq_false (fun h => List.lt_asymm q1 h)] at l1
       rw [decide_eq_false (fun h => by rw [h] at q1; exact List.lt_irrefl _ q1)] at l0
       by_cases q2 : least = []
       ·subst q2
        have hfin : Hid (Sel T (ps.take (i + 1)) (tyC t) v ∧ Below w.heap.size w W2) := ⟨htk.out q1 (Or.inl rfl), hB2.out⟩
        rw [decide_eq_true rfl] at l3
        clear htk hsk l2 q1
        go_wp2_with fail
        go_roundw
        case rel => exact ⟨i + 1, _, _, hil'.out, by go_num, rfl, rfl, hfin⟩
        case measure => have := hil'.out; simp [intOf]; omega
       ·rw [decide_eq_false q2] at l3
        by_cases q3 : tyC t < least
        ·have hfin : Hid (Sel T (ps.take (i + 1)) (tyC t) v ∧ Below w.heap.size w W2) := ⟨htk.out q1 (Or.inr q3), hB2.out⟩
         rw [decide_eq_true q3] at l2
         clear htk hsk q1 q2 q3
         go_wp2_with fail
         go_roundw
         case rel => exact ⟨i + 1, _, _, hil'.out, by go_num, rfl, rfl, hfin⟩
         case measure => have := hil'.out; simp [intOf]; omega
        ·have hfin : Hid (Sel T (ps.take (i + 1)) least value ∧ Below w.heap.size w W2) := ⟨hsk.out (fun h => h.2.elim q2 q3), hB2.out⟩
         rw [decide_eq_false q3] at l2
         clear htk hsk q1 q2 q3
         go_wp2_with fail
         go_roundw
         case rel => exact ⟨i + 1, _, _, hil'.out, by go_num, rfl, rfl, hfin⟩
         case measure => have := hil'.out; simp [intOf]; omega
      ·have hfin : Hid (Sel T (ps.take (i + 1)) least value ∧ Below w.heap.size w W2) := ⟨hsk.out (fun h => q1 h.1), hB2.out⟩
       by_cases q4 : tyC t < T
       ·rw [decide_eq_true q4] at l1
        clear htk hsk q1 l2 l3 q4
        go_wp2_with fail
        go_roundw
        case rel => exact ⟨i + 1, _, _, hil'.out, by go_num, rfl, rfl, hfin⟩
        case measure => have := hil'.out; simp [intOf]; omega
       ·have q5 : tyC t = T := List.le_antisymm q1 q4
        rw [decide_eq_false q4] at l1
        rw [decide_eq_true q5] at l0
        clear htk hsk q1 l2 l3 q4 q5
        go_wp2_with fail
        go_roundw
        case rel => exact ⟨i + 1, _, _, hil'.out, by go_num, rfl, rfl, hfin⟩
        case measure => have := hil'.out; simp [intOf]; omega
     ·have e : n = i := by omega
      subst e
      have i1 : ¬ (n : Int) < (n : Int) := by omega
      have hsel : Sel T ps least value := by
       have := hR.out.1
       rw [List.take_of_length_le (by rw [hn'.out]; exact Nat.le_refl _)] at this
       exact this
      have hnx := Sel.next hok.out k (by rw [hn'.out]; exact hlt'.out) (by rw [hT'.out]; exact hsel)
      have hvl : Hid (value.length ≤ 4194300) := by
       rcases hsel with ⟨e, _⟩ | ⟨q, hq, _, e2, _⟩
       ·exact absurd e hnx.2.1
       ·have := hz'.out q hq
        rw [← e2]
        unfold Hid
        omega
      have hl1 : Hid (lastT ps (k + 1) = least) := hnx.2.2
      have hkl : k < (srtP (ps.map cn)).length := by rw [(srt_holds (ps.map cn)).2.1, List.length_map, hn'.out]; exact hlt'.out
      have hsn : Hid (ptx ((srtP (ps.map cn)).take (k + 1)) = X ++ (if k = 0 then pt1 (least, normal value) else 43 :: pt1 (least, normal value))) := by
       unfold Hid
       have e1 : (srtP (ps.map cn))[k] = (least, normal value) := by
        have := hnx.1
        rw [List.getElem?_eq_getElem hkl] at this
        exact Option.some.inj this
       rw [List.take_succ_eq_append_getElem hkl, ptx_snoc, e1, hX'.out]
       congr 1
       by_cases h0 : k = 0
       ·subst h0; simp
       ·rw [if_neg h0, if_neg (fun e => h0 (by have := congrArg List.length e; rw [List.length_take, List.length_nil] at this; omega))]
      have hsz : (S X).size + (S least).size + 2 + (S (escV (normal value))).size ≤ 1000000000010 := by
       have e1 : (srtP (ps.map cn))[k] = (least, normal value) := by
        have := hnx.1
        rw [List.getElem?_eq_getElem hkl] at this
        exact Option.some.inj this
       have h1 := sum_at (srtP (ps.map cn)) k hkl
       have h2 := ptx_len ((srtP (ps.map cn)).take k)
       rw [hX'.out] at h2
       rw [e1] at h1
       have h3 : ptW (least, normal value) = least.length + 3 * (normal value).length + 2 := rfl
       have h4 := escV_len (normal value)
       have h5 := hsumB.out hok.out
       rw [S_size, S_size, S_size]
       omega
      have z1 : ¬ 9223372036854775807 < (S X).size + (S least).size := by omega
      have z2 : ¬ 9223372036854775807 < (S X).size + (S least).size + 1 := by omega
      have z3 : ¬ 9223372036854775807 < (S X).size + (S least).size + 1 + (S (escV (normal value))).size := by omega
      have z4 : ¬ 9223372036854775807 < (S X).size + 1 := by omega
      have z5 : ¬ 9223372036854775807 < (S X).size + 1 + (S least).size := by omega
      have z6 : ¬ 9223372036854775807 < (S X).size + 1 + (S least).size + 1 := by omega
      have z7 : ¬ 9223372036854775807 < (S X).size + 1 + (S least).size + 1 + (S (escV (normal value))).size := by omega
      have hN : Hid (Calls Tryz.prog 48 #[.string (S value)] wr fun e w' => e = .returned (.string (S (normal value))) ∧ Below wr.heap.size wr w') := by
       have h := rNormal_any (S value) wr (by rw [S_size]; have := hvl.out; omega)
       rw [S_l] at h
       exact h
      have hE : Hid (∀ W, Calls Tryz.prog 45 #[.string (S (normal value))] W fun e w' => e = .returned (.string (S (escV (normal value)))) ∧ Below W.heap.size W w') := fun W => by
       have h := escape_any (S (normal value)) W (by rw [S_size]; have := normal_len value; have := hvl.out; omega)
       rw [S_l] at h
       exact h
      have hBR : Hid (Below w.heap.size w wr) := hR.out.2
      have hgo : Hid (∀ W, Below wr.heap.size wr W → Below w.heap.size w W) := fun W hb => hBR.out.trans (hb.mono hBR.out.size)
      clear hsel hnx hkl hR hi hil hsz
      by_cases h0 : k = 0
      ·have kp : ¬ (0 : Int) < (k : Int) := by omega
       rw [if_pos h0] at hsn
       have hfin : Hid (∀ W, Below w.heap.size w W → ∃ k' : Nat, k' ≤ n ∧ Value.int .i64 ((k : Int) + 1) = .int .i64 (k' : Int) ∧ Value.string (S X ++ S least ++ { data := #[61] } ++ S (escV (normal value))) = .string (S (ptx ((srtP (ps.map cn)).take k'))) ∧ Value.string (S least) = .string (S (lastT ps k')) ∧ Hid (Below w.heap.size w W)) := fun W hW => ⟨k + 1, hlt'.out, by rw [Int.natCast_add]; rfl, by rw [hsn.out, cat0]; rfl, by rw [hl1.out], hW⟩
       clear h0 hsn hl1
       go_wp2_with fail
       refine hN.out.mono ?_
       rintro e W2 ⟨rfl, hb2⟩
       have hB2 : Hid (Below w.heap.size w W2) := hgo.out W2 hb2
       have hE2 : Hid (Calls Tryz.prog 45 #[.string (S (normal value))] W2 fun e w' => e = .returned (.string (S (escV (normal value)))) ∧ Below W2.heap.size W2 w') := hE.out W2
       clear hN hE hb2
       go_wp2_with fail
       refine hE2.out.mono ?_
       rintro e W3 ⟨rfl, hb3⟩
       have hB3 : Hid (Below w.heap.size w W3) := hB2.out.trans (hb3.mono hB2.out.size)
       clear hE2 hb3
       go_wp2_with fail
       go_roundw
       case rel => exact hfin.out _ hB3.out
       case measure => have := hlt'.out; simp [intOf]; omega
      ·have kp : (0 : Int) < (k : Int) := by omega
       rw [if_neg h0] at hsn
       have hfin : Hid (∀ W, Below w.heap.size w W → ∃ k' : Nat, k' ≤ n ∧ Value.int .i64 ((k : Int) + 1) = .int .i64 (k' : Int) ∧ Value.string (S X ++ { data := #[43] } ++ S least ++ { data := #[61] } ++ S (escV (normal value))) = .string (S (ptx ((srtP (ps.map cn)).take k'))) ∧ Value.string (S least) = .string (S (lastT ps k')) ∧ Hid (Below w.heap.size w W)) := fun W hW => ⟨k + 1, hlt'.out, by rw [Int.natCast_add]; rfl, by rw [hsn.out, cat1]; rfl, by rw [hl1.out], hW⟩
       clear h0 hsn hl1
       go_wp2_with fail
       refine hN.out.mono ?_
       rintro e W2 ⟨rfl, hb2⟩
       have hB2 : Hid (Below w.heap.size w W2) := hgo.out W2 hb2
       have hE2 : Hid (Calls Tryz.prog 45 #[.string (S (normal value))] W2 fun e w' => e = .returned (.string (S (escV (normal value)))) ∧ Below W2.heap.size W2 w') := hE.out W2
       clear hN hE hb2
       go_wp2_with fail
       refine hE2.out.mono ?_
       rintro e W3 ⟨rfl, hb3⟩
       have hB3 : Hid (Below w.heap.size w W3) := hB2.out.trans (hb3.mono hB2.out.size)
       clear hE2 hb3
       go_wp2_with fail
       go_roundw
       case rel => exact hfin.out _ hB3.out
       case measure => have := hlt'.out; simp [intOf]; omega
   ·have e : n = k := by omega
    subst e
    have i1 : ¬ (n : Int) < (n : Int) := by omega
    have hfin : Hid (RtF w ps (.returned (.tuple #[.string (S (ptx ((srtP (ps.map cn)).take n))), .int .i64 0, .int .i64 0])) wr) := by
     refine ⟨hB.out, Or.inl ⟨hq0.out, ?_⟩⟩
     unfold keyTx
     rw [List.take_of_length_le (by rw [(srt_holds (ps.map cn)).2.1, List.length_map, hn'.out]; exact Nat.le_refl _)]
    clear hB hk hlt
    go_wp2_with fail
    go_ret3
    exact hfin.out
 ·have hfin : Hid (RtF w ps (.returned (.tuple #[.string ⟨#[]⟩, .int .i64 (rerr ps : Int), .int .i64 0])) W1) := ⟨hb1'.out, Or.inr ⟨hq, rfl⟩⟩
  have hq' : (((rerr ps : Nat) : Int) == 0) = false := by rw [beq_eq_false_iff_ne]; omega
  generalize rerr ps = rr at *
  clear hq
  go_wp2_with fail
  go_ret3
  exact hfin.out
end Ke
end Go.Proofs.YtkknenmpdimdbaaGreatDoor

namespace Go.Proofs.YtkknenmpdimdbaaGreatDoor
namespace Ke
open Go.RowKit
open TextMath (fold lo normal check)
open Du (PRow DRow PX sd sd_len drow_at pV pV_len prow_at)
set_option linter.unusedVariables false
set_option linter.unusedSimpArgs false
set_option maxRecDepth 100000
theorem cer_rer {ps : List PR} {k : Nat} (h : cer ps (k : Int) = 0) : rerr ps = 0 := by
 unfold cer at h
 split at h
 ·exact absurd h (by decide)
 ·exact h
def RkF (w : World) (D : List (List PR)) (n : Nat) (e : Ending) (w' : World) : Prop :=
 Below w.heap.size w w' ∧ ((Az D ∧ ∃ ka kc, e = .returned (.tuple #[.slice ka n kc, .int .i64 0, .int .i64 0]) ∧ OwnS w' w.heap.size (.slice ka n kc) (keys D)) ∨ (∃ k, ∃ h : k < D.length, Fs D k ∧ e = .returned (.tuple #[.slice none 0 0, .int .i64 (cer D[k] (k : Int) : Int), .int .i64 (k : Int)])))
set_option maxHeartbeats 4000000 in
theorem rkey_any (sa : Option Addr) (sc n : Nat) (L : List PX) (w : World) (hG : RowTab w) (hn : L.length = n) (hr : DRow w sa L) (hz : ∀ r ∈ L, ∀ p ∈ r.2.2, p.1.length + p.2.length ≤ 4194300) (hzl : ∀ r ∈ L, r.2.2.length ≤ 1073741824) (hnb : n ≤ 1073741824) :
  Calls Tryz.prog 22 #[.slice sa n sc] w fun e w' => RkF w (sd L) n e w' := by
 have nb : (n : Int) ≤ 1073741824 := by omega
 have n0 : (0 : Int) ≤ (n : Int) := by omega
 have hn' : Hid (L.length = n ∧ n ≤ 1073741824) := ⟨hn, hnb⟩
 have hr' : Hid (DRow w sa L) := hr
 have hG' : Hid (RowTab w) := hG
 have hz' : Hid ((∀ r ∈ L, ∀ p ∈ r.2.2, p.1.length + p.2.length ≤ 4194300) ∧ ∀ r ∈ L, r.2.2.length ≤ 1073741824) := ⟨hz, hzl⟩
 have hN : Hid (Calls Tryz.prog 44 #[.slice sa n sc] w fun e w' => NmF w (sd L) e w') := name_any sa sc n L w hG hn hr hz hzl hnb
 clear hG hn hr hz hzl hnb
 go_enter Tryz.func22, Tryz.ntmps22
 go_wp2_with fail
 refine hN.out.mono ?_
 rintro e W1 ⟨hb1, ⟨hA, rfl⟩ | ⟨k, hk, hF, rfl⟩⟩
 ·have hA' : Hid (Az (sd L)) := hA
  have hb1' : Hid (Below w.heap.size w W1) := hb1
  clear hN hA hb1
  go_wp2_with fail
  go_loopw [7, 8] (fun kv iv wr => ∃ (z : Int) (j : Nat) (ka : Option Addr) (kl kc : Nat), iv = .int .i64 z ∧ kv = .slice ka kl kc ∧ Hid (z = (j : Int) - 1 ∧ j ≤ n ∧ OwnS wr w.heap.size (.slice ka kl kc) (((sd L).drop j).map keyTx).reverse ∧ Below w.heap.size w wr)) (fun _ iv _ => (intOf iv + 1).toNat)
  case atStart => exact ⟨(n : Int) - 1, n, none, 0, 0, by first | rfl | go_num, rfl, rfl, Nat.le_refl _, by rw [List.drop_of_length_le (by rw [sd_len, hn'.out.1]; exact Nat.le_refl _)]; exact ownS_nil _ _, hb1'.out⟩
  case round =>
   obtain ⟨z, j, ka, kl, kc, rfl, rfl, hR⟩ := hrel
   by_cases hj : j = 0
   ·subst hj
    obtain rfl : z = -1 := by have := hR.out.1; omega
    have hlk : (((sd L).drop 0).map keyTx).reverse.length = n := by rw [List.length_reverse, List.length_map, List.drop_zero, sd_len]; exact hn'.out.1
    have hkl : kl = n := by
     rcases ownS_formD hR.out.2.2.1 with ⟨h0, h1⟩ | ⟨g, cap, h0, _⟩
     ·injection h0 with _ h0 _
      rw [h1] at hlk
      rw [h0]
      exact hlk
     ·injection h0 with _ h0 _
      rw [h0, hlk]
    subst hkl
    have hfin : Hid (RkF w (sd L) kl (.returned (.tuple #[.slice ka kl kc, .int .i64 0, .int .i64 0])) wr) := by
     refine ⟨hR.out.2.2.2, Or.inl ⟨hA'.out, ka, kc, rfl, ?_⟩⟩
     have := hR.out.2.2.1
     rw [List.drop_zero] at this
     exact this
    clear hR hlk
    go_wp2_with fail
    go_ret3
    exact hfin.out
   ·obtain ⟨k, rfl⟩ : ∃ k, j = k + 1 := ⟨j - 1, by omega⟩
    obtain rfl : z = (k : Int) := by have := hR.out.1; omega
    have k0 : (0 : Int) ≤ (k : Int) := Int.natCast_nonneg _
    have hlt : k < n := by have := hR.out.2.1; omega
    have k1 : (k : Int) < (n : Int) := Int.ofNat_lt.2 hlt
    have hkL : k < L.length := by rw [hn'.out.1]; exact hlt
    have hBw : Hid (Below w.heap.size w wr) := hR.out.2.2.2
    have hRw := hr'.out.below hBw.out
    obtain ⟨b, off, rfl, c1⟩ := drow_at hRw k hkL
    have hT : Hid (Calls Tryz.prog 24 #[.slice L[k].1 L[k].2.2.length L[k].2.1] wr fun e w' => RtF wr L[k].2.2 e w') := rpart_any _ _ _ _ wr (rowTab_below hG'.out hBw.out) rfl (hRw.2 _ (List.getElem_mem hkL)).1 (hz'.out.1 _ (List.getElem_mem hkL)) (by have := hz'.out.2 _ (List.getElem_mem hkL); omega)
    have hre : Hid (rerr L[k].2.2 = 0) := by
     have := hA'.out k (by rw [sd_len]; exact hkL)
     rw [sdAt L k hkL] at this
     exact cer_rer this
    have hsn : Hid ((((sd L).drop k).map keyTx).reverse = (((sd L).drop (k + 1)).map keyTx).reverse ++ [keyTx L[k].2.2]) := by
     unfold Hid
     rw [List.drop_eq_getElem_cons (by rw [sd_len]; exact hkL), List.map_cons, List.reverse_cons, sdAt L k hkL]
    have hlk : Hid (((((sd L).drop (k + 1)).map keyTx).reverse).length ≤ 1073741824) := by
     unfold Hid
     rw [List.length_reverse, List.length_map, List.length_drop, sd_len]
     have := hn'.out
     omega
    have hlt' : Hid (k < n) := hlt
    generalize L[k] = r at *
    obtain ⟨pa, pc, ps⟩ := r
    dsimp only at c1 hT hre hsn
    generalize ps.length = m at *
    generalize hX : (((sd L).drop (k + 1)).map keyTx).reverse = X at *
    have hO : Hid (OwnS wr w.heap.size (.slice ka kl kc) X) := hR.out.2.2.1
    clear hlt hkL hRw hR hX hj
    go_wp2_with fail
    refine hT.out.mono ?_
    rintro e W2 ⟨hb2, ⟨_, rfl⟩ | ⟨hno, rfl⟩⟩
    ·have hB2 : Hid (Below w.heap.size w W2) := hBw.out.trans (hb2.mono hBw.out.size)
     obtain ⟨v3, W3, e3', o3, b3⟩ := append_row (W2.alloc (.cells #[.string (S (keyTx ps))] 9)) w.heap.size (.slice ka kl kc) X [keyTx ps] (some ⟨W2.heap.size, 0, none⟩) 1 1 (ownS_below (ownS_below hO.out hb2) ((Below.refl _ _).alloc (Nat.le_refl _) _)) (row_one _ _) rfl (by have := hB2.out.size; simp; omega) (by have := hlk.out; simp; omega)
     obtain ⟨ka', kl', kc', rfl, _⟩ : ∃ ka' kl' kc', v3 = .slice ka' kl' kc' ∧ True := by
      rcases ownS_formD o3 with ⟨h0, _⟩ | ⟨g, cap, e, _⟩
      ·exact ⟨_, _, _, h0, trivial⟩
      ·exact ⟨_, _, _, e, trivial⟩
     have hfin : Hid (k ≤ n ∧ OwnS W3 w.heap.size (.slice ka' kl' kc') (((sd L).drop k).map keyTx).reverse ∧ Below w.heap.size w W3) := ⟨Nat.le_of_lt hlt'.out, by rw [hsn.out]; exact o3, (hB2.out.alloc hB2.out.size _).trans b3⟩
     generalize S (keyTx ps) = sk at *
     clear o3 b3 hO hb2 hT hsn hre hlk
     go_wp2_with (at_builtin; refine Lib.wpList_append_run _ rfl _ _ _ _ rfl _ _ rfl rfl _ _ e3' ?_; clear e3')
     go_roundw
     case rel => exact ⟨(k : Int) - 1, k, ka', kl', kc', by first | rfl | go_num, rfl, ⟨rfl, hfin.out⟩⟩
     case measure => first | (simp [intOf]; done) | (simp [intOf]; omega)
    ·exact (hno hre.out).elim
 ·have hfin : Hid (RkF w (sd L) n (.returned (.tuple #[.slice none 0 0, .int .i64 (cer (sd L)[k] (k : Int) : Int), .int .i64 (k : Int)])) W1) := ⟨hb1, Or.inr ⟨k, hk, hF, rfl⟩⟩
  have hq' : (((cer (sd L)[k] (k : Int) : Nat) : Int) == 0) = false := by
   obtain ⟨_, _, h2⟩ := hF
   rw [beq_eq_false_iff_ne]; omega
  generalize cer (sd L)[k] (k : Int) = rr at *
  clear hb1 hF hN
  go_wp2_with fail
  go_ret3
  exact hfin.out
end Ke
end Go.Proofs.YtkknenmpdimdbaaGreatDoor

namespace Go.Proofs.YtkknenmpdimdbaaGreatDoor
namespace Pa
open Go.RowKit
open TextMath (fold lo normal check wo unhex)
open Ke
open Du (PX DRow PRow GRow sd sd_len pV xV pV_len xV_len)
set_option linter.unusedVariables false
set_option linter.unusedSimpArgs false
set_option maxRecDepth 100000
theorem cer_mem {ps : List PR} {num : Int} (h : cer ps num ≠ 0) : cer ps num = 50 ∨ cer ps num = 51 ∨ cer ps num = 57 ∨ cer ps num = 58 ∨ cer ps num = 59 := by
 unfold cer at h ⊢
 split
 ·exact Or.inr (Or.inr (Or.inr (Or.inl rfl)))
 ·rename_i q
  rw [if_neg q] at h
  rcases rer_mem ps with e | e | e | e | e
  ·exact absurd e h
  ·exact Or.inr (Or.inl e)
  ·exact Or.inr (Or.inr (Or.inl e))
  ·exact Or.inr (Or.inr (Or.inr (Or.inl e)))
  ·exact Or.inr (Or.inr (Or.inr (Or.inr e)))
theorem cer_two {ps : List PR} {num : Int} (h : cer ps num ≠ 0) : 50 ≤ cer ps num ∧ cer ps num ≤ 59 := by
 rcases cer_mem h with e | e | e | e | e <;> rw [e] <;> decide
theorem okd_az {D : List (List PR)} (h : OkD D) : Az D := fun j hj => by
 unfold cer
 rw [if_neg (by have := h.1; omega)]
 exact rer_ok (h.2 _ (List.getElem_mem hj))
def Kq (ad : Nat → Addr) (D : List (List PR)) (a : Option Addr) (kl : Nat) (x : Value) (W : World) : Prop :=
 (Az D ∧ kl = D.length ∧ x = .nilIface ∧ Row W a (keys D)) ∨ (∃ k, ∃ h : k < D.length, Fs D k ∧ kl = 0 ∧ x = refV (evP ad) (cer D[k] (k : Int)) (k : Int))
theorem keyF_kq {ad : Nat → Addr} {w w' : World} {D : List (List PR)} {n : Nat} (hn : D.length = n) {e : Ending} (h : KeyF (evP ad) w D n e w') : ∃ a kl c x, e = .returned (.tuple #[.slice a kl c, x]) ∧ Kq ad D a kl x w' := by
 rcases h.2 with ⟨h1, ka, kc, h2, h3⟩ | ⟨k, h1, h2, h3⟩
 ·exact ⟨_, _, _, _, h2, Or.inl ⟨okd_az h1, hn.symm, rfl, (ownS_row h3).1⟩⟩
 ·exact ⟨_, _, _, _, h3, Or.inr ⟨k, h1, h2, rfl, rfl⟩⟩
theorem Kq.below {ad : Nat → Addr} {D : List (List PR)} {a : Option Addr} {kl : Nat} {x : Value} {W W' : World} (h : Kq ad D a kl x W) (hb : Below W.heap.size W W') : Kq ad D a kl x W' := by
 rcases h with ⟨h1, h2, h3, h4⟩ | h
 ·exact Or.inl ⟨h1, h2, h3, h4.below hb⟩
 ·exact Or.inr h
theorem evF_of {ad : Nat → Addr} {W : World} (h : Sen ad W) : ErrsF (evP ad) W :=
 ⟨(h.1 (58, 8) (by decide)).1, (h.1 (59, 9) (by decide)).1, (h.1 (57, 7) (by decide)).1, (h.1 (51, 1) (by decide)).1⟩
def SmN (D : List (List PR)) : Prop := D.length ≤ 64 ∧ ∀ r ∈ D, r.length ≤ 8 ∧ ∀ q ∈ r, q.1.length ≤ 4096 ∧ q.2.length ≤ 4096
def KoF (ad : Nat → Addr) (n : Nat) (w : World) (R : DRs) (e : Ending) (w' : World) : Prop :=
 Below w.heap.size w w' ∧ ((∃ D a kl c x, R = .ok D ∧ e = .returned (.tuple #[.slice a kl c, x]) ∧ Kq ad D a kl x w') ∨ (∃ k m, R = .error (k, m) ∧ e = .returned (.tuple #[.slice none 0 0, refV (evP ad) k ((n - m : Nat) : Int)])))
set_option maxHeartbeats 4000000 in
theorem keyOf_F (ad : Nat → Addr) (t : List UInt8) (w : World) (R : DRs) (hs : t.length ≤ 140737488355328) (hE : Sen ad w) (hR : prs hxO t = some R) (hz : ∀ D, R = .ok D → SmN D) :
  Calls Tryz.prog 12 #[.string (S t)] w fun e w' => KoF ad t.length w R e w' := by
 have hP : Hid (Calls Tryz.prog 10 #[.string (S t)] w fun e w' => PsQ (evP ad) t.length w R e w') := parse_all (evP ad) t w R hs (evP_ok hE) hR
 have h' : Hid (Sen ad w ∧ ∀ D, R = .ok D → SmN D) := ⟨hE, hz⟩
 generalize S t = st at *
 generalize t.length = tl at *
 clear hs hE hR hz
 go_enter Tryz.func12, Tryz.ntmps12
 go_wp2_with fail
 refine hP.out.mono ?_
 rintro e w1 ⟨hb, ⟨D, va, c, Ls, h1, rfl, hd, hsd⟩ | ⟨k, m, h1, rfl⟩⟩
 ·have hz1 := h'.out.2 D h1
  have hK : Hid (Calls Tryz.prog 13 #[.slice va D.length c] w1 fun e w' => KeyF (evP ad) w1 D D.length e w') := by
   have h := key_F (evP ad) va c D.length Ls w1 (evF_of (h'.out.1.below hb)) (by rw [← hsd, sd_len]) hd (fun r hr p hp => by have := (hz1.2 r.2.2 (by rw [← hsd]; exact List.mem_map.2 ⟨r, hr, rfl⟩)).2 p hp; omega) (fun r hr => by have := (hz1.2 r.2.2 (by rw [← hsd]; exact List.mem_map.2 ⟨r, hr, rfl⟩)).1; omega) (by have := hz1.1; omega)
   rw [hsd] at h
   exact h
  have hb' : Hid (Below w.heap.size w w1) := hb
  have h1' : Hid (R = .ok D) := h1
  obtain ⟨n, hn⟩ : ∃ n, D.length = n := ⟨_, rfl⟩
  have hn' : Hid (D.length = n) := hn
  rw [hn] at hK ⊢
  clear hP hb hd hsd h1 hz1 hn
  go_wp2_with fail
  refine hK.out.mono ?_
  rintro e w2 hq
  obtain ⟨a, kl, kc, x, rfl, hkq⟩ := keyF_kq hn'.out hq
  have hfin : Hid (KoF ad tl w R (.returned (.tuple #[.slice a kl kc, x])) w2) := ⟨hb'.out.trans (hq.1.mono hb'.out.size), Or.inl ⟨D, a, kl, kc, x, h1'.out, rfl, hkq⟩⟩
  clear hK hq hkq
  go_wp2_with fail
  go_ret2
  exact hfin.out
 ·have hfin : Hid (KoF ad tl w R (.returned (.tuple #[.slice none 0 0, refV (evP ad) k ((tl - m : Nat) : Int)])) w1) := ⟨hb, Or.inr ⟨k, m, h1, rfl⟩⟩
  obtain ⟨tt, u, hrv⟩ : ∃ t u, refV (evP ad) k ((tl - m : Nat) : Int) = .iface t u := ⟨_, _, rfl⟩
  rw [hrv] at hfin ⊢
  clear hP hb h1 hrv
  go_wp2_with fail
  go_ret2
  exact hfin.out
def RoF (n : Nat) (w : World) (R : DRs) (e : Ending) (w' : World) : Prop :=
 (∃ D w1, R = .ok D ∧ SmN D ∧ Below w.heap.size w w1 ∧ RkF w1 D D.length e w') ∨ (Below w.heap.size w w' ∧ ∃ k m, R = .error (k, m) ∧ e = .returned (.tuple #[.slice none 0 0, .int .i64 (k : Int), .int .i64 ((n - m : Nat) : Int)]))
set_option maxHeartbeats 4000000 in
theorem rkeyOf_any (t : List UInt8) (w : World) (R : DRs) (hs : t.length ≤ 140737488355328) (hT : RowTab w) (hR : prs hxO t = some R) :
  Calls Tryz.prog 18 #[.string (S t)] w fun e w' => RoF t.length w R e w' := by
 have hP : Hid (Calls Tryz.prog 16 #[.string (S t)] w fun e w' => PrQ5 t.length w R e w') := rparse_any t w R hs hT hR
 have h' : Hid (RowTab w) := hT
 have hR' : Hid (prs hxO t = some R) := hR
 generalize S t = st at *
 generalize t.length = tl at *
 clear hs hT hR
 go_enter Tryz.func18, Tryz.ntmps18
 go_wp2_with fail
 refine hP.out.mono ?_
 rintro e w1 ⟨hb, ⟨D, va, c, Ls, h1, rfl, hd, hsd, h64, hz⟩ | ⟨k, m, h1, rfl⟩⟩
 ·have hK : Hid (Calls Tryz.prog 22 #[.slice va D.length c] w1 fun e w' => RkF w1 D D.length e w') := by
   have h := rkey_any va c D.length Ls w1 (rowTab_below h'.out hb) (by rw [← hsd, sd_len]) hd (fun r hr p hp => by have := (hz r.2.2 (by rw [← hsd]; exact List.mem_map.2 ⟨r, hr, rfl⟩)).2 p hp; omega) (fun r hr => by have := (hz r.2.2 (by rw [← hsd]; exact List.mem_map.2 ⟨r, hr, rfl⟩)).1; omega) (by omega)
   rw [hsd] at h
   exact h
  have h1' : Hid (R = .ok D ∧ SmN D ∧ Below w.heap.size w w1) := ⟨h1, ⟨h64, hz⟩, hb⟩
  obtain ⟨n, hn⟩ : ∃ n, D.length = n := ⟨_, rfl⟩
  have hn' : Hid (D.length = n) := hn
  rw [hn] at hK ⊢
  clear hP hb hd hsd h1 h64 hz hn
  go_wp2_with fail
  refine hK.out.mono ?_
  rintro e w2 hq
  have hfin : Hid (RoF tl w R e w2) := Or.inl ⟨D, w1, h1'.out.1, h1'.out.2.1, h1'.out.2.2, by rw [hn'.out]; exact hq⟩
  rcases hq.2 with ⟨_, ka, kc, rfl, _⟩ | ⟨k, h, _, rfl⟩
  ·clear hK hq
   go_wp2_with fail
   go_ret3
   exact hfin.out
  ·generalize (k : Int) = kk at *
   generalize (cer _ _ : Int) = cc at *
   clear hK hq
   go_wp2_with fail
   go_ret3
   exact hfin.out
 ·have hfin : Hid (RoF tl w R (.returned (.tuple #[.slice none 0 0, .int .i64 (k : Int), .int .i64 ((tl - m : Nat) : Int)])) w1) := Or.inr ⟨hb, k, m, h1, rfl⟩
  have hk0 : ((k : Int) != 0) = true := by
   have := prs_code (by rw [hR'.out, h1])
   rw [bne_iff_ne]
   omega
  generalize ((tl - m : Nat) : Int) = pl at *
  generalize (k : Int) = kk at *
  clear hP hb h1
  go_wp2_with fail
  go_ret3
  exact hfin.out
theorem calls_ex {P : Program} {f : FuncId} {args : Array Value} {w : World} {Q : Ending → World → Prop} (h : Calls P f args w Q) : ∃ e w', Q e w' := by
 obtain ⟨e, w', _, h, _⟩ := h []
 exact ⟨e, w', h⟩
theorem smN_of (t : List UInt8) (w : World) (R : DRs) (hs : t.length ≤ 140737488355328) (hT : RowTab w) (hR : prs hxO t = some R) : ∀ D, R = .ok D → SmN D := fun D hD => by
 obtain ⟨e, w', _, ⟨D2, va, c, L, h1, _, _, _, h64, hz⟩ | ⟨k, m, h1, _⟩⟩ := calls_ex (rparse_any t w R hs hT hR)
 ·rw [hD] at h1
  injection h1 with h1
  subst h1
  exact ⟨h64, hz⟩
 ·rw [hD] at h1
  cases h1
end Pa
end Go.Proofs.YtkknenmpdimdbaaGreatDoor
