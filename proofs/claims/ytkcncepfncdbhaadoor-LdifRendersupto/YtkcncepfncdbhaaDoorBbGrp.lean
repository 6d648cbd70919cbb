import Derived.Test.YtkcncepfncdbhaaDoorBbMath
import Derived.Test.YtkcncepfncdbhaaDoorBytes
import Derived.Test.YtkcncepfncdbhaaDoorInfo
import Derived.Deep.DeepCutAuto
import Derived.BigQuiet
namespace Go.Proofs.YtkcncepfncdbhaaDoor
open Go.RowKit
open TextMath (al grp b64 bo wv ch Gd gF dec unb preB thr gn)
set_option linter.unusedVariables false

/-- The alphabet, as a text. -/
def ALP : ByteArray := ⟨#[65, 66, 67, 68, 69, 70, 71, 72, 73, 74, 75, 76, 77, 78, 79, 80, 81, 82, 83, 84, 85, 86, 87, 88, 89, 90, 97, 98, 99, 100, 101, 102, 103, 104, 105, 106, 107, 108, 109, 110, 111, 112, 113, 114, 115, 116, 117, 118, 119, 120, 121, 122, 48, 49, 50, 51, 52, 53, 54, 55, 56, 57, 43, 47]⟩
theorem ALP_at : ∀ q : Fin 64, ALP.data.toList.getD q.val 0 = al q.val := by decide +kernel
theorem ALP_get (q : Nat) (h : q < 64) (h' : q < ALP.size) : ALP[q] = al q := by
  rw [← getD_s ALP q h']; exact ALP_at ⟨q, h⟩
def gN (l : List UInt8) : Nat → Nat
  | 0 => 0
  | k + 1 => gN l k * 256 + (l.getD k 0).toNat
theorem gN_lt (l : List UInt8) (k : Nat) (h : k ≤ 3) : gN l k < 16777216 ∧ (k ≤ 2 → gN l k < 65536) := by
  have h0 : gN l 0 = 0 := rfl
  have h1 : gN l 1 = gN l 0 * 256 + (l.getD 0 0).toNat := rfl
  have h2 : gN l 2 = gN l 1 * 256 + (l.getD 1 0).toNat := rfl
  have h3 : gN l 3 = gN l 2 * 256 + (l.getD 2 0).toNat := rfl
  have b0 := (l.getD 0 0).toNat_lt
  have b1 := (l.getD 1 0).toNat_lt
  have b2 := (l.getD 2 0).toNat_lt
  have : k = 0 ∨ k = 1 ∨ k = 2 ∨ k = 3 := by omega
  rcases this with rfl | rfl | rfl | rfl <;> omega
theorem getD_out (l : List UInt8) (k : Nat) (h : ¬ k < l.length) : (l.getD k 0).toNat = 0 := by
  rw [List.getD, List.getElem?_eq_none (by omega)]; rfl

set_option maxHeartbeats 1000000 in
theorem group_any (s : ByteArray) (w : World) (h1 : 1 ≤ s.size) (h3 : s.size ≤ 3) :
    Calls Tryd.prog 27 #[.string s] w fun e w' => e = .returned (.string (S (grp s.data.toList))) ∧ Below w.heap.size w w' := by
  have hL : Hid (s.data.toList.length = s.size) := size_l s
  go_enter Tryd.func27, Tryd.ntmps27
  go_wp2_with fail
  go_loopw [3, 4] (fun nv iv wr => ∃ k : Nat, k ≤ 3 ∧ iv = .int .i64 (k : Int) ∧ nv = .int .i64 (gN s.data.toList k : Int) ∧ w = wr) (fun _ iv _ => 3 - (intOf iv).toNat)
  case atStart => exact ⟨0, by omega, rfl, rfl, rfl⟩
  case round =>
    obtain ⟨k, hk, rfl, rfl, rfl⟩ := hrel
    have hb := gN_lt s.data.toList k hk
    by_cases hlt : k < 3
    · have hb2 := hb.2 (by omega)
      have hstep : Hid (gN s.data.toList (k + 1) = gN s.data.toList k * 256 + (s.data.toList.getD k 0).toNat) := rfl
      have k3 : (k : Int) < 3 := by omega
      by_cases hks : k < s.size
      · have hc := getD_s s k hks
        have hc256 : s[k].toNat < 256 := s[k].toNat_lt
        have hstep2 : Hid (gN s.data.toList (k + 1) = gN s.data.toList k * 256 + s[k].toNat) := by unfold Hid; rw [hstep.out, hc]
        clear hb hc hstep
        generalize gN s.data.toList k = n at *
        go_wp2_with fail
        go_roundw
        case rel => exact ⟨k + 1, by omega, by go_num, by rw [hstep2.out]; go_num, by trivial⟩
        case measure => simp [intOf]; omega
      · have hstep2 : Hid (gN s.data.toList (k + 1) = gN s.data.toList k * 256) := by unfold Hid; rw [hstep.out, getD_out _ _ (by rw [hL.out]; exact hks)]; omega
        clear hb hstep
        generalize gN s.data.toList k = n at *
        go_wp2_with fail
        go_roundw
        case rel => exact ⟨k + 1, by omega, by go_num, by rw [hstep2.out]; go_num, by trivial⟩
        case measure => simp [intOf]; omega
    · have hke : k = 3 := by omega
      subst hke
      obtain ⟨n, hn⟩ : ∃ n, gN s.data.toList 3 = n := ⟨_, rfl⟩
      rw [hn]
      rw [hn] at hb
      have hn' : Hid (gN s.data.toList 3 = n) := hn
      have hb' := hb.1
      clear hn hb hlt
      have q1 : (n : Int) / 262144 = ((n / 262144 : Nat) : Int) := by omega
      have q2 : (n : Int) / 4096 % 64 = ((n / 4096 % 64 : Nat) : Int) := by omega
      have q3 : (n : Int) / 64 % 64 = ((n / 64 % 64 : Nat) : Int) := by omega
      have q4 : (n : Int) % 64 = ((n % 64 : Nat) : Int) := by omega
      have b1 : n / 262144 < 64 := by omega
      have b2 : n / 4096 % 64 < 64 := by omega
      have b3 : n / 64 % 64 < 64 := by omega
      have b4 : n % 64 < 64 := by omega
      have g1 : ∀ (h : n / 262144 < ALP.size), (ALP[n / 262144]'h).toNat = (al (n / 262144)).toNat := fun h => by rw [ALP_get _ b1 h]
      have g2 : ∀ (h : n / 4096 % 64 < ALP.size), (ALP[n / 4096 % 64]'h).toNat = (al (n / 4096 % 64)).toNat := fun h => by rw [ALP_get _ b2 h]
      have g3 : ∀ (h : n / 64 % 64 < ALP.size), (ALP[n / 64 % 64]'h).toNat = (al (n / 64 % 64)).toNat := fun h => by rw [ALP_get _ b3 h]
      have g4 : ∀ (h : n % 64 < ALP.size), (ALP[n % 64]'h).toNat = (al (n % 64)).toNat := fun h => by rw [ALP_get _ b4 h]
      unfold ALP at g1 g2 g3 g4
      have hfin : Hid (grp s.data.toList = (if s.size = 1 then [al (n / 262144), al (n / 4096 % 64), 61, 61] else if s.size = 2 then [al (n / 262144), al (n / 4096 % 64), al (n / 64 % 64), 61] else [al (n / 262144), al (n / 4096 % 64), al (n / 64 % 64), al (n % 64)])) := by
        have e := hL.out
        have en := hn'.out
        unfold Hid
        match hd : s.data.toList, e with
        | [x], e =>
          rw [if_pos (by simpa using e.symm), TextMath.grp_gn1]
          have : gn [x] = n := by rw [← en, hd]; simp [gn, gN]; omega
          rw [this]
        | [x, y], e =>
          rw [if_neg (by simp at e; omega), if_pos (by simpa using e.symm), TextMath.grp_gn2]
          have : gn [x, y] = n := by rw [← en, hd]; simp [gn, gN]; omega
          rw [this]
        | [x, y, z], e =>
          rw [if_neg (by simp at e; omega), if_neg (by simp at e; omega), TextMath.grp_gn3]
          have : gn [x, y, z] = n := by rw [← en, hd]; simp [gn, gN]; omega
          rw [this]
        | [], e => simp at e; omega
        | _ :: _ :: _ :: _ :: _, e => simp at e; omega
      generalize n / 262144 = p1 at *
      generalize n / 4096 % 64 = p2 at *
      generalize n / 64 % 64 = p3 at *
      generalize n % 64 = p4 at *
      have c1 : (p1 : Int) < 64 := by omega
      have c2 : (p2 : Int) < 64 := by omega
      have c3 : (p3 : Int) < 64 := by omega
      have c4 : (p4 : Int) < 64 := by omega
      generalize ha1 : al p1 = A1 at *
      generalize ha2 : al p2 = A2 at *
      generalize ha3 : al p3 = A3 at *
      generalize ha4 : al p4 = A4 at *
      clear ha1 ha2 ha3 ha4
      go_wp2_with fail
      go_region
      obtain ⟨W1, hW1⟩ : ∃ W1, (w.alloc (.cells #[.int .u8 (A1.toNat : Int), .int .u8 (A2.toNat : Int), .int .u8 61, .int .u8 61] 5)).drew = W1 := ⟨_, rfl⟩
      rw [hW1]
      have HB1 : Below w.heap.size w W1 := by rw [← hW1]; exact ((Below.refl _ _).alloc (Nat.le_refl _) _).drew
      have hR : BRow W1 w.heap.size [A1, A2, 61, 61] := by
        intro j hj
        have hj4 : j < 4 := hj
        have : j = 0 ∨ j = 1 ∨ j = 2 ∨ j = 3 := by omega
        rw [← hW1]
        rcases this with rfl | rfl | rfl | rfl <;> exact ⟨by simp [go_sem], by simp [go_sem]⟩
      clear hW1
      have HB1' : Hid (Below w.heap.size w W1) := HB1
      have hR' : Hid (BRow W1 w.heap.size [A1, A2, 61, 61]) := hR
      have cc2 := hR 2 (by simp)
      have cc3 := hR 3 (by simp)
      simp only [List.getElem_cons_succ, List.getElem_cons_zero] at cc2 cc3
      have f2 := cc2.2
      have f3 := cc3.2
      have d2 := cc2.1
      have d3 := cc3.1
      clear cc2 cc3 hR HB1 q1 q2 g1 g2 c1 c2 b1 b2
      have hs : s.size = 1 ∨ s.size = 2 ∨ s.size = 3 := by omega
      rcases hs with hs | hs | hs
      · have hcv := conv_back (P := Tryd.prog) W1 30 9 5 w.heap.size 4 4 [A1, A2, 61, 61] Tryd.underlying30 Tryd.underlying5 Tryd.underlying9 rfl hR'.out
        have hf : Hid (grp s.data.toList = [A1, A2, 61, 61]) := by have := hfin.out; rw [if_pos hs] at this; exact this
        have e1 : ¬ (s.size : Int) > 1 := by omega
        have e2 : ¬ (s.size : Int) > 2 := by omega
        clear hs hfin f2 f3 d2 d3
        go_wp2_with fail
        go_ret
        exact ⟨by rw [hf.out]; rfl, HB1'.out⟩
      · have hR2 : BRow (W1.setCell ⟨w.heap.size, 2, none⟩ (.int .u8 (A3.toNat : Int))) w.heap.size [A1, A2, A3, 61] := hR'.out.set 2 (by simp) A3
        have hcv := conv_back (P := Tryd.prog) _ 30 9 5 w.heap.size 4 4 [A1, A2, A3, 61] Tryd.underlying30 Tryd.underlying5 Tryd.underlying9 rfl hR2
        have hf : Hid (grp s.data.toList = [A1, A2, A3, 61]) := by have := hfin.out; rw [if_neg (by omega), if_pos hs] at this; exact this
        have e1 : (s.size : Int) > 1 := by omega
        have e2 : ¬ (s.size : Int) > 2 := by omega
        clear hs hfin hR2
        go_wp2_with fail
        go_ret
        exact ⟨by rw [hf.out]; rfl, HB1'.out.setCell (Nat.le_refl _) _⟩
      · have hR2 : BRow (W1.setCell ⟨w.heap.size, 2, none⟩ (.int .u8 (A3.toNat : Int))) w.heap.size [A1, A2, A3, 61] := hR'.out.set 2 (by simp) A3
        have hR3 : BRow ((W1.setCell ⟨w.heap.size, 2, none⟩ (.int .u8 (A3.toNat : Int))).setCell ⟨w.heap.size, 3, none⟩ (.int .u8 (A4.toNat : Int))) w.heap.size [A1, A2, A3, A4] := hR2.set 3 (by simp) A4
        have hcv := conv_back (P := Tryd.prog) _ 30 9 5 w.heap.size 4 4 [A1, A2, A3, A4] Tryd.underlying30 Tryd.underlying5 Tryd.underlying9 rfl hR3
        have hf : Hid (grp s.data.toList = [A1, A2, A3, A4]) := by have := hfin.out; rw [if_neg (by omega), if_neg (by omega)] at this; exact this
        have e1 : (s.size : Int) > 1 := by omega
        have e2 : (s.size : Int) > 2 := by omega
        have x3 := hR2 3 (by simp)
        simp only [List.getElem_cons_succ, List.getElem_cons_zero] at x3
        have y3 := x3.1
        have z3 := x3.2
        clear hs hfin hR2 hR3 x3
        go_wp2_with fail
        go_ret
        exact ⟨by rw [hf.out]; rfl, by refine Below.setCell (Below.setCell HB1'.out ?_ _) ?_ _ <;> exact Nat.le_refl _⟩
end Go.Proofs.YtkcncepfncdbhaaDoor
