import Derived.Test.YtfmhcgadgakbhaaDoorKfT
namespace Go.Proofs.YtfmhcgadgakbhaaDoor
namespace Ke
open Go.RowKit
open TextMath (fold lo normal check)
open Du (PRow DRow PX sd sd_len drow_at pV pV_len prow_at)
set_option linter.unusedVariables false
set_option linter.unusedSimpArgs false
set_option maxRecDepth 100000

theorem sdAt (L : List PX) (k : Nat) (h : k < L.length) : (sd L)[k]'(by rw [sd_len]; exact h) = L[k].2.2 := by simp [sd]
/-- The first part that is none. -/
def Fs (D : List (List PR)) (k : Nat) : Prop := ∃ h : k < D.length, (∀ j (h' : j < k), cer (D[j]'(by omega)) (j : Int) = 0) ∧ cer D[k] (k : Int) ≠ 0
/-- No part is wrong. -/
def Az (D : List (List PR)) : Prop := ∀ j (h : j < D.length), cer D[j] (j : Int) = 0
theorem fs_one {D : List (List PR)} {k m : Nat} (h : Fs D k) (h' : Fs D m) : k = m := by
  obtain ⟨hk, h1, h2⟩ := h
  obtain ⟨hm, h3, h4⟩ := h'
  rcases Nat.lt_trichotomy k m with q | q | q
  · exact absurd (h3 k q) h2
  · exact q
  · exact absurd (h1 m q) h4
theorem fs_az {D : List (List PR)} {k : Nat} (h : Fs D k) (h' : Az D) : False := by
  obtain ⟨hk, _, h2⟩ := h
  exact h2 (h' k hk)
/-- What the reference's name answers. -/
def NmF (w : World) (D : List (List PR)) (e : Ending) (w' : World) : Prop :=
  Below w.heap.size w w' ∧ ((Az D ∧ e = .returned (.tuple #[.int .i64 0, .int .i64 0])) ∨ (∃ k, ∃ h : k < D.length, Fs D k ∧ e = .returned (.tuple #[.int .i64 (cer D[k] (k : Int) : Int), .int .i64 (k : Int)])))
set_option maxHeartbeats 4000000 in
theorem name_any (sa : Option Addr) (sc n : Nat) (L : List PX) (w : World) (hG : RowTab w) (hn : L.length = n) (hr : DRow w sa L) (hz : ∀ r ∈ L, ∀ p ∈ r.2.2, p.1.length + p.2.length ≤ 4194300) (hzl : ∀ r ∈ L, r.2.2.length ≤ 1073741824) (hnb : n ≤ 1073741824) :
    Calls Tryd.prog 14 #[.slice sa n sc] w fun e w' => NmF w (sd L) e w' := by
  have nb : (n : Int) ≤ 1073741824 := by omega
  have hn' : Hid (L.length = n) := hn
  have hr' : Hid (DRow w sa L) := hr
  have hG' : Hid (RowTab w) := hG
  have hz' : Hid ((∀ r ∈ L, ∀ p ∈ r.2.2, p.1.length + p.2.length ≤ 4194300) ∧ ∀ r ∈ L, r.2.2.length ≤ 1073741824) := ⟨hz, hzl⟩
  clear hG hn hr hz hzl hnb
  go_enter Tryd.func14, Tryd.ntmps14
  go_wp2_with fail
  go_loopw [4] (fun iv wr => ∃ k : Nat, k ≤ n ∧ iv = .int .i64 (k : Int) ∧ Hid ((∀ j (h : j < L.length), j < k → cer L[j].2.2 (j : Int) = 0) ∧ Below w.heap.size w wr)) (fun iv _ => n - (intOf iv).toNat)
  case atStart => exact ⟨0, Nat.zero_le _, rfl, fun j _ hj => by omega, Below.refl _ _⟩
  case round =>
    obtain ⟨k, hk, rfl, hR⟩ := hrel
    have k0 : (0 : Int) ≤ (k : Int) := Int.natCast_nonneg _
    by_cases hlt : k < n
    · have k1 : (k : Int) < (n : Int) := Int.ofNat_lt.2 hlt
      have hkL : k < L.length := by rw [hn'.out]; exact hlt
      have hbad : Hid (cer L[k].2.2 (k : Int) ≠ 0 → ∃ h : k < (sd L).length, Fs (sd L) k ∧ cer (sd L)[k] (k : Int) = cer L[k].2.2 (k : Int)) := fun h => by
        have hk' : k < (sd L).length := by rw [sd_len]; exact hkL
        have e : (sd L)[k] = L[k].2.2 := sdAt L k hkL
        refine ⟨hk', ⟨hk', fun j hj => ?_, by rw [e]; exact h⟩, by rw [e]⟩
        rw [sdAt L j (by omega)]
        exact hR.out.1 j (by omega) hj
      have hsn : Hid (cer L[k].2.2 (k : Int) = 0 → ∀ j (h : j < L.length), j < k + 1 → cer L[j].2.2 (j : Int) = 0) := fun h j hj hjk => by
        by_cases e : j = k
        · subst e; exact h
        · exact hR.out.1 j hj (by omega)
      have hBw : Hid (Below w.heap.size w wr) := hR.out.2
      by_cases h64 : k = 64
      · subst h64
        have hc : cer L[64].2.2 ((64 : Nat) : Int) = 58 := by unfold cer; rw [if_pos (by decide)]
        have hfin : Hid (NmF w (sd L) (.returned (.tuple #[.int .i64 58, .int .i64 64])) wr) := by
          obtain ⟨q1, q2, q3⟩ := hbad.out (by rw [hc]; decide)
          exact ⟨hBw.out, Or.inr ⟨64, q1, q2, by rw [q3, hc]; rfl⟩⟩
        clear hc hbad hsn hR hk hlt hkL
        go_wp2_with fail
        go_ret2
        exact hfin.out
      · have k64 : ((k : Int) == 64) = false := by rw [beq_eq_false_iff_ne]; omega
        have hRw := hr'.out.below hR.out.2
        obtain ⟨b, off, rfl, c1⟩ := drow_at hRw k hkL
        have hT : Hid (Calls Tryd.prog 24 #[.slice L[k].1 L[k].2.2.length L[k].2.1] wr fun e w' => e = .returned (.int .i64 (rerr L[k].2.2 : Int)) ∧ Below wr.heap.size wr w') := wrong_any _ _ _ _ wr (rowTab_below hG'.out hBw.out) rfl (hRw.2 _ (List.getElem_mem hkL)).1 (hz'.out.1 _ (List.getElem_mem hkL)) (by have := hz'.out.2 _ (List.getElem_mem hkL); omega)
        have hce : Hid (k < 64 → cer L[k].2.2 (k : Int) = rerr L[k].2.2) := fun h => by unfold cer; rw [if_neg (by omega)]
        have hce' : Hid (64 ≤ k → False) := fun h => by
          have h2 := hR.out.1 64 (by omega) (by omega)
          unfold cer at h2
          rw [if_pos (by decide)] at h2
          exact absurd h2 (by decide)
        have hlt' : Hid (k < n) := hlt
        have hce2 : Hid (cer L[k].2.2 (k : Int) = rerr L[k].2.2) := by
          rcases Nat.lt_or_ge k 64 with h | h
          · exact hce.out h
          · exact (hce'.out h).elim
        rw [hce2.out] at hbad hsn
        generalize L[k] = r at *
        obtain ⟨pa, pc, ps⟩ := r
        dsimp only at c1 hT hbad hsn
        generalize ps.length = m at *
        have hgo : Hid (∀ W1, Below wr.heap.size wr W1 → Below w.heap.size w W1) := fun W1 hb => hR.out.2.trans (hb.mono hR.out.2.size)
        clear hk hlt hkL hRw hce hce' hce2 hR
        go_wp2_with fail
        refine hT.out.mono ?_
        rintro e W1 ⟨rfl, hb1⟩
        have hb1' : Hid (Below w.heap.size w W1) := hgo.out W1 hb1
        by_cases hq : rerr ps = 0
        · have hfin : Hid ((∀ j (h : j < L.length), j < k + 1 → cer L[j].2.2 (j : Int) = 0) ∧ Below w.heap.size w W1) := ⟨hsn.out hq, hb1'.out⟩
          rw [hq]
          clear hb1 hT hbad hsn hgo hBw hq
          go_wp2_with fail
          go_roundw
          case rel => exact ⟨k + 1, hlt'.out, by go_num, hfin⟩
          case measure => have := hlt'.out; simp [intOf]; omega
        · have hfin : Hid (NmF w (sd L) (.returned (.tuple #[.int .i64 (rerr ps : Int), .int .i64 (k : Int)])) W1) := by
            obtain ⟨q1, q2, q3⟩ := hbad.out hq
            exact ⟨hb1'.out, Or.inr ⟨k, q1, q2, by rw [q3]⟩⟩
          have hq' : (((rerr ps : Nat) : Int) == 0) = false := by rw [beq_eq_false_iff_ne]; omega
          generalize rerr ps = rr at *
          clear hb1 hT hbad hsn hgo hBw hq
          go_wp2_with fail
          go_ret2
          exact hfin.out
    · have e : n = k := by omega
      subst e
      have i1 : ¬ (n : Int) < (n : Int) := by omega
      have hfin : Hid (NmF w (sd L) (.returned (.tuple #[.int .i64 0, .int .i64 0])) wr) := by
        refine ⟨hR.out.2, Or.inl ⟨fun j hj => ?_, rfl⟩⟩
        have hj' : j < L.length := by rw [sd_len] at hj; exact hj
        rw [sdAt L j hj']
        exact hR.out.1 j hj' (by rw [← hn'.out]; exact hj')
      clear hR hk hlt
      go_wp2_with fail
      go_ret2
      exact hfin.out

/-- A name's text: its parts with commas between. -/
def dtT (D : List (List PR)) : List UInt8 := D.flatMap fun r => 44 :: ptx r
def dtx : List (List PR) → List UInt8
  | [] => []
  | r :: t => ptx r ++ dtT t
theorem dtx_snoc (l : List (List PR)) (p : List PR) : dtx (l ++ [p]) = dtx l ++ (if l = [] then ptx p else 44 :: ptx p) := by
  cases l with
  | nil => simp [dtx, dtT]
  | cons r t => simp [dtx, dtT]
def rW (ps : List PR) : Nat := (ps.map ptW).sum + 1
def dW (D : List (List PR)) : Nat := (D.map rW).sum
theorem dtT_len (D : List (List PR)) : (dtT D).length ≤ dW D := by
  induction D with
  | nil => simp [dtT]
  | cons p l ih =>
    have := ptx_len p
    unfold dtT dW at ih ⊢
    simp only [List.flatMap_cons, List.length_append, List.length_cons, List.map_cons, List.sum_cons]
    have hr : rW p = (p.map ptW).sum + 1 := rfl
    omega
theorem dtx_len (D : List (List PR)) : (dtx D).length ≤ dW D := by
  cases D with
  | nil => simp [dtx]
  | cons p l =>
    have := ptx_len p
    have := dtT_len l
    simp only [dtx, List.length_append]
    unfold dW at this ⊢
    simp only [List.map_cons, List.sum_cons]
    have hr : rW p = (p.map ptW).sum + 1 := rfl
    omega
theorem dW_at (D : List (List PR)) (k : Nat) (h : k < D.length) : dW (D.take k) + rW D[k] ≤ dW D := by
  have e : dW D = dW (D.take (k + 1)) + dW (D.drop (k + 1)) := by unfold dW; rw [← List.sum_append, ← List.map_append, List.take_append_drop]
  have e2 : dW (D.take (k + 1)) = dW (D.take k) + rW D[k] := by unfold dW; rw [List.take_succ_eq_append_getElem h, List.map_append, List.sum_append]; simp
  omega
theorem own_form {W : World} {B : Nat} {v : Value} {l : List UInt8} (h : Own W B v l) : ∃ a c, v = .slice a l.length c := by
  rcases h.2 with ⟨rfl, hn⟩ | ⟨g, cap, cur, rfl, hrest⟩
  · exact ⟨none, 0, by rw [hn]⟩
  · exact ⟨_, _, rfl⟩
theorem own_bn {W : World} {B bn bc : Nat} {ba : Option Addr} {l : List UInt8} (h : Own W B (.slice ba bn bc) l) : bn = l.length := by
  obtain ⟨a, c, e⟩ := own_form h
  injection e with e1 e2 e3
end Ke
end Go.Proofs.YtfmhcgadgakbhaaDoor
