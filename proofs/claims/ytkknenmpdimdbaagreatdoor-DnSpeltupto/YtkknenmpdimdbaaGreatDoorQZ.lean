import Derived.Test.YtkknenmpdimdbaaGreatDoorQI
import Derived.Test.YtkknenmpdimdbaaGreatDoorQH
import Derived.Test.YtkknenmpdimdbaaGreatDoorQG
import Derived.Test.YtkknenmpdimdbaaGreatDoorPcV
namespace Go.Proofs.YtkknenmpdimdbaaGreatDoor
namespace Ke
open Go.RowKit
open TextMath (fold lo normal check)
open Du (PRow DRow PX sd sd_len drow_at pV pV_len prow_at)
set_option linter.unusedVariables false
set_option linter.unusedSimpArgs false
set_option maxRecDepth 100000

theorem sdAt (L : List PX) (k : Nat) (h : k < L.length) : (sd L)[k]'(by rw [sd_len]; exact h) = L[k].2.2 := by simp [sd]
/-- The first part that is none. -/
def Fs (D : List (List PR)) (k : Nat) : Prop := ∃ h : k < D.length, (∀ j (h' : j < k), cer (D[j]'(by omega)) (j : Int) = 0) ∧ cer D[k] (k : Int) ≠ 0
/-- No part is wrong. -/
def Az (D : List (List PR)) : Prop := ∀ j (h : j < D.length), cer D[j] (j : Int) = 0
theorem fs_one {D : List (List PR)} {k m : Nat} (h : Fs D k) (h' : Fs D m) : k = m := by
  obtain ⟨hk, h1, h2⟩ := h
  obtain ⟨hm, h3, h4⟩ := h'
  rcases Nat.lt_trichotomy k m with q | q | q
  · exact absurd (h3 k q) h2
  · exact q
  · exact absurd (h1 m q) h4
theorem fs_az {D : List (List PR)} {k : Nat} (h : Fs D k) (h' : Az D) : False := by
  obtain ⟨hk, _, h2⟩ := h
  exact h2 (h' k hk)
/-- A name's text: its parts with commas between. -/
def dtT (D : List (List PR)) : List UInt8 := D.flatMap fun r => 44 :: ptx r
def dtx : List (List PR) → List UInt8
  | [] => []
  | r :: t => ptx r ++ dtT t
theorem dtx_snoc (l : List (List PR)) (p : List PR) : dtx (l ++ [p]) = dtx l ++ (if l = [] then ptx p else 44 :: ptx p) := by
  cases l with
  | nil => simp [dtx, dtT]
  | cons r t => simp [dtx, dtT]
def rW (ps : List PR) : Nat := (ps.map ptW).sum + 1
def dW (D : List (List PR)) : Nat := (D.map rW).sum
theorem dtT_len (D : List (List PR)) : (dtT D).length ≤ dW D := by
  induction D with
  | nil => simp [dtT]
  | cons p l ih =>
    have := ptx_len p
    unfold dtT dW at ih ⊢
    simp only [List.flatMap_cons, List.length_append, List.length_cons, List.map_cons, List.sum_cons]
    have hr : rW p = (p.map ptW).sum + 1 := rfl
    omega
theorem dtx_len (D : List (List PR)) : (dtx D).length ≤ dW D := by
  cases D with
  | nil => simp [dtx]
  | cons p l =>
    have := ptx_len p
    have := dtT_len l
    simp only [dtx, List.length_append]
    unfold dW at this ⊢
    simp only [List.map_cons, List.sum_cons]
    have hr : rW p = (p.map ptW).sum + 1 := rfl
    omega
theorem dW_at (D : List (List PR)) (k : Nat) (h : k < D.length) : dW (D.take k) + rW D[k] ≤ dW D := by
  have e : dW D = dW (D.take (k + 1)) + dW (D.drop (k + 1)) := by unfold dW; rw [← List.sum_append, ← List.map_append, List.take_append_drop]
  have e2 : dW (D.take (k + 1)) = dW (D.take k) + rW D[k] := by unfold dW; rw [List.take_succ_eq_append_getElem h, List.map_append, List.sum_append]; simp
  omega
theorem own_form {W : World} {B : Nat} {v : Value} {l : List UInt8} (h : Own W B v l) : ∃ a c, v = .slice a l.length c := by
  rcases h.2 with ⟨rfl, hn⟩ | ⟨g, cap, cur, rfl, hrest⟩
  · exact ⟨none, 0, by rw [hn]⟩
  · exact ⟨_, _, rfl⟩
theorem own_bn {W : World} {B bn bc : Nat} {ba : Option Addr} {l : List UInt8} (h : Own W B (.slice ba bn bc) l) : bn = l.length := by
  obtain ⟨a, c, e⟩ := own_form h
  injection e with e1 e2 e3
end Ke
end Go.Proofs.YtkknenmpdimdbaaGreatDoor

namespace Go.Proofs.YtkknenmpdimdbaaGreatDoor
namespace Pa
open Go.RowKit
open TextMath (fold lo normal check wo unhex)
open Ke (mst PR ptW rW dW OkD OkP)
open Bl (NRw Pk NxQ next_any)
open Du (PRow DRow PX sd sd_len drow_at prow_at)
set_option linter.unusedVariables false
set_option linter.unusedSimpArgs false
set_option maxRecDepth 100000

variable {w W W' : World} {a : Option Addr} {n c I : Nat}
theorem sum_take {α : Type} (f : α → Nat) (l : List α) (j : Nat) (h : j < l.length) : ((l.take (j + 1)).map f).sum = ((l.take j).map f).sum + f l[j] := by
  rw [List.take_succ_eq_append_getElem h, List.map_append, List.sum_append]
  simp
theorem sum_le {α : Type} (f : α → Nat) (l : List α) (j : Nat) : ((l.take j).map f).sum ≤ (l.map f).sum := by
  have e : (l.map f).sum = ((l.take j).map f).sum + ((l.drop j).map f).sum := by rw [← List.sum_append, ← List.map_append, List.take_append_drop]
  omega
/-- The text so far, the pairs of the part under way being K. -/
def tx (TT : List (List (List UInt8))) (K : List (List UInt8)) : List UInt8 := if K = [] then nameT TT else nameT (TT ++ [K])
theorem tx_nil (TT : List (List (List UInt8))) : tx TT [] = nameT TT := if_pos rfl
theorem tx_some (TT : List (List (List UInt8))) {K : List (List UInt8)} (h : K ≠ []) : tx TT K = nameT (TT ++ [K]) := if_neg h
theorem nameT_snoc (TT : List (List (List UInt8))) (h : TT ≠ []) (K : List (List UInt8)) : nameT (TT ++ [K]) = nameT TT ++ 44 :: partT K := by
  cases TT with
  | nil => exact absurd rfl h
  | cons T TT => simp [nameT, dnxT, List.append_assoc]
theorem partT_snoc (K : List (List UInt8)) (h : K ≠ []) (t : List UInt8) : partT (K ++ [t]) = partT K ++ 43 :: t := by
  cases K with
  | nil => exact absurd rfl h
  | cons u K => simp [partT, ptxT, List.append_assoc]
theorem tx_plus (TT : List (List (List UInt8))) {K : List (List UInt8)} (h : K ≠ []) (t : List UInt8) : tx TT (K ++ [t]) = tx TT K ++ 43 :: t := by
  rw [tx_some TT h, tx_some TT (by simp)]
  cases TT with
  | nil => simp [nameT, dnxT, partT_snoc K h]
  | cons T TT => rw [nameT_snoc _ (by simp), nameT_snoc _ (by simp), partT_snoc K h]; simp
theorem tx_comma (TT : List (List (List UInt8))) (h : TT ≠ []) (t : List UInt8) : tx TT [t] = nameT TT ++ 44 :: t := by
  rw [tx_some TT (by simp), nameT_snoc _ h]
  simp [partT, ptxT]
theorem tx_first (t : List UInt8) : tx [] [t] = t := by
  rw [tx_some [] (by simp)]
  simp [nameT, dnxT, partT, ptxT]
theorem SpR.len : ∀ {k : List PR} {K : List (List UInt8)}, SpR k K → K.length = k.length
  | [], [], _ => rfl
  | [], _ :: _, h => h.elim
  | _ :: _, [], h => h.elim
  | p :: k, t :: K, h => by rw [List.length_cons, List.length_cons, SpR.len h.2]
theorem SpD.len : ∀ {k : List (List PR)} {K : List (List (List UInt8))}, SpD k K → K.length = k.length
  | [], [], _ => rfl
  | [], _ :: _, h => h.elim
  | _ :: _, [], h => h.elim
  | p :: k, t :: K, h => by rw [List.length_cons, List.length_cons, SpD.len h.2]
/-- How far the text is. -/
def TIv (w : World) (a : Option Addr) (n c : Nat) (B : Nat) (k : List PR) (TT : List (List (List UInt8))) (K : List (List UInt8)) (J : Nat) (W : World) : Prop :=
  SpR k K ∧ (tx TT K).length ≤ 8 * (B + (k.map ptW).sum) ∧ PkN w a n c J W ∧ J ≤ 5 * (B + (k.map ptW).sum)
theorem TIv.more {B J J' : Nat} {ps : List PR} {TT : List (List (List UInt8))} {K : List (List UInt8)} {j : Nat} (h : TIv w a n c B (ps.take j) TT K J W) (hj : j < ps.length) (t : List UInt8) (ht : SpP ps[j] t) (hl : (tx TT (K ++ [t])).length ≤ (tx TT K).length + 8 * ptW ps[j]) (hP : PkN w a n c J' W') (hJ : J' ≤ J + 5 * ptW ps[j]) : TIv w a n c B (ps.take (j + 1)) TT (K ++ [t]) J' W' := by
  obtain ⟨h1, h2, h3, h4⟩ := h
  have e := sum_take ptW ps j hj
  refine ⟨?_, by omega, hP, by omega⟩
  rw [List.take_succ_eq_append_getElem hj]
  exact h1.snoc ht
/-- What spelt answers. -/
def SlQ (w : World) (a : Option Addr) (n c : Nat) (D : List (List PR)) (e : Ending) (W' : World) : Prop := ∃ (TT : List (List (List UInt8))) (J : Nat), e = .returned (.string (S (nameT TT))) ∧ SpD D TT ∧ (nameT TT).length ≤ 8 * dW D ∧ PkN w a n c J W'
theorem rp_size (m : Nat) (h : m ≤ 2) : (S (rp m)).size ≤ 2 := by rw [S_size, List.length_replicate]; exact h
theorem cat8 (X o1 st o2 o3 vt o4 : List UInt8) : ((((((S X ++ S o1) ++ S st) ++ S o2) ++ (⟨#[61]⟩ : ByteArray)) ++ S o3) ++ S vt) ++ S o4 = S (X ++ (o1 ++ (st ++ (o2 ++ 61 :: (o3 ++ (vt ++ o4)))))) := by
  rw [show (⟨#[61]⟩ : ByteArray) = S [61] from rfl]
  simp only [S_app', List.append_assoc, List.singleton_append, List.cons_append, List.nil_append]
set_option maxHeartbeats 16000000 in
theorem spelt_any (sa : Option Addr) (sc dn : Nat) (L : List PX) (h : PkN w a n c 0 W) (hnr : NRw w a n) (hn : n ≤ 1073741824) (hL : L.length = dn) (hr : DRow w sa L) (hz : dW (sd L) ≤ 3145728) (hd64 : dn ≤ 1048576) (hok : OkD (sd L)) (hvz : ∀ r ∈ L, ∀ p ∈ r.2.2, p.2.length ≤ 1048576) :
    Calls Tryz.prog 9 #[.pointer (some ⟨w.heap.size, 0, none⟩), .slice sa dn sc] W fun e w' => SlQ w a n c (sd L) e w' := by
  have hSp : ∀ J X, J ≤ 1073741824 → PkN w a n c J X → Hid (Calls Tryz.prog 27 #[.pointer (some ⟨w.heap.size, 0, none⟩)] X fun e w' => SpsQ w a n c J e w') := fun J X hJ hX => spaces_any hX hnr hJ hn
  have hVl : ∀ v J X, v.length ≤ 1048576 → J ≤ 536870912 → PkN w a n c J X → Hid (Calls Tryz.prog 28 #[.pointer (some ⟨w.heap.size, 0, none⟩), .string (S v)] X fun e w' => SvQ w a n c (J + 5 + 2 * v.length) v e w') := fun v J X hv hJ hX => value_any v hv hX hnr hJ hn
  have h' : Hid (L.length = dn ∧ DRow w sa L ∧ dW (sd L) ≤ 3145728 ∧ OkD (sd L) ∧ (∀ r ∈ L, ∀ p ∈ r.2.2, p.2.length ≤ 1048576)) := ⟨hL, hr, hz, hok, hvz⟩
  have h0 : Hid (PkN w a n c 0 W) := h
  have nb : (dn : Int) ≤ 1048576 := by omega
  obtain ⟨g, hg⟩ : ∃ g, w.heap.size = g := ⟨_, rfl⟩
  rw [hg] at hSp hVl ⊢
  clear h hnr hn hL hr hz hok hvz hd64
  go_enter Tryz.func9, Tryz.ntmps9
  go_wp2_with fail
  go_loopw [5, 6, 7, 8, 9, 10, 11, 12] (fun xv iv _ _ _ _ _ _ wr => ∃ (i J : Nat) (TT : List (List (List UInt8))), i ≤ dn ∧ iv = .int .i64 (i : Int) ∧ xv = .string (S (nameT TT)) ∧ Hid (SpD ((sd L).take i) TT ∧ (nameT TT).length ≤ 8 * dW ((sd L).take i) ∧ PkN w a n c J wr ∧ J ≤ 5 * dW ((sd L).take i))) (fun _ iv _ _ _ _ _ _ _ => dn - (intOf iv).toNat)
  case atStart => exact ⟨0, 0, [], Nat.zero_le _, rfl, rfl, trivial, Nat.zero_le _, h0.out, Nat.zero_le _⟩
  case round =>
    obtain ⟨i, J, TT, hi, rfl, rfl, hQ⟩ := hrel
    clear h0
    have i0 : (0 : Int) ≤ (i : Int) := Int.natCast_nonneg _
    by_cases hlt : i < dn
    · have i1 : (i : Int) < (dn : Int) := Int.ofNat_lt.2 hlt
      have hiL : i < L.length := by rw [h'.out.1]; exact hlt
      obtain ⟨b, off, hsa, c1⟩ := drow_at h'.out.2.1 i hiL
      subst hsa
      have hpr : Hid (PRow w L[i].1 L[i].2.2) := (h'.out.2.1.2 _ (List.getElem_mem hiL)).1
      have hsi : (sd L)[i]'(by rw [sd_len]; exact hiL) = L[i].2.2 := by simp [sd]
      have hps : Hid (OkP L[i].2.2 ∧ ∀ p ∈ L[i].2.2, p.2.length ≤ 1048576) := ⟨by rw [← hsi]; exact h'.out.2.2.2.1.2 _ (List.getElem_mem _), fun p hp => h'.out.2.2.2.2 _ (List.getElem_mem hiL) p hp⟩
      have htk := sum_take rW (sd L) i (by rw [sd_len]; exact hiL)
      have hle := sum_le rW (sd L) (i + 1)
      rw [hsi] at htk
      have hTk : Hid (dW ((sd L).take (i + 1)) = dW ((sd L).take i) + ((L[i].2.2.map ptW).sum + 1) ∧ dW ((sd L).take (i + 1)) ≤ 3145728 ∧ (sd L).take (i + 1) = (sd L).take i ++ [L[i].2.2]) := ⟨htk, Nat.le_trans hle h'.out.2.2.1, by rw [List.take_succ_eq_append_getElem (by rw [sd_len]; exact hiL), hsi]⟩
      have hC1 : Hid (∀ W, Below w.heap.size w W → W.cell? ⟨b, off + i, none⟩ = some (.slice L[i].1 L[i].2.2.length L[i].2.1)) := fun W hb => by rw [hb.cell (World.block_lt_of_cell? _ _ c1)]; exact c1
      have hTT : Hid (i = 0 ↔ TT = []) := by
        have h1 := hQ.out.1.len
        rw [List.length_take, sd_len, Nat.min_eq_left (by omega)] at h1
        constructor
        · intro e; exact List.eq_nil_of_length_eq_zero (by omega)
        · intro e; rw [e] at h1; simpa using h1.symm
      have hlt' : Hid (i < dn) := hlt
      generalize L[i] = r at *
      obtain ⟨pa, pc, ps⟩ := r
      dsimp only at c1 hpr hC1 hps hTk
      obtain ⟨m, hm⟩ : ∃ m, ps.length = m := ⟨_, rfl⟩
      have hm' : Hid (ps.length = m ∧ 1 ≤ m ∧ m ≤ 8) := ⟨hm, by rw [← hm]; exact hps.out.1.1, by rw [← hm]; exact hps.out.1.2.1⟩
      rw [hm] at c1 hC1
      have mb : (m : Int) ≤ 8 := by have := hm'.out; omega
      obtain ⟨B, hB⟩ : ∃ B, dW ((sd L).take i) = B := ⟨_, rfl⟩
      rw [hB] at hQ hTk
      have hst0 : Hid (TIv w a n c B (ps.take 0) TT [] J wr) := ⟨trivial, by rw [tx_nil]; have := hQ.out.2.1; simpa using this, hQ.out.2.2.1, by have := hQ.out.2.2.2; simpa using this⟩
      have hSD : Hid (SpD ((sd L).take i) TT) := hQ.out.1
      have hst1 : Hid (S (nameT TT) = S (tx TT [])) := by unfold Hid; rw [tx_nil]
      rw [hst1.out]
      clear hst1 htk hle hsi hm hiL hlt hi c1 hQ hB
      go_wp2_with fail
      obtain ⟨wo, rfl⟩ : ∃ wo, wo = wr := ⟨_, rfl⟩
      go_loopw [5, 7, 8, 9, 10, 11, 12] (fun xv jv _ _ _ _ _ wv => ∃ (j J : Nat) (K : List (List UInt8)), j ≤ m ∧ jv = .int .i64 (j : Int) ∧ xv = .string (S (tx TT K)) ∧ Hid (TIv w a n c B (ps.take j) TT K J wv)) (fun _ jv _ _ _ _ _ _ => m - (intOf jv).toNat)
      case atStart => exact ⟨0, J, [], Nat.zero_le _, rfl, rfl, hst0.out⟩
      case round =>
        obtain ⟨j, J1, K, hj, rfl, rfl, hR⟩ := hrel
        have j0 : (0 : Int) ≤ (j : Int) := Int.natCast_nonneg _
        have d1 := hC1.out _ hR.out.2.2.1.1
        have hXz : (S (tx TT K)).size ≤ 33554432 := by
          rw [S_size]
          have h1 := hR.out.2.1
          have h2 := sum_le ptW ps j
          have h3 := hTk.out
          omega
        clear hst0
        by_cases hjm : j < m
        · have j1 : (j : Int) < (m : Int) := Int.ofNat_lt.2 hjm
          have hjP : j < ps.length := by rw [hm'.out.1]; exact hjm
          obtain ⟨pb, po, hpa, c3, c4⟩ := prow_at hpr.out j hjP
          subst hpa
          have hvl : Hid (ps[j].2.length ≤ 1048576) := hps.out.2 _ (List.getElem_mem hjP)
          have hwt : Hid (ptW ps[j] = ps[j].1.length + 3 * ps[j].2.length + 2 ∧ ptW ps[j] ≤ 3145728) := by
            refine ⟨rfl, ?_⟩
            have h1 := sum_take ptW ps j hjP
            have h2 := sum_le ptW ps (j + 1)
            have h3 := hTk.out
            omega
          have hC3 : Hid (∀ W, Below w.heap.size w W → W.cell? ⟨pb, po + j * 2, none⟩ = some (.string (S ps[j].1)) ∧ W.cell? ⟨pb, po + j * 2 + 1, none⟩ = some (.string (S ps[j].2))) := fun W hb => ⟨by rw [hb.cell (World.block_lt_of_cell? _ _ c3)]; exact c3, by rw [hb.cell (World.block_lt_of_cell? _ _ c4)]; exact c4⟩
          have hKl : Hid (j = 0 ↔ K = []) := by
            have h1 := hR.out.1.len
            rw [List.length_take, Nat.min_eq_left (by omega)] at h1
            constructor
            · intro e; exact List.eq_nil_of_length_eq_zero (by omega)
            · intro e; rw [e] at h1; simpa using h1.symm
          have hmore : Hid (∀ t J' W', SpP ps[j] t → t.length ≤ ps[j].1.length + 3 * ps[j].2.length + 14 → PkN w a n c J' W' → J' ≤ J1 + 5 * ptW ps[j] → (tx TT (K ++ [t])).length ≤ (tx TT K).length + 1 + t.length → TIv w a n c B (ps.take (j + 1)) TT (K ++ [t]) J' W') := fun t J' W' ht hl hP hJ hx => hR.out.more hjP t ht (by have := hwt.out.1; omega) hP hJ
          have hJb : Hid (J1 ≤ 16777216) := by
            have h1 := hR.out.2.2.2
            have h2 := sum_le ptW ps j
            have h3 := hTk.out
            unfold Hid
            omega
          have hP0 : Hid (PkN w a n c J1 wr) := hR.out.2.2.1
          have hjm' : Hid (j < m) := hjm
          clear c3 c4 hR
          generalize ps[j] = q at *
          obtain ⟨ty, vl⟩ := q
          dsimp only at hvl hwt hC3 hmore
          obtain ⟨st, hst⟩ : ∃ st, S ty = st := ⟨_, rfl⟩
          obtain ⟨sv', hsv⟩ : ∃ sv, S vl = sv := ⟨_, rfl⟩
          have hstz : st.size ≤ 3145728 := by rw [← hst, S_size]; have := hwt.out; omega
          have hVl' : ∀ J X, J ≤ 536870912 → PkN w a n c J X → Hid (Calls Tryz.prog 28 #[.pointer (some ⟨g, 0, none⟩), .string sv'] X fun e w' => SvQ w a n c (J + 5 + 2 * vl.length) vl e w') := fun J X hJ hX => by have := hVl vl J X hvl.out hJ hX; rw [hsv] at this; exact this
          have hst' : Hid (S ty = st) := hst
          rw [hst, hsv] at hC3
          obtain ⟨X, hX⟩ : ∃ X, S (tx TT K) = X := ⟨_, rfl⟩
          have hX' : Hid (S (tx TT K) = X) := hX
          rw [hX] at hXz ⊢
          clear hst hsv hX hjP hj hjm
          have hsp1 := hSp J1 wr (by have := hJb.out; omega) hP0.out
          by_cases hjz : j = 0
          · have hK0 : Hid (K = []) := hKl.out.1 hjz
            have gj : ¬ (0 : Int) < (j : Int) := by omega
            by_cases hiz : i = 0
            · have hT0 : Hid (TT = []) := hTT.out.1 hiz
              have gi : ¬ (0 : Int) < (i : Int) := by omega
              clear hjz hiz
              go_wp2_with fail
              have hpz : X.size ≤ 33554433 := by omega
              have hpe : Hid (X = S (tx TT K)) := hX'.out.symm
              generalize X = Y at *
              refine hsp1.out.mono ?_
              rintro e u1 ⟨m1, J2, rfl, hm1, hJ2, hP1⟩
              have hz1 := rp_size m1 hm1
              obtain ⟨o1, ho1⟩ : ∃ o, S (rp m1) = o := ⟨_, rfl⟩
              have ho1' : Hid (S (rp m1) = o1 ∧ m1 ≤ 2 ∧ J2 ≤ J1 + 1) := ⟨ho1, hm1, hJ2⟩
              rw [ho1] at hz1 ⊢
              clear ho1 hm1 hsp1 hJ2
              have hsp2 := hSp J2 u1 (by have := hJb.out; have := ho1'.out.2.2; omega) hP1
              clear hP1
              go_wp2_with fail
              refine hsp2.out.mono ?_
              rintro e u2 ⟨m2, J3, rfl, hm2, hJ3, hP2⟩
              have hz2 := rp_size m2 hm2
              obtain ⟨o2, ho2⟩ : ∃ o, S (rp m2) = o := ⟨_, rfl⟩
              have ho2' : Hid (S (rp m2) = o2 ∧ m2 ≤ 2 ∧ J3 ≤ J2 + 1) := ⟨ho2, hm2, hJ3⟩
              rw [ho2] at hz2 ⊢
              clear ho2 hm2 hsp2 hJ3
              have hsp3 := hSp J3 u2 (by have := hJb.out; have := ho1'.out.2.2; have := ho2'.out.2.2; omega) hP2
              clear hP2
              go_wp2_with fail
              refine hsp3.out.mono ?_
              rintro e u3 ⟨m3, J4, rfl, hm3, hJ4, hP3⟩
              have hz3 := rp_size m3 hm3
              obtain ⟨o3, ho3⟩ : ∃ o, S (rp m3) = o := ⟨_, rfl⟩
              have ho3' : Hid (S (rp m3) = o3 ∧ m3 ≤ 2 ∧ J4 ≤ J3 + 1) := ⟨ho3, hm3, hJ4⟩
              rw [ho3] at hz3 ⊢
              clear ho3 hm3 hsp3 hJ4
              have hsp4 := hSp J4 u3 (by have := hJb.out; have := ho1'.out.2.2; have := ho2'.out.2.2; have := ho3'.out.2.2; omega) hP3
              clear hP3
              go_wp2_with fail
              refine hsp4.out.mono ?_
              rintro e u4 ⟨m4, J5, rfl, hm4, hJ5, hP4⟩
              have hz4 := rp_size m4 hm4
              obtain ⟨o4, ho4⟩ : ∃ o, S (rp m4) = o := ⟨_, rfl⟩
              have ho4' : Hid (S (rp m4) = o4 ∧ m4 ≤ 2 ∧ J5 ≤ J4 + 1) := ⟨ho4, hm4, hJ5⟩
              rw [ho4] at hz4 ⊢
              clear ho4 hm4 hsp4 hJ5
              have d4 := hC1.out u4 hP4.1
              have d5 := (hC3.out u4 hP4.1).2
              have hvv := hVl' J5 u4 (by have := hJb.out; have := ho1'.out.2.2; have := ho2'.out.2.2; have := ho3'.out.2.2; have := ho4'.out.2.2; omega) hP4
              clear hP4 d1 hSp hVl hVl'
              go_wp2_with fail
              refine hvv.out.mono ?_
              rintro e u5 ⟨vt, J6, rfl, hsv2, hvtl, hJ6, hP5⟩
              have e4 := hC1.out u5 hP5.1
              have e5 := (hC3.out u5 hP5.1).1
              have hvz : (S vt).size ≤ 3145733 := by rw [S_size]; have := hvl.out; omega
              obtain ⟨t, ht⟩ : ∃ t, rp m1 ++ (ty ++ (rp m2 ++ 61 :: (rp m3 ++ (vt ++ rp m4)))) = t := ⟨_, rfl⟩
              have htl : t.length ≤ ty.length + 3 * vl.length + 14 := by
                rw [← ht]
                simp only [List.length_append, List.length_cons, List.length_replicate]
                have := ho1'.out.2.1; have := ho2'.out.2.1; have := ho3'.out.2.1; have := ho4'.out.2.1
                omega
              have htx : tx TT (K ++ [t]) = tx TT K ++ t := by rw [hK0.out, hT0.out, tx_nil]; exact tx_first t
              have htxl : (tx TT (K ++ [t])).length ≤ (tx TT K).length + 1 + t.length := by rw [htx]; simp only [List.length_append, List.length_cons, List.length_nil]; omega
              have hfin : Hid (TIv w a n c B (ps.take (j + 1)) TT (K ++ [t]) J6 u5) := hmore.out t J6 u5 ⟨m1, m2, m3, m4, vt, ht.symm, hsv2⟩ htl hP5 (by have := hwt.out.1; have := ho1'.out.2.2; have := ho2'.out.2.2; have := ho3'.out.2.2; have := ho4'.out.2.2; omega) htxl
              have hcat : Hid (((((((Y ++ o1) ++ st) ++ o2) ++ (⟨#[61]⟩ : ByteArray)) ++ o3) ++ S vt) ++ o4 = S (tx TT (K ++ [t]))) := by
                unfold Hid
                rw [hpe.out, ← ho1'.out.1, ← hst'.out, ← ho2'.out.1, ← ho3'.out.1, ← ho4'.out.1, cat8, ht, htx]
              obtain ⟨sv2, hsv3⟩ : ∃ z, S vt = z := ⟨_, rfl⟩
              rw [hsv3] at hvz hcat ⊢
              clear hvv hsv3 hsv2 hvtl hJ6 hP5 d4 d5 ht htl htx htxl
              have y1 : (Y ++ o1).size = Y.size + o1.size := ByteArray.size_append
              have y2 : ((Y ++ o1) ++ st).size = Y.size + o1.size + st.size := by rw [ByteArray.size_append, y1]
              have y3 : (((Y ++ o1) ++ st) ++ o2).size = Y.size + o1.size + st.size + o2.size := by rw [ByteArray.size_append, y2]
              have y4 : ((((Y ++ o1) ++ st) ++ o2) ++ (⟨#[61]⟩ : ByteArray)).size = Y.size + o1.size + st.size + o2.size + 1 := by rw [ByteArray.size_append, y3]; rfl
              have y5 : (((((Y ++ o1) ++ st) ++ o2) ++ (⟨#[61]⟩ : ByteArray)) ++ o3).size = Y.size + o1.size + st.size + o2.size + 1 + o3.size := by rw [ByteArray.size_append, y4]
              have y6 : ((((((Y ++ o1) ++ st) ++ o2) ++ (⟨#[61]⟩ : ByteArray)) ++ o3) ++ sv2).size = Y.size + o1.size + st.size + o2.size + 1 + o3.size + sv2.size := by rw [ByteArray.size_append, y5]
              have b0 : ¬ Y.size + o1.size > 9223372036854775807 := by omega
              have b1 : ¬ (Y ++ o1).size + st.size > 9223372036854775807 := by rw [y1]; omega
              have b2 : ¬ ((Y ++ o1) ++ st).size + o2.size > 9223372036854775807 := by rw [y2]; omega
              have b3 : ¬ (((Y ++ o1) ++ st) ++ o2).size + 1 > 9223372036854775807 := by rw [y3]; omega
              have b4 : ¬ ((((Y ++ o1) ++ st) ++ o2) ++ (⟨#[61]⟩ : ByteArray)).size + o3.size > 9223372036854775807 := by rw [y4]; omega
              have b5 : ¬ (((((Y ++ o1) ++ st) ++ o2) ++ (⟨#[61]⟩ : ByteArray)) ++ o3).size + sv2.size > 9223372036854775807 := by rw [y5]; omega
              have b6 : ¬ ((((((Y ++ o1) ++ st) ++ o2) ++ (⟨#[61]⟩ : ByteArray)) ++ o3) ++ sv2).size + o4.size > 9223372036854775807 := by rw [y6]; omega
              clear y1 y2 y3 y4 y5 y6
              go_wp2_with fail
              rw [hcat.out]
              go_roundw
              case rel => exact ⟨j + 1, J6, K ++ [t], hjm'.out, by go_num, rfl, hfin⟩
              case measure => have := hjm'.out; simp [intOf]; omega
            · have hT0 : Hid (TT ≠ []) := fun e => hiz (hTT.out.2 e)
              have gi : (0 : Int) < (i : Int) := by omega
              have hc0 : ¬ X.size + 1 > 9223372036854775807 := by omega
              clear hjz hiz
              go_wp2_with fail
              have hpz : (X ++ (⟨#[44]⟩ : ByteArray)).size ≤ 33554433 := by rw [ByteArray.size_append]; show X.size + 1 ≤ _; omega
              have hpe : Hid (X ++ (⟨#[44]⟩ : ByteArray) = S (tx TT K ++ [44])) := by unfold Hid; rw [← hX'.out, show (⟨#[44]⟩ : ByteArray) = S [44] from rfl, S_app']
              generalize X ++ (⟨#[44]⟩ : ByteArray) = Y at *
              refine hsp1.out.mono ?_
              rintro e u1 ⟨m1, J2, rfl, hm1, hJ2, hP1⟩
              have hz1 := rp_size m1 hm1
              obtain ⟨o1, ho1⟩ : ∃ o, S (rp m1) = o := ⟨_, rfl⟩
              have ho1' : Hid (S (rp m1) = o1 ∧ m1 ≤ 2 ∧ J2 ≤ J1 + 1) := ⟨ho1, hm1, hJ2⟩
              rw [ho1] at hz1 ⊢
              clear ho1 hm1 hsp1 hJ2
              have hsp2 := hSp J2 u1 (by have := hJb.out; have := ho1'.out.2.2; omega) hP1
              clear hP1
              go_wp2_with fail
              refine hsp2.out.mono ?_
              rintro e u2 ⟨m2, J3, rfl, hm2, hJ3, hP2⟩
              have hz2 := rp_size m2 hm2
              obtain ⟨o2, ho2⟩ : ∃ o, S (rp m2) = o := ⟨_, rfl⟩
              have ho2' : Hid (S (rp m2) = o2 ∧ m2 ≤ 2 ∧ J3 ≤ J2 + 1) := ⟨ho2, hm2, hJ3⟩
              rw [ho2] at hz2 ⊢
              clear ho2 hm2 hsp2 hJ3
              have hsp3 := hSp J3 u2 (by have := hJb.out; have := ho1'.out.2.2; have := ho2'.out.2.2; omega) hP2
              clear hP2
              go_wp2_with fail
              refine hsp3.out.mono ?_
              rintro e u3 ⟨m3, J4, rfl, hm3, hJ4, hP3⟩
              have hz3 := rp_size m3 hm3
              obtain ⟨o3, ho3⟩ : ∃ o, S (rp m3) = o := ⟨_, rfl⟩
              have ho3' : Hid (S (rp m3) = o3 ∧ m3 ≤ 2 ∧ J4 ≤ J3 + 1) := ⟨ho3, hm3, hJ4⟩
              rw [ho3] at hz3 ⊢
              clear ho3 hm3 hsp3 hJ4
              have hsp4 := hSp J4 u3 (by have := hJb.out; have := ho1'.out.2.2; have := ho2'.out.2.2; have := ho3'.out.2.2; omega) hP3
              clear hP3
              go_wp2_with fail
              refine hsp4.out.mono ?_
              rintro e u4 ⟨m4, J5, rfl, hm4, hJ5, hP4⟩
              have hz4 := rp_size m4 hm4
              obtain ⟨o4, ho4⟩ : ∃ o, S (rp m4) = o := ⟨_, rfl⟩
              have ho4' : Hid (S (rp m4) = o4 ∧ m4 ≤ 2 ∧ J5 ≤ J4 + 1) := ⟨ho4, hm4, hJ5⟩
              rw [ho4] at hz4 ⊢
              clear ho4 hm4 hsp4 hJ5
              have d4 := hC1.out u4 hP4.1
              have d5 := (hC3.out u4 hP4.1).2
              have hvv := hVl' J5 u4 (by have := hJb.out; have := ho1'.out.2.2; have := ho2'.out.2.2; have := ho3'.out.2.2; have := ho4'.out.2.2; omega) hP4
              clear hP4 d1 hSp hVl hVl'
              go_wp2_with fail
              refine hvv.out.mono ?_
              rintro e u5 ⟨vt, J6, rfl, hsv2, hvtl, hJ6, hP5⟩
              have e4 := hC1.out u5 hP5.1
              have e5 := (hC3.out u5 hP5.1).1
              have hvz : (S vt).size ≤ 3145733 := by rw [S_size]; have := hvl.out; omega
              obtain ⟨t, ht⟩ : ∃ t, rp m1 ++ (ty ++ (rp m2 ++ 61 :: (rp m3 ++ (vt ++ rp m4)))) = t := ⟨_, rfl⟩
              have htl : t.length ≤ ty.length + 3 * vl.length + 14 := by
                rw [← ht]
                simp only [List.length_append, List.length_cons, List.length_replicate]
                have := ho1'.out.2.1; have := ho2'.out.2.1; have := ho3'.out.2.1; have := ho4'.out.2.1
                omega
              have htx : tx TT (K ++ [t]) = tx TT K ++ [44] ++ t := by rw [hK0.out, tx_nil]; exact (tx_comma TT hT0.out t).trans (by simp)
              have htxl : (tx TT (K ++ [t])).length ≤ (tx TT K).length + 1 + t.length := by rw [htx]; simp only [List.length_append, List.length_cons, List.length_nil]; omega
              have hfin : Hid (TIv w a n c B (ps.take (j + 1)) TT (K ++ [t]) J6 u5) := hmore.out t J6 u5 ⟨m1, m2, m3, m4, vt, ht.symm, hsv2⟩ htl hP5 (by have := hwt.out.1; have := ho1'.out.2.2; have := ho2'.out.2.2; have := ho3'.out.2.2; have := ho4'.out.2.2; omega) htxl
              have hcat : Hid (((((((Y ++ o1) ++ st) ++ o2) ++ (⟨#[61]⟩ : ByteArray)) ++ o3) ++ S vt) ++ o4 = S (tx TT (K ++ [t]))) := by
                unfold Hid
                rw [hpe.out, ← ho1'.out.1, ← hst'.out, ← ho2'.out.1, ← ho3'.out.1, ← ho4'.out.1, cat8, ht, htx]
              obtain ⟨sv2, hsv3⟩ : ∃ z, S vt = z := ⟨_, rfl⟩
              rw [hsv3] at hvz hcat ⊢
              clear hvv hsv3 hsv2 hvtl hJ6 hP5 d4 d5 ht htl htx htxl
              have y1 : (Y ++ o1).size = Y.size + o1.size := ByteArray.size_append
              have y2 : ((Y ++ o1) ++ st).size = Y.size + o1.size + st.size := by rw [ByteArray.size_append, y1]
              have y3 : (((Y ++ o1) ++ st) ++ o2).size = Y.size + o1.size + st.size + o2.size := by rw [ByteArray.size_append, y2]
              have y4 : ((((Y ++ o1) ++ st) ++ o2) ++ (⟨#[61]⟩ : ByteArray)).size = Y.size + o1.size + st.size + o2.size + 1 := by rw [ByteArray.size_append, y3]; rfl
              have y5 : (((((Y ++ o1) ++ st) ++ o2) ++ (⟨#[61]⟩ : ByteArray)) ++ o3).size = Y.size + o1.size + st.size + o2.size + 1 + o3.size := by rw [ByteArray.size_append, y4]
              have y6 : ((((((Y ++ o1) ++ st) ++ o2) ++ (⟨#[61]⟩ : ByteArray)) ++ o3) ++ sv2).size = Y.size + o1.size + st.size + o2.size + 1 + o3.size + sv2.size := by rw [ByteArray.size_append, y5]
              have b0 : ¬ Y.size + o1.size > 9223372036854775807 := by omega
              have b1 : ¬ (Y ++ o1).size + st.size > 9223372036854775807 := by rw [y1]; omega
              have b2 : ¬ ((Y ++ o1) ++ st).size + o2.size > 9223372036854775807 := by rw [y2]; omega
              have b3 : ¬ (((Y ++ o1) ++ st) ++ o2).size + 1 > 9223372036854775807 := by rw [y3]; omega
              have b4 : ¬ ((((Y ++ o1) ++ st) ++ o2) ++ (⟨#[61]⟩ : ByteArray)).size + o3.size > 9223372036854775807 := by rw [y4]; omega
              have b5 : ¬ (((((Y ++ o1) ++ st) ++ o2) ++ (⟨#[61]⟩ : ByteArray)) ++ o3).size + sv2.size > 9223372036854775807 := by rw [y5]; omega
              have b6 : ¬ ((((((Y ++ o1) ++ st) ++ o2) ++ (⟨#[61]⟩ : ByteArray)) ++ o3) ++ sv2).size + o4.size > 9223372036854775807 := by rw [y6]; omega
              clear y1 y2 y3 y4 y5 y6
              go_wp2_with fail
              rw [hcat.out]
              go_roundw
              case rel => exact ⟨j + 1, J6, K ++ [t], hjm'.out, by go_num, rfl, hfin⟩
              case measure => have := hjm'.out; simp [intOf]; omega
          · have hK0 : Hid (K ≠ []) := fun e => hjz (hKl.out.2 e)
            have gj : (0 : Int) < (j : Int) := by omega
            have hc0 : ¬ X.size + 1 > 9223372036854775807 := by omega
            clear hjz
            go_wp2_with fail
            have hpz : (X ++ (⟨#[43]⟩ : ByteArray)).size ≤ 33554433 := by rw [ByteArray.size_append]; show X.size + 1 ≤ _; omega
            have hpe : Hid (X ++ (⟨#[43]⟩ : ByteArray) = S (tx TT K ++ [43])) := by unfold Hid; rw [← hX'.out, show (⟨#[43]⟩ : ByteArray) = S [43] from rfl, S_app']
            generalize X ++ (⟨#[43]⟩ : ByteArray) = Y at *
            refine hsp1.out.mono ?_
            rintro e u1 ⟨m1, J2, rfl, hm1, hJ2, hP1⟩
            have hz1 := rp_size m1 hm1
            obtain ⟨o1, ho1⟩ : ∃ o, S (rp m1) = o := ⟨_, rfl⟩
            have ho1' : Hid (S (rp m1) = o1 ∧ m1 ≤ 2 ∧ J2 ≤ J1 + 1) := ⟨ho1, hm1, hJ2⟩
            rw [ho1] at hz1 ⊢
            clear ho1 hm1 hsp1 hJ2
            have hsp2 := hSp J2 u1 (by have := hJb.out; have := ho1'.out.2.2; omega) hP1
            clear hP1
            go_wp2_with fail
            refine hsp2.out.mono ?_
            rintro e u2 ⟨m2, J3, rfl, hm2, hJ3, hP2⟩
            have hz2 := rp_size m2 hm2
            obtain ⟨o2, ho2⟩ : ∃ o, S (rp m2) = o := ⟨_, rfl⟩
            have ho2' : Hid (S (rp m2) = o2 ∧ m2 ≤ 2 ∧ J3 ≤ J2 + 1) := ⟨ho2, hm2, hJ3⟩
            rw [ho2] at hz2 ⊢
            clear ho2 hm2 hsp2 hJ3
            have hsp3 := hSp J3 u2 (by have := hJb.out; have := ho1'.out.2.2; have := ho2'.out.2.2; omega) hP2
            clear hP2
            go_wp2_with fail
            refine hsp3.out.mono ?_
            rintro e u3 ⟨m3, J4, rfl, hm3, hJ4, hP3⟩
            have hz3 := rp_size m3 hm3
            obtain ⟨o3, ho3⟩ : ∃ o, S (rp m3) = o := ⟨_, rfl⟩
            have ho3' : Hid (S (rp m3) = o3 ∧ m3 ≤ 2 ∧ J4 ≤ J3 + 1) := ⟨ho3, hm3, hJ4⟩
            rw [ho3] at hz3 ⊢
            clear ho3 hm3 hsp3 hJ4
            have hsp4 := hSp J4 u3 (by have := hJb.out; have := ho1'.out.2.2; have := ho2'.out.2.2; have := ho3'.out.2.2; omega) hP3
            clear hP3
            go_wp2_with fail
            refine hsp4.out.mono ?_
            rintro e u4 ⟨m4, J5, rfl, hm4, hJ5, hP4⟩
            have hz4 := rp_size m4 hm4
            obtain ⟨o4, ho4⟩ : ∃ o, S (rp m4) = o := ⟨_, rfl⟩
            have ho4' : Hid (S (rp m4) = o4 ∧ m4 ≤ 2 ∧ J5 ≤ J4 + 1) := ⟨ho4, hm4, hJ5⟩
            rw [ho4] at hz4 ⊢
            clear ho4 hm4 hsp4 hJ5
            have d4 := hC1.out u4 hP4.1
            have d5 := (hC3.out u4 hP4.1).2
            have hvv := hVl' J5 u4 (by have := hJb.out; have := ho1'.out.2.2; have := ho2'.out.2.2; have := ho3'.out.2.2; have := ho4'.out.2.2; omega) hP4
            clear hP4 d1 hSp hVl hVl'
            go_wp2_with fail
            refine hvv.out.mono ?_
            rintro e u5 ⟨vt, J6, rfl, hsv2, hvtl, hJ6, hP5⟩
            have e4 := hC1.out u5 hP5.1
            have e5 := (hC3.out u5 hP5.1).1
            have hvz : (S vt).size ≤ 3145733 := by rw [S_size]; have := hvl.out; omega
            obtain ⟨t, ht⟩ : ∃ t, rp m1 ++ (ty ++ (rp m2 ++ 61 :: (rp m3 ++ (vt ++ rp m4)))) = t := ⟨_, rfl⟩
            have htl : t.length ≤ ty.length + 3 * vl.length + 14 := by
              rw [← ht]
              simp only [List.length_append, List.length_cons, List.length_replicate]
              have := ho1'.out.2.1; have := ho2'.out.2.1; have := ho3'.out.2.1; have := ho4'.out.2.1
              omega
            have htx : tx TT (K ++ [t]) = tx TT K ++ [43] ++ t := (tx_plus TT hK0.out t).trans (by simp)
            have htxl : (tx TT (K ++ [t])).length ≤ (tx TT K).length + 1 + t.length := by rw [htx]; simp only [List.length_append, List.length_cons, List.length_nil]; omega
            have hfin : Hid (TIv w a n c B (ps.take (j + 1)) TT (K ++ [t]) J6 u5) := hmore.out t J6 u5 ⟨m1, m2, m3, m4, vt, ht.symm, hsv2⟩ htl hP5 (by have := hwt.out.1; have := ho1'.out.2.2; have := ho2'.out.2.2; have := ho3'.out.2.2; have := ho4'.out.2.2; omega) htxl
            have hcat : Hid (((((((Y ++ o1) ++ st) ++ o2) ++ (⟨#[61]⟩ : ByteArray)) ++ o3) ++ S vt) ++ o4 = S (tx TT (K ++ [t]))) := by
              unfold Hid
              rw [hpe.out, ← ho1'.out.1, ← hst'.out, ← ho2'.out.1, ← ho3'.out.1, ← ho4'.out.1, cat8, ht, htx]
            obtain ⟨sv2, hsv3⟩ : ∃ z, S vt = z := ⟨_, rfl⟩
            rw [hsv3] at hvz hcat ⊢
            clear hvv hsv3 hsv2 hvtl hJ6 hP5 d4 d5 ht htl htx htxl
            have y1 : (Y ++ o1).size = Y.size + o1.size := ByteArray.size_append
            have y2 : ((Y ++ o1) ++ st).size = Y.size + o1.size + st.size := by rw [ByteArray.size_append, y1]
            have y3 : (((Y ++ o1) ++ st) ++ o2).size = Y.size + o1.size + st.size + o2.size := by rw [ByteArray.size_append, y2]
            have y4 : ((((Y ++ o1) ++ st) ++ o2) ++ (⟨#[61]⟩ : ByteArray)).size = Y.size + o1.size + st.size + o2.size + 1 := by rw [ByteArray.size_append, y3]; rfl
            have y5 : (((((Y ++ o1) ++ st) ++ o2) ++ (⟨#[61]⟩ : ByteArray)) ++ o3).size = Y.size + o1.size + st.size + o2.size + 1 + o3.size := by rw [ByteArray.size_append, y4]
            have y6 : ((((((Y ++ o1) ++ st) ++ o2) ++ (⟨#[61]⟩ : ByteArray)) ++ o3) ++ sv2).size = Y.size + o1.size + st.size + o2.size + 1 + o3.size + sv2.size := by rw [ByteArray.size_append, y5]
            have b0 : ¬ Y.size + o1.size > 9223372036854775807 := by omega
            have b1 : ¬ (Y ++ o1).size + st.size > 9223372036854775807 := by rw [y1]; omega
            have b2 : ¬ ((Y ++ o1) ++ st).size + o2.size > 9223372036854775807 := by rw [y2]; omega
            have b3 : ¬ (((Y ++ o1) ++ st) ++ o2).size + 1 > 9223372036854775807 := by rw [y3]; omega
            have b4 : ¬ ((((Y ++ o1) ++ st) ++ o2) ++ (⟨#[61]⟩ : ByteArray)).size + o3.size > 9223372036854775807 := by rw [y4]; omega
            have b5 : ¬ (((((Y ++ o1) ++ st) ++ o2) ++ (⟨#[61]⟩ : ByteArray)) ++ o3).size + sv2.size > 9223372036854775807 := by rw [y5]; omega
            have b6 : ¬ ((((((Y ++ o1) ++ st) ++ o2) ++ (⟨#[61]⟩ : ByteArray)) ++ o3) ++ sv2).size + o4.size > 9223372036854775807 := by rw [y6]; omega
            clear y1 y2 y3 y4 y5 y6
            go_wp2_with fail
            rw [hcat.out]
            go_roundw
            case rel => exact ⟨j + 1, J6, K ++ [t], hjm'.out, by go_num, rfl, hfin⟩
            case measure => have := hjm'.out; simp [intOf]; omega
        · have e : m = j := by omega
          subst e
          have j1 : ¬ (m : Int) < (m : Int) := by omega
          have hK0 : K ≠ [] := by
            intro e
            have h1 := hR.out.1.len
            rw [e, List.length_take, hm'.out.1, Nat.min_self] at h1
            have := hm'.out.2.1
            simp at h1
            omega
          have hfin : Hid (SpD ((sd L).take (i + 1)) (TT ++ [K]) ∧ (nameT (TT ++ [K])).length ≤ 8 * dW ((sd L).take (i + 1)) ∧ PkN w a n c J1 wr ∧ J1 ≤ 5 * dW ((sd L).take (i + 1))) := by
            have h1 := hR.out
            rw [List.take_of_length_le (by rw [hm'.out.1]; exact Nat.le_refl _)] at h1
            refine ⟨by rw [hTk.out.2.2]; exact hSD.out.snoc h1.1, ?_, h1.2.2.1, ?_⟩
            · have h2 := h1.2.1
              rw [tx_some TT hK0] at h2
              have h3 := hTk.out.1
              omega
            · have h2 := h1.2.2.2
              have h3 := hTk.out.1
              omega
          have hne : Hid (S (tx TT K) = S (nameT (TT ++ [K]))) := by unfold Hid; rw [tx_some TT hK0]
          rw [hne.out]
          clear hR hj hjm hne hK0
          go_wp2_with fail
          go_roundw
          case rel => exact ⟨i + 1, J1, TT ++ [K], hlt'.out, by go_num, rfl, hfin⟩
          case measure => have := hlt'.out; simp [intOf]; omega
    · have e : dn = i := by omega
      have i1 : ¬ (i : Int) < (dn : Int) := by omega
      have hfin : Hid (SlQ w a n c (sd L) (.returned (.string (S (nameT TT)))) wr) := by
        have h1 := hQ.out
        rw [List.take_of_length_le (by rw [sd_len, h'.out.1, e]; exact Nat.le_refl _)] at h1
        exact ⟨TT, J, rfl, h1.1, h1.2.1, h1.2.2.1⟩
      generalize S (nameT TT) = X at *
      clear hQ hi hlt e
      go_wp2_with fail
      go_ret
      exact hfin.out
end Pa
end Go.Proofs.YtkknenmpdimdbaaGreatDoor
