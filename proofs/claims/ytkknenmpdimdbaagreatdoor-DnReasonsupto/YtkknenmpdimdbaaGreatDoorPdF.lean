import Derived.Test.YtkknenmpdimdbaaGreatDoorFW37
namespace Go.Proofs.YtkknenmpdimdbaaGreatDoor
namespace Pa
open Go.RowKit
open TextMath (fold lo normal check wo unhex)
open Ke (tyOk tyC utf PR rparse_ty rcheck_ty)
open Du (PRow prow_at pV_len)
set_option linter.unusedVariables false
set_option linter.unusedSimpArgs false
set_option maxRecDepth 100000
def vlR (ty : List UInt8) (m : Nat) : VR → RP
 | .error e => .error e
 | .ok y => if utf y.1 = true then .ok ((ty, y.1), y.2) else .error (51, m)
theorem prR_val {ps : List PR} {l ty l2 : List UInt8} (h : pt (ps.map fun p => tyC p.1) l = .ok (ty, l2)) : prR ps l = vlR ty l2.length (if l2.head? = some 35 then hxR (l2.drop 1) else tv (l2.length + 1) l2 [] 0) := by
 unfold prR
 rw [h]
 dsimp only
 cases (if l2.head? = some 35 then hxR (l2.drop 1) else tv (l2.length + 1) l2 [] 0) <;> rfl
theorem vlR_ok {ty x r : List UInt8} {m : Nat} (h : utf x = true) : vlR ty m (.ok (x, r)) = .ok ((ty, x), r) := by unfold vlR; exact if_pos h
theorem vlR_no {ty x r : List UInt8} {m : Nat} (h : ¬ utf x = true) : vlR ty m (.ok (x, r)) = .error (51, m) := by unfold vlR; exact if_neg h
theorem rowTab_below {w w' : World} (h : RowTab w) (hb : Below w.heap.size w w') : RowTab w' := fun r c hr hc => by
 rw [hb.cell (World.block_lt_of_cell? _ _ (h r c hr hc))]
 exact h r c hr hc
theorem mem_map_at {ps : List PR} {x : List UInt8} (h : x ∈ ps.map fun p => tyC p.1) : ∃ j, ∃ hj : j < ps.length, tyC ps[j].1 = x := by
 obtain ⟨q, hq, e⟩ := List.mem_map.1 h
 obtain ⟨j, hj, rfl⟩ := List.getElem_of_mem hq
 exact ⟨j, hj, e⟩
set_option maxHeartbeats 16000000 in
theorem pair_any (s : ByteArray) (p t : Nat) (ra : Option Addr) (rc n : Nat) (ps : List PR) (w : World) (h : Al s p t) (hs : s.size ≤ 4096) (hpr : PRow w ra ps) (hn : ps.length = n) (hn8 : n ≤ 8) (hpz : ∀ q ∈ ps, q.1.length ≤ 4096) (hT : RowTab w) :
  Calls Tryz.prog 37 #[.string s, .int .i64 (p : Int), .int .i64 (t : Int), .slice ra n rc] w fun e w' => RpQ s t w (prR ps (lf s p)) e w' := by
 have hl := h.le
 have h' : Hid (Al s p t ∧ p ≤ t ∧ t ≤ s.size ∧ s.size ≤ 4096 ∧ PRow w ra ps ∧ ps.length = n ∧ n ≤ 8 ∧ (∀ q ∈ ps, q.1.length ≤ 4096) ∧ RowTab w) := ⟨h, hl.1, hl.2, hs, hpr, hn, hn8, hpz, hT⟩
 obtain ⟨R, hR⟩ : ∃ R, prR ps (lf s p) = R := ⟨_, rfl⟩
 have hR' : Hid (prR ps (lf s p) = R) := hR
 rw [hR]
 have p0 : (0 : Int) ≤ (p : Int) := Int.natCast_nonneg _
 have pb : (p : Int) ≤ 4096 := by omega
 have t0 : (0 : Int) ≤ (t : Int) := Int.natCast_nonneg _
 have tb' : (t : Int) ≤ 4096 := by omega
 have n0 : (0 : Int) ≤ (n : Int) := Int.natCast_nonneg _
 have nb : (n : Int) ≤ 8 := by omega
 obtain ⟨W0, hW0⟩ : ∃ W0, w.alloc (.cells #[.string ⟨#[]⟩, .string ⟨#[]⟩] 64) = W0 := ⟨_, rfl⟩
 have hA0 : Hid (Ab w W0) := by unfold Hid; rw [← hW0]; exact ⟨heap_alloc_last w _, (Below.refl _ _).alloc (Nat.le_refl _) _⟩
 have herr : Hid (∀ (W : World) (k m q : Nat), Ab w W → k ≠ 0 → R = .error (k, m) → s.size - m = q → RpQ s t w R (.returned (.tuple #[.agg #[.string ⟨#[]⟩, .string ⟨#[]⟩], .int .i64 (k : Int), .int .i64 (q : Int)])) ((W.setCell ⟨w.heap.size, 0, none⟩ (.string ⟨#[]⟩)).setCell ⟨w.heap.size, 1, none⟩ (.string ⟨#[]⟩))) := fun W k m q hA hk hRe hq => by
  refine ⟨?_, fun x r hx => (by rw [hRe] at hx; cases hx), fun k2 m2 hx => (by rw [hRe] at hx; injection hx with hx; injection hx with h1 h2; omega), (hA.done _ _).2⟩
  rw [hRe, ← hq]
  rfl
 have hWd : ∀ c W, Hid (Calls Tryz.prog 64 #[.int .u8 (UInt8.toNat c : Int)] W fun e w' => e = .returned (.bool (tb c)) ∧ w' = W) := fun c W => word_any c W
 clear h hl hs hpr hn hn8 hpz hT hR
 go_enter Tryz.func37, Tryz.ntmps37
 go_wp2_with fail
 go_loop [11] (fun iv => ∃ k : Nat, iv = .int .i64 (k : Int) ∧ Hid (p ≤ k ∧ k ≤ t ∧ (lf s p).takeWhile tb = (s.extract p k).data.toList ++ (lf s k).takeWhile tb ∧ (lf s p).dropWhile tb = (lf s k).dropWhile tb ∧ Al s k t)) (fun iv => t - (intOf iv).toNat)
 case atStart => exact ⟨p, rfl, Nat.le_refl _, h'.out.2.1, by rw [ext_lf]; simp, rfl, h'.out.1⟩
 case round =>
  obtain ⟨k, rfl, hQ⟩ := hrel
  have k0 : (0 : Int) ≤ (k : Int) := Int.natCast_nonneg _
  have hout : Hid ((k = t ∨ ∃ hs : k < s.size, tb s[k] = false) → (lf s k).takeWhile tb = [] ∧ (lf s k).dropWhile tb = lf s k) := fun h => by
   rcases h with h | ⟨hs, h⟩
   ·rcases (show En (lf s k) by rw [h]; exact h'.out.1.en) with e | ⟨c, r, e, hc⟩
    ·rw [e]; exact ⟨rfl, rfl⟩
    ·have hn : tb c = false := by rcases hc with rfl | rfl <;> decide
     rw [e, List.takeWhile_cons, List.dropWhile_cons, hn]
     exact ⟨rfl, rfl⟩
   ·rw [lf_cons hs, List.takeWhile_cons, List.dropWhile_cons, h]
    exact ⟨rfl, rfl⟩
  have hrest : (lf s k).takeWhile tb = [] ∧ (lf s k).dropWhile tb = lf s k → Hid (S ((lf s p).takeWhile tb) = s.extract p k ∧ (lf s p).dropWhile tb = lf s k ∧ Al s k t ∧ p ≤ k ∧ k ≤ t) := fun h => by
   refine ⟨?_, by rw [hQ.out.2.2.2.1, h.2], hQ.out.2.2.2.2, hQ.out.1, hQ.out.2.1⟩
   rw [hQ.out.2.2.1, h.1, List.append_nil]
   rfl
  have kt : (k : Int) ≤ (t : Int) := by have := hQ.out.2.1; omega
  have vk : (p : Int) ≤ (k : Int) := by have := hQ.out.1; omega
  have ts : (t : Int) ≤ (s.size : Int) := by have := h'.out.2.2.1; omega
  by_cases hgo : ∃ hs : k < s.size, k < t ∧ tb s[k] = true
  ·obtain ⟨hks, hlt, hdk⟩ := hgo
   have k1 : (k : Int) < (t : Int) := Int.ofNat_lt.2 hlt
   have k2 : (k : Int) < (s.size : Int) := Int.ofNat_lt.2 hks
   have hWk := hWd s[k] W0
   rw [hdk] at hWk
   obtain ⟨n1, n2, n3⟩ := tb_ok _ hdk
   have hfin : Hid (p ≤ k + 1 ∧ k + 1 ≤ t ∧ (lf s p).takeWhile tb = (s.extract p (k + 1)).data.toList ++ (lf s (k + 1)).takeWhile tb ∧ (lf s p).dropWhile tb = (lf s (k + 1)).dropWhile tb ∧ Al s (k + 1) t) := by
    refine ⟨by have := hQ.out.1; omega, hlt, ?_, ?_, hQ.out.2.2.2.2.step hks (fun q => by rcases q with q | q <;> contradiction) n1⟩
    ·rw [hQ.out.2.2.1, tw_cons tb hks hdk, ext_snoc hQ.out.1 hks]
     simp
    ·rw [hQ.out.2.2.2.1, lf_cons hks, List.dropWhile_cons, hdk]
     rfl
   have hlt' : Hid (k < t) := hlt
   clear hQ hout hrest hdk n1 n2 n3
   go_wp2_with (go_at_call 64; refine hWk.out.mono ?_; rintro e w' ⟨rfl, hww⟩; obtain rfl := hww.symm; clear hww)
   go_round
   case rel => exact ⟨k + 1, by go_num, hfin⟩
   case measure => have := hlt'.out; simp [intOf]; omega
  ·by_cases hkl : k < t
   ·have hks : k < s.size := by have := h'.out.2.2.1; omega
    have hdf : tb s[k] = false := by
     cases hq : tb s[k] with
     | false => rfl
     | true => exact absurd ⟨hks, hkl, hq⟩ hgo
    have k1 : (k : Int) < (t : Int) := Int.ofNat_lt.2 hkl
    have k2 : (k : Int) < (s.size : Int) := Int.ofNat_lt.2 hks
    have hWk := hWd s[k] W0
    rw [hdf] at hWk
    have hR2 := hrest (hout.out (Or.inr ⟨hks, hdf⟩))
    clear hQ hout hrest hgo hkl hdf hWd
    obtain ⟨hE, hDr, hAk, hpk, hkt⟩ := hR2.out
    obtain ⟨ty, hty⟩ : ∃ ty, (lf s p).takeWhile tb = ty := ⟨_, rfl⟩
    rw [hty] at hE
    have htl : ty.length ≤ 4096 := by rw [← hty]; have := tw_len tb (lf s p); rw [lf_len] at this; have := h'.out.2.2.2.1; omega
    have hpt : Hid (pt (ps.map fun p => tyC p.1) (lf s p) = if tyOk ty = false then .error (52, (lf s p).length) else if tyC ty ∈ (ps.map fun p => tyC p.1) then .error (57, (lf s p).length) else if (sp (lf s k)).head? = some 61 then .ok (ty, sp ((sp (lf s k)).drop 1)) else .error (53, (sp (lf s k)).length)) := by
     unfold Hid pt
     rw [hty, hDr]
    have hlp : Hid (s.size - (lf s p).length = p) := by unfold Hid; rw [lf_len]; have := h'.out.1.1; omega
    have hAk' : Hid (Al s k t ∧ ty.length ≤ 4096) := ⟨hAk, htl⟩
    have hE' : Hid (S ty = s.extract p k) := hE
    have hP : Hid (Calls Tryz.prog 47 #[.string (s.extract p k)] W0 fun e w' => (∃ m : Nat, e = .returned (.tuple #[.string (S (tyC ty)), .int .i64 (if tyOk ty = true then 0 else 40), .int .i64 (m : Int)])) ∧ Below W0.heap.size W0 w') := by
     have h1 := rparse_ty ty W0 (by omega)
     rw [hE] at h1
     exact h1
    have k4 : (k : Int) ≤ (s.size : Int) := by have := h'.out.2.2.1; omega
    clear hE hDr hty hR2 hAk hpk hkt htl
    by_cases hok : tyOk ty = true
    ·rw [if_pos hok] at hP
     have hpt2 : Hid (pt (ps.map fun p => tyC p.1) (lf s p) = if tyC ty ∈ (ps.map fun p => tyC p.1) then .error (57, (lf s p).length) else if (sp (lf s k)).head? = some 61 then .ok (ty, sp ((sp (lf s k)).drop 1)) else .error (53, (sp (lf s k)).length)) := by
      unfold Hid
      rw [hpt.out, if_neg (by simp [hok])]
     clear hok hpt
     go_wp2_with (go_at_call 64; refine hWk.out.mono ?_; rintro e w' ⟨rfl, hww⟩; obtain rfl := hww.symm; clear hww)
     refine hP.out.mono ?_
     rintro e W1 ⟨⟨m1, rfl⟩, hb1⟩
     have hA1 : Hid (Ab w W1) := hA0.out.below hb1
     obtain ⟨sc, hsc⟩ : ∃ sc, S (tyC ty) = sc := ⟨_, rfl⟩
     have hsc' : Hid (S (tyC ty) = sc) := hsc
     rw [hsc]
     clear hP hb1 hA0 hsc
     go_wp2_with fail
     go_loopw [16, 17, 18, 19] (fun jv _ _ _ wr => ∃ j : Nat, jv = .int .i64 (j : Int) ∧ Hid (j ≤ n ∧ (∀ i, i < j → ∀ hi : i < ps.length, tyC ps[i].1 ≠ tyC ty) ∧ Ab w wr)) (fun jv _ _ _ _ => n - (intOf jv).toNat)
     case atStart => exact ⟨0, rfl, Nat.zero_le _, fun i hi => absurd hi (Nat.not_lt_zero _), hA1.out⟩
     case round =>
      obtain ⟨j, rfl, hJ⟩ := hrel
      clear hA1
      have j0 : (0 : Int) ≤ (j : Int) := Int.natCast_nonneg _
      by_cases hjn : j < n
      ·have j1 : (j : Int) < (n : Int) := Int.ofNat_lt.2 hjn
       have hjP : j < ps.length := by rw [h'.out.2.2.2.2.2.1]; exact hjn
       obtain ⟨pb, po, hra, c3, c4⟩ := prow_at (h'.out.2.2.2.2.1.below pV_len hJ.out.2.2.2) j hjP
       subst hra
       have hPj : Hid (Calls Tryz.prog 47 #[.string (S ps[j].1)] wr fun e w' => (∃ m : Nat, e = .returned (.tuple #[.string (S (tyC ps[j].1)), .int .i64 (if tyOk ps[j].1 = true then 0 else 40), .int .i64 (m : Int)])) ∧ Below wr.heap.size wr w') := rparse_ty ps[j].1 wr (by have := h'.out.2.2.2.2.2.2.2.1 _ (List.getElem_mem hjP); omega)
       have hj' : Hid (j < n ∧ ∃ h : j < ps.length, tyC ps[j].1 = tyC ps[j].1) := ⟨hjn, hjP, rfl⟩
       obtain ⟨tj, htj⟩ : ∃ tj, tyC ps[j].1 = tj := ⟨_, rfl⟩
       have htj' : Hid (∀ hi : j < ps.length, tyC ps[j].1 = tj) := fun _ => htj
       rw [htj] at hPj
       obtain ⟨sj, hsj⟩ : ∃ sj, S ps[j].1 = sj := ⟨_, rfl⟩
       rw [hsj] at c3 hPj
       obtain ⟨ej, hej⟩ : ∃ ej : Int, (if tyOk ps[j].1 = true then (0 : Int) else 40) = ej := ⟨_, rfl⟩
       rw [hej] at hPj
       clear htj hsj hej c4
       by_cases heq : tj = tyC ty
       ·have hmem : tyC ty ∈ (ps.map fun p => tyC p.1) := List.mem_map.2 ⟨ps[j], List.getElem_mem hjP, by rw [htj'.out hjP, heq]⟩
        have hRe : Hid (R = .error (57, (lf s p).length)) := by
         unfold Hid
         rw [← hR'.out]
         unfold prR
         rw [hpt2.out, if_pos hmem]
        have gs : ((S tj).toList == sc.toList) = true := by rw [heq, hsc'.out]; exact beq_self_eq_true _
        obtain ⟨sT, hsT⟩ : ∃ sT, S tj = sT := ⟨_, rfl⟩
        rw [hsT] at gs hPj
        clear hmem hjP heq hsT hR' hpt2 hsc' hE' hAk' htj' hj'
        go_wp2_with fail
        refine hPj.out.mono ?_
        rintro e W2 ⟨⟨m2, rfl⟩, hb2⟩
        have hA2 : Hid (Ab w W2) := hJ.out.2.2.below hb2
        clear hPj hb2 hJ c3
        have hdn := hA2.out.done (.string ⟨#[]⟩) (.string ⟨#[]⟩)
        have hf := herr.out W2 57 (lf s p).length p hA2.out (by decide) (hRe.out) (hlp.out)
        have hf' : Hid _ := hf
        have hdn' : Hid _ := hdn.1
        obtain ⟨⟨q1, q2⟩, q3, q4⟩ := hA2.out.cells
        clear hf hdn herr hRe hlp
        go_wp2_with fail
        have hd2 := hdn'.out
        exact bodyPost_ret_by (v := .tuple #[.agg #[.string ⟨#[]⟩, .string ⟨#[]⟩], .int .i64 57, .int .i64 (p : Int)]) (by simp [results, Tryz.results37, asAddr, hd2, Result.andThen]) rfl hf'.out
       ·have gs : ((S tj).toList == sc.toList) = false := by
         rw [← hsc'.out, Lib.toList_data, Lib.toList_data, S_l, S_l, beq_eq_false_iff_ne]
         exact heq
        obtain ⟨sT, hsT⟩ : ∃ sT, S tj = sT := ⟨_, rfl⟩
        rw [hsT] at gs hPj
        have hne : Hid (∀ i, i < j + 1 → ∀ hi : i < ps.length, tyC ps[i].1 ≠ tyC ty) := fun i hij hi => by
         by_cases e : i = j
         ·subst e
          rw [htj'.out hi]
          exact heq
         ·exact hJ.out.2.1 i (by omega) hi
        have hjn' : Hid (j < n) := hjn
        clear hjP heq hsT hj' htj' hjn
        go_wp2_with fail
        refine hPj.out.mono ?_
        rintro e W2 ⟨⟨m2, rfl⟩, hb2⟩
        have hfin : Hid (j + 1 ≤ n ∧ (∀ i, i < j + 1 → ∀ hi : i < ps.length, tyC ps[i].1 ≠ tyC ty) ∧ Ab w W2) := ⟨hjn'.out, hne.out, hJ.out.2.2.below hb2⟩
        clear hPj hb2 hJ c3 hne
        go_wp2_with fail
        go_roundw
        case rel => exact ⟨j + 1, by go_num, hfin⟩
        case measure => have := hjn'.out; simp [intOf]; omega
      ·have j1 : ¬ (j : Int) < (n : Int) := by omega
       have hnm : ¬ tyC ty ∈ (ps.map fun p => tyC p.1) := fun hm => by
        obtain ⟨i, hi, e⟩ := mem_map_at hm
        exact hJ.out.2.1 i (by have := h'.out.2.2.2.2.2.1; omega) hi e
       have hpt3 : Hid (pt (ps.map fun p => tyC p.1) (lf s p) = if (sp (lf s k)).head? = some 61 then .ok (ty, sp ((sp (lf s k)).drop 1)) else .error (53, (sp (lf s k)).length)) := by
        unfold Hid
        rw [hpt2.out, if_neg hnm]
       have hA3 : Hid (Ab w wr) := hJ.out.2.2
       have hSk : Hid (Calls Tryz.prog 36 #[.string s, .int .i64 (k : Int), .int .i64 (t : Int)] wr fun e w' => RsQ s k t wr e w') := rskip_any s k t wr hAk'.out.1 h'.out.2.2.2.1
       clear hJ hnm hpt2 hsc' hjn
       go_wp2_with fail
       refine hSk.out.mono ?_
       rintro e w4 ⟨q, rfl, hq1, hq2, hq3, hww⟩
       obtain rfl := hww.symm
       clear hww
       have hql := hq3.le
       have q0 : (0 : Int) ≤ (q : Int) := Int.natCast_nonneg _
       have qt : (q : Int) ≤ (t : Int) := by omega
       have hlq : Hid (s.size - (lf s q).length = q) := by unfold Hid; rw [lf_len]; have := hq3.1; omega
       rw [← hq1] at hpt3
       have hq' : Hid (Al s q t) := hq3
       clear hSk hq1 hq2 hq3
       by_cases hh : (lf s q).head? = some 61
       ·have hqt : q ≠ t := fun e => by
         rcases (show En (lf s q) by rw [e]; exact hq'.out.en) with e2 | ⟨c, r, e2, hc⟩
         ·rw [e2] at hh; cases hh
         ·rw [e2] at hh; injection hh with hh; subst hh; rcases hc with hc | hc <;> cases hc
        have hqs : q < s.size := by have := hq'.out.le; omega
        have hq61 : s[q] = 61 := by rw [lf_head hqs] at hh; injection hh
        have q2 : (q : Int) < (s.size : Int) := Int.ofNat_lt.2 hqs
        have gq : ((q : Int) == (t : Int)) = false := by rw [beq_eq_false_iff_ne]; omega
        have g61 : ((s[q].toNat : Int) != 61) = false := by rw [hq61]; rfl
        have hpt4 : Hid (pt (ps.map fun p => tyC p.1) (lf s p) = .ok (ty, sp (lf s (q + 1)))) := by
         unfold Hid
         rw [hpt3.out, if_pos hh, lf_drop]
        have hAq : Al s (q + 1) t := hq'.out.step hqs (by rw [hq61]; decide) (by rw [hq61]; decide)
        have hq1i : (q : Int) + 1 = ((q + 1 : Nat) : Int) := by omega
        have hSk2 : Hid (Calls Tryz.prog 36 #[.string s, .int .i64 ((q : Int) + 1), .int .i64 (t : Int)] wr fun e w' => RsQ s (q + 1) t wr e w') := by
         rw [hq1i]
         exact rskip_any s (q + 1) t wr hAq h'.out.2.2.2.1
        clear hh hqt hq61 hpt3 hAq hq1i hlq hql
        go_wp2_with fail
        refine hSk2.out.mono ?_
        rintro e w5 ⟨v, rfl, hv1, hv2, hv3, hww⟩
        obtain rfl := hww.symm
        clear hww
        have hv' : Hid (Al s v t ∧ lf s v = sp (lf s (q + 1)) ∧ v ≤ t) := ⟨hv3, hv1, hv3.le.1⟩
        have v0 : (0 : Int) ≤ (v : Int) := Int.natCast_nonneg _
        have vt : (v : Int) ≤ (t : Int) := by have := hv'.out.2.2; omega
        obtain ⟨V, hV⟩ : ∃ V, (if (lf s v).head? = some 35 then hxR ((lf s v).drop 1) else tv ((lf s v).length + 1) (lf s v) [] 0) = V := ⟨_, rfl⟩
        have hRV : Hid (R = vlR ty (lf s v).length V) := by
         unfold Hid
         rw [← hR'.out, prR_val hpt4.out, ← hv'.out.2.1, hV]
        have hV' : Hid ((if (lf s v).head? = some 35 then hxR ((lf s v).drop 1) else tv ((lf s v).length + 1) (lf s v) [] 0) = V) := hV
        have hlv : Hid (s.size - (lf s v).length = v) := by unfold Hid; rw [lf_len]; have := hv'.out.1.1; omega
        clear hSk2 hv1 hv2 hv3 hV hpt4 hR' hq' gq
        by_cases h35 : (lf s v).head? = some 35
        ·have hvs : v < s.size := by
          cases Nat.lt_or_ge v s.size with
          | inl h => exact h
          | inr h => rw [lf_nil h] at h35; cases h35
         have hv35 : s[v] = 35 := by rw [lf_head hvs] at h35; injection h35
         have hvt : v < t := by
          have h1 := hv'.out.2.2
          rcases Nat.lt_or_ge v t with h | h
          ·exact h
          ·have e : v = t := by omega
           rcases (show En (lf s v) by rw [e]; exact hv'.out.1.en) with e2 | ⟨c, r, e2, hc⟩
           ·rw [e2] at h35; cases h35
           ·rw [e2] at h35; injection h35 with hh; subst hh; rcases hc with hc | hc <;> cases hc
         have v1 : (v : Int) < (t : Int) := Int.ofNat_lt.2 hvt
         have v2 : (v : Int) < (s.size : Int) := Int.ofNat_lt.2 hvs
         have g35 : ((s[v].toNat : Int) == 35) = true := by rw [hv35]; rfl
         have hC : Hid (Calls Tryz.prog 65 #[.string s, .int .i64 (v : Int), .int .i64 (t : Int)] wr fun e w' => RvQ s t wr V e w') := by
          have h1 := coded_any s v t wr hv'.out.1 hvs hv35 h'.out.2.2.2.1
          have h2 := hV'.out
          rw [if_pos h35, lf_drop] at h2
          rw [h2] at h1
          exact h1
         clear h35 hv35 hvt hV'
         go_wp2_with fail
         refine hC.out.mono ?_
         rintro e w6 ⟨rfl, hok1, hne, hb6⟩
         have hA6 : Hid (Ab w w6) := hA3.out.below hb6
         cases V with
         | error e =>
          obtain ⟨ec, em⟩ := e
          have hRe : Hid (R = .error (ec, em)) := hRV.out
          have hne' : Hid (ec ≠ 0) := hne ec em rfl
          have gne : ((ec : Int) != 0) = true := by have := hne'.out; simp; omega
          obtain ⟨pl, hpl⟩ : ∃ pl, s.size - em = pl := ⟨_, rfl⟩
          have hpl' : Hid (s.size - em = pl) := hpl
          have hrv : Hid (reV s.size (.error (ec, em)) = .tuple #[.string ⟨#[]⟩, .int .i64 (ec : Int), .int .i64 (pl : Int)]) := by unfold Hid; rw [← hpl]; rfl
          rw [hrv.out]
          clear hrv hpl hne hok1 hb6 hC hRV hA3
          have hdn := hA6.out.done (.string ⟨#[]⟩) (.string ⟨#[]⟩)
          have hf := herr.out w6 ec em pl hA6.out hne'.out (hRe.out) (hpl'.out)
          have hf' : Hid _ := hf
          have hdn' : Hid _ := hdn.1
          obtain ⟨⟨q1, q2⟩, q3, q4⟩ := hA6.out.cells
          clear hf hdn herr hRe hne' hpl' hlp hlv hE' hAk'
          go_wp2_with fail
          have hd2 := hdn'.out
          exact bodyPost_ret_by (v := .tuple #[.agg #[.string ⟨#[]⟩, .string ⟨#[]⟩], .int .i64 (ec : Int), .int .i64 (pl : Int)]) (by simp [results, Tryz.results37, asAddr, hd2, Result.andThen]) rfl hf'.out
         | ok y =>
          obtain ⟨x, r⟩ := y
          obtain ⟨hr1, hxl⟩ := hok1 x r rfl
          have hrv : Hid (reV s.size (.ok (x, r)) = .tuple #[.string (S x), .int .i64 0, .int .i64 0]) := rfl
          rw [hrv.out]
          have hK : Hid (Calls Tryz.prog 34 #[.string (S x)] w6 fun e w' => (∃ m : Nat, e = .returned (.tuple #[.int .i64 (if utf x = true then 0 else 10), .int .i64 (m : Int)])) ∧ w' = w6) := rcheck_ty x w6 (by omega) (rowTab_below h'.out.2.2.2.2.2.2.2.2 hA6.out.2)
          by_cases hu : utf x = true
          ·rw [if_pos hu] at hK
           have hRe : Hid (R = .ok ((ty, x), r)) := by
            unfold Hid
            rw [hRV.out, vlR_ok hu]
           have hdn := hA6.out.done (.string (s.extract p k)) (.string (S x))
           have hf : Hid (RpQ s t w R (.returned (.tuple #[.agg #[.string (s.extract p k), .string (S x)], .int .i64 0, .int .i64 0])) ((w6.setCell ⟨w.heap.size, 0, none⟩ (.string (s.extract p k))).setCell ⟨w.heap.size, 1, none⟩ (.string (S x)))) := by
            refine ⟨?_, fun z r2 hz => ?_, fun j m hz => (by rw [hRe.out] at hz; cases hz), hdn.2⟩
            ·rw [hRe.out, ← hE'.out]
             rfl
            ·rw [hRe.out] at hz
             injection hz with hz
             injection hz with hz1 hz2
             subst hz1 hz2
             exact ⟨hr1, hAk'.out.2, hxl⟩
           have hdn' : Hid _ := hdn.1
           obtain ⟨⟨q1, q2⟩, q3, q4⟩ := hA6.out.cells
           generalize S x = sx at *
           clear hdn hrv hne hok1 hb6 hC hRV hA3 hA6 hRe hr1 hxl hu herr hE' hAk' hlp hlv
           go_wp2_with (go_at_call 34; refine hK.out.mono ?_; rintro e w' ⟨⟨m, rfl⟩, hww⟩; obtain rfl := hww.symm; clear hww)
           have hd2 := hdn'.out
           exact bodyPost_ret_by (v := .tuple #[.agg #[.string (s.extract p k), .string sx], .int .i64 0, .int .i64 0]) (by simp [results, Tryz.results37, asAddr, hd2, Result.andThen]) rfl hf.out
          ·rw [if_neg hu] at hK
           have hRe : Hid (R = .error (51, (lf s v).length)) := by
            unfold Hid
            rw [hRV.out, vlR_no hu]
           generalize S x = sx at *
           clear hrv hne hok1 hb6 hC hRV hA3 hr1 hxl hu hE' hAk' hlp
           have hdn := hA6.out.done (.string ⟨#[]⟩) (.string ⟨#[]⟩)
           have hf := herr.out w6 51 (lf s v).length v hA6.out (by decide) (hRe.out) (hlv.out)
           have hf' : Hid _ := hf
           have hdn' : Hid _ := hdn.1
           obtain ⟨⟨q1, q2⟩, q3, q4⟩ := hA6.out.cells
           clear hf hdn herr hRe hlv hA6
           go_wp2_with (go_at_call 34; refine hK.out.mono ?_; rintro e w' ⟨⟨m, rfl⟩, hww⟩; obtain rfl := hww.symm; clear hww)
           have hd2 := hdn'.out
           exact bodyPost_ret_by (v := .tuple #[.agg #[.string ⟨#[]⟩, .string ⟨#[]⟩], .int .i64 51, .int .i64 (v : Int)]) (by simp [results, Tryz.results37, asAddr, hd2, Result.andThen]) rfl hf'.out
        ·have hC : Hid (Calls Tryz.prog 66 #[.string s, .int .i64 (v : Int), .int .i64 (t : Int)] wr fun e w' => RvQ s t wr V e w') := by
          have h1 := plain_any s v t wr hv'.out.1 h'.out.2.2.2.1
          have h2 := hV'.out
          rw [if_neg h35] at h2
          rw [h2] at h1
          exact h1
         by_cases hvt : v < t
         ·have v1 : (v : Int) < (t : Int) := Int.ofNat_lt.2 hvt
          have hvs : v < s.size := by have := h'.out.2.2.1; omega
          have v2 : (v : Int) < (s.size : Int) := Int.ofNat_lt.2 hvs
          have g35 : ((s[v].toNat : Int) == 35) = false := by
           rw [beq_eq_false_iff_ne]
           intro e
           have : s[v] = 35 := UInt8.toNat_inj.1 (by show s[v].toNat = 35; omega)
           exact h35 (by rw [lf_head hvs, this])
          clear h35 hvt hV'
          go_wp2_with fail
          refine hC.out.mono ?_
          rintro e w6 ⟨rfl, hok1, hne, hb6⟩
          have hA6 : Hid (Ab w w6) := hA3.out.below hb6
          cases V with
          | error e =>
           obtain ⟨ec, em⟩ := e
           have hRe : Hid (R = .error (ec, em)) := hRV.out
           have hne' : Hid (ec ≠ 0) := hne ec em rfl
           have gne : ((ec : Int) != 0) = true := by have := hne'.out; simp; omega
           obtain ⟨pl, hpl⟩ : ∃ pl, s.size - em = pl := ⟨_, rfl⟩
           have hpl' : Hid (s.size - em = pl) := hpl
           have hrv : Hid (reV s.size (.error (ec, em)) = .tuple #[.string ⟨#[]⟩, .int .i64 (ec : Int), .int .i64 (pl : Int)]) := by unfold Hid; rw [← hpl]; rfl
           rw [hrv.out]
           clear hrv hpl hne hok1 hb6 hC hRV hA3
           have hdn := hA6.out.done (.string ⟨#[]⟩) (.string ⟨#[]⟩)
           have hf := herr.out w6 ec em pl hA6.out hne'.out (hRe.out) (hpl'.out)
           have hf' : Hid _ := hf
           have hdn' : Hid _ := hdn.1
           obtain ⟨⟨q1, q2⟩, q3, q4⟩ := hA6.out.cells
           clear hf hdn herr hRe hne' hpl' hlp hlv hE' hAk'
           go_wp2_with fail
           have hd2 := hdn'.out
           exact bodyPost_ret_by (v := .tuple #[.agg #[.string ⟨#[]⟩, .string ⟨#[]⟩], .int .i64 (ec : Int), .int .i64 (pl : Int)]) (by simp [results, Tryz.results37, asAddr, hd2, Result.andThen]) rfl hf'.out
          | ok y =>
           obtain ⟨x, r⟩ := y
           obtain ⟨hr1, hxl⟩ := hok1 x r rfl
           have hrv : Hid (reV s.size (.ok (x, r)) = .tuple #[.string (S x), .int .i64 0, .int .i64 0]) := rfl
           rw [hrv.out]
           have hK : Hid (Calls Tryz.prog 34 #[.string (S x)] w6 fun e w' => (∃ m : Nat, e = .returned (.tuple #[.int .i64 (if utf x = true then 0 else 10), .int .i64 (m : Int)])) ∧ w' = w6) := rcheck_ty x w6 (by omega) (rowTab_below h'.out.2.2.2.2.2.2.2.2 hA6.out.2)
           by_cases hu : utf x = true
           ·rw [if_pos hu] at hK
            have hRe : Hid (R = .ok ((ty, x), r)) := by
             unfold Hid
             rw [hRV.out, vlR_ok hu]
            have hdn := hA6.out.done (.string (s.extract p k)) (.string (S x))
            have hf : Hid (RpQ s t w R (.returned (.tuple #[.agg #[.string (s.extract p k), .string (S x)], .int .i64 0, .int .i64 0])) ((w6.setCell ⟨w.heap.size, 0, none⟩ (.string (s.extract p k))).setCell ⟨w.heap.size, 1, none⟩ (.string (S x)))) := by
             refine ⟨?_, fun z r2 hz => ?_, fun j m hz => (by rw [hRe.out] at hz; cases hz), hdn.2⟩
             ·rw [hRe.out, ← hE'.out]
              rfl
             ·rw [hRe.out] at hz
              injection hz with hz
              injection hz with hz1 hz2
              subst hz1 hz2
              exact ⟨hr1, hAk'.out.2, hxl⟩
            have hdn' : Hid _ := hdn.1
            obtain ⟨⟨q1, q2⟩, q3, q4⟩ := hA6.out.cells
            generalize S x = sx at *
            clear hdn hrv hne hok1 hb6 hC hRV hA3 hA6 hRe hr1 hxl hu herr hE' hAk' hlp hlv
            go_wp2_with (go_at_call 34; refine hK.out.mono ?_; rintro e w' ⟨⟨m, rfl⟩, hww⟩; obtain rfl := hww.symm; clear hww)
            have hd2 := hdn'.out
            exact bodyPost_ret_by (v := .tuple #[.agg #[.string (s.extract p k), .string sx], .int .i64 0, .int .i64 0]) (by simp [results, Tryz.results37, asAddr, hd2, Result.andThen]) rfl hf.out
           ·rw [if_neg hu] at hK
            have hRe : Hid (R = .error (51, (lf s v).length)) := by
             unfold Hid
             rw [hRV.out, vlR_no hu]
            generalize S x = sx at *
            clear hrv hne hok1 hb6 hC hRV hA3 hr1 hxl hu hE' hAk' hlp
            have hdn := hA6.out.done (.string ⟨#[]⟩) (.string ⟨#[]⟩)
            have hf := herr.out w6 51 (lf s v).length v hA6.out (by decide) (hRe.out) (hlv.out)
            have hf' : Hid _ := hf
            have hdn' : Hid _ := hdn.1
            obtain ⟨⟨q1, q2⟩, q3, q4⟩ := hA6.out.cells
            clear hf hdn herr hRe hlv hA6
            go_wp2_with (go_at_call 34; refine hK.out.mono ?_; rintro e w' ⟨⟨m, rfl⟩, hww⟩; obtain rfl := hww.symm; clear hww)
            have hd2 := hdn'.out
            exact bodyPost_ret_by (v := .tuple #[.agg #[.string ⟨#[]⟩, .string ⟨#[]⟩], .int .i64 51, .int .i64 (v : Int)]) (by simp [results, Tryz.results37, asAddr, hd2, Result.andThen]) rfl hf'.out
         ·have v1 : ¬ (v : Int) < (t : Int) := by omega
          clear h35 hvt hV'
          go_wp2_with fail
          refine hC.out.mono ?_
          rintro e w6 ⟨rfl, hok1, hne, hb6⟩
          have hA6 : Hid (Ab w w6) := hA3.out.below hb6
          cases V with
          | error e =>
           obtain ⟨ec, em⟩ := e
           have hRe : Hid (R = .error (ec, em)) := hRV.out
           have hne' : Hid (ec ≠ 0) := hne ec em rfl
           have gne : ((ec : Int) != 0) = true := by have := hne'.out; simp; omega
           obtain ⟨pl, hpl⟩ : ∃ pl, s.size - em = pl := ⟨_, rfl⟩
           have hpl' : Hid (s.size - em = pl) := hpl
           have hrv : Hid (reV s.size (.error (ec, em)) = .tuple #[.string ⟨#[]⟩, .int .i64 (ec : Int), .int .i64 (pl : Int)]) := by unfold Hid; rw [← hpl]; rfl
           rw [hrv.out]
           clear hrv hpl hne hok1 hb6 hC hRV hA3
           have hdn := hA6.out.done (.string ⟨#[]⟩) (.string ⟨#[]⟩)
           have hf := herr.out w6 ec em pl hA6.out hne'.out (hRe.out) (hpl'.out)
           have hf' : Hid _ := hf
           have hdn' : Hid _ := hdn.1
           obtain ⟨⟨q1, q2⟩, q3, q4⟩ := hA6.out.cells
           clear hf hdn herr hRe hne' hpl' hlp hlv hE' hAk'
           go_wp2_with fail
           have hd2 := hdn'.out
           exact bodyPost_ret_by (v := .tuple #[.agg #[.string ⟨#[]⟩, .string ⟨#[]⟩], .int .i64 (ec : Int), .int .i64 (pl : Int)]) (by simp [results, Tryz.results37, asAddr, hd2, Result.andThen]) rfl hf'.out
          | ok y =>
           obtain ⟨x, r⟩ := y
           obtain ⟨hr1, hxl⟩ := hok1 x r rfl
           have hrv : Hid (reV s.size (.ok (x, r)) = .tuple #[.string (S x), .int .i64 0, .int .i64 0]) := rfl
           rw [hrv.out]
           have hK : Hid (Calls Tryz.prog 34 #[.string (S x)] w6 fun e w' => (∃ m : Nat, e = .returned (.tuple #[.int .i64 (if utf x = true then 0 else 10), .int .i64 (m : Int)])) ∧ w' = w6) := rcheck_ty x w6 (by omega) (rowTab_below h'.out.2.2.2.2.2.2.2.2 hA6.out.2)
           by_cases hu : utf x = true
           ·rw [if_pos hu] at hK
            have hRe : Hid (R = .ok ((ty, x), r)) := by
             unfold Hid
             rw [hRV.out, vlR_ok hu]
            have hdn := hA6.out.done (.string (s.extract p k)) (.string (S x))
            have hf : Hid (RpQ s t w R (.returned (.tuple #[.agg #[.string (s.extract p k), .string (S x)], .int .i64 0, .int .i64 0])) ((w6.setCell ⟨w.heap.size, 0, none⟩ (.string (s.extract p k))).setCell ⟨w.heap.size, 1, none⟩ (.string (S x)))) := by
             refine ⟨?_, fun z r2 hz => ?_, fun j m hz => (by rw [hRe.out] at hz; cases hz), hdn.2⟩
             ·rw [hRe.out, ← hE'.out]
              rfl
             ·rw [hRe.out] at hz
              injection hz with hz
              injection hz with hz1 hz2
              subst hz1 hz2
              exact ⟨hr1, hAk'.out.2, hxl⟩
            have hdn' : Hid _ := hdn.1
            obtain ⟨⟨q1, q2⟩, q3, q4⟩ := hA6.out.cells
            generalize S x = sx at *
            clear hdn hrv hne hok1 hb6 hC hRV hA3 hA6 hRe hr1 hxl hu herr hE' hAk' hlp hlv
            go_wp2_with (go_at_call 34; refine hK.out.mono ?_; rintro e w' ⟨⟨m, rfl⟩, hww⟩; obtain rfl := hww.symm; clear hww)
            have hd2 := hdn'.out
            exact bodyPost_ret_by (v := .tuple #[.agg #[.string (s.extract p k), .string sx], .int .i64 0, .int .i64 0]) (by simp [results, Tryz.results37, asAddr, hd2, Result.andThen]) rfl hf.out
           ·rw [if_neg hu] at hK
            have hRe : Hid (R = .error (51, (lf s v).length)) := by
             unfold Hid
             rw [hRV.out, vlR_no hu]
            generalize S x = sx at *
            clear hrv hne hok1 hb6 hC hRV hA3 hr1 hxl hu hE' hAk' hlp
            have hdn := hA6.out.done (.string ⟨#[]⟩) (.string ⟨#[]⟩)
            have hf := herr.out w6 51 (lf s v).length v hA6.out (by decide) (hRe.out) (hlv.out)
            have hf' : Hid _ := hf
            have hdn' : Hid _ := hdn.1
            obtain ⟨⟨q1, q2⟩, q3, q4⟩ := hA6.out.cells
            clear hf hdn herr hRe hlv hA6
            go_wp2_with (go_at_call 34; refine hK.out.mono ?_; rintro e w' ⟨⟨m, rfl⟩, hww⟩; obtain rfl := hww.symm; clear hww)
            have hd2 := hdn'.out
            exact bodyPost_ret_by (v := .tuple #[.agg #[.string ⟨#[]⟩, .string ⟨#[]⟩], .int .i64 51, .int .i64 (v : Int)]) (by simp [results, Tryz.results37, asAddr, hd2, Result.andThen]) rfl hf'.out
       ·have hRe : Hid (R = .error (53, (lf s q).length)) := by
         unfold Hid
         rw [← hR'.out]
         unfold prR
         rw [hpt3.out, if_neg hh]
        by_cases hqt : q = t
        ·have gq : ((q : Int) == (t : Int)) = true := by rw [hqt]; simp
         clear hh hqt hpt3 hR' hql hq' hE' hAk'
         have hdn := hA3.out.done (.string ⟨#[]⟩) (.string ⟨#[]⟩)
         have hf := herr.out wr 53 (lf s q).length q hA3.out (by decide) (hRe.out) (hlq.out)
         have hf' : Hid _ := hf
         have hdn' : Hid _ := hdn.1
         obtain ⟨⟨q1, q2⟩, q3, q4⟩ := hA3.out.cells
         clear hf hdn herr hRe hlq
         go_wp2_with fail
         have hd2 := hdn'.out
         exact bodyPost_ret_by (v := .tuple #[.agg #[.string ⟨#[]⟩, .string ⟨#[]⟩], .int .i64 53, .int .i64 (q : Int)]) (by simp [results, Tryz.results37, asAddr, hd2, Result.andThen]) rfl hf'.out
        ·have hqs : q < s.size := by have := hq'.out.le; omega
         have q2 : (q : Int) < (s.size : Int) := Int.ofNat_lt.2 hqs
         have gq : ((q : Int) == (t : Int)) = false := by rw [beq_eq_false_iff_ne]; omega
         have g61 : ((s[q].toNat : Int) != 61) = true := by
          rw [bne_iff_ne]
          intro e
          have : s[q] = 61 := UInt8.toNat_inj.1 (by show s[q].toNat = 61; omega)
          exact hh (by rw [lf_head hqs, this])
         clear hh hqt hpt3 hR' hql hq' hE' hAk'
         have hdn := hA3.out.done (.string ⟨#[]⟩) (.string ⟨#[]⟩)
         have hf := herr.out wr 53 (lf s q).length q hA3.out (by decide) (hRe.out) (hlq.out)
         have hf' : Hid _ := hf
         have hdn' : Hid _ := hdn.1
         obtain ⟨⟨q1, q2⟩, q3, q4⟩ := hA3.out.cells
         clear hf hdn herr hRe hlq
         go_wp2_with fail
         have hd2 := hdn'.out
         exact bodyPost_ret_by (v := .tuple #[.agg #[.string ⟨#[]⟩, .string ⟨#[]⟩], .int .i64 53, .int .i64 (q : Int)]) (by simp [results, Tryz.results37, asAddr, hd2, Result.andThen]) rfl hf'.out
    ·rw [if_neg hok] at hP
     have hRe : Hid (R = .error (52, (lf s p).length)) := by
      unfold Hid
      rw [← hR'.out]
      unfold prR
      rw [hpt.out, if_pos (by simpa using hok)]
     clear hok hpt hR'
     go_wp2_with (go_at_call 64; refine hWk.out.mono ?_; rintro e w' ⟨rfl, hww⟩; obtain rfl := hww.symm; clear hww)
     refine hP.out.mono ?_
     rintro e W1 ⟨⟨m, rfl⟩, hb1⟩
     have hA1 : Hid (Ab w W1) := hA0.out.below hb1
     clear hP hb1 hA0
     have hdn := hA1.out.done (.string ⟨#[]⟩) (.string ⟨#[]⟩)
     have hf := herr.out W1 52 (lf s p).length p hA1.out (by decide) (hRe.out) (hlp.out)
     have hf' : Hid _ := hf
     have hdn' : Hid _ := hdn.1
     obtain ⟨⟨q1, q2⟩, q3, q4⟩ := hA1.out.cells
     clear hf hdn herr hRe hlp
     go_wp2_with fail
     have hd2 := hdn'.out
     exact bodyPost_ret_by (v := .tuple #[.agg #[.string ⟨#[]⟩, .string ⟨#[]⟩], .int .i64 52, .int .i64 (p : Int)]) (by simp [results, Tryz.results37, asAddr, hd2, Result.andThen]) rfl hf'.out
   ·have k1 : ¬ (k : Int) < (t : Int) := by omega
    have hR2 := hrest (hout.out (Or.inl (by have := hQ.out.2.1; omega)))
    clear hQ hout hrest hgo hkl hWd
    obtain ⟨hE, hDr, hAk, hpk, hkt⟩ := hR2.out
    obtain ⟨ty, hty⟩ : ∃ ty, (lf s p).takeWhile tb = ty := ⟨_, rfl⟩
    rw [hty] at hE
    have htl : ty.length ≤ 4096 := by rw [← hty]; have := tw_len tb (lf s p); rw [lf_len] at this; have := h'.out.2.2.2.1; omega
    have hpt : Hid (pt (ps.map fun p => tyC p.1) (lf s p) = if tyOk ty = false then .error (52, (lf s p).length) else if tyC ty ∈ (ps.map fun p => tyC p.1) then .error (57, (lf s p).length) else if (sp (lf s k)).head? = some 61 then .ok (ty, sp ((sp (lf s k)).drop 1)) else .error (53, (sp (lf s k)).length)) := by
     unfold Hid pt
     rw [hty, hDr]
    have hlp : Hid (s.size - (lf s p).length = p) := by unfold Hid; rw [lf_len]; have := h'.out.1.1; omega
    have hAk' : Hid (Al s k t ∧ ty.length ≤ 4096) := ⟨hAk, htl⟩
    have hE' : Hid (S ty = s.extract p k) := hE
    have hP : Hid (Calls Tryz.prog 47 #[.string (s.extract p k)] W0 fun e w' => (∃ m : Nat, e = .returned (.tuple #[.string (S (tyC ty)), .int .i64 (if tyOk ty = true then 0 else 40), .int .i64 (m : Int)])) ∧ Below W0.heap.size W0 w') := by
     have h1 := rparse_ty ty W0 (by omega)
     rw [hE] at h1
     exact h1
    have k4 : (k : Int) ≤ (s.size : Int) := by have := h'.out.2.2.1; omega
    clear hE hDr hty hR2 hAk hpk hkt htl
    by_cases hok : tyOk ty = true
    ·rw [if_pos hok] at hP
     have hpt2 : Hid (pt (ps.map fun p => tyC p.1) (lf s p) = if tyC ty ∈ (ps.map fun p => tyC p.1) then .error (57, (lf s p).length) else if (sp (lf s k)).head? = some 61 then .ok (ty, sp ((sp (lf s k)).drop 1)) else .error (53, (sp (lf s k)).length)) := by
      unfold Hid
      rw [hpt.out, if_neg (by simp [hok])]
     clear hok hpt
     go_wp2_with fail
     refine hP.out.mono ?_
     rintro e W1 ⟨⟨m1, rfl⟩, hb1⟩
     have hA1 : Hid (Ab w W1) := hA0.out.below hb1
     obtain ⟨sc, hsc⟩ : ∃ sc, S (tyC ty) = sc := ⟨_, rfl⟩
     have hsc' : Hid (S (tyC ty) = sc) := hsc
     rw [hsc]
     clear hP hb1 hA0 hsc
     go_wp2_with fail
     go_loopw [16, 17, 18, 19] (fun jv _ _ _ wr => ∃ j : Nat, jv = .int .i64 (j : Int) ∧ Hid (j ≤ n ∧ (∀ i, i < j → ∀ hi : i < ps.length, tyC ps[i].1 ≠ tyC ty) ∧ Ab w wr)) (fun jv _ _ _ _ => n - (intOf jv).toNat)
     case atStart => exact ⟨0, rfl, Nat.zero_le _, fun i hi => absurd hi (Nat.not_lt_zero _), hA1.out⟩
     case round =>
      obtain ⟨j, rfl, hJ⟩ := hrel
      clear hA1
      have j0 : (0 : Int) ≤ (j : Int) := Int.natCast_nonneg _
      by_cases hjn : j < n
      ·have j1 : (j : Int) < (n : Int) := Int.ofNat_lt.2 hjn
       have hjP : j < ps.length := by rw [h'.out.2.2.2.2.2.1]; exact hjn
       obtain ⟨pb, po, hra, c3, c4⟩ := prow_at (h'.out.2.2.2.2.1.below pV_len hJ.out.2.2.2) j hjP
       subst hra
       have hPj : Hid (Calls Tryz.prog 47 #[.string (S ps[j].1)] wr fun e w' => (∃ m : Nat, e = .returned (.tuple #[.string (S (tyC ps[j].1)), .int .i64 (if tyOk ps[j].1 = true then 0 else 40), .int .i64 (m : Int)])) ∧ Below wr.heap.size wr w') := rparse_ty ps[j].1 wr (by have := h'.out.2.2.2.2.2.2.2.1 _ (List.getElem_mem hjP); omega)
       have hj' : Hid (j < n ∧ ∃ h : j < ps.length, tyC ps[j].1 = tyC ps[j].1) := ⟨hjn, hjP, rfl⟩
       obtain ⟨tj, htj⟩ : ∃ tj, tyC ps[j].1 = tj := ⟨_, rfl⟩
       have htj' : Hid (∀ hi : j < ps.length, tyC ps[j].1 = tj) := fun _ => htj
       rw [htj] at hPj
       obtain ⟨sj, hsj⟩ : ∃ sj, S ps[j].1 = sj := ⟨_, rfl⟩
       rw [hsj] at c3 hPj
       obtain ⟨ej, hej⟩ : ∃ ej : Int, (if tyOk ps[j].1 = true then (0 : Int) else 40) = ej := ⟨_, rfl⟩
       rw [hej] at hPj
       clear htj hsj hej c4
       by_cases heq : tj = tyC ty
       ·have hmem : tyC ty ∈ (ps.map fun p => tyC p.1) := List.mem_map.2 ⟨ps[j], List.getElem_mem hjP, by rw [htj'.out hjP, heq]⟩
        have hRe : Hid (R = .error (57, (lf s p).length)) := by
         unfold Hid
         rw [← hR'.out]
         unfold prR
         rw [hpt2.out, if_pos hmem]
        have gs : ((S tj).toList == sc.toList) = true := by rw [heq, hsc'.out]; exact beq_self_eq_true _
        obtain ⟨sT, hsT⟩ : ∃ sT, S tj = sT := ⟨_, rfl⟩
        rw [hsT] at gs hPj
        clear hmem hjP heq hsT hR' hpt2 hsc' hE' hAk' htj' hj'
        go_wp2_with fail
        refine hPj.out.mono ?_
        rintro e W2 ⟨⟨m2, rfl⟩, hb2⟩
        have hA2 : Hid (Ab w W2) := hJ.out.2.2.below hb2
        clear hPj hb2 hJ c3
        have hdn := hA2.out.done (.string ⟨#[]⟩) (.string ⟨#[]⟩)
        have hf := herr.out W2 57 (lf s p).length p hA2.out (by decide) (hRe.out) (hlp.out)
        have hf' : Hid _ := hf
        have hdn' : Hid _ := hdn.1
        obtain ⟨⟨q1, q2⟩, q3, q4⟩ := hA2.out.cells
        clear hf hdn herr hRe hlp
        go_wp2_with fail
        have hd2 := hdn'.out
        exact bodyPost_ret_by (v := .tuple #[.agg #[.string ⟨#[]⟩, .string ⟨#[]⟩], .int .i64 57, .int .i64 (p : Int)]) (by simp [results, Tryz.results37, asAddr, hd2, Result.andThen]) rfl hf'.out
       ·have gs : ((S tj).toList == sc.toList) = false := by
         rw [← hsc'.out, Lib.toList_data, Lib.toList_data, S_l, S_l, beq_eq_false_iff_ne]
         exact heq
        obtain ⟨sT, hsT⟩ : ∃ sT, S tj = sT := ⟨_, rfl⟩
        rw [hsT] at gs hPj
        have hne : Hid (∀ i, i < j + 1 → ∀ hi : i < ps.length, tyC ps[i].1 ≠ tyC ty) := fun i hij hi => by
         by_cases e : i = j
         ·subst e
          rw [htj'.out hi]
          exact heq
         ·exact hJ.out.2.1 i (by omega) hi
        have hjn' : Hid (j < n) := hjn
        clear hjP heq hsT hj' htj' hjn
        go_wp2_with fail
        refine hPj.out.mono ?_
        rintro e W2 ⟨⟨m2, rfl⟩, hb2⟩
        have hfin : Hid (j + 1 ≤ n ∧ (∀ i, i < j + 1 → ∀ hi : i < ps.length, tyC ps[i].1 ≠ tyC ty) ∧ Ab w W2) := ⟨hjn'.out, hne.out, hJ.out.2.2.below hb2⟩
        clear hPj hb2 hJ c3 hne
        go_wp2_with fail
        go_roundw
        case rel => exact ⟨j + 1, by go_num, hfin⟩
        case measure => have := hjn'.out; simp [intOf]; omega
      ·have j1 : ¬ (j : Int) < (n : Int) := by omega
       have hnm : ¬ tyC ty ∈ (ps.map fun p => tyC p.1) := fun hm => by
        obtain ⟨i, hi, e⟩ := mem_map_at hm
        exact hJ.out.2.1 i (by have := h'.out.2.2.2.2.2.1; omega) hi e
       have hpt3 : Hid (pt (ps.map fun p => tyC p.1) (lf s p) = if (sp (lf s k)).head? = some 61 then .ok (ty, sp ((sp (lf s k)).drop 1)) else .error (53, (sp (lf s k)).length)) := by
        unfold Hid
        rw [hpt2.out, if_neg hnm]
       have hA3 : Hid (Ab w wr) := hJ.out.2.2
       have hSk : Hid (Calls Tryz.prog 36 #[.string s, .int .i64 (k : Int), .int .i64 (t : Int)] wr fun e w' => RsQ s k t wr e w') := rskip_any s k t wr hAk'.out.1 h'.out.2.2.2.1
       clear hJ hnm hpt2 hsc' hjn
       go_wp2_with fail
       refine hSk.out.mono ?_
       rintro e w4 ⟨q, rfl, hq1, hq2, hq3, hww⟩
       obtain rfl := hww.symm
       clear hww
       have hql := hq3.le
       have q0 : (0 : Int) ≤ (q : Int) := Int.natCast_nonneg _
       have qt : (q : Int) ≤ (t : Int) := by omega
       have hlq : Hid (s.size - (lf s q).length = q) := by unfold Hid; rw [lf_len]; have := hq3.1; omega
       rw [← hq1] at hpt3
       have hq' : Hid (Al s q t) := hq3
       clear hSk hq1 hq2 hq3
       by_cases hh : (lf s q).head? = some 61
       ·have hqt : q ≠ t := fun e => by
         rcases (show En (lf s q) by rw [e]; exact hq'.out.en) with e2 | ⟨c, r, e2, hc⟩
         ·rw [e2] at hh; cases hh
         ·rw [e2] at hh; injection hh with hh; subst hh; rcases hc with hc | hc <;> cases hc
        have hqs : q < s.size := by have := hq'.out.le; omega
        have hq61 : s[q] = 61 := by rw [lf_head hqs] at hh; injection hh
        have q2 : (q : Int) < (s.size : Int) := Int.ofNat_lt.2 hqs
        have gq : ((q : Int) == (t : Int)) = false := by rw [beq_eq_false_iff_ne]; omega
        have g61 : ((s[q].toNat : Int) != 61) = false := by rw [hq61]; rfl
        have hpt4 : Hid (pt (ps.map fun p => tyC p.1) (lf s p) = .ok (ty, sp (lf s (q + 1)))) := by
         unfold Hid
         rw [hpt3.out, if_pos hh, lf_drop]
        have hAq : Al s (q + 1) t := hq'.out.step hqs (by rw [hq61]; decide) (by rw [hq61]; decide)
        have hq1i : (q : Int) + 1 = ((q + 1 : Nat) : Int) := by omega
        have hSk2 : Hid (Calls Tryz.prog 36 #[.string s, .int .i64 ((q : Int) + 1), .int .i64 (t : Int)] wr fun e w' => RsQ s (q + 1) t wr e w') := by
         rw [hq1i]
         exact rskip_any s (q + 1) t wr hAq h'.out.2.2.2.1
        clear hh hqt hq61 hpt3 hAq hq1i hlq hql
        go_wp2_with fail
        refine hSk2.out.mono ?_
        rintro e w5 ⟨v, rfl, hv1, hv2, hv3, hww⟩
        obtain rfl := hww.symm
        clear hww
        have hv' : Hid (Al s v t ∧ lf s v = sp (lf s (q + 1)) ∧ v ≤ t) := ⟨hv3, hv1, hv3.le.1⟩
        have v0 : (0 : Int) ≤ (v : Int) := Int.natCast_nonneg _
        have vt : (v : Int) ≤ (t : Int) := by have := hv'.out.2.2; omega
        obtain ⟨V, hV⟩ : ∃ V, (if (lf s v).head? = some 35 then hxR ((lf s v).drop 1) else tv ((lf s v).length + 1) (lf s v) [] 0) = V := ⟨_, rfl⟩
        have hRV : Hid (R = vlR ty (lf s v).length V) := by
         unfold Hid
         rw [← hR'.out, prR_val hpt4.out, ← hv'.out.2.1, hV]
        have hV' : Hid ((if (lf s v).head? = some 35 then hxR ((lf s v).drop 1) else tv ((lf s v).length + 1) (lf s v) [] 0) = V) := hV
        have hlv : Hid (s.size - (lf s v).length = v) := by unfold Hid; rw [lf_len]; have := hv'.out.1.1; omega
        clear hSk2 hv1 hv2 hv3 hV hpt4 hR' hq' gq
        by_cases h35 : (lf s v).head? = some 35
        ·have hvs : v < s.size := by
          cases Nat.lt_or_ge v s.size with
          | inl h => exact h
          | inr h => rw [lf_nil h] at h35; cases h35
         have hv35 : s[v] = 35 := by rw [lf_head hvs] at h35; injection h35
         have hvt : v < t := by
          have h1 := hv'.out.2.2
          rcases Nat.lt_or_ge v t with h | h
          ·exact h
          ·have e : v = t := by omega
           rcases (show En (lf s v) by rw [e]; exact hv'.out.1.en) with e2 | ⟨c, r, e2, hc⟩
           ·rw [e2] at h35; cases h35
           ·rw [e2] at h35; injection h35 with hh; subst hh; rcases hc with hc | hc <;> cases hc
         have v1 : (v : Int) < (t : Int) := Int.ofNat_lt.2 hvt
         have v2 : (v : Int) < (s.size : Int) := Int.ofNat_lt.2 hvs
         have g35 : ((s[v].toNat : Int) == 35) = true := by rw [hv35]; rfl
         have hC : Hid (Calls Tryz.prog 65 #[.string s, .int .i64 (v : Int), .int .i64 (t : Int)] wr fun e w' => RvQ s t wr V e w') := by
          have h1 := coded_any s v t wr hv'.out.1 hvs hv35 h'.out.2.2.2.1
          have h2 := hV'.out
          rw [if_pos h35, lf_drop] at h2
          rw [h2] at h1
          exact h1
         clear h35 hv35 hvt hV'
         go_wp2_with fail
         refine hC.out.mono ?_
         rintro e w6 ⟨rfl, hok1, hne, hb6⟩
         have hA6 : Hid (Ab w w6) := hA3.out.below hb6
         cases V with
         | error e =>
          obtain ⟨ec, em⟩ := e
          have hRe : Hid (R = .error (ec, em)) := hRV.out
          have hne' : Hid (ec ≠ 0) := hne ec em rfl
          have gne : ((ec : Int) != 0) = true := by have := hne'.out; simp; omega
          obtain ⟨pl, hpl⟩ : ∃ pl, s.size - em = pl := ⟨_, rfl⟩
          have hpl' : Hid (s.size - em = pl) := hpl
          have hrv : Hid (reV s.size (.error (ec, em)) = .tuple #[.string ⟨#[]⟩, .int .i64 (ec : Int), .int .i64 (pl : Int)]) := by unfold Hid; rw [← hpl]; rfl
          rw [hrv.out]
          clear hrv hpl hne hok1 hb6 hC hRV hA3
          have hdn := hA6.out.done (.string ⟨#[]⟩) (.string ⟨#[]⟩)
          have hf := herr.out w6 ec em pl hA6.out hne'.out (hRe.out) (hpl'.out)
          have hf' : Hid _ := hf
          have hdn' : Hid _ := hdn.1
          obtain ⟨⟨q1, q2⟩, q3, q4⟩ := hA6.out.cells
          clear hf hdn herr hRe hne' hpl' hlp hlv hE' hAk'
          go_wp2_with fail
          have hd2 := hdn'.out
          exact bodyPost_ret_by (v := .tuple #[.agg #[.string ⟨#[]⟩, .string ⟨#[]⟩], .int .i64 (ec : Int), .int .i64 (pl : Int)]) (by simp [results, Tryz.results37, asAddr, hd2, Result.andThen]) rfl hf'.out
         | ok y =>
          obtain ⟨x, r⟩ := y
          obtain ⟨hr1, hxl⟩ := hok1 x r rfl
          have hrv : Hid (reV s.size (.ok (x, r)) = .tuple #[.string (S x), .int .i64 0, .int .i64 0]) := rfl
          rw [hrv.out]
          have hK : Hid (Calls Tryz.prog 34 #[.string (S x)] w6 fun e w' => (∃ m : Nat, e = .returned (.tuple #[.int .i64 (if utf x = true then 0 else 10), .int .i64 (m : Int)])) ∧ w' = w6) := rcheck_ty x w6 (by omega) (rowTab_below h'.out.2.2.2.2.2.2.2.2 hA6.out.2)
          by_cases hu : utf x = true
          ·rw [if_pos hu] at hK
           have hRe : Hid (R = .ok ((ty, x), r)) := by
            unfold Hid
            rw [hRV.out, vlR_ok hu]
           have hdn := hA6.out.done (.string (s.extract p k)) (.string (S x))
           have hf : Hid (RpQ s t w R (.returned (.tuple #[.agg #[.string (s.extract p k), .string (S x)], .int .i64 0, .int .i64 0])) ((w6.setCell ⟨w.heap.size, 0, none⟩ (.string (s.extract p k))).setCell ⟨w.heap.size, 1, none⟩ (.string (S x)))) := by
            refine ⟨?_, fun z r2 hz => ?_, fun j m hz => (by rw [hRe.out] at hz; cases hz), hdn.2⟩
            ·rw [hRe.out, ← hE'.out]
             rfl
            ·rw [hRe.out] at hz
             injection hz with hz
             injection hz with hz1 hz2
             subst hz1 hz2
             exact ⟨hr1, hAk'.out.2, hxl⟩
           have hdn' : Hid _ := hdn.1
           obtain ⟨⟨q1, q2⟩, q3, q4⟩ := hA6.out.cells
           generalize S x = sx at *
           clear hdn hrv hne hok1 hb6 hC hRV hA3 hA6 hRe hr1 hxl hu herr hE' hAk' hlp hlv
           go_wp2_with (go_at_call 34; refine hK.out.mono ?_; rintro e w' ⟨⟨m, rfl⟩, hww⟩; obtain rfl := hww.symm; clear hww)
           have hd2 := hdn'.out
           exact bodyPost_ret_by (v := .tuple #[.agg #[.string (s.extract p k), .string sx], .int .i64 0, .int .i64 0]) (by simp [results, Tryz.results37, asAddr, hd2, Result.andThen]) rfl hf.out
          ·rw [if_neg hu] at hK
           have hRe : Hid (R = .error (51, (lf s v).length)) := by
            unfold Hid
            rw [hRV.out, vlR_no hu]
           generalize S x = sx at *
           clear hrv hne hok1 hb6 hC hRV hA3 hr1 hxl hu hE' hAk' hlp
           have hdn := hA6.out.done (.string ⟨#[]⟩) (.string ⟨#[]⟩)
           have hf := herr.out w6 51 (lf s v).length v hA6.out (by decide) (hRe.out) (hlv.out)
           have hf' : Hid _ := hf
           have hdn' : Hid _ := hdn.1
           obtain ⟨⟨q1, q2⟩, q3, q4⟩ := hA6.out.cells
           clear hf hdn herr hRe hlv hA6
           go_wp2_with (go_at_call 34; refine hK.out.mono ?_; rintro e w' ⟨⟨m, rfl⟩, hww⟩; obtain rfl := hww.symm; clear hww)
           have hd2 := hdn'.out
           exact bodyPost_ret_by (v := .tuple #[.agg #[.string ⟨#[]⟩, .string ⟨#[]⟩], .int .i64 51, .int .i64 (v : Int)]) (by simp [results, Tryz.results37, asAddr, hd2, Result.andThen]) rfl hf'.out
        ·have hC : Hid (Calls Tryz.prog 66 #[.string s, .int .i64 (v : Int), .int .i64 (t : Int)] wr fun e w' => RvQ s t wr V e w') := by
          have h1 := plain_any s v t wr hv'.out.1 h'.out.2.2.2.1
          have h2 := hV'.out
          rw [if_neg h35] at h2
          rw [h2] at h1
          exact h1
         by_cases hvt : v < t
         ·have v1 : (v : Int) < (t : Int) := Int.ofNat_lt.2 hvt
          have hvs : v < s.size := by have := h'.out.2.2.1; omega
          have v2 : (v : Int) < (s.size : Int) := Int.ofNat_lt.2 hvs
          have g35 : ((s[v].toNat : Int) == 35) = false := by
           rw [beq_eq_false_iff_ne]
           intro e
           have : s[v] = 35 := UInt8.toNat_inj.1 (by show s[v].toNat = 35; omega)
           exact h35 (by rw [lf_head hvs, this])
          clear h35 hvt hV'
          go_wp2_with fail
          refine hC.out.mono ?_
          rintro e w6 ⟨rfl, hok1, hne, hb6⟩
          have hA6 : Hid (Ab w w6) := hA3.out.below hb6
          cases V with
          | error e =>
           obtain ⟨ec, em⟩ := e
           have hRe : Hid (R = .error (ec, em)) := hRV.out
           have hne' : Hid (ec ≠ 0) := hne ec em rfl
           have gne : ((ec : Int) != 0) = true := by have := hne'.out; simp; omega
           obtain ⟨pl, hpl⟩ : ∃ pl, s.size - em = pl := ⟨_, rfl⟩
           have hpl' : Hid (s.size - em = pl) := hpl
           have hrv : Hid (reV s.size (.error (ec, em)) = .tuple #[.string ⟨#[]⟩, .int .i64 (ec : Int), .int .i64 (pl : Int)]) := by unfold Hid; rw [← hpl]; rfl
           rw [hrv.out]
           clear hrv hpl hne hok1 hb6 hC hRV hA3
           have hdn := hA6.out.done (.string ⟨#[]⟩) (.string ⟨#[]⟩)
           have hf := herr.out w6 ec em pl hA6.out hne'.out (hRe.out) (hpl'.out)
           have hf' : Hid _ := hf
           have hdn' : Hid _ := hdn.1
           obtain ⟨⟨q1, q2⟩, q3, q4⟩ := hA6.out.cells
           clear hf hdn herr hRe hne' hpl' hlp hlv hE' hAk'
           go_wp2_with fail
           have hd2 := hdn'.out
           exact bodyPost_ret_by (v := .tuple #[.agg #[.string ⟨#[]⟩, .string ⟨#[]⟩], .int .i64 (ec : Int), .int .i64 (pl : Int)]) (by simp [results, Tryz.results37, asAddr, hd2, Result.andThen]) rfl hf'.out
          | ok y =>
           obtain ⟨x, r⟩ := y
           obtain ⟨hr1, hxl⟩ := hok1 x r rfl
           have hrv : Hid (reV s.size (.ok (x, r)) = .tuple #[.string (S x), .int .i64 0, .int .i64 0]) := rfl
           rw [hrv.out]
           have hK : Hid (Calls Tryz.prog 34 #[.string (S x)] w6 fun e w' => (∃ m : Nat, e = .returned (.tuple #[.int .i64 (if utf x = true then 0 else 10), .int .i64 (m : Int)])) ∧ w' = w6) := rcheck_ty x w6 (by omega) (rowTab_below h'.out.2.2.2.2.2.2.2.2 hA6.out.2)
           by_cases hu : utf x = true
           ·rw [if_pos hu] at hK
            have hRe : Hid (R = .ok ((ty, x), r)) := by
             unfold Hid
             rw [hRV.out, vlR_ok hu]
            have hdn := hA6.out.done (.string (s.extract p k)) (.string (S x))
            have hf : Hid (RpQ s t w R (.returned (.tuple #[.agg #[.string (s.extract p k), .string (S x)], .int .i64 0, .int .i64 0])) ((w6.setCell ⟨w.heap.size, 0, none⟩ (.string (s.extract p k))).setCell ⟨w.heap.size, 1, none⟩ (.string (S x)))) := by
             refine ⟨?_, fun z r2 hz => ?_, fun j m hz => (by rw [hRe.out] at hz; cases hz), hdn.2⟩
             ·rw [hRe.out, ← hE'.out]
              rfl
             ·rw [hRe.out] at hz
              injection hz with hz
              injection hz with hz1 hz2
              subst hz1 hz2
              exact ⟨hr1, hAk'.out.2, hxl⟩
            have hdn' : Hid _ := hdn.1
            obtain ⟨⟨q1, q2⟩, q3, q4⟩ := hA6.out.cells
            generalize S x = sx at *
            clear hdn hrv hne hok1 hb6 hC hRV hA3 hA6 hRe hr1 hxl hu herr hE' hAk' hlp hlv
            go_wp2_with (go_at_call 34; refine hK.out.mono ?_; rintro e w' ⟨⟨m, rfl⟩, hww⟩; obtain rfl := hww.symm; clear hww)
            have hd2 := hdn'.out
            exact bodyPost_ret_by (v := .tuple #[.agg #[.string (s.extract p k), .string sx], .int .i64 0, .int .i64 0]) (by simp [results, Tryz.results37, asAddr, hd2, Result.andThen]) rfl hf.out
           ·rw [if_neg hu] at hK
            have hRe : Hid (R = .error (51, (lf s v).length)) := by
             unfold Hid
             rw [hRV.out, vlR_no hu]
            generalize S x = sx at *
            clear hrv hne hok1 hb6 hC hRV hA3 hr1 hxl hu hE' hAk' hlp
            have hdn := hA6.out.done (.string ⟨#[]⟩) (.string ⟨#[]⟩)
            have hf := herr.out w6 51 (lf s v).length v hA6.out (by decide) (hRe.out) (hlv.out)
            have hf' : Hid _ := hf
            have hdn' : Hid _ := hdn.1
            obtain ⟨⟨q1, q2⟩, q3, q4⟩ := hA6.out.cells
            clear hf hdn herr hRe hlv hA6
            go_wp2_with (go_at_call 34; refine hK.out.mono ?_; rintro e w' ⟨⟨m, rfl⟩, hww⟩; obtain rfl := hww.symm; clear hww)
            have hd2 := hdn'.out
            exact bodyPost_ret_by (v := .tuple #[.agg #[.string ⟨#[]⟩, .string ⟨#[]⟩], .int .i64 51, .int .i64 (v : Int)]) (by simp [results, Tryz.results37, asAddr, hd2, Result.andThen]) rfl hf'.out
         ·have v1 : ¬ (v : Int) < (t : Int) := by omega
          clear h35 hvt hV'
          go_wp2_with fail
          refine hC.out.mono ?_
          rintro e w6 ⟨rfl, hok1, hne, hb6⟩
          have hA6 : Hid (Ab w w6) := hA3.out.below hb6
          cases V with
          | error e =>
           obtain ⟨ec, em⟩ := e
           have hRe : Hid (R = .error (ec, em)) := hRV.out
           have hne' : Hid (ec ≠ 0) := hne ec em rfl
           have gne : ((ec : Int) != 0) = true := by have := hne'.out; simp; omega
           obtain ⟨pl, hpl⟩ : ∃ pl, s.size - em = pl := ⟨_, rfl⟩
           have hpl' : Hid (s.size - em = pl) := hpl
           have hrv : Hid (reV s.size (.error (ec, em)) = .tuple #[.string ⟨#[]⟩, .int .i64 (ec : Int), .int .i64 (pl : Int)]) := by unfold Hid; rw [← hpl]; rfl
           rw [hrv.out]
           clear hrv hpl hne hok1 hb6 hC hRV hA3
           have hdn := hA6.out.done (.string ⟨#[]⟩) (.string ⟨#[]⟩)
           have hf := herr.out w6 ec em pl hA6.out hne'.out (hRe.out) (hpl'.out)
           have hf' : Hid _ := hf
           have hdn' : Hid _ := hdn.1
           obtain ⟨⟨q1, q2⟩, q3, q4⟩ := hA6.out.cells
           clear hf hdn herr hRe hne' hpl' hlp hlv hE' hAk'
           go_wp2_with fail
           have hd2 := hdn'.out
           exact bodyPost_ret_by (v := .tuple #[.agg #[.string ⟨#[]⟩, .string ⟨#[]⟩], .int .i64 (ec : Int), .int .i64 (pl : Int)]) (by simp [results, Tryz.results37, asAddr, hd2, Result.andThen]) rfl hf'.out
          | ok y =>
           obtain ⟨x, r⟩ := y
           obtain ⟨hr1, hxl⟩ := hok1 x r rfl
           have hrv : Hid (reV s.size (.ok (x, r)) = .tuple #[.string (S x), .int .i64 0, .int .i64 0]) := rfl
           rw [hrv.out]
           have hK : Hid (Calls Tryz.prog 34 #[.string (S x)] w6 fun e w' => (∃ m : Nat, e = .returned (.tuple #[.int .i64 (if utf x = true then 0 else 10), .int .i64 (m : Int)])) ∧ w' = w6) := rcheck_ty x w6 (by omega) (rowTab_below h'.out.2.2.2.2.2.2.2.2 hA6.out.2)
           by_cases hu : utf x = true
           ·rw [if_pos hu] at hK
            have hRe : Hid (R = .ok ((ty, x), r)) := by
             unfold Hid
             rw [hRV.out, vlR_ok hu]
            have hdn := hA6.out.done (.string (s.extract p k)) (.string (S x))
            have hf : Hid (RpQ s t w R (.returned (.tuple #[.agg #[.string (s.extract p k), .string (S x)], .int .i64 0, .int .i64 0])) ((w6.setCell ⟨w.heap.size, 0, none⟩ (.string (s.extract p k))).setCell ⟨w.heap.size, 1, none⟩ (.string (S x)))) := by
             refine ⟨?_, fun z r2 hz => ?_, fun j m hz => (by rw [hRe.out] at hz; cases hz), hdn.2⟩
             ·rw [hRe.out, ← hE'.out]
              rfl
             ·rw [hRe.out] at hz
              injection hz with hz
              injection hz with hz1 hz2
              subst hz1 hz2
              exact ⟨hr1, hAk'.out.2, hxl⟩
            have hdn' : Hid _ := hdn.1
            obtain ⟨⟨q1, q2⟩, q3, q4⟩ := hA6.out.cells
            generalize S x = sx at *
            clear hdn hrv hne hok1 hb6 hC hRV hA3 hA6 hRe hr1 hxl hu herr hE' hAk' hlp hlv
            go_wp2_with (go_at_call 34; refine hK.out.mono ?_; rintro e w' ⟨⟨m, rfl⟩, hww⟩; obtain rfl := hww.symm; clear hww)
            have hd2 := hdn'.out
            exact bodyPost_ret_by (v := .tuple #[.agg #[.string (s.extract p k), .string sx], .int .i64 0, .int .i64 0]) (by simp [results, Tryz.results37, asAddr, hd2, Result.andThen]) rfl hf.out
           ·rw [if_neg hu] at hK
            have hRe : Hid (R = .error (51, (lf s v).length)) := by
             unfold Hid
             rw [hRV.out, vlR_no hu]
            generalize S x = sx at *
            clear hrv hne hok1 hb6 hC hRV hA3 hr1 hxl hu hE' hAk' hlp
            have hdn := hA6.out.done (.string ⟨#[]⟩) (.string ⟨#[]⟩)
            have hf := herr.out w6 51 (lf s v).length v hA6.out (by decide) (hRe.out) (hlv.out)
            have hf' : Hid _ := hf
            have hdn' : Hid _ := hdn.1
            obtain ⟨⟨q1, q2⟩, q3, q4⟩ := hA6.out.cells
            clear hf hdn herr hRe hlv hA6
            go_wp2_with (go_at_call 34; refine hK.out.mono ?_; rintro e w' ⟨⟨m, rfl⟩, hww⟩; obtain rfl := hww.symm; clear hww)
            have hd2 := hdn'.out
            exact bodyPost_ret_by (v := .tuple #[.agg #[.string ⟨#[]⟩, .string ⟨#[]⟩], .int .i64 51, .int .i64 (v : Int)]) (by simp [results, Tryz.results37, asAddr, hd2, Result.andThen]) rfl hf'.out
       ·have hRe : Hid (R = .error (53, (lf s q).length)) := by
         unfold Hid
         rw [← hR'.out]
         unfold prR
         rw [hpt3.out, if_neg hh]
        by_cases hqt : q = t
        ·have gq : ((q : Int) == (t : Int)) = true := by rw [hqt]; simp
         clear hh hqt hpt3 hR' hql hq' hE' hAk'
         have hdn := hA3.out.done (.string ⟨#[]⟩) (.string ⟨#[]⟩)
         have hf := herr.out wr 53 (lf s q).length q hA3.out (by decide) (hRe.out) (hlq.out)
         have hf' : Hid _ := hf
         have hdn' : Hid _ := hdn.1
         obtain ⟨⟨q1, q2⟩, q3, q4⟩ := hA3.out.cells
         clear hf hdn herr hRe hlq
         go_wp2_with fail
         have hd2 := hdn'.out
         exact bodyPost_ret_by (v := .tuple #[.agg #[.string ⟨#[]⟩, .string ⟨#[]⟩], .int .i64 53, .int .i64 (q : Int)]) (by simp [results, Tryz.results37, asAddr, hd2, Result.andThen]) rfl hf'.out
        ·have hqs : q < s.size := by have := hq'.out.le; omega
         have q2 : (q : Int) < (s.size : Int) := Int.ofNat_lt.2 hqs
         have gq : ((q : Int) == (t : Int)) = false := by rw [beq_eq_false_iff_ne]; omega
         have g61 : ((s[q].toNat : Int) != 61) = true := by
          rw [bne_iff_ne]
          intro e
          have : s[q] = 61 := UInt8.toNat_inj.1 (by show s[q].toNat = 61; omega)
          exact hh (by rw [lf_head hqs, this])
         clear hh hqt hpt3 hR' hql hq' hE' hAk'
         have hdn := hA3.out.done (.string ⟨#[]⟩) (.string ⟨#[]⟩)
         have hf := herr.out wr 53 (lf s q).length q hA3.out (by decide) (hRe.out) (hlq.out)
         have hf' : Hid _ := hf
         have hdn' : Hid _ := hdn.1
         obtain ⟨⟨q1, q2⟩, q3, q4⟩ := hA3.out.cells
         clear hf hdn herr hRe hlq
         go_wp2_with fail
         have hd2 := hdn'.out
         exact bodyPost_ret_by (v := .tuple #[.agg #[.string ⟨#[]⟩, .string ⟨#[]⟩], .int .i64 53, .int .i64 (q : Int)]) (by simp [results, Tryz.results37, asAddr, hd2, Result.andThen]) rfl hf'.out
    ·rw [if_neg hok] at hP
     have hRe : Hid (R = .error (52, (lf s p).length)) := by
      unfold Hid
      rw [← hR'.out]
      unfold prR
      rw [hpt.out, if_pos (by simpa using hok)]
     clear hok hpt hR'
     go_wp2_with fail
     refine hP.out.mono ?_
     rintro e W1 ⟨⟨m, rfl⟩, hb1⟩
     have hA1 : Hid (Ab w W1) := hA0.out.below hb1
     clear hP hb1 hA0
     have hdn := hA1.out.done (.string ⟨#[]⟩) (.string ⟨#[]⟩)
     have hf := herr.out W1 52 (lf s p).length p hA1.out (by decide) (hRe.out) (hlp.out)
     have hf' : Hid _ := hf
     have hdn' : Hid _ := hdn.1
     obtain ⟨⟨q1, q2⟩, q3, q4⟩ := hA1.out.cells
     clear hf hdn herr hRe hlp
     go_wp2_with fail
     have hd2 := hdn'.out
     exact bodyPost_ret_by (v := .tuple #[.agg #[.string ⟨#[]⟩, .string ⟨#[]⟩], .int .i64 52, .int .i64 (p : Int)]) (by simp [results, Tryz.results37, asAddr, hd2, Result.andThen]) rfl hf'.out
end Pa
end Go.Proofs.YtkknenmpdimdbaaGreatDoor
