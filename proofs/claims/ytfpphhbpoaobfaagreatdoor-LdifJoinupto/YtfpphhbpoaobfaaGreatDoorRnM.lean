import Derived.Test.YtfpphhbpoaobfaaGreatDoorGO
namespace Go.Proofs.YtfpphhbpoaobfaaGreatDoor
namespace Rd
open TextMath (b64 fold unb grp al)
open LdMath
open Lr (PR RC pf pfs rf chg okD dnB beh rec1 ren verB)
set_option linter.unusedVariables false
set_option maxRecDepth 100000

/-- Bytes that stand in no description. -/
def bad5 (c : UInt8) : Prop := c = 10 ∨ c = 13 ∨ c = 32 ∨ c = 35 ∨ c = 58
theorem bad_lo {c : UInt8} (h : bad5 c) : TextMath.lo c = c := by
  rcases h with rfl | rfl | rfl | rfl | rfl <;> decide
theorem dfa_bad {c : UInt8} (h : bad5 c) : ∀ q, dfa q c = 9
  | 0 => by rcases h with rfl | rfl | rfl | rfl | rfl <;> decide
  | 1 => by rcases h with rfl | rfl | rfl | rfl | rfl <;> decide
  | 2 => by rcases h with rfl | rfl | rfl | rfl | rfl <;> decide
  | 3 => by rcases h with rfl | rfl | rfl | rfl | rfl <;> decide
  | 4 => by rcases h with rfl | rfl | rfl | rfl | rfl <;> decide
  | 5 => by rcases h with rfl | rfl | rfl | rfl | rfl <;> decide
  | 6 => by rcases h with rfl | rfl | rfl | rfl | rfl <;> decide
  | 7 => by rcases h with rfl | rfl | rfl | rfl | rfl <;> decide
  | 8 => by rcases h with rfl | rfl | rfl | rfl | rfl <;> decide
  | q + 9 => rfl
theorem drun_bad {c : UInt8} (h : bad5 c) : ∀ (l : List UInt8) (q : Nat), c ∈ l → drun q l = 9
  | [], _, hm => by simp at hm
  | b :: l, q, hm => by
    rw [drun_cons]
    rcases List.mem_cons.1 hm with rfl | hm
    · rw [dfa_bad h, drun9]
    · exact drun_bad h l _ hm
/-- A word that may stand ahead of a colon. -/
def gw (d : List UInt8) : Prop := d ≠ [] ∧ ∀ c, bad5 c → c ∉ d
theorem gw_ok {d : List UInt8} (h : okD d = true) : gw d := by
  unfold okD at h
  rw [Bool.and_eq_true] at h
  refine ⟨fun e => ?_, fun c hc hm => ?_⟩
  · rw [e] at h
    exact absurd h.1 (by decide)
  · have h1 : c ∈ fold d := by
      have := List.mem_map_of_mem (f := TextMath.lo) hm
      rw [bad_lo hc] at this
      exact this
    rw [drun_bad hc _ 0 h1] at h
    exact absurd h.1 (by decide)
theorem gw_dn : gw dnB := ⟨by decide, fun c hc hm => by rcases hc with rfl | rfl | rfl | rfl | rfl <;> revert hm <;> decide⟩
/-- A line that is written, without its end. -/
def lnT (d v : List UInt8) : List UInt8 := d ++ 58 :: beh v
theorem lin_lnT (d v : List UInt8) : Lr.lin d v = lnT d v ++ [10] := by unfold Lr.lin lnT; simp
theorem safe_no {v : List UInt8} (h : safe v = true) : 10 ∉ v ∧ 13 ∉ v := by
  unfold safe at h
  rw [Bool.and_eq_true, List.all_eq_true] at h
  refine ⟨fun hm => ?_, fun hm => ?_⟩
  · exact absurd (h.1 _ hm) (by decide)
  · exact absurd (h.1 _ hm) (by decide)
theorem plain_safe {v : List UInt8} (h : plain v = true) : safe v = true := by
  unfold plain at h
  rw [Bool.and_eq_true] at h
  exact h.1
theorem safe_skip {v : List UInt8} (h : safe v = true) : skipS v = v ∧ v.head? ≠ some 60 ∧ v.head? ≠ some 58 := by
  unfold safe at h
  rw [Bool.and_eq_true] at h
  have h2 := h.2
  cases v with
  | nil => exact ⟨rfl, by simp, by simp⟩
  | cons c v =>
    have h3 : mkB c = false := by simpa using h2
    have n32 : c ≠ 32 := by intro e; rw [e] at h3; exact absurd h3 (by decide)
    have n60 : c ≠ 60 := by intro e; rw [e] at h3; exact absurd h3 (by decide)
    have n58 : c ≠ 58 := by intro e; rw [e] at h3; exact absurd h3 (by decide)
    refine ⟨?_, by simpa using n60, by simpa using n58⟩
    unfold skipS
    rw [List.dropWhile_cons, if_neg (by simpa using n32)]
theorem beh_no (v : List UInt8) : 10 ∉ beh v ∧ 13 ∉ beh v := by
  unfold beh
  split
  · simp
  · split
    · rename_i hp
      have := safe_no (plain_safe hp)
      simp [this.1, this.2]
    · have h1 : 10 ∉ b64 v := fun h => (gb_b64 v _ h).1 rfl
      have h2 : 13 ∉ b64 v := fun h => (gb_b64 v _ h).2.1 rfl
      simp [h1, h2]
theorem val_beh (v : List UInt8) : valOf (beh v) = (v, 0) := by
  unfold beh
  split
  · rename_i h0
    rw [h0]
    rfl
  · split
    · rename_i hp
      have hs := plain_safe hp
      have e : skipS (32 :: v) = v := (safe_skip hs).1
      unfold valOf
      rw [if_neg (by simp), if_neg (by simp), e, if_pos hs]
    · unfold valOf
      rw [if_neg (by simp), if_pos (by rfl)]
      show (match unb (skipS (32 :: b64 v)) 0 with | .ok v => (v, 0) | .error _ => ([], 76)) = (v, 0)
      rw [skip_b64, TextMath.unb_b64]
theorem line_facts {d : List UInt8} (h : gw d) (v : List UInt8) : (10 ∉ lnT d v ∧ 13 ∉ lnT d v) ∧ goes (lnT d v) = false ∧ (lnT d v).head? ≠ some 35 ∧ lnT d v ≠ [] ∧ wordOf (lnT d v) = d ∧ restOf (lnT d v) = beh v := by
  obtain ⟨h0, hb⟩ := h
  obtain ⟨b1, b2⟩ := beh_no v
  have k10 := hb 10 (.inl rfl)
  have k13 := hb 13 (.inr (.inl rfl))
  have k32 := hb 32 (.inr (.inr (.inl rfl)))
  have k35 := hb 35 (.inr (.inr (.inr (.inl rfl))))
  have k58 := hb 58 (.inr (.inr (.inr (.inr rfl))))
  have hp : ∀ a ∈ d, (a != 58) = true := fun a ha => by
    rw [bne_iff_ne]
    intro e
    rw [e] at ha
    exact k58 ha
  refine ⟨⟨?_, ?_⟩, ?_, ?_, ?_, ?_, ?_⟩
  · unfold lnT; simp [k10, b1]
  · unfold lnT; simp [k13, b2]
  · unfold lnT goes
    cases d with
    | nil => exact absurd rfl h0
    | cons c d =>
      have : c ≠ 32 := fun e => k32 (by rw [e]; exact List.mem_cons_self)
      simpa using this
  · unfold lnT
    cases d with
    | nil => exact absurd rfl h0
    | cons c d =>
      have : c ≠ 35 := fun e => k35 (by rw [e]; exact List.mem_cons_self)
      simpa using this
  · unfold lnT; simp
  · unfold wordOf lnT
    rw [if_pos (by simp), List.takeWhile_append_of_pos hp]
    simp
  · unfold restOf lnT
    rw [List.dropWhile_append_of_pos hp]
    simp
/-- Lines with their numbers. -/
def nml : Nat → List (List UInt8) → List (Nat × List UInt8)
  | _, [] => []
  | n, x :: xs => (n, x) :: nml (n + 1) xs
theorem nml_app : ∀ (xs ys : List (List UInt8)) (n : Nat), nml n (xs ++ ys) = nml n xs ++ nml (n + xs.length) ys
  | [], ys, n => by simp [nml]
  | x :: xs, ys, n => by
    rw [List.cons_append, nml, nml, nml_app xs ys (n + 1), List.length_cons, show n + 1 + xs.length = n + (xs.length + 1) from by omega]
    rfl
theorem nml_mem : ∀ (xs : List (List UInt8)) (n : Nat) (p : Nat × List UInt8), p ∈ nml n xs → p.2 ∈ xs
  | [], _, p, h => by simp [nml] at h
  | x :: xs, n, p, h => by
    rw [nml] at h
    rcases List.mem_cons.1 h with rfl | h
    · exact List.mem_cons_self
    · exact List.mem_cons_of_mem _ (nml_mem xs _ p h)
theorem phR_all : ∀ (xs : List (List UInt8)) (n : Nat), (∀ x ∈ xs, 10 ∉ x ∧ 13 ∉ x) → phR n [] (xs.flatMap (· ++ [10])) = nml n xs
  | [], n, _ => rfl
  | x :: xs, n, h => by
    obtain ⟨h1, h2⟩ := h x List.mem_cons_self
    have e : (x :: xs).flatMap (· ++ [10]) = x ++ 10 :: xs.flatMap (· ++ [10]) := by simp
    rw [e, phR_line x _ n [] h1, List.nil_append, trim_no x h2, nml, phR_all xs (n + 1) (fun y hy => h y (List.mem_cons_of_mem _ hy))]
/-- The lines of a record, and of all. -/
def txr (r : RC) : List (List UInt8) := [] :: lnT dnB r.1 :: r.2.map (fun p => lnT p.1 p.2)
def txs (L : List RC) : List (List UInt8) := L1 :: L.flatMap txr
theorem rec_tx (r : RC) : (txr r).flatMap (· ++ [10]) = 10 :: rec1 r := by
  have h : ∀ ps : List PR, (ps.map (fun p => lnT p.1 p.2)).flatMap (· ++ [10]) = ps.flatMap fun p => Lr.lin p.1 p.2 := by
    intro ps
    induction ps with
    | nil => rfl
    | cons p ps ih => rw [List.map_cons, List.flatMap_cons, List.flatMap_cons, ih, lin_lnT]
  unfold txr rec1
  rw [List.flatMap_cons, List.flatMap_cons, h, lin_lnT]
  rfl
theorem ren_tx (L : List RC) : ren L = (txs L).flatMap (· ++ [10]) := by
  have h : ∀ L : List RC, (L.flatMap txr).flatMap (· ++ [10]) = L.flatMap fun r => 10 :: rec1 r := by
    intro L
    induction L with
    | nil => rfl
    | cons r L ih => rw [List.flatMap_cons, List.flatMap_cons, List.flatMap_append, ih, rec_tx]
  unfold ren txs
  rw [List.flatMap_cons, h]
  rfl
theorem pf_ok {b : Bool} {d : List UInt8} (h : pf b d = 0) : okD d = true := by
  unfold pf at h
  split at h
  · cases h
  · split at h
    · assumption
    · cases h
theorem pfs_cons {b : Bool} {p : PR} {t : List PR} (h : pfs b (p :: t) = 0) : pf b p.1 = 0 ∧ pfs false t = 0 := by
  unfold pfs at h
  split at h
  · exact ⟨by assumption, h⟩
  · exact absurd h (by assumption)
theorem pfs_gw : ∀ (ps : List PR) (b : Bool), pfs b ps = 0 → ∀ p ∈ ps, gw p.1
  | [], _, _, p, hp => by simp at hp
  | q :: t, b, h, p, hp => by
    obtain ⟨h1, h2⟩ := pfs_cons h
    rcases List.mem_cons.1 hp with rfl | hp
    · exact gw_ok (pf_ok h1)
    · exact pfs_gw t false h2 p hp
theorem rf_ok {r : RC} (h : rf r = 0) : r.2 ≠ [] ∧ pfs true r.2 = 0 := by
  unfold Lr.rf at h
  split at h
  · cases h
  · exact ⟨by assumption, h⟩
theorem txs_facts (L : List RC) (h : ∀ r ∈ L, rf r = 0) : ∀ x ∈ txs L, (10 ∉ x ∧ 13 ∉ x) ∧ goes x = false := by
  intro x hx
  unfold txs at hx
  rcases List.mem_cons.1 hx with rfl | hx
  · decide
  · obtain ⟨r, hr, hx⟩ := List.mem_flatMap.1 hx
    obtain ⟨h0, h1⟩ := rf_ok (h r hr)
    unfold txr at hx
    rcases List.mem_cons.1 hx with rfl | hx
    · decide
    · rcases List.mem_cons.1 hx with rfl | hx
      · have := line_facts gw_dn r.1
        exact ⟨this.1, this.2.1⟩
      · obtain ⟨p, hp, rfl⟩ := List.mem_map.1 hx
        have := line_facts (pfs_gw _ _ h1 p hp) p.2
        exact ⟨this.1, this.2.1⟩
/-- Pairs read. -/
theorem rd_pairs (e : Nat) (ln : Nat) (nm : List UInt8) : ∀ (ps : List PR) (b : Bool) (n : Nat) (acc : List PR) (R : List (Nat × List UInt8)), pfs b ps = 0 →
    rdL e ((if b then 3 else 4), ln, nm, acc) (nml n (ps.map (fun p => lnT p.1 p.2)) ++ R) = rdL e ((if ps = [] then (if b then 3 else 4) else 4), ln, nm, acc ++ ps) R
  | [], b, n, acc, R, _ => by simp [nml]
  | p :: t, b, n, acc, R, h => by
    obtain ⟨h1, h2⟩ := pfs_cons h
    obtain ⟨_, _, f3, f4, f5, f6⟩ := line_facts (gw_ok (pf_ok h1)) p.2
    have e0 : nml n ((p :: t).map (fun p => lnT p.1 p.2)) ++ R = (n, lnT p.1 p.2) :: (nml (n + 1) (t.map (fun p => lnT p.1 p.2)) ++ R) := rfl
    have hw : wfl (if b then 3 else 4) p.1 = 0 := by
      cases b
      · exact h1
      · exact h1
    have k0 : ¬ (if b then 3 else 4) = 0 := by cases b <;> decide
    have k2 : ¬ (if b then 3 else 4) ≤ 2 := by cases b <;> decide
    have hF : takeF ((if b then 3 else 4), ln, nm, acc) (lnT p.1 p.2) = 0 := by
      unfold takeF
      rw [f5, f6, val_beh, if_neg (by simpa using hw), if_neg k0, if_neg k2]
    have hS : takeS ((if b then 3 else 4), ln, nm, acc) n (lnT p.1 p.2) = (4, ln, nm, acc ++ [p]) := by
      unfold takeS
      rw [f5, f6, val_beh, if_neg k0, if_neg k2]
    rw [e0, rdL, if_neg f3, if_pos f4, if_pos hF, hS]
    have ih := rd_pairs e ln nm t false (n + 1) (acc ++ [p]) R h2
    have i4 : (if (false : Bool) = true then 3 else 4) = 4 := rfl
    rw [i4] at ih
    have i5 : (if t = [] then 4 else 4) = 4 := by split <;> rfl
    have i6 : (if p :: t = [] then (if b = true then 3 else 4) else 4) = 4 := if_neg (by simp)
    rw [ih, i5, i6, List.append_assoc]
    rfl
/-- A record read behind its blank line. -/
theorem rd_one (e : Nat) (st : St) (hst : st.1 = 1 ∨ st.1 = 2) (r : RC) (hr : rf r = 0) (n : Nat) (R : List (Nat × List UInt8)) :
    rdL e st (nml n (lnT dnB r.1 :: r.2.map (fun p => lnT p.1 p.2)) ++ R) = rdL e (4, n, r.1, r.2) R := by
  obtain ⟨h0, h1⟩ := rf_ok hr
  obtain ⟨_, _, f3, f4, f5, f6⟩ := line_facts gw_dn r.1
  have hw : wfl st.1 dnB = 0 := by rcases hst with h | h <;> rw [h] <;> decide
  have k0 : ¬ st.1 = 0 := by rcases hst with h | h <;> rw [h] <;> decide
  have k2 : st.1 ≤ 2 := by rcases hst with h | h <;> rw [h] <;> decide
  have hF : takeF st (lnT dnB r.1) = 0 := by
    unfold takeF
    rw [f5, f6, val_beh, if_neg (by simpa using hw), if_neg k0, if_pos k2, if_pos rfl]
  have hS : takeS st n (lnT dnB r.1) = (3, n, r.1, []) := by
    unfold takeS
    rw [f6, val_beh, if_neg k0, if_pos k2]
  have e0 : nml n (lnT dnB r.1 :: r.2.map (fun p => lnT p.1 p.2)) ++ R = (n, lnT dnB r.1) :: (nml (n + 1) (r.2.map (fun p => lnT p.1 p.2)) ++ R) := rfl
  rw [e0, rdL, if_neg f3, if_pos f4, if_pos hF, hS]
  have := rd_pairs e n r.1 r.2 true (n + 1) [] R h1
  have i3 : (if (true : Bool) = true then 3 else 4) = 3 := rfl
  rw [i3, if_neg h0, List.nil_append] at this
  exact this
/-- The records as they are read, the first one's blank line at n. -/
def rcs : Nat → List RC → List Rc
  | _, [] => []
  | n, r :: t => (n + 1, r.1, r.2) :: rcs (n + 2 + r.2.length) t
theorem rd_next (e : Nat) : ∀ (L : List RC) (n : Nat) (st : St), st.1 = 4 → (∀ r ∈ L, rf r = 0) → rdL e st (nml n (L.flatMap txr)) = (st.2 :: rcs n L, 0, 0)
  | [], n, st, h4, _ => by
    show rdL e st [] = _
    rw [rdL]
    unfold fin
    rw [if_neg (by omega), if_neg (by omega), if_neg (by omega), if_pos h4]
    rfl
  | r :: t, n, st, h4, h => by
    have hr := h r List.mem_cons_self
    have e0 : nml n ((r :: t).flatMap txr) = (n, []) :: (nml (n + 1) (lnT dnB r.1 :: r.2.map (fun p => lnT p.1 p.2)) ++ nml (n + 2 + r.2.length) (t.flatMap txr)) := by
      rw [List.flatMap_cons]
      unfold txr
      rw [List.cons_append, nml, nml_app]
      simp only [List.length_cons, List.length_map]
      rw [show n + 1 + (r.2.length + 1) = n + 2 + r.2.length from by omega]
    rw [e0, rdL, if_neg (by simp), if_neg (by simp), if_neg (by omega), if_pos h4, rd_one e (2, st.2) (.inr rfl) r hr, rd_next e t _ _ rfl (fun q hq => h q (List.mem_cons_of_mem _ hq))]
    rfl
theorem rd_first (e : Nat) (r : RC) (t : List RC) (n : Nat) (st : St) (hst : st.1 = 1) (h : ∀ q ∈ r :: t, rf q = 0) : rdL e st (nml n ((r :: t).flatMap txr)) = (rcs n (r :: t), 0, 0) := by
  have hr := h r List.mem_cons_self
  have e0 : nml n ((r :: t).flatMap txr) = (n, []) :: (nml (n + 1) (lnT dnB r.1 :: r.2.map (fun p => lnT p.1 p.2)) ++ nml (n + 2 + r.2.length) (t.flatMap txr)) := by
    rw [List.flatMap_cons]
    unfold txr
    rw [List.cons_append, nml, nml_app]
    simp only [List.length_cons, List.length_map]
    rw [show n + 1 + (r.2.length + 1) = n + 2 + r.2.length from by omega]
  rw [e0, rdL, if_neg (by simp), if_neg (by simp), if_neg (by omega), if_neg (by omega), rd_one e st (.inl hst) r hr, rd_next e t _ _ rfl (fun q hq => h q (List.mem_cons_of_mem _ hq))]
  rfl
/-- What was rendered is read back. -/
theorem rdT_ren (L : List RC) (h0 : L ≠ []) (h : ∀ r ∈ L, rf r = 0) : rdT (ren L) = (rcs 2 L, 0, 0) ∧ ferr [] (phys (ren L)) = none := by
  have hf := txs_facts L h
  have hp : phys (ren L) = nml 1 (txs L) := by rw [phys_eq, ren_tx]; exact phR_all _ _ (fun x hx => (hf x hx).1)
  have hm : ∀ p ∈ nml 1 (txs L), 13 ∉ p.2 ∧ goes p.2 = false := fun p hp => by
    have := hf _ (nml_mem _ _ p hp)
    exact ⟨this.1.2, this.2⟩
  refine ⟨?_, by rw [hp]; exact ferr_no _ [] hm⟩
  rw [rdT_no _ _ hp hm]
  obtain ⟨e, he⟩ : ∃ e, (nml 1 (txs L)).length + 1 = e := ⟨_, rfl⟩
  rw [he]
  have t1 : takeF st0 L1 = 0 ∧ takeS st0 1 L1 = (1, 0, [], []) := by decide
  have e0 : nml 1 (txs L) = (1, L1) :: nml 2 (L.flatMap txr) := rfl
  rw [e0, rdL, if_neg (by decide), if_pos (by decide), if_pos t1.1, t1.2]
  cases L with
  | nil => exact absurd rfl h0
  | cons r t => exact rd_first e r t 2 _ rfl h
theorem ldR_ren (L : List RC) (h0 : L ≠ []) (h : ∀ r ∈ L, rf r = 0) : ldR (ren L) = rcs 2 L := by
  unfold ldR
  rw [(rdT_ren L h0 h).1]
  rfl
theorem rcs_said : ∀ (L : List RC) (n : Nat), (rcs n L).map (·.2) = L
  | [], _ => rfl
  | r :: t, n => by rw [rcs, List.map_cons, rcs_said t]
theorem rcs_len (L : List RC) (n : Nat) : (rcs n L).length = L.length := by
  have := congrArg List.length (rcs_said L n)
  rwa [List.length_map] at this
/-- The lines of the records, one after another. -/
theorem rcs_line : ∀ (L : List RC) (n i : Nat) (hi : i < (rcs n L).length), (rcs n L)[i].1 = n + 1 + ((L.take i).map (fun r => r.2.length + 2)).sum
  | [], n, i, hi => by simp [rcs] at hi
  | r :: t, n, 0, hi => by simp [rcs]
  | r :: t, n, i + 1, hi => by
    have e : (rcs n (r :: t))[i + 1] = (rcs (n + 2 + r.2.length) t)[i]'(by simpa [rcs] using hi) := rfl
    rw [e, rcs_line t _ i _]
    simp only [List.take_succ_cons, List.map_cons, List.sum_cons]
    omega
theorem ren_app (a b : List RC) : ren (a ++ b) = ren a ++ (ren b).drop 11 := by
  unfold ren
  rw [List.flatMap_append, List.append_assoc]
  rfl
end Rd
end Go.Proofs.YtfpphhbpoaobfaaGreatDoor
