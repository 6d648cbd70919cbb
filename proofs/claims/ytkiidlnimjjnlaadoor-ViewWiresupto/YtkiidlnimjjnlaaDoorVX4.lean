import Derived.Test.YtkiidlnimjjnlaaDoorV2
import Derived.Test.YtkiidlnimjjnlaaDoorVX3
import Derived.Test.YtkiidlnimjjnlaaDoorBrY
namespace Go.Proofs.YtkiidlnimjjnlaaDoor
namespace Vr
open Go.RowKit
set_option linter.unusedVariables false

/-- Does a node of that form stand at that place? -/
def isB (f : Nd) (l : List Nd) (i : Nat) : Bool := (tk f (l.drop i)).2.1
theorem tk_drop (f : Nd) (l : List Nd) (i : Nat) (hi : i < l.length) : tk f (l.drop i) = if frm f l[i] = true then (l[i].body, true, l.drop (i + 1)) else (⟨#[]⟩, false, l.drop i) := by
  rw [List.drop_eq_getElem_cons hi, tk_cons]
theorem isB_at (f : Nd) (l : List Nd) (i : Nat) (hi : i < l.length) : isB f l i = frm f l[i] := by
  unfold isB
  rw [tk_drop f l i hi]
  split
  · rename_i h; exact h.symm
  · rename_i h; simpa using h
theorem isB_end (f : Nd) (l : List Nd) (i : Nat) (hi : ¬ i < l.length) : isB f l i = false := by
  unfold isB
  rw [List.drop_eq_nil_of_le (by omega)]
  rfl
theorem isB_yes {f : Nd} {l : List Nd} {i : Nat} (h : isB f l i = true) : ∃ hi : i < l.length, tk f (l.drop i) = (l[i].body, true, l.drop (i + 1)) := by
  by_cases hi : i < l.length
  · refine ⟨hi, ?_⟩
    rw [tk_drop f l i hi, if_pos (by rw [← isB_at f l i hi]; exact h)]
  · rw [isB_end f l i hi] at h
    cases h
theorem isB_no {f : Nd} {l : List Nd} {i : Nat} (h : isB f l i = false) : tk f (l.drop i) = (⟨#[]⟩, false, l.drop i) := by
  by_cases hi : i < l.length
  · rw [tk_drop f l i hi, if_neg (by rw [← isB_at f l i hi, h]; simp)]
  · rw [List.drop_eq_nil_of_le (by omega)]
    rfl
theorem kF_no1 {l : List Nd} {i : Nat} (h : isB (nSeq 2) l i = false) : kF (l.drop i) = none := by
  unfold kF
  rw [if_neg]
  rw [isB_no h]
  simp
theorem kF_no2 {l : List Nd} {i : Nat} (h : isB (nSeq 2) l i = true) (h2 : isB (nOct 3 ⟨#[]⟩) l (i + 1) = false) : kF (l.drop i) = none := by
  obtain ⟨hi, e⟩ := isB_yes h
  unfold kF
  rw [if_neg]
  rw [e]
  dsimp only
  rw [isB_no h2]
  simp
/-- What is told of the keys' rest, a key's two first nodes read. -/
def kT (d : ByteArray) (m : List Nd) : Option (Ky × List Nd) := if ((rvF (tk (nTag 0 ⟨#[]⟩) m).2.2).2.1 && ((tk (nTag 0 ⟨#[]⟩) m).2.1 == !((tk (nTag 0 ⟨#[]⟩) m).1.toList == []) && (utf d && utf (tk (nTag 0 ⟨#[]⟩) m).1))) = true then some ((d, (tk (nTag 0 ⟨#[]⟩) m).1, (rvF (tk (nTag 0 ⟨#[]⟩) m).2.2).1), (rvF (tk (nTag 0 ⟨#[]⟩) m).2.2).2.2) else none
theorem kF_two {l : List Nd} {i : Nat} (h : isB (nSeq 2) l i = true) (h2 : isB (nOct 3 ⟨#[]⟩) l (i + 1) = true) : ∃ hi : i + 1 < l.length, kF (l.drop i) = kT l[i + 1].body (l.drop (i + 2)) := by
  obtain ⟨hi, e⟩ := isB_yes h
  obtain ⟨hi2, e2⟩ := isB_yes h2
  refine ⟨hi2, ?_⟩
  unfold kF kT
  rw [e]
  dsimp only
  rw [e2]
  dsimp only
  rw [Bool.true_and, Bool.true_and]
/-- The same, its rule read. -/
def kU (d r : ByteArray) (m : List Nd) : Option (Ky × List Nd) := if ((rvF m).2.1 && (utf d && utf r)) = true then some ((d, r, (rvF m).1), (rvF m).2.2) else none
theorem kT_no {d : ByteArray} {l : List Nd} {i : Nat} (h : isB (nTag 0 ⟨#[]⟩) l i = false) : kT d (l.drop i) = kU d ⟨#[]⟩ (l.drop i) := by
  have e0 : ((⟨#[]⟩ : ByteArray).toList == []) = true := by rw [Lib.toList_data]; rfl
  unfold kT kU
  rw [isB_no h]
  dsimp only
  rw [e0]
  simp
theorem kT_yes {d : ByteArray} {l : List Nd} {i : Nat} (h : isB (nTag 0 ⟨#[]⟩) l i = true) : ∃ hi : i < l.length, kT d (l.drop i) = if (l[i].body.toList == []) = true then none else kU d l[i].body (l.drop (i + 1)) := by
  obtain ⟨hi, e⟩ := isB_yes h
  refine ⟨hi, ?_⟩
  unfold kT kU
  rw [e]
  dsimp only
  cases (l[i].body.toList == [])
  · simp
  · simp
/-- The same, its turn read. -/
def kV4 (d r : ByteArray) (v : Bool) (m : List Nd) : Option (Ky × List Nd) := if (utf d && utf r) = true then some ((d, r, v), m) else none
theorem kU_no {d r : ByteArray} {l : List Nd} {i : Nat} (h : isB (nTag 1 ⟨#[]⟩) l i = false) : kU d r (l.drop i) = kV4 d r false (l.drop i) := by
  unfold kU kV4 rvF
  rw [isB_no h]
  rfl
theorem kU_yes {d r : ByteArray} {l : List Nd} {i : Nat} (h : isB (nTag 1 ⟨#[]⟩) l i = true) : ∃ hi : i < l.length, kU d r (l.drop i) = if (bvE l[i].body == 0) = true then kV4 d r (bvV l[i].body) (l.drop (i + 1)) else none := by
  obtain ⟨hi, e⟩ := isB_yes h
  refine ⟨hi, ?_⟩
  unfold kU kV4 rvF
  rw [e]
  dsimp only
  cases (bvE l[i].body == 0)
  · simp
  · simp
set_option maxRecDepth 100000 in
set_option maxHeartbeats 4000000 in
theorem is_any (f : Nd) (l : List Nd) (x : Int) (i : Nat) (hx : x = (i : Int)) (a : Option Addr) (c : Nat) (w : World) (h : NdRow w a l) :
    Calls Tryd.prog 26 #[.slice a l.length c, .int .i64 x, .int .i64 f.dep, .int .i64 f.cls, .int .i64 f.tag, .bool f.made] w fun e w' => e = .returned (.bool (isB f l i)) ∧ w' = w := by
  subst hx
  have i0 : (0 : Int) ≤ (i : Int) := Int.natCast_nonneg _
  obtain ⟨fd, fc, fm, ft, fb⟩ := f
  by_cases hi : i < l.length
  · have i1 : (i : Int) < (l.length : Int) := Int.ofNat_lt.2 hi
    rw [isB_at _ l i hi]
    obtain ⟨b, off, rfl, x0, x1, x2, x3, x4⟩ := h i hi
    unfold frm
    obtain ⟨⟨ed, ec, em, et, eb⟩, he⟩ : ∃ e, l[i] = e := ⟨_, rfl⟩
    rw [he] at x0 x1 x2 x3 x4 ⊢
    dsimp only at x0 x1 x2 x3 x4 ⊢
    clear he hi h x4
    generalize l.length = n at *
    by_cases h1 : ed = fd
    · subst h1
      by_cases h2 : ec = fc
      · subst h2
        by_cases h3 : et = ft
        · subst h3
          cases em <;> cases fm
          all_goals
            go_enter Tryd.func26, Tryd.ntmps26
            go_wp2_with fail
            go_ret
            exact ⟨by simp, rfl⟩
        · have h3' : (et == ft) = false := by simp [h3]
          rw [decide_eq_false h3, Bool.and_false]
          clear h3
          go_enter Tryd.func26, Tryd.ntmps26
          go_wp2_with fail
          go_ret
          exact ⟨rfl, rfl⟩
      · have h2' : (ec == fc) = false := by simp [h2]
        rw [decide_eq_false h2, Bool.and_false, Bool.false_and, Bool.false_and]
        clear h2
        go_enter Tryd.func26, Tryd.ntmps26
        go_wp2_with fail
        go_ret
        exact ⟨rfl, rfl⟩
    · have h1' : (ed == fd) = false := by simp [h1]
      rw [decide_eq_false h1, Bool.false_and, Bool.false_and, Bool.false_and]
      clear h1
      go_enter Tryd.func26, Tryd.ntmps26
      go_wp2_with fail
      go_ret
      exact ⟨rfl, rfl⟩
  · have i1 : ¬ (i : Int) < (l.length : Int) := by omega
    rw [isB_end _ l i hi]
    clear hi h
    go_enter Tryd.func26, Tryd.ntmps26
    go_wp2_with fail
    go_ret
    exact ⟨rfl, rfl⟩
end Vr
end Go.Proofs.YtkiidlnimjjnlaaDoor

namespace Go.Proofs.YtkiidlnimjjnlaaDoor
namespace Vr
open Go.RowKit
set_option linter.unusedVariables false

/-- What stands while the reference reads the keys. -/
def RkI (l : List Nd) (w1 : World) (R : Option (List Ky)) (out : List Ky) (i : Nat) (v : Value) (W : World) : Prop := GOwn 25 3 kyV W w1.heap.size v out ∧ Below w1.heap.size w1 W ∧ R = (dkF (l.drop i).length (l.drop i)).map (fun ks => out ++ ks) ∧ out.length ≤ i ∧ i ≤ l.length
/-- The same within a round: a key's box besides. -/
def RkS (w1 : World) (q : Nat) (out : List Ky) (v : Value) (W : World) (x y z : Value) : Prop := Below w1.heap.size w1 W ∧ Box W q 25 #[x, y, z] ∧ GOwn 25 3 kyV W w1.heap.size v out ∧ (∀ b, v.ownBlock = some b → b ≠ q) ∧ w1.heap.size ≤ q
theorem RkS.set1 {w1 : World} {q : Nat} {out : List Ky} {v : Value} {W : World} {x y z : Value} (h : RkS w1 q out v W x y z) (u : Value) : RkS w1 q out v (W.setCell ⟨q, 1, none⟩ u) x u z :=
  ⟨h.1.setCell (p := ⟨q, 1, none⟩) h.2.2.2.2 _, h.2.1.set 1 u, owns_same h.2.2.1 (fun b hb => Below.heap_setCell _ _ _ _ (h.2.2.2.1 b hb)), h.2.2.2⟩
theorem RkS.set2 {w1 : World} {q : Nat} {out : List Ky} {v : Value} {W : World} {x y z : Value} (h : RkS w1 q out v W x y z) (u : Value) : RkS w1 q out v (W.setCell ⟨q, 2, none⟩ u) x y u :=
  ⟨h.1.setCell (p := ⟨q, 2, none⟩) h.2.2.2.2 _, h.2.1.set 2 u, owns_same h.2.2.1 (fun b hb => Below.heap_setCell _ _ _ _ (h.2.2.2.1 b hb)), h.2.2.2⟩
theorem nd_body {w : World} {b o : Nat} {l : List Nd} (h : NdRow w (some ⟨b, o, none⟩) l) (i : Nat) (hi : i < l.length) : w.cell? ⟨b, o + i * 5 + 4, none⟩ = some (.string l[i].body) := by
  obtain ⟨b', o', e, _, _, _, _, h4⟩ := h i hi
  injection e with e
  injection e with e1 e2
  subst e1 e2
  exact h4
theorem nd_addr {w : World} {a : Option Addr} {l : List Nd} (h : NdRow w a l) (i : Nat) (hi : i < l.length) : ∃ b o, a = some ⟨b, o, none⟩ := by
  obtain ⟨b', o', e, _⟩ := h i hi
  exact ⟨b', o', e⟩
theorem drop_ne {l : List Nd} {i : Nat} (h : i < l.length) : l.drop i ≠ [] := by
  intro e
  have := congrArg List.length e
  rw [List.length_drop, List.length_nil] at this
  omega
theorem rk_none {l : List Nd} {R : Option (List Ky)} {out : List Ky} {i : Nat} (h : R = (dkF (l.drop i).length (l.drop i)).map (fun ks => out ++ ks)) (hi : i < l.length) (hk : kF (l.drop i) = none) : R = none := by
  rw [h, dkF_none _ _ (drop_ne hi) hk]
  rfl
theorem rk_next {l : List Nd} {R : Option (List Ky)} {out : List Ky} {i j : Nat} {k : Ky} (h : R = (dkF (l.drop i).length (l.drop i)).map (fun ks => out ++ ks)) (hi : i < l.length) (hk : kF (l.drop i) = some (k, l.drop j)) : R = (dkF (l.drop j).length (l.drop j)).map (fun ks => (out ++ [k]) ++ ks) := by
  obtain ⟨m, hm⟩ : ∃ m, (l.drop i).length = m + 1 := ⟨(l.drop i).length - 1, by rw [List.length_drop]; omega⟩
  have hlt := (kF_some hk).1
  rw [h, hm, dkF_some m _ _ _ (drop_ne hi) hk, dkF_more m (l.drop j).length (l.drop j) (by omega) (Nat.le_refl _), Option.map_map]
  congr 1
  funext ks
  simp
theorem dkP_no {l : List Nd} (h : isB (nSeq 1) l 0 = false) : dkP l = none := by
  have e := isB_no h
  rw [List.drop_zero] at e
  unfold dkP
  rw [e]
  rfl
theorem dkP_yes {l : List Nd} (h : isB (nSeq 1) l 0 = true) : dkP l = dkF (l.drop 1).length (l.drop 1) ∧ 1 ≤ l.length := by
  obtain ⟨hi, e⟩ := isB_yes h
  rw [List.drop_zero] at e
  unfold dkP
  rw [e]
  exact ⟨rfl, hi⟩
set_option maxRecDepth 100000 in
set_option maxHeartbeats 16000000 in
theorem rDecodeKeys_any (s : ByteArray) (l : List Nd) (w : World) (ht : RowTab w) (hz : ∀ e ∈ l, e.body.size ≤ 1048576) (hn : l.length ≤ 1048576) (hT : ∀ W, Calls Tryd.prog 25 #[.string s] W fun r w' => (∃ v c q, r = .returned (.tuple #[v, .int .i64 c, .int .i64 q]) ∧ OwnN w' W.heap.size v l ∧ (c = 0 ∨ c ≠ 0 ∧ l = [])) ∧ Below W.heap.size W w') :
    Calls Tryd.prog 8 #[.string s] w fun e w' => DkQ (dkP l) w e w' := by
  have hT' : Hid (Calls Tryd.prog 25 #[.string s] w fun r w' => (∃ v c q, r = .returned (.tuple #[v, .int .i64 c, .int .i64 q]) ∧ OwnN w' w.heap.size v l ∧ (c = 0 ∨ c ≠ 0 ∧ l = [])) ∧ Below w.heap.size w w') := hT w
  have HZ : Hid ((∀ e ∈ l, e.body.size ≤ 1048576) ∧ l.length ≤ 1048576 ∧ RowTab w) := ⟨hz, hn, ht⟩
  clear hT hz hn ht
  obtain ⟨R, hR⟩ : ∃ R, dkP l = R := ⟨_, rfl⟩
  rw [hR]
  have hR' : Hid (dkP l = R) := hR
  clear hR
  go_enter Tryd.func8, Tryd.ntmps8
  go_wp2_with fail
  refine hT'.out.mono ?_
  rintro e w1 ⟨⟨v1, c1, p1, rfl, hov, hc⟩, hb1⟩
  obtain ⟨la, lc, rfl, hrow⟩ := ownN_any hov
  obtain ⟨nl, hnl0⟩ : ∃ n, l.length = n := ⟨_, rfl⟩
  have hnl : Hid (l.length = nl ∧ nl ≤ 1048576) := ⟨hnl0, by rw [← hnl0]; exact HZ.out.2.1⟩
  have HL : Hid (NdRow w1 la l ∧ Below w.heap.size w w1) := ⟨hrow, hb1⟩
  have hIs : Hid (∀ (f : Nd) (x : Int) (i : Nat) W, x = (i : Int) → Below w1.heap.size w1 W → Calls Tryd.prog 26 #[.slice la nl lc, .int .i64 x, .int .i64 f.dep, .int .i64 f.cls, .int .i64 f.tag, .bool f.made] W fun e w' => e = .returned (.bool (isB f l i)) ∧ w' = W) := fun f x i W hx hb => by rw [← hnl.out.1]; exact is_any f l x i hx la lc W (HL.out.1.below hb)
  have hU : Hid (∀ (s : ByteArray) W, s.size ≤ 1048576 → Below w1.heap.size w1 W → Calls Tryd.prog 15 #[.string s] W fun e w' => e = .returned (.bool (utf s)) ∧ w' = W) := fun s W hs hb => rUTF8_any s W hs (tab_below HZ.out.2.2 (HL.out.2.trans (hb.mono HL.out.2.size)))
  rw [hnl0]
  clear hT' hov hrow hb1 hnl0
  rcases hc with rfl | ⟨hc, hl0⟩
  · have C0 : Hid (Calls Tryd.prog 26 #[.slice la nl lc, .int .i64 0, .int .i64 1, .int .i64 0, .int .i64 16, .bool true] w1 fun e w' => e = .returned (.bool (isB (nSeq 1) l 0)) ∧ w' = w1) := hIs.out (nSeq 1) 0 0 w1 rfl (Below.refl _ _)
    obtain ⟨b0, hb0⟩ : ∃ b, isB (nSeq 1) l 0 = b := ⟨_, rfl⟩
    rw [hb0] at C0
    have hb0' : Hid (isB (nSeq 1) l 0 = b0) := hb0
    clear hb0
    go_wp2_with fail
    refine C0.out.mono ?_
    rintro e w2 ⟨rfl, rfl⟩
    clear C0
    cases b0 with
    | false =>
      have Hf : Hid (R = none ∧ Below w.heap.size w w2) := ⟨by rw [← hR'.out]; exact dkP_no hb0'.out, HL.out.2⟩
      clear hIs hU
      go_wp2_with fail
      go_ret2
      exact ⟨Or.inr ⟨Hf.out.1, rfl⟩, Hf.out.2⟩
    | true =>
      have H0 : Hid (RkI l w2 R [] 1 (.slice none 0 0) w2) := ⟨GOwn.nil _ _ _ _ _, Below.refl _ _, by rw [← hR'.out, (dkP_yes hb0'.out).1]; simp, Nat.zero_le _, (dkP_yes hb0'.out).2⟩
      obtain ⟨w1, hw1⟩ : ∃ W, W = w2 := ⟨_, rfl⟩
      subst hw1
      clear hR' hb0'
      go_wp2_with fail
      go_loopw [7, 8] (fun lv iv wr => ∃ (out : List Ky) (i xn : Nat) (xa : Option Addr) (xc : Nat), lv = .slice xa xn xc ∧ iv = .int .i64 (i : Int) ∧ xn = out.length ∧ i ≤ nl ∧ Hid (RkI l w1 R out i (.slice xa xn xc) wr)) (fun _ iv _ => nl - (intOf iv).toNat)
      case atStart => exact ⟨[], 1, 0, none, 0, rfl, rfl, rfl, by rw [← hnl.out.1]; exact H0.out.2.2.2.2, H0⟩
      case round =>
        obtain ⟨out, i, xn, xa, xc, rfl, rfl, hno0, hi, hI⟩ := hrel
        have hno : Hid (xn = out.length) := hno0
        have hou : Hid (out.length ≤ i) := hI.out.2.2.2.1
        have i0 : (0 : Int) ≤ (i : Int) := Int.natCast_nonneg _
        clear H0 hno0
        by_cases hlt : i < nl
        · have hlt' : Hid (i < nl) := hlt
          have i1 : (i : Int) < (nl : Int) := Int.ofNat_lt.2 hlt
          have hn1 : nl ≤ 1048576 := hnl.out.2
          have HR : Hid ((kF (l.drop i) = none → R = none) ∧ ∀ W, Below w1.heap.size w1 W → Below w.heap.size w W) := ⟨fun h => rk_none hI.out.2.2.1 (by rw [hnl.out.1]; exact hlt) h, fun W hb => HL.out.2.trans (hb.mono HL.out.2.size)⟩
          have C1 : Hid (Calls Tryd.prog 26 #[.slice la nl lc, .int .i64 (i : Int), .int .i64 2, .int .i64 0, .int .i64 16, .bool true] wr fun e w' => e = .returned (.bool (isB (nSeq 2) l i)) ∧ w' = wr) := hIs.out (nSeq 2) (i : Int) i wr rfl hI.out.2.1
          have C2 : Hid (Calls Tryd.prog 26 #[.slice la nl lc, .int .i64 ((i : Int) + 1), .int .i64 3, .int .i64 0, .int .i64 4, .bool false] wr fun e w' => e = .returned (.bool (isB (nOct 3 ⟨#[]⟩) l (i + 1))) ∧ w' = wr) := hIs.out (nOct 3 ⟨#[]⟩) ((i : Int) + 1) (i + 1) wr (by omega) hI.out.2.1
          obtain ⟨b1, hb1⟩ : ∃ b, isB (nSeq 2) l i = b := ⟨_, rfl⟩
          obtain ⟨b2, hb2⟩ : ∃ b, isB (nOct 3 ⟨#[]⟩) l (i + 1) = b := ⟨_, rfl⟩
          rw [hb1] at C1
          rw [hb2] at C2
          have HB12 : Hid (isB (nSeq 2) l i = b1 ∧ isB (nOct 3 ⟨#[]⟩) l (i + 1) = b2) := ⟨hb1, hb2⟩
          clear hb1 hb2 hlt hi
          go_wp2_with fail
          refine C1.out.mono ?_
          rintro e y1 ⟨rfl, rfl⟩
          clear C1
          cases b1 with
          | false =>
            clear C2
            have Hf : Hid (R = none ∧ Below w.heap.size w y1) := ⟨HR.out.1 (kF_no1 HB12.out.1), HR.out.2 y1 hI.out.2.1⟩
            clear hIs HR
            go_wp2_with fail
            go_ret2
            exact ⟨Or.inr ⟨Hf.out.1, rfl⟩, Hf.out.2⟩
          | true =>
          go_wp2_with fail
          refine C2.out.mono ?_
          rintro e y2 ⟨rfl, rfl⟩
          clear C2
          cases b2 with
          | false =>
            have Hf : Hid (R = none ∧ Below w.heap.size w y2) := ⟨HR.out.1 (kF_no2 HB12.out.1 HB12.out.2), HR.out.2 y2 hI.out.2.1⟩
            clear hIs HR
            go_wp2_with fail
            go_ret2
            exact ⟨Or.inr ⟨Hf.out.1, rfl⟩, Hf.out.2⟩
          | true =>
          obtain ⟨hi1, hkT⟩ := kF_two HB12.out.1 HB12.out.2
          obtain ⟨lb, lo, hla0⟩ := nd_addr HL.out.1 (i + 1) hi1
          subst hla0
          have x1 := nd_body (HL.out.1.below hI.out.2.1) (i + 1) hi1
          have hzd0 := HZ.out.1 _ (List.getElem_mem hi1)
          obtain ⟨d, hd⟩ : ∃ d, l[i + 1].body = d := ⟨_, rfl⟩
          rw [hd] at x1 hkT hzd0
          have hzd : Hid (d.size ≤ 1048576) := hzd0
          have hkT' : Hid (kF (l.drop i) = kT d (l.drop (i + 2))) := hkT
          have hi1' : Hid (i + 1 < nl) := by unfold Hid; rw [← hnl.out.1]; exact hi1
          have j1 : ((i : Int) + 1) < (nl : Int) := by have := hi1'.out; omega
          clear hkT hd hzd0 hi1 HB12
          go_upto_region 10 with fail
          clear x1 j1
          obtain ⟨w3, hw3⟩ : ∃ W, y2.alloc (.cells #[.string d, .string ⟨#[]⟩, .bool false] 25) = W := ⟨_, rfl⟩
          rw [hw3]
          have hS3 : Hid (RkS w1 y2.heap.size out (.slice xa xn xc) w3 (.string d) (.string ⟨#[]⟩) (.bool false)) := by
            have hb : Below y2.heap.size y2 w3 := by rw [← hw3]; exact (Below.refl _ _).alloc (Nat.le_refl _) _
            refine ⟨hI.out.2.1.trans (hb.mono hI.out.2.1.size), by rw [← hw3]; exact Box.new _ _ _, hI.out.1.below hb, fun b hb => ?_, hI.out.2.1.size⟩
            have := (World.ownsRow.lt (show World.ownsRow _ _ _ _ _ _ _ from hI.out.1) b hb).2
            omega
          clear hw3
          go_upto_region 11 with fail
          obtain ⟨i2, hi2⟩ : ∃ n, i + 2 = n := ⟨_, rfl⟩
          have hi2' : Hid (i + 2 = i2 ∧ i2 ≤ nl) := ⟨hi2, by have := hi1'.out; omega⟩
          have e2 : (i : Int) + 2 = (i2 : Int) := by omega
          rw [e2]
          rw [hi2] at hkT'
          clear e2 hi2
          generalize y2.heap.size = q at *
          have C3 : Hid (Calls Tryd.prog 26 #[.slice (some ⟨lb, lo, none⟩) nl lc, .int .i64 (i2 : Int), .int .i64 3, .int .i64 2, .int .i64 0, .bool false] w3 fun e w' => e = .returned (.bool (isB (nTag 0 ⟨#[]⟩) l i2)) ∧ w' = w3) := hIs.out (nTag 0 ⟨#[]⟩) (i2 : Int) i2 w3 rfl hS3.out.1
          obtain ⟨b3, hb3⟩ : ∃ b, isB (nTag 0 ⟨#[]⟩) l i2 = b := ⟨_, rfl⟩
          rw [hb3] at C3
          have hb3' : Hid (isB (nTag 0 ⟨#[]⟩) l i2 = b3) := hb3
          clear hb3
          go_wp2_with fail
          refine C3.out.mono ?_
          rintro e w4 ⟨rfl, rfl⟩
          clear C3
          cases b3 with
          | false =>
            have hkU0 : Hid (kF (l.drop i) = kU d ⟨#[]⟩ (l.drop i2)) := by rw [hkT'.out]; exact kT_no hb3'.out
            clear hb3' hkT'
            have C4 : Hid (Calls Tryd.prog 26 #[.slice (some ⟨lb, lo, none⟩) nl lc, .int .i64 (i2 : Int), .int .i64 3, .int .i64 2, .int .i64 1, .bool false] w4 fun e w' => e = .returned (.bool (isB (nTag 1 ⟨#[]⟩) l i2)) ∧ w' = w4) := hIs.out (nTag 1 ⟨#[]⟩) (i2 : Int) i2 w4 rfl hS3.out.1
            obtain ⟨b4, hb4⟩ : ∃ b, isB (nTag 1 ⟨#[]⟩) l i2 = b := ⟨_, rfl⟩
            rw [hb4] at C4
            have hb4' : Hid (isB (nTag 1 ⟨#[]⟩) l i2 = b4) := hb4
            clear hb4
            go_wp2_with fail
            refine C4.out.mono ?_
            rintro e z0 ⟨rfl, rfl⟩
            clear C4
            cases b4 with
            | false =>
              have hkV : Hid (kF (l.drop i) = kV4 d ⟨#[]⟩ false (l.drop i2)) := by rw [hkU0.out]; exact kU_no hb4'.out
              clear hb4'
              have g0 : z0.cell? ⟨q, 0, none⟩ = some (.string d) := (hS3.out.2.1.cell 0 (by simp)).1
              have g1 : z0.cell? ⟨q, 1, none⟩ = some (.string ⟨#[]⟩) := (hS3.out.2.1.cell 1 (by simp)).1
              have g2 : z0.cell? ⟨q, 2, none⟩ = some (.bool false) := (hS3.out.2.1.cell 2 (by simp)).1
              have U1 := hU.out d z0 hzd.out hS3.out.1
              have U2' : Hid (Calls Tryd.prog 15 #[.string ⟨#[]⟩] z0 fun e w' => e = .returned (.bool (utf ⟨#[]⟩)) ∧ w' = z0) := hU.out ⟨#[]⟩ z0 (Nat.zero_le _) hS3.out.1
              have hk4 : Hid (kF (l.drop i) = if (utf d && utf ⟨#[]⟩) = true then some ((d, ⟨#[]⟩, false), l.drop i2) else none) := hkV.out
              obtain ⟨ud, hud⟩ : ∃ b, utf d = b := ⟨_, rfl⟩
              obtain ⟨ur, hur⟩ : ∃ b, utf ⟨#[]⟩ = b := ⟨_, rfl⟩
              rw [hud] at U1
              rw [hur] at U2'
              rw [hud, hur] at hk4
              have U1' : Hid (Calls Tryd.prog 15 #[.string d] z0 fun e w' => e = .returned (.bool ud) ∧ w' = z0) := U1
              clear U1 hud hur
              go_wp2_with fail
              refine U1'.out.mono ?_
              rintro e z1 ⟨rfl, rfl⟩
              clear U1'
              cases ud with
              | false =>
                clear U2' g0 g1 g2
                have Hf : Hid (R = none ∧ Below w.heap.size w z1) := ⟨HR.out.1 (by rw [hk4.out]; rfl), HR.out.2 z1 hS3.out.1⟩
                clear hIs HR
                go_wp2_with fail
                go_ret2
                exact ⟨Or.inr ⟨Hf.out.1, rfl⟩, Hf.out.2⟩
              | true =>
                go_wp2_with fail
                refine U2'.out.mono ?_
                rintro e z2 ⟨rfl, rfl⟩
                clear U2'
                cases ur with
                | false =>
                  clear g0 g1 g2
                  have Hf : Hid (R = none ∧ Below w.heap.size w z2) := ⟨HR.out.1 (by rw [hk4.out]; rfl), HR.out.2 z2 hS3.out.1⟩
                  clear hIs HR
                  go_wp2_with fail
                  go_ret2
                  exact ⟨Or.inr ⟨Hf.out.1, rfl⟩, Hf.out.2⟩
                | true =>
                  obtain ⟨z3, hz3⟩ : ∃ W, z2.alloc (.cells #[.string d, .string ⟨#[]⟩, .bool false] 25) = W := ⟨_, rfl⟩
                  have hb3 : Below z2.heap.size z2 z3 := by rw [← hz3]; exact (Below.refl _ _).alloc (Nat.le_refl _) _
                  have hg3 : GRow 3 kyV z3 (some ⟨z2.heap.size, 0, none⟩) [(d, ⟨#[]⟩, false)] := by rw [← hz3]; exact g_new kyV kyV_len z2 _ [(d, ⟨#[]⟩, false)]
                  have F4 : Hid (i < nl ∧ i2 ≤ nl ∧ i < i2 ∧ nl ≤ 1048576 ∧ nl = l.length) := ⟨hlt'.out, hi2'.out.2, (by have := hi2'.out.1; omega), hnl.out.2, hnl.out.1.symm⟩
                  obtain ⟨v', z4, ra, ro, _, rb⟩ := append_gen KDk z3 w1.heap.size (.slice xa xn xc) out [(d, ⟨#[]⟩, false)] _ 1 1 (hS3.out.2.2.1.below hb3) hg3 rfl (Nat.le_trans (hS3.out.1.trans (hb3.mono hS3.out.1.size)).size (Nat.le_refl _)) (by have := hou.out; have := F4.out; simp; omega)
                  obtain ⟨ya, yc, hv, _⟩ := ro.row kyV_len
                  rw [List.length_append, List.length_singleton, ← hno.out] at hv
                  subst hv
                  have ra' : Hid ((Builtin.append_ #[22, 22] 22 #[.slice xa xn xc, .slice (some ⟨z2.heap.size, 0, none⟩) 1 1]).run Tryd.prog z3 = .ok (.slice ya (xn + 1) yc) z4) := ra
                  have HJ : Hid (RkI l w1 R (out ++ [(d, ⟨#[]⟩, false)]) i2 (.slice ya (xn + 1) yc) z4) := by
                    refine ⟨ro, (hS3.out.1.trans (hb3.mono hS3.out.1.size)).trans rb, ?_, ?_, ?_⟩
                    · exact rk_next hI.out.2.2.1 (by have := F4.out; omega) (by rw [hk4.out]; rfl) 
                    · have := hou.out; have := F4.out; rw [List.length_append, List.length_singleton]; omega
                    · have := F4.out; omega
                  clear hb3 hg3 ro rb ra hS3 hI hk4
                  go_wp2_with (at_builtin; refine wp_app _ rfl _ _ _ rfl rfl _ _ _ _ rfl rfl ra'.out ?_; clear ra' g0 g1 g2)
                  go_roundw
                  case rel => exact ⟨_, i2, xn + 1, ya, yc, rfl, by first | rfl | (simp; done) | (congr 1; omega), by rw [hno.out]; simp, F4.out.2.1, HJ⟩
                  case measure => have := F4.out; simp [intOf]; omega
            | true =>
              obtain ⟨hi4, hkU⟩ := kU_yes (d := d) (r := ⟨#[]⟩) hb4'.out
              have x4 := nd_body (HL.out.1.below hS3.out.1) i2 hi4
              obtain ⟨tb, htb⟩ : ∃ t, l[i2].body = t := ⟨_, rfl⟩
              rw [htb] at x4 hkU
              have hT4 : Hid (i2 < nl) := by unfold Hid; rw [← hnl.out.1]; exact hi4
              have j0 : (0 : Int) ≤ (i2 : Int) := Int.natCast_nonneg _
              have j1 : (i2 : Int) < (nl : Int) := Int.ofNat_lt.2 hT4.out
              have hBo : Hid (Calls Tryd.prog 27 #[.string tb] z0 fun e w' => e = .returned (.tuple #[.bool (bvV tb), .int .i64 (bvE tb)]) ∧ z0 = w') := by have := refBool_any tb z0; rw [boolV_eq] at this; exact this
              have hkU' : Hid (kF (l.drop i) = if (bvE tb == 0) = true then kV4 d ⟨#[]⟩ (bvV tb) (l.drop (i2 + 1)) else none) := by rw [hkU0.out]; exact hkU
              clear hkU hi4 htb hb4'
              go_wp2_with fail
              refine hBo.out.mono ?_
              rintro e z5 ⟨rfl, rfl⟩
              clear hBo x4
              obtain ⟨eb, heb⟩ : ∃ x, bvE tb = x := ⟨_, rfl⟩
              obtain ⟨vb, hvb⟩ : ∃ x, bvV tb = x := ⟨_, rfl⟩
              rw [heb, hvb] at hkU'
              rw [heb, hvb]
              clear heb hvb
              by_cases hee : eb = 0
              · subst hee
                have g2 : z0.cell? ⟨q, 2, none⟩ = some (.bool false) := (hS3.out.2.1.cell 2 (by simp)).1
                have g2' : z0.frozen? ⟨q, 2, none⟩ = false := (hS3.out.2.1.cell 2 (by simp)).2
                have HS5 : Hid (RkS w1 q out (.slice xa xn xc) (z0.setCell ⟨q, 2, none⟩ (.bool vb)) (.string d) (.string ⟨#[]⟩) (.bool vb)) := hS3.out.set2 _
                have hkV : Hid (kF (l.drop i) = kV4 d ⟨#[]⟩ vb (l.drop (i2 + 1))) := by rw [hkU'.out]; rfl
                clear hkU' hS3
                obtain ⟨i4, hi4⟩ : ∃ n, i2 + 1 = n := ⟨_, rfl⟩
                have hi4' : Hid (i2 + 1 = i4) := hi4
                rw [hi4] at hkV
                have e4 : wrap64 ((i2 : Int) + 1) = (i4 : Int) := by have := hnl.out; have := hT4.out; unfold wrap64; omega
                have e4' : (i2 : Int) + 1 = (i4 : Int) := by omega
                clear hi4 e4
                go_upto_region 22 with fail
                clear g2 g2'
                try rw [e4']
                generalize z0.setCell ⟨q, 2, none⟩ (.bool vb) = z6 at *
                have g0 : z6.cell? ⟨q, 0, none⟩ = some (.string d) := (HS5.out.2.1.cell 0 (by simp)).1
                have g1 : z6.cell? ⟨q, 1, none⟩ = some (.string ⟨#[]⟩) := (HS5.out.2.1.cell 1 (by simp)).1
                have g2 : z6.cell? ⟨q, 2, none⟩ = some (.bool vb) := (HS5.out.2.1.cell 2 (by simp)).1
                have U1 := hU.out d z6 hzd.out HS5.out.1
                have U2' : Hid (Calls Tryd.prog 15 #[.string ⟨#[]⟩] z6 fun e w' => e = .returned (.bool (utf ⟨#[]⟩)) ∧ w' = z6) := hU.out ⟨#[]⟩ z6 (Nat.zero_le _) HS5.out.1
                have hk4 : Hid (kF (l.drop i) = if (utf d && utf ⟨#[]⟩) = true then some ((d, ⟨#[]⟩, vb), l.drop i4) else none) := hkV.out
                obtain ⟨ud, hud⟩ : ∃ b, utf d = b := ⟨_, rfl⟩
                obtain ⟨ur, hur⟩ : ∃ b, utf ⟨#[]⟩ = b := ⟨_, rfl⟩
                rw [hud] at U1
                rw [hur] at U2'
                rw [hud, hur] at hk4
                have U1' : Hid (Calls Tryd.prog 15 #[.string d] z6 fun e w' => e = .returned (.bool ud) ∧ w' = z6) := U1
                clear U1 hud hur
                go_wp2_with fail
                refine U1'.out.mono ?_
                rintro e z1 ⟨rfl, rfl⟩
                clear U1'
                cases ud with
                | false =>
                  clear U2' g0 g1 g2
                  have Hf : Hid (R = none ∧ Below w.heap.size w z1) := ⟨HR.out.1 (by rw [hk4.out]; rfl), HR.out.2 z1 HS5.out.1⟩
                  clear hIs HR
                  go_wp2_with fail
                  go_ret2
                  exact ⟨Or.inr ⟨Hf.out.1, rfl⟩, Hf.out.2⟩
                | true =>
                  go_wp2_with fail
                  refine U2'.out.mono ?_
                  rintro e z2 ⟨rfl, rfl⟩
                  clear U2'
                  cases ur with
                  | false =>
                    clear g0 g1 g2
                    have Hf : Hid (R = none ∧ Below w.heap.size w z2) := ⟨HR.out.1 (by rw [hk4.out]; rfl), HR.out.2 z2 HS5.out.1⟩
                    clear hIs HR
                    go_wp2_with fail
                    go_ret2
                    exact ⟨Or.inr ⟨Hf.out.1, rfl⟩, Hf.out.2⟩
                  | true =>
                    obtain ⟨z3, hz3⟩ : ∃ W, z2.alloc (.cells #[.string d, .string ⟨#[]⟩, .bool vb] 25) = W := ⟨_, rfl⟩
                    have hb3 : Below z2.heap.size z2 z3 := by rw [← hz3]; exact (Below.refl _ _).alloc (Nat.le_refl _) _
                    have hg3 : GRow 3 kyV z3 (some ⟨z2.heap.size, 0, none⟩) [(d, ⟨#[]⟩, vb)] := by rw [← hz3]; exact g_new kyV kyV_len z2 _ [(d, ⟨#[]⟩, vb)]
                    have F4 : Hid (i < nl ∧ i4 ≤ nl ∧ i < i4 ∧ nl ≤ 1048576 ∧ nl = l.length) := ⟨hlt'.out, (by have := hi4'.out; have := hT4.out; omega), (by have := hi4'.out; have h9 : i < i2 := (by have := hi2'.out.1; omega); omega), hnl.out.2, hnl.out.1.symm⟩
                    obtain ⟨v', z4, ra, ro, _, rb⟩ := append_gen KDk z3 w1.heap.size (.slice xa xn xc) out [(d, ⟨#[]⟩, vb)] _ 1 1 (HS5.out.2.2.1.below hb3) hg3 rfl (Nat.le_trans (HS5.out.1.trans (hb3.mono HS5.out.1.size)).size (Nat.le_refl _)) (by have := hou.out; have := F4.out; simp; omega)
                    obtain ⟨ya, yc, hv, _⟩ := ro.row kyV_len
                    rw [List.length_append, List.length_singleton, ← hno.out] at hv
                    subst hv
                    have ra' : Hid ((Builtin.append_ #[22, 22] 22 #[.slice xa xn xc, .slice (some ⟨z2.heap.size, 0, none⟩) 1 1]).run Tryd.prog z3 = .ok (.slice ya (xn + 1) yc) z4) := ra
                    have HJ : Hid (RkI l w1 R (out ++ [(d, ⟨#[]⟩, vb)]) i4 (.slice ya (xn + 1) yc) z4) := by
                      refine ⟨ro, (HS5.out.1.trans (hb3.mono HS5.out.1.size)).trans rb, ?_, ?_, ?_⟩
                      · exact rk_next hI.out.2.2.1 (by have := F4.out; omega) (by rw [hk4.out]; rfl) 
                      · have := hou.out; have := F4.out; rw [List.length_append, List.length_singleton]; omega
                      · have := F4.out; omega
                    clear hb3 hg3 ro rb ra HS5 hI hk4
                    go_wp2_with (at_builtin; refine wp_app _ rfl _ _ _ rfl rfl _ _ _ _ rfl rfl ra'.out ?_; clear ra' g0 g1 g2)
                    go_roundw
                    case rel => exact ⟨_, i4, xn + 1, ya, yc, rfl, by first | rfl | (simp; done) | (congr 1; omega), by rw [hno.out]; simp, F4.out.2.1, HJ⟩
                    case measure => have := F4.out; simp [intOf]; omega
              · have hee' : (eb != 0) = true := by simp [hee]
                have hN : kF (l.drop i) = none := by rw [hkU'.out, if_neg (by simpa using hee)]
                have Hf : Hid (R = none ∧ Below w.heap.size w z0) := ⟨HR.out.1 hN, HR.out.2 z0 hS3.out.1⟩
                clear hN hkU' hIs HR hee hS3
                go_wp2_with fail
                go_ret2
                exact ⟨Or.inr ⟨Hf.out.1, rfl⟩, Hf.out.2⟩
          | true =>
            obtain ⟨hi3, hkR⟩ := kT_yes (d := d) hb3'.out
            have x3 := nd_body (HL.out.1.below hS3.out.1) i2 hi3
            have hzr0 := HZ.out.1 _ (List.getElem_mem hi3)
            obtain ⟨r, hrr⟩ : ∃ t, l[i2].body = t := ⟨_, rfl⟩
            rw [hrr] at x3 hkR hzr0
            have hzr : Hid (r.size ≤ 1048576) := hzr0
            have hT3 : Hid (i2 < nl) := by unfold Hid; rw [← hnl.out.1]; exact hi3
            have k0 : (0 : Int) ≤ (i2 : Int) := Int.natCast_nonneg _
            have k1 : (i2 : Int) < (nl : Int) := Int.ofNat_lt.2 hT3.out
            have hkR' : Hid (kF (l.drop i) = if (r.toList == []) = true then none else kU d r (l.drop (i2 + 1))) := by rw [hkT'.out]; exact hkR
            have g1 : w4.cell? ⟨q, 1, none⟩ = some (.string ⟨#[]⟩) := (hS3.out.2.1.cell 1 (by simp)).1
            have g1' : w4.frozen? ⟨q, 1, none⟩ = false := (hS3.out.2.1.cell 1 (by simp)).2
            have HS4 : Hid (RkS w1 q out (.slice xa xn xc) (w4.setCell ⟨q, 1, none⟩ (.string r)) (.string d) (.string r) (.bool false)) := hS3.out.set1 _
            clear hkR hkT' hi3 hrr hzr0 hb3' hS3
            go_upto_region 14 with fail
            clear g1 g1' x3 k1
            generalize w4.setCell ⟨q, 1, none⟩ (.string r) = w5 at *
            obtain ⟨i3, hi3⟩ : ∃ n, i2 + 1 = n := ⟨_, rfl⟩
            have hi3' : Hid (i2 + 1 = i3 ∧ i3 ≤ nl) := ⟨hi3, by have := hT3.out; omega⟩
            have e3 : (i2 : Int) + 1 = (i3 : Int) := by omega
            rw [e3]
            rw [hi3] at hkR'
            clear e3 hi3
            have f1 : w5.cell? ⟨q, 1, none⟩ = some (.string r) := (HS4.out.2.1.cell 1 (by simp)).1
            obtain ⟨qb, hqb⟩ : ∃ b, (r.toList == []) = b := ⟨_, rfl⟩
            rw [hqb] at hkR'
            cases qb with
            | true =>
              have Hf : Hid (R = none ∧ Below w.heap.size w w5) := ⟨HR.out.1 (by rw [hkR'.out]; rfl), HR.out.2 w5 HS4.out.1⟩
              clear hIs HR
              go_wp2_with fail
              go_ret2
              exact ⟨Or.inr ⟨Hf.out.1, rfl⟩, Hf.out.2⟩
            | false =>
              have hkU0 : Hid (kF (l.drop i) = kU d r (l.drop i3)) := by rw [hkR'.out]; rfl
              clear hkR'
              go_upto_region 16 with fail
              clear f1 hqb
              have C4 : Hid (Calls Tryd.prog 26 #[.slice (some ⟨lb, lo, none⟩) nl lc, .int .i64 (i3 : Int), .int .i64 3, .int .i64 2, .int .i64 1, .bool false] w5 fun e w' => e = .returned (.bool (isB (nTag 1 ⟨#[]⟩) l i3)) ∧ w' = w5) := hIs.out (nTag 1 ⟨#[]⟩) (i3 : Int) i3 w5 rfl HS4.out.1
              obtain ⟨b4, hb4⟩ : ∃ b, isB (nTag 1 ⟨#[]⟩) l i3 = b := ⟨_, rfl⟩
              rw [hb4] at C4
              have hb4' : Hid (isB (nTag 1 ⟨#[]⟩) l i3 = b4) := hb4
              clear hb4
              go_wp2_with fail
              refine C4.out.mono ?_
              rintro e z0 ⟨rfl, rfl⟩
              clear C4
              cases b4 with
              | false =>
                have hkV : Hid (kF (l.drop i) = kV4 d r false (l.drop i3)) := by rw [hkU0.out]; exact kU_no hb4'.out
                clear hb4'
                have g0 : z0.cell? ⟨q, 0, none⟩ = some (.string d) := (HS4.out.2.1.cell 0 (by simp)).1
                have g1 : z0.cell? ⟨q, 1, none⟩ = some (.string r) := (HS4.out.2.1.cell 1 (by simp)).1
                have g2 : z0.cell? ⟨q, 2, none⟩ = some (.bool false) := (HS4.out.2.1.cell 2 (by simp)).1
                have U1 := hU.out d z0 hzd.out HS4.out.1
                have U2' : Hid (Calls Tryd.prog 15 #[.string r] z0 fun e w' => e = .returned (.bool (utf r)) ∧ w' = z0) := hU.out r z0 hzr.out HS4.out.1
                have hk4 : Hid (kF (l.drop i) = if (utf d && utf r) = true then some ((d, r, false), l.drop i3) else none) := hkV.out
                obtain ⟨ud, hud⟩ : ∃ b, utf d = b := ⟨_, rfl⟩
                obtain ⟨ur, hur⟩ : ∃ b, utf r = b := ⟨_, rfl⟩
                rw [hud] at U1
                rw [hur] at U2'
                rw [hud, hur] at hk4
                have U1' : Hid (Calls Tryd.prog 15 #[.string d] z0 fun e w' => e = .returned (.bool ud) ∧ w' = z0) := U1
                clear U1 hud hur
                go_wp2_with fail
                refine U1'.out.mono ?_
                rintro e z1 ⟨rfl, rfl⟩
                clear U1'
                cases ud with
                | false =>
                  clear U2' g0 g1 g2
                  have Hf : Hid (R = none ∧ Below w.heap.size w z1) := ⟨HR.out.1 (by rw [hk4.out]; rfl), HR.out.2 z1 HS4.out.1⟩
                  clear hIs HR
                  go_wp2_with fail
                  go_ret2
                  exact ⟨Or.inr ⟨Hf.out.1, rfl⟩, Hf.out.2⟩
                | true =>
                  go_wp2_with fail
                  refine U2'.out.mono ?_
                  rintro e z2 ⟨rfl, rfl⟩
                  clear U2'
                  cases ur with
                  | false =>
                    clear g0 g1 g2
                    have Hf : Hid (R = none ∧ Below w.heap.size w z2) := ⟨HR.out.1 (by rw [hk4.out]; rfl), HR.out.2 z2 HS4.out.1⟩
                    clear hIs HR
                    go_wp2_with fail
                    go_ret2
                    exact ⟨Or.inr ⟨Hf.out.1, rfl⟩, Hf.out.2⟩
                  | true =>
                    obtain ⟨z3, hz3⟩ : ∃ W, z2.alloc (.cells #[.string d, .string r, .bool false] 25) = W := ⟨_, rfl⟩
                    have hb3 : Below z2.heap.size z2 z3 := by rw [← hz3]; exact (Below.refl _ _).alloc (Nat.le_refl _) _
                    have hg3 : GRow 3 kyV z3 (some ⟨z2.heap.size, 0, none⟩) [(d, r, false)] := by rw [← hz3]; exact g_new kyV kyV_len z2 _ [(d, r, false)]
                    have F4 : Hid (i < nl ∧ i3 ≤ nl ∧ i < i3 ∧ nl ≤ 1048576 ∧ nl = l.length) := ⟨hlt'.out, hi3'.out.2, (by have := hi3'.out.1; have := hi2'.out.1; omega), hnl.out.2, hnl.out.1.symm⟩
                    obtain ⟨v', z4, ra, ro, _, rb⟩ := append_gen KDk z3 w1.heap.size (.slice xa xn xc) out [(d, r, false)] _ 1 1 (HS4.out.2.2.1.below hb3) hg3 rfl (Nat.le_trans (HS4.out.1.trans (hb3.mono HS4.out.1.size)).size (Nat.le_refl _)) (by have := hou.out; have := F4.out; simp; omega)
                    obtain ⟨ya, yc, hv, _⟩ := ro.row kyV_len
                    rw [List.length_append, List.length_singleton, ← hno.out] at hv
                    subst hv
                    have ra' : Hid ((Builtin.append_ #[22, 22] 22 #[.slice xa xn xc, .slice (some ⟨z2.heap.size, 0, none⟩) 1 1]).run Tryd.prog z3 = .ok (.slice ya (xn + 1) yc) z4) := ra
                    have HJ : Hid (RkI l w1 R (out ++ [(d, r, false)]) i3 (.slice ya (xn + 1) yc) z4) := by
                      refine ⟨ro, (HS4.out.1.trans (hb3.mono HS4.out.1.size)).trans rb, ?_, ?_, ?_⟩
                      · exact rk_next hI.out.2.2.1 (by have := F4.out; omega) (by rw [hk4.out]; rfl) 
                      · have := hou.out; have := F4.out; rw [List.length_append, List.length_singleton]; omega
                      · have := F4.out; omega
                    clear hb3 hg3 ro rb ra HS4 hI hk4
                    go_wp2_with (at_builtin; refine wp_app _ rfl _ _ _ rfl rfl _ _ _ _ rfl rfl ra'.out ?_; clear ra' g0 g1 g2)
                    go_roundw
                    case rel => exact ⟨_, i3, xn + 1, ya, yc, rfl, by first | rfl | (simp; done) | (congr 1; omega), by rw [hno.out]; simp, F4.out.2.1, HJ⟩
                    case measure => have := F4.out; simp [intOf]; omega
              | true =>
                obtain ⟨hi4, hkU⟩ := kU_yes (d := d) (r := r) hb4'.out
                have x4 := nd_body (HL.out.1.below HS4.out.1) i3 hi4
                obtain ⟨tb, htb⟩ : ∃ t, l[i3].body = t := ⟨_, rfl⟩
                rw [htb] at x4 hkU
                have hT4 : Hid (i3 < nl) := by unfold Hid; rw [← hnl.out.1]; exact hi4
                have j0 : (0 : Int) ≤ (i3 : Int) := Int.natCast_nonneg _
                have j1 : (i3 : Int) < (nl : Int) := Int.ofNat_lt.2 hT4.out
                have hBo : Hid (Calls Tryd.prog 27 #[.string tb] z0 fun e w' => e = .returned (.tuple #[.bool (bvV tb), .int .i64 (bvE tb)]) ∧ z0 = w') := by have := refBool_any tb z0; rw [boolV_eq] at this; exact this
                have hkU' : Hid (kF (l.drop i) = if (bvE tb == 0) = true then kV4 d r (bvV tb) (l.drop (i3 + 1)) else none) := by rw [hkU0.out]; exact hkU
                clear hkU hi4 htb hb4'
                go_wp2_with fail
                refine hBo.out.mono ?_
                rintro e z5 ⟨rfl, rfl⟩
                clear hBo x4
                obtain ⟨eb, heb⟩ : ∃ x, bvE tb = x := ⟨_, rfl⟩
                obtain ⟨vb, hvb⟩ : ∃ x, bvV tb = x := ⟨_, rfl⟩
                rw [heb, hvb] at hkU'
                rw [heb, hvb]
                clear heb hvb
                by_cases hee : eb = 0
                · subst hee
                  have g2 : z0.cell? ⟨q, 2, none⟩ = some (.bool false) := (HS4.out.2.1.cell 2 (by simp)).1
                  have g2' : z0.frozen? ⟨q, 2, none⟩ = false := (HS4.out.2.1.cell 2 (by simp)).2
                  have HS5 : Hid (RkS w1 q out (.slice xa xn xc) (z0.setCell ⟨q, 2, none⟩ (.bool vb)) (.string d) (.string r) (.bool vb)) := HS4.out.set2 _
                  have hkV : Hid (kF (l.drop i) = kV4 d r vb (l.drop (i3 + 1))) := by rw [hkU'.out]; rfl
                  clear hkU' HS4
                  obtain ⟨i4, hi4⟩ : ∃ n, i3 + 1 = n := ⟨_, rfl⟩
                  have hi4' : Hid (i3 + 1 = i4) := hi4
                  rw [hi4] at hkV
                  have e4 : wrap64 ((i3 : Int) + 1) = (i4 : Int) := by have := hnl.out; have := hT4.out; unfold wrap64; omega
                  have e4' : (i3 : Int) + 1 = (i4 : Int) := by omega
                  clear hi4 e4
                  go_upto_region 22 with fail
                  clear g2 g2'
                  try rw [e4']
                  generalize z0.setCell ⟨q, 2, none⟩ (.bool vb) = z6 at *
                  have g0 : z6.cell? ⟨q, 0, none⟩ = some (.string d) := (HS5.out.2.1.cell 0 (by simp)).1
                  have g1 : z6.cell? ⟨q, 1, none⟩ = some (.string r) := (HS5.out.2.1.cell 1 (by simp)).1
                  have g2 : z6.cell? ⟨q, 2, none⟩ = some (.bool vb) := (HS5.out.2.1.cell 2 (by simp)).1
                  have U1 := hU.out d z6 hzd.out HS5.out.1
                  have U2' : Hid (Calls Tryd.prog 15 #[.string r] z6 fun e w' => e = .returned (.bool (utf r)) ∧ w' = z6) := hU.out r z6 hzr.out HS5.out.1
                  have hk4 : Hid (kF (l.drop i) = if (utf d && utf r) = true then some ((d, r, vb), l.drop i4) else none) := hkV.out
                  obtain ⟨ud, hud⟩ : ∃ b, utf d = b := ⟨_, rfl⟩
                  obtain ⟨ur, hur⟩ : ∃ b, utf r = b := ⟨_, rfl⟩
                  rw [hud] at U1
                  rw [hur] at U2'
                  rw [hud, hur] at hk4
                  have U1' : Hid (Calls Tryd.prog 15 #[.string d] z6 fun e w' => e = .returned (.bool ud) ∧ w' = z6) := U1
                  clear U1 hud hur
                  go_wp2_with fail
                  refine U1'.out.mono ?_
                  rintro e z1 ⟨rfl, rfl⟩
                  clear U1'
                  cases ud with
                  | false =>
                    clear U2' g0 g1 g2
                    have Hf : Hid (R = none ∧ Below w.heap.size w z1) := ⟨HR.out.1 (by rw [hk4.out]; rfl), HR.out.2 z1 HS5.out.1⟩
                    clear hIs HR
                    go_wp2_with fail
                    go_ret2
                    exact ⟨Or.inr ⟨Hf.out.1, rfl⟩, Hf.out.2⟩
                  | true =>
                    go_wp2_with fail
                    refine U2'.out.mono ?_
                    rintro e z2 ⟨rfl, rfl⟩
                    clear U2'
                    cases ur with
                    | false =>
                      clear g0 g1 g2
                      have Hf : Hid (R = none ∧ Below w.heap.size w z2) := ⟨HR.out.1 (by rw [hk4.out]; rfl), HR.out.2 z2 HS5.out.1⟩
                      clear hIs HR
                      go_wp2_with fail
                      go_ret2
                      exact ⟨Or.inr ⟨Hf.out.1, rfl⟩, Hf.out.2⟩
                    | true =>
                      obtain ⟨z3, hz3⟩ : ∃ W, z2.alloc (.cells #[.string d, .string r, .bool vb] 25) = W := ⟨_, rfl⟩
                      have hb3 : Below z2.heap.size z2 z3 := by rw [← hz3]; exact (Below.refl _ _).alloc (Nat.le_refl _) _
                      have hg3 : GRow 3 kyV z3 (some ⟨z2.heap.size, 0, none⟩) [(d, r, vb)] := by rw [← hz3]; exact g_new kyV kyV_len z2 _ [(d, r, vb)]
                      have F4 : Hid (i < nl ∧ i4 ≤ nl ∧ i < i4 ∧ nl ≤ 1048576 ∧ nl = l.length) := ⟨hlt'.out, (by have := hi4'.out; have := hT4.out; omega), (by have := hi4'.out; have h9 : i < i3 := (by have := hi3'.out.1; have := hi2'.out.1; omega); omega), hnl.out.2, hnl.out.1.symm⟩
                      obtain ⟨v', z4, ra, ro, _, rb⟩ := append_gen KDk z3 w1.heap.size (.slice xa xn xc) out [(d, r, vb)] _ 1 1 (HS5.out.2.2.1.below hb3) hg3 rfl (Nat.le_trans (HS5.out.1.trans (hb3.mono HS5.out.1.size)).size (Nat.le_refl _)) (by have := hou.out; have := F4.out; simp; omega)
                      obtain ⟨ya, yc, hv, _⟩ := ro.row kyV_len
                      rw [List.length_append, List.length_singleton, ← hno.out] at hv
                      subst hv
                      have ra' : Hid ((Builtin.append_ #[22, 22] 22 #[.slice xa xn xc, .slice (some ⟨z2.heap.size, 0, none⟩) 1 1]).run Tryd.prog z3 = .ok (.slice ya (xn + 1) yc) z4) := ra
                      have HJ : Hid (RkI l w1 R (out ++ [(d, r, vb)]) i4 (.slice ya (xn + 1) yc) z4) := by
                        refine ⟨ro, (HS5.out.1.trans (hb3.mono HS5.out.1.size)).trans rb, ?_, ?_, ?_⟩
                        · exact rk_next hI.out.2.2.1 (by have := F4.out; omega) (by rw [hk4.out]; rfl) 
                        · have := hou.out; have := F4.out; rw [List.length_append, List.length_singleton]; omega
                        · have := F4.out; omega
                      clear hb3 hg3 ro rb ra HS5 hI hk4
                      go_wp2_with (at_builtin; refine wp_app _ rfl _ _ _ rfl rfl _ _ _ _ rfl rfl ra'.out ?_; clear ra' g0 g1 g2)
                      go_roundw
                      case rel => exact ⟨_, i4, xn + 1, ya, yc, rfl, by first | rfl | (simp; done) | (congr 1; omega), by rw [hno.out]; simp, F4.out.2.1, HJ⟩
                      case measure => have := F4.out; simp [intOf]; omega
                · have hee' : (eb != 0) = true := by simp [hee]
                  have hN : kF (l.drop i) = none := by rw [hkU'.out, if_neg (by simpa using hee)]
                  have Hf : Hid (R = none ∧ Below w.heap.size w z0) := ⟨HR.out.1 hN, HR.out.2 z0 HS4.out.1⟩
                  clear hN hkU' hIs HR hee HS4
                  go_wp2_with fail
                  go_ret2
                  exact ⟨Or.inr ⟨Hf.out.1, rfl⟩, Hf.out.2⟩
        · have hie : i = nl := by omega
          subst hie
          have k1 : ¬ (i : Int) < (i : Int) := by omega
          have Hf : Hid (R = some out ∧ GOwn 25 3 kyV wr w.heap.size (.slice xa xn xc) out ∧ Below w.heap.size w wr) := by
            obtain ⟨j1, j2, j3, _⟩ := hI.out
            refine ⟨?_, owns_base j1 HL.out.2.size, HL.out.2.trans (j2.mono HL.out.2.size)⟩
            rw [j3, ← hnl.out.1, List.drop_length, dkF_nil]
            simp
          clear hI hIs hU HL
          go_wp2_with fail
          go_ret2
          exact ⟨Or.inl ⟨_, _, Hf.out.1, rfl, Hf.out.2.1⟩, Hf.out.2.2⟩
  · subst hl0
    have hc' : (c1 != 0) = true := by simp [hc]
    have Hf : Hid (R = none ∧ Below w.heap.size w w1) := ⟨by rw [← hR'.out]; rfl, HL.out.2⟩
    clear hIs hU hc HL hR'
    go_wp2_with fail
    go_ret2
    exact ⟨Or.inr ⟨Hf.out.1, rfl⟩, Hf.out.2⟩
end Vr
end Go.Proofs.YtkiidlnimjjnlaaDoor

namespace Go.Proofs.YtkiidlnimjjnlaaDoor
namespace Vr
open Go.RowKit
set_option linter.unusedVariables false

theorem ne_key (k : Ky) (W : World) :
    (binOp .neq 25 (.agg #[.string k.1, .string k.2.1, .bool k.2.2]) (.agg #[.string k.1, .string k.2.1, .bool k.2.2])).run Tryd.prog W = .ok (.bool false) W := by
  have hS : Tryd.prog.underlying 25 = some (.struct (Tryd.prog.fieldsOf 25)) := by kernel_rfl
  have hp : Tryd.prog.stoodInHeld 25 = false := by kernel_rfl
  rw [run_neq_struct, run_equalIn_struct _ _ _ _ _ hS hp]
  simp only [Program.fieldsOf, Tryd.underlying25]
  simp [Op.eqFields, go_sem]
theorem key_at {w : World} {a : Option Addr} {ks : List Ky} (h : GRow 3 kyV w a ks) (i : Nat) (hi : i < ks.length) : ∃ b off, a = some ⟨b, off, none⟩ ∧ w.cell? ⟨b, off + i * 3, none⟩ = some (.string ks[i].1) ∧ w.cell? ⟨b, off + i * 3 + 1, none⟩ = some (.string ks[i].2.1) ∧ w.cell? ⟨b, off + i * 3 + 2, none⟩ = some (.bool ks[i].2.2) := by
  obtain ⟨b, off, e, h1⟩ := h i hi
  exact ⟨b, off, e, h1 0 (by omega), h1 1 (by omega), h1 2 (by omega)⟩
set_option maxRecDepth 100000 in
set_option maxHeartbeats 2000000 in
theorem sameKeys_any (l : List Ky) (a b : Option Addr) (c d : Nat) (w : World) (hl : l.length ≤ 1048577) (h1 : GRow 3 kyV w a l) (h2 : GRow 3 kyV w b l) :
    Calls Tryd.prog 7 #[.slice a l.length c, .slice b l.length d] w fun r w' => r = .returned (.bool true) ∧ Below w.heap.size w w' := by
  have hl' : Hid (l.length ≤ 1048577) := hl
  clear hl
  go_enter Tryd.func7, Tryd.ntmps7
  go_wp2_with fail
  go_loopw [5] (fun iv wr => ∃ (k q : Nat), k ≤ l.length ∧ iv = .int .i64 (k : Int) ∧ Hid (wr = w.drewN q)) (fun iv _ => l.length - (intOf iv).toNat)
  case atStart => exact ⟨0, 0, Nat.zero_le _, rfl, rfl⟩
  case round =>
    obtain ⟨k, q, hk, rfl, hw⟩ := hrel
    have k0 : (0 : Int) ≤ (k : Int) := Int.natCast_nonneg _
    by_cases hlt : k < l.length
    · have k1 : (k : Int) < (l.length : Int) := Int.ofNat_lt.2 hlt
      obtain ⟨b1, o1, rfl, x0, x1, x2⟩ := key_at h1 k hlt
      obtain ⟨b2, o2, rfl, y0, y1, y2⟩ := key_at h2 k hlt
      have hE : ∀ a, wr.cell? a = w.cell? a := fun a => by rw [hw.out]; rfl
      rw [← hE] at x0 x1 x2 y0 y1 y2
      have hnq := fun W => ne_key l[k] W
      have hkw : Hid (wrap64 ((k : Int) + 1) = (k : Int) + 1) := wr_up' k (by have := hl'.out; omega)
      have hlt' : Hid (k < l.length) := hlt
      generalize l[k] = X at *
      clear hE h1 h2 hlt hk
      go_wp2_with fail
      go_quiet (fail)
      go_wp2_with fail
      have hkw2 := hkw.out
      refine ⟨⟨k + 1, _, hlt'.out, congrArg (Value.int .i64) (by rw [hkw2]; omega), by unfold Hid; rw [hw.out, World.drewN_drewN]⟩, ?_⟩
      rw [hkw2]
      have := hlt'.out
      simp [intOf]
      omega
    · obtain rfl : k = l.length := by omega
      have k1 : ¬ (l.length : Int) < (l.length : Int) := by omega
      clear h1 h2
      go_wp2_with fail
      go_ret
      exact ⟨rfl, by rw [hw.out]; exact ⟨rfl, rfl, rfl, Nat.le_refl _, fun _ _ => rfl⟩⟩
theorem tk_true {f : Nd} {l : List Nd} (h : (tk f l).2.1 = true) : (tk f l).2.2.length + 1 = l.length := by
  cases l with
  | nil => simp [tk] at h
  | cons x r =>
    rw [tk_cons] at h ⊢
    split
    · rfl
    · rename_i hf
      rw [if_neg hf] at h
      cases h
theorem pg_three {l : List Nd} (h : l.length ≠ 3) : pgF l = none := by
  unfold pgF
  rw [if_neg]
  intro hc
  simp only [Bool.and_eq_true, decide_eq_true_eq] at hc
  obtain ⟨h1, h2, h3, h4, _⟩ := hc
  have a1 := tk_true h1
  have a2 := tk_true h2
  have a3 := tk_true h3
  rw [h4, List.length_nil] at a3
  omega
theorem pg_no0 {l : List Nd} (h : isB (nSeq 1) l 0 = false) : pgF l = none := by
  have e := isB_no h
  rw [List.drop_zero] at e
  unfold pgF
  rw [e]
  rfl
theorem pg_no1 {l : List Nd} (h0 : isB (nSeq 1) l 0 = true) (h : isB (nInt 2 ⟨#[]⟩) l 1 = false) : pgF l = none := by
  obtain ⟨hi, e⟩ := isB_yes h0
  have e1 := isB_no h
  rw [List.drop_zero] at e
  unfold pgF
  rw [e]
  dsimp only
  rw [if_neg]
  rw [show l.drop (0 + 1) = l.drop 1 from rfl, e1]
  simp
theorem pg_no2 {l : List Nd} (h0 : isB (nSeq 1) l 0 = true) (h1 : isB (nInt 2 ⟨#[]⟩) l 1 = true) (h : isB (nOct 2 ⟨#[]⟩) l 2 = false) : pgF l = none := by
  obtain ⟨hi, e⟩ := isB_yes h0
  obtain ⟨hi1, e1⟩ := isB_yes h1
  have e2 := isB_no h
  rw [List.drop_zero] at e
  unfold pgF
  rw [e]
  dsimp only
  rw [if_neg]
  rw [show l.drop (0 + 1) = l.drop 1 from rfl, e1]
  dsimp only
  rw [show l.drop (1 + 1) = l.drop 2 from rfl, e2]
  simp
theorem pg_yes {l : List Nd} (h3 : l.length = 3) (h0 : isB (nSeq 1) l 0 = true) (h1 : isB (nInt 2 ⟨#[]⟩) l 1 = true) (h2 : isB (nOct 2 ⟨#[]⟩) l 2 = true) : pgF l = if (decide (iE (l[1]'(by omega)).body = 0) && (!decide (iV (l[1]'(by omega)).body < 0) && !decide (2147483647 < iV (l[1]'(by omega)).body))) = true then some (iV (l[1]'(by omega)).body, (l[2]'(by omega)).body) else none := by
  obtain ⟨hi, e⟩ := isB_yes h0
  obtain ⟨hi1, e1⟩ := isB_yes h1
  obtain ⟨hi2, e2⟩ := isB_yes h2
  rw [List.drop_zero] at e
  unfold pgF
  rw [e]
  dsimp only
  rw [show l.drop (0 + 1) = l.drop 1 from rfl, e1]
  dsimp only
  rw [show l.drop (1 + 1) = l.drop 2 from rfl, e2]
  dsimp only
  rw [show l.drop (2 + 1) = [] from List.drop_eq_nil_of_le (by omega)]
  simp
set_option maxRecDepth 100000 in
set_option maxHeartbeats 8000000 in
theorem rDecodePage_any (s : ByteArray) (l : List Nd) (w : World) (hn : l.length ≤ 1048576) (hT : ∀ W, Calls Tryd.prog 25 #[.string s] W fun r w' => (∃ v c q, r = .returned (.tuple #[v, .int .i64 c, .int .i64 q]) ∧ OwnN w' W.heap.size v l ∧ (c = 0 ∨ c ≠ 0 ∧ l = [])) ∧ Below W.heap.size W w') :
    Calls Tryd.prog 12 #[.string s] w fun e w' => PdQ (pgF l) e ∧ Below w.heap.size w w' := by
  have hT' : Hid (Calls Tryd.prog 25 #[.string s] w fun r w' => (∃ v c q, r = .returned (.tuple #[v, .int .i64 c, .int .i64 q]) ∧ OwnN w' w.heap.size v l ∧ (c = 0 ∨ c ≠ 0 ∧ l = [])) ∧ Below w.heap.size w w') := hT w
  obtain ⟨R, hR⟩ : ∃ R, pgF l = R := ⟨_, rfl⟩
  rw [hR]
  have hR' : Hid (pgF l = R) := hR
  clear hR hT hn
  go_enter Tryd.func12, Tryd.ntmps12
  go_wp2_with fail
  refine hT'.out.mono ?_
  rintro e w1 ⟨⟨v1, c1, p1, rfl, hov, hc⟩, hb1⟩
  obtain ⟨la, lc, rfl, hrow⟩ := ownN_any hov
  have HL : Hid (NdRow w1 la l ∧ Below w.heap.size w w1) := ⟨hrow, hb1⟩
  clear hT' hov hrow hb1
  rcases hc with rfl | ⟨hc, hl0⟩
  · by_cases h3 : l.length = 3
    · have hIs : Hid (∀ (f : Nd) (x : Int) (i : Nat), x = (i : Int) → Calls Tryd.prog 26 #[.slice la 3 lc, .int .i64 x, .int .i64 f.dep, .int .i64 f.cls, .int .i64 f.tag, .bool f.made] w1 fun e w' => e = .returned (.bool (isB f l i)) ∧ w' = w1) := fun f x i hx => by have := is_any f l x i hx la lc w1 HL.out.1; rw [h3] at this; exact this
      rw [h3]
      have h3' : Hid (l.length = 3) := h3
      clear h3
      have C0 : Hid (Calls Tryd.prog 26 #[.slice la 3 lc, .int .i64 0, .int .i64 1, .int .i64 0, .int .i64 16, .bool true] w1 fun e w' => e = .returned (.bool (isB (nSeq 1) l 0)) ∧ w' = w1) := hIs.out (nSeq 1) 0 0 rfl
      have C1 : Hid (Calls Tryd.prog 26 #[.slice la 3 lc, .int .i64 1, .int .i64 2, .int .i64 0, .int .i64 2, .bool false] w1 fun e w' => e = .returned (.bool (isB (nInt 2 ⟨#[]⟩) l 1)) ∧ w' = w1) := hIs.out (nInt 2 ⟨#[]⟩) 1 1 rfl
      have C2 : Hid (Calls Tryd.prog 26 #[.slice la 3 lc, .int .i64 2, .int .i64 2, .int .i64 0, .int .i64 4, .bool false] w1 fun e w' => e = .returned (.bool (isB (nOct 2 ⟨#[]⟩) l 2)) ∧ w' = w1) := hIs.out (nOct 2 ⟨#[]⟩) 2 2 rfl
      obtain ⟨b0, hb0⟩ : ∃ b, isB (nSeq 1) l 0 = b := ⟨_, rfl⟩
      obtain ⟨b1, hb1⟩ : ∃ b, isB (nInt 2 ⟨#[]⟩) l 1 = b := ⟨_, rfl⟩
      obtain ⟨b2, hb2⟩ : ∃ b, isB (nOct 2 ⟨#[]⟩) l 2 = b := ⟨_, rfl⟩
      rw [hb0] at C0
      rw [hb1] at C1
      rw [hb2] at C2
      have HB : Hid (isB (nSeq 1) l 0 = b0 ∧ isB (nInt 2 ⟨#[]⟩) l 1 = b1 ∧ isB (nOct 2 ⟨#[]⟩) l 2 = b2) := ⟨hb0, hb1, hb2⟩
      clear hb0 hb1 hb2 hIs
      go_wp2_with fail
      refine C0.out.mono ?_
      rintro e y0 ⟨rfl, rfl⟩
      clear C0
      cases b0 with
      | false =>
        have Hf : Hid (R = none ∧ Below w.heap.size w y0) := ⟨by rw [← hR'.out]; exact pg_no0 HB.out.1, HL.out.2⟩
        clear C1 C2
        go_wp2_with fail
        go_ret3
        exact ⟨Or.inr ⟨Hf.out.1, rfl⟩, Hf.out.2⟩
      | true =>
      go_wp2_with fail
      refine C1.out.mono ?_
      rintro e y1 ⟨rfl, rfl⟩
      clear C1
      cases b1 with
      | false =>
        have Hf : Hid (R = none ∧ Below w.heap.size w y1) := ⟨by rw [← hR'.out]; exact pg_no1 HB.out.1 HB.out.2.1, HL.out.2⟩
        clear C2
        go_wp2_with fail
        go_ret3
        exact ⟨Or.inr ⟨Hf.out.1, rfl⟩, Hf.out.2⟩
      | true =>
      go_wp2_with fail
      refine C2.out.mono ?_
      rintro e y2 ⟨rfl, rfl⟩
      clear C2
      cases b2 with
      | false =>
        have Hf : Hid (R = none ∧ Below w.heap.size w y2) := ⟨by rw [← hR'.out]; exact pg_no2 HB.out.1 HB.out.2.1 HB.out.2.2, HL.out.2⟩
        go_wp2_with fail
        go_ret3
        exact ⟨Or.inr ⟨Hf.out.1, rfl⟩, Hf.out.2⟩
      | true =>
      have hP := pg_yes h3'.out HB.out.1 HB.out.2.1 HB.out.2.2
      have hz3 := h3'.out
      obtain ⟨lb, lo, hla0⟩ := nd_addr HL.out.1 1 (by omega)
      subst hla0
      have x1 := nd_body HL.out.1 1 (by omega)
      have x2 := nd_body HL.out.1 2 (by omega)
      obtain ⟨nb, hnb⟩ : ∃ t, (l[1]'(by omega)).body = t := ⟨_, rfl⟩
      obtain ⟨cb, hcb⟩ : ∃ t, (l[2]'(by omega)).body = t := ⟨_, rfl⟩
      rw [hnb] at x1 hP
      rw [hcb] at x2 hP
      have hN : Hid (∀ W, Calls Tryd.prog 35 #[.string nb] W fun r w' => r = .returned (.tuple #[.int .i64 (iV nb), .int .i64 (iE nb)]) ∧ Below W.heap.size W w') := fun W => by have := refInt_any nb W; rw [intV_eq] at this; exact this
      generalize iV nb = nv at hP hN
      generalize iE nb = ne at hP hN
      have HP : Hid (R = if (decide (ne = 0) && (!decide (nv < 0) && !decide (2147483647 < nv))) = true then some (nv, cb) else none) := by unfold Hid; rw [← hR'.out]; exact hP
      clear hP hnb hcb hz3 hR' HB h3'
      go_wp2_with fail
      refine (hN.out _).mono ?_
      rintro e y3 ⟨rfl, hb3⟩
      have H3 : Hid (Below w.heap.size w y3) := HL.out.2.trans (hb3.mono HL.out.2.size)
      have x2' : y3.cell? ⟨lb, lo + 2 * 5 + 4, none⟩ = some (.string cb) := (hb3.cell (World.block_lt_of_cell? y2 _ x2)).trans x2
      clear hN hb3 x1 x2 HL
      by_cases n1 : ne = 0
      · subst n1
        by_cases n2 : nv < 0
        · have HF : Hid (R = none) := by unfold Hid; rw [HP.out, decide_eq_true n2]; rfl
          clear HP
          go_wp2_with fail
          go_ret3
          exact ⟨Or.inr ⟨HF.out, rfl⟩, H3.out⟩
        · by_cases n3 : 2147483647 < nv
          · have HF : Hid (R = none) := by unfold Hid; rw [HP.out, decide_eq_true n3, decide_eq_false n2]; rfl
            clear HP
            go_wp2_with fail
            go_ret3
            exact ⟨Or.inr ⟨HF.out, rfl⟩, H3.out⟩
          · have HF : Hid (R = some (nv, cb)) := by unfold Hid; rw [HP.out, decide_eq_false n3, decide_eq_false n2]; rfl
            clear HP
            go_wp2_with fail
            go_quiet (fail)
            go_wp2_with fail
            go_ret3
            exact ⟨Or.inl ⟨nv, cb, HF.out, rfl⟩, H3.out.trans ⟨rfl, rfl, rfl, Nat.le_refl _, fun _ _ => rfl⟩⟩
      · have n1' : (ne != 0) = true := by simp [n1]
        have HF : Hid (R = none) := by unfold Hid; rw [HP.out, decide_eq_false n1]; rfl
        clear HP n1
        go_wp2_with fail
        go_ret3
        exact ⟨Or.inr ⟨HF.out, rfl⟩, H3.out⟩
    · have Hf : Hid (R = none ∧ Below w.heap.size w w1) := ⟨by rw [← hR'.out]; exact pg_three h3, HL.out.2⟩
      have h3' : (((l.length : Nat) : Int) != 3) = true := by simp; omega
      clear h3 HL hR'
      generalize l.length = nl at *
      go_wp2_with fail
      go_ret3
      exact ⟨Or.inr ⟨Hf.out.1, rfl⟩, Hf.out.2⟩
  · subst hl0
    have hc' : (c1 != 0) = true := by simp [hc]
    have Hf : Hid (R = none ∧ Below w.heap.size w w1) := ⟨by rw [← hR'.out]; rfl, HL.out.2⟩
    clear hc HL hR'
    go_wp2_with fail
    go_ret3
    exact ⟨Or.inr ⟨Hf.out.1, rfl⟩, Hf.out.2⟩
set_option maxRecDepth 100000 in
set_option maxHeartbeats 2000000 in
theorem keysCopy_any (ks : List Ky) (a : Option Addr) (c : Nat) (w : World) (hk : GRow 3 kyV w a ks) (hn : ks.length ≤ 1048576) :
    Calls Tryd.prog 4 #[.slice a ks.length c] w fun e w' => (∃ v, e = .returned v ∧ GOwn 25 3 kyV w' w.heap.size v ks) ∧ Below w.heap.size w w' := by
  obtain ⟨v', w', e1, o1, _, b1⟩ := append_gen KDk w w.heap.size (.slice none 0 0) [] ks a ks.length c (GOwn.nil _ _ _ _ _) hk rfl (Nat.le_refl _) (by simp; omega)
  have e1' : Hid ((Builtin.append_ #[22, 22] 22 #[.slice none 0 0, .slice a ks.length c]).run Tryd.prog w = .ok v' w') := e1
  have H : Hid (GOwn 25 3 kyV w' w.heap.size v' ks ∧ Below w.heap.size w w') := ⟨o1, b1⟩
  clear e1 o1 b1 hk hn
  generalize ks.length = n at *
  go_enter Tryd.func4, Tryd.ntmps4
  go_wp2_with (at_builtin; refine wp_app _ rfl _ _ _ rfl rfl _ _ _ _ rfl rfl e1'.out ?_; clear e1')
  go_ret
  exact ⟨⟨_, rfl, H.out.1⟩, H.out.2⟩
end Vr
end Go.Proofs.YtkiidlnimjjnlaaDoor

namespace Go.Proofs.YtkiidlnimjjnlaaDoor
namespace Vr
open Go.RowKit
open BerMath (El)
set_option linter.unusedVariables false

theorem tr_small (s : ByteArray) : (tr s).1.length ≤ s.size := by
  unfold tr
  cases hw : BerMath.wAt s.data.toList 0 s.size with
  | ok x =>
    obtain ⟨k1, k2, k3, k4, k5, k6⟩ := BerMath.wAt_ok _ _ _ _ hw
    by_cases hm : x.made = true
    · rw [BerMath.one_made _ _ _ _ _ _ x (by decide) hw hm]
      obtain ⟨i1, i2⟩ := BerMath.kids_len s.data.toList s.size (0 + x.size + x.len) (0 + x.size) (1 + 1) (by omega)
      simp only [List.length_cons]
      omega
    · rw [BerMath.one_leaf _ _ _ _ _ _ x (by decide) hw hm]
      simp only [List.length_cons, List.length_nil]
      omega
  | error o =>
    cases o with
    | some f => rw [BerMath.one_er _ _ _ _ _ _ f (by decide) hw]; exact Nat.zero_le _
    | none => rw [BerMath.one_miss _ _ _ _ _ _ (by decide) hw]; exact Nat.zero_le _
/-- The nodes of a value; of none, if it is no element. -/
def trL (s : ByteArray) : List Nd := match treeR s with
  | .ok xs => xs.map (ndOf s)
  | .error _ => []
theorem trL_len (s : ByteArray) : (trL s).length ≤ s.size := by
  unfold trL treeR
  split
  · rename_i xs h
    split at h
    · cases h
    · split at h
      · cases h
      · injection h with h
        subst h
        rw [List.length_map]
        exact tr_small s
  · exact Nat.zero_le _
theorem trL_body (s : ByteArray) (hs : s.size ≤ 1048576) : ∀ e ∈ trL s, e.body.size ≤ 1048576 := by
  intro e he
  unfold trL at he
  split at he
  · obtain ⟨x, _, rfl⟩ := List.mem_map.1 he
    unfold ndOf
    dsimp only
    split
    · exact Nat.zero_le _
    · rw [ByteArray.size_extract]
      omega
  · simp at he
theorem tree_p (s : ByteArray) (hs : s.size ≤ 1048576) (W : World) : Calls Tryd.prog 43 #[.string s] W fun r w' => (∃ v q1 q2, r = .returned (.tuple #[v, .int .i64 q1, .int .i64 q2]) ∧ OwnN w' W.heap.size v (trL s)) ∧ Below W.heap.size W w' := by
  refine (tree_any s W (Nat.le_trans hs (by decide))).mono ?_
  rintro r w' ⟨hq, hb⟩
  refine ⟨?_, hb⟩
  unfold trL
  rcases hq with ⟨ys, v, e1, e2, e3⟩ | ⟨g, e1, e2⟩
  · rw [e1]; exact ⟨v, 0, 0, e2, e3⟩
  · rw [e1]; exact ⟨_, _, _, e2, ownN_nil _ _⟩
theorem tree_r (s : ByteArray) (hs : s.size ≤ 1048576) (W : World) : Calls Tryd.prog 25 #[.string s] W fun r w' => (∃ v c q, r = .returned (.tuple #[v, .int .i64 c, .int .i64 q]) ∧ OwnN w' W.heap.size v (trL s) ∧ (c = 0 ∨ c ≠ 0 ∧ trL s = [])) ∧ Below W.heap.size W w' := by
  refine (BrM.rtree_any s W (Nat.le_trans hs (by decide))).mono ?_
  rintro r w' ⟨hq, hb⟩
  refine ⟨?_, hb⟩
  unfold trL
  rcases hq with ⟨ys, v, e1, e2, e3⟩ | ⟨g, e1, e2⟩
  · rw [e1]; exact ⟨v, 0, 0, e2, e3, Or.inl rfl⟩
  · rw [e1]
    have := treeR_code s g e1
    exact ⟨_, _, _, e2, ownN_nil _ _, Or.inr ⟨by omega, rfl⟩⟩
/-- Both of them write the same, of keys and of a page. -/
def EkR (ks : List Ky) (x : ByteArray) (c : Int) : Prop := (allU ks = true ∧ c = 0 ∧ Wrt x (kNs ks)) ∨ (allU ks = false ∧ c = 224 ∧ x = ⟨#[]⟩)
theorem ekR_of {ks : List Ky} {e : Ending} (h : EkQ ks e) : ∃ x c, e = .returned (.tuple #[.string x, .int .i64 c]) ∧ EkR ks x c := by
  rcases h with ⟨h1, X, rfl, h2⟩ | ⟨h1, rfl⟩
  · exact ⟨X, 0, rfl, Or.inl ⟨h1, rfl, h2⟩⟩
  · exact ⟨_, 224, rfl, Or.inr ⟨h1, rfl, rfl⟩⟩
theorem ekR_one {ks : List Ky} {x y : ByteArray} {c d : Int} (hs : wts (kNs ks) ≤ 67108864) (h : EkR ks x c) (h' : EkR ks y d) : x = y ∧ c = d := by
  rcases h with ⟨h1, rfl, h2⟩ | ⟨h1, rfl, rfl⟩
  · rcases h' with ⟨_, rfl, h4⟩ | ⟨h3, _⟩
    · exact ⟨wrt_one hs h2 h4, rfl⟩
    · rw [h1] at h3; cases h3
  · rcases h' with ⟨h3, _⟩ | ⟨_, rfl, rfl⟩
    · rw [h1] at h3; cases h3
    · exact ⟨rfl, rfl⟩
/-- What EncodePage answers, of either. -/
def EpR (n : Int) (ck x : ByteArray) (c : Int) : Prop := ((0 ≤ n ∧ n ≤ 2147483647) ∧ c = 0 ∧ Wrt x (pN (eB n) ck)) ∨ (¬ (0 ≤ n ∧ n ≤ 2147483647) ∧ c = 224 ∧ x = ⟨#[]⟩)
theorem epR_one {n : Int} {ck x y : ByteArray} {c d : Int} (hc : ck.size ≤ 1048576) (h : EpR n ck x c) (h' : EpR n ck y d) : x = y ∧ c = d := by
  rcases h with ⟨h1, rfl, h2⟩ | ⟨h1, rfl, rfl⟩
  · rcases h' with ⟨_, rfl, h4⟩ | ⟨h3, _⟩
    · exact ⟨wrt_one (wts_page n ck hc) h2 h4, rfl⟩
    · exact absurd h1 h3
  · rcases h' with ⟨h3, _⟩ | ⟨_, rfl, rfl⟩
    · exact absurd h3 h1
    · exact ⟨rfl, rfl⟩
theorem encodePage_all (n : Int) (ck : ByteArray) (hc : ck.size ≤ 1048576) (w : World) : Calls Tryd.prog 11 #[.int .i64 n, .string ck] w fun e w' => (∃ x c, e = .returned (.tuple #[.string x, .int .i64 c]) ∧ EpR n ck x c) ∧ Below w.heap.size w w' := by
  by_cases h : 0 ≤ n ∧ n ≤ 2147483647
  · refine (encodePage_ok n ck w h.1 h.2 hc).mono ?_
    rintro e w' ⟨⟨X, rfl, hX⟩, hb⟩
    exact ⟨⟨X, 0, rfl, Or.inl ⟨h, rfl, hX⟩⟩, hb⟩
  · refine (encodePage_no n ck w (by omega)).mono ?_
    rintro e w' ⟨rfl, hb⟩
    exact ⟨⟨_, 224, rfl, Or.inr ⟨h, rfl, rfl⟩⟩, hb⟩
theorem rEncodePage_all (n : Int) (ck : ByteArray) (hc : ck.size ≤ 1048576) (w : World) : Calls Tryd.prog 10 #[.int .i64 n, .string ck] w fun e w' => (∃ x c, e = .returned (.tuple #[.string x, .int .i64 c]) ∧ EpR n ck x c) ∧ Below w.heap.size w w' := by
  by_cases h : 0 ≤ n ∧ n ≤ 2147483647
  · refine (rEncodePage_ok n ck w h.1 h.2 hc).mono ?_
    rintro e w' ⟨⟨X, rfl, hX⟩, hb⟩
    exact ⟨⟨X, 0, rfl, Or.inl ⟨h, rfl, hX⟩⟩, hb⟩
  · refine (rEncodePage_no n ck w (by omega)).mono ?_
    rintro e w' ⟨rfl, hb⟩
    exact ⟨⟨_, 224, rfl, Or.inr ⟨h, rfl, rfl⟩⟩, hb⟩
/-- What DecodeKeys answers, a list and a number. -/
def DkR (R : Option (List Ky)) (w : World) (v : Value) (c : Int) (w' : World) : Prop := GOwn 25 3 kyV w' w.heap.size v (R.getD []) ∧ c = (if R.isSome = true then 0 else 224)
theorem dkR_of {R : Option (List Ky)} {w w' : World} {e : Ending} (h : DkQ R w e w') : (∃ v c, e = .returned (.tuple #[v, .int .i64 c]) ∧ DkR R w v c w') ∧ Below w.heap.size w w' := by
  obtain ⟨h, hb⟩ := h
  refine ⟨?_, hb⟩
  rcases h with ⟨ks, v, rfl, rfl, h3⟩ | ⟨rfl, rfl⟩
  · exact ⟨v, 0, rfl, h3, rfl⟩
  · exact ⟨_, 224, rfl, GOwn.nil _ _ _ _ _, rfl⟩
/-- What DecodePage answers. -/
def pdN (R : Option (Int × ByteArray)) : Int := (R.getD (0, ⟨#[]⟩)).1
def pdC (R : Option (Int × ByteArray)) : ByteArray := (R.getD (0, ⟨#[]⟩)).2
def pdE (R : Option (Int × ByteArray)) : Int := if R.isSome = true then 0 else 224
theorem pdR_of {R : Option (Int × ByteArray)} {e : Ending} (h : PdQ R e) : e = .returned (.tuple #[.int .i64 (pdN R), .string (pdC R), .int .i64 (pdE R)]) := by
  rcases h with ⟨n, c, rfl, rfl⟩ | ⟨rfl, rfl⟩ <;> rfl
abbrev oneV : ByteArray := ⟨#[48, 129, 6, 48, 4, 4, 2, 99, 110]⟩
abbrev cnB : ByteArray := ⟨#[99, 110]⟩
set_option maxRecDepth 100000 in
theorem one_dk : dkP (trL oneV) = some [(cnB, ⟨#[]⟩, false)] := by kernel_rfl
theorem dkF_len : ∀ (n : Nat) (l : List Nd) (ks : List Ky), dkF n l = some ks → ks.length ≤ l.length := by
  intro n
  induction n with
  | zero =>
    intro l ks h
    unfold dkF at h
    split at h
    · injection h with h; subst h; exact Nat.zero_le _
    · cases h
  | succ n ih =>
    intro l ks h
    by_cases hl : l = []
    · subst hl
      rw [dkF_nil] at h
      injection h with h
      subst h
      exact Nat.zero_le _
    · cases hk : kF l with
      | none => rw [dkF_none _ _ hl hk] at h; cases h
      | some p =>
        obtain ⟨k, l'⟩ := p
        rw [dkF_some n l l' k hl hk] at h
        obtain ⟨ks', h1, h2⟩ := Option.map_eq_some_iff.1 h
        subst h2
        have := ih l' ks' h1
        have := (kF_some hk).1
        rw [List.length_cons]
        omega
theorem dkP_len (s : ByteArray) (hs : s.size ≤ 1048576) : ((dkP (trL s)).getD []).length ≤ 1048577 := by
  cases h : dkP (trL s) with
  | none => exact Nat.zero_le _
  | some ks =>
    unfold dkP at h
    split at h
    · have h1 := dkF_len _ _ _ h
      have h2 := (tk_len (nSeq 1) (trL s)).1
      have h3 := trL_len s
      show ks.length ≤ 1048577
      omega
    · cases h
abbrev spB : ByteArray := ⟨#[115, 112, 97, 114, 101]⟩
end Vr
end Go.Proofs.YtkiidlnimjjnlaaDoor
