import Derived.Test.YtgdinncdhjeokaaGreatDoorFPLn
import Derived.Test.YtgdinncdhjeokaaGreatDoorBaseMath
import Derived.Test.YtgdinncdhjeokaaGreatDoorFRdKL
import Derived.Test.YtgdinncdhjeokaaGreatDoorFBase
import Derived.BigQuiet
namespace Go.Proofs.YtgdinncdhjeokaaGreatDoor
namespace Rd
open TextMath (b64 fold unb grp al)
open LdMath
open Lr (PR RC pf chg okD dnB)
set_option linter.unusedVariables false
set_option maxRecDepth 100000

theorem phR_no : ∀ (l : List UInt8) (n : Nat) (acc : List UInt8), 10 ∉ l → phR n acc l = if acc ++ l = [] then [] else [(n, acc ++ l)]
  | [], n, acc, _ => by rw [phR, List.append_nil]
  | c :: l, n, acc, h => by
    have hc : ¬ c = 10 := fun e => h (by rw [e]; exact List.mem_cons_self)
    rw [phR, if_neg hc, phR_no l n _ (fun h' => h (List.mem_cons_of_mem _ h')), List.append_assoc]
    rfl
theorem phR_line : ∀ (l r : List UInt8) (n : Nat) (acc : List UInt8), 10 ∉ l → phR n acc (l ++ 10 :: r) = (n, trimCR (acc ++ l)) :: phR (n + 1) [] r
  | [], r, n, acc, _ => by rw [List.nil_append, phR, if_pos rfl, List.append_nil]
  | c :: l, r, n, acc, h => by
    have hc : ¬ c = 10 := fun e => h (by rw [e]; exact List.mem_cons_self)
    rw [List.cons_append, phR, if_neg hc, phR_line l r n _ (fun h' => h (List.mem_cons_of_mem _ h')), List.append_assoc]
    rfl
/-- Bytes that no text of base64 holds. -/
def gb (b : UInt8) : Prop := b ≠ 10 ∧ b ≠ 13 ∧ b ≠ 32
theorem gb_al (n : Nat) (h : n < 64) : gb (al n) := by
  have h1 := TextMath.al_toNat n h
  refine ⟨?_, ?_, ?_⟩
  all_goals
    intro e
    rw [e] at h1
    revert h1
    simp only [UInt8.reduceToNat]
    repeat' split
    all_goals omega
theorem gb_pad : gb 61 := by unfold gb; decide
theorem gb_grp : ∀ l : List UInt8, ∀ b ∈ grp l, gb b := by
  intro l b hb
  unfold grp at hb
  split at hb
  · rename_i x
    have := x.toNat_lt
    simp only [List.mem_cons, List.mem_nil_iff, or_false] at hb
    rcases hb with rfl | rfl | rfl | rfl
    · exact gb_al _ (by omega)
    · exact gb_al _ (by omega)
    · exact gb_pad
    · exact gb_pad
  · rename_i x y
    have := x.toNat_lt
    have := y.toNat_lt
    simp only [List.mem_cons, List.mem_nil_iff, or_false] at hb
    rcases hb with rfl | rfl | rfl | rfl
    · exact gb_al _ (by omega)
    · exact gb_al _ (by omega)
    · exact gb_al _ (by omega)
    · exact gb_pad
  · rename_i x y z
    have := x.toNat_lt
    have := y.toNat_lt
    have := z.toNat_lt
    simp only [List.mem_cons, List.mem_nil_iff, or_false] at hb
    rcases hb with rfl | rfl | rfl | rfl
    · exact gb_al _ (by omega)
    · exact gb_al _ (by omega)
    · exact gb_al _ (by omega)
    · exact gb_al _ (by omega)
  · simp at hb
theorem gb_b64 : ∀ l : List UInt8, ∀ b ∈ b64 l, gb b
  | [], b, hb => by simp [b64] at hb
  | [x], b, hb => by unfold b64 at hb; exact gb_grp _ b hb
  | [x, y], b, hb => by unfold b64 at hb; exact gb_grp _ b hb
  | x :: y :: z :: t, b, hb => by
    unfold b64 at hb
    rcases List.mem_append.1 hb with h | h
    · exact gb_grp _ b h
    · exact gb_b64 t b h
theorem skip_b64 (v : List UInt8) : skipS (32 :: b64 v) = b64 v := by
  unfold skipS
  rw [List.dropWhile_cons, if_pos (by decide)]
  have h := gb_b64 v
  generalize b64 v = x at h
  cases x with
  | nil => rfl
  | cons c x => rw [List.dropWhile_cons, if_neg (by have := (h c List.mem_cons_self).2.2; simpa using this)]
/-- The texts of LdifRaw. -/
def L1 : List UInt8 := [118, 101, 114, 115, 105, 111, 110, 58, 32, 49]
def L3 : List UInt8 := [100, 110, 58, 32, 111, 61, 120]
def L4 : List UInt8 := [111, 58, 32, 120]
def L5 (w : List UInt8) : List UInt8 := 99 :: 110 :: 58 :: 32 :: w
def rawA (w : List UInt8) : List UInt8 := L1 ++ 10 :: ([] ++ 10 :: (L3 ++ 10 :: (L4 ++ 10 :: L5 w)))
def M3 (v : List UInt8) : List UInt8 := 100 :: 110 :: 58 :: 58 :: 32 :: b64 v
def M4 (v : List UInt8) : List UInt8 := 67 :: 78 :: 59 :: 120 :: 58 :: 58 :: 32 :: b64 v
def rawB (v : List UInt8) : List UInt8 := L1 ++ 10 :: ([] ++ 10 :: (M3 v ++ 10 :: (M4 v ++ 10 :: [])))
theorem physA (w : List UInt8) (h10 : 10 ∉ w) : phys (rawA w) = [(1, L1), (2, []), (3, L3), (4, L4), (5, L5 w)] := by
  rw [phys_eq]
  unfold rawA
  have h5 : 10 ∉ L5 w := by unfold L5; simp [h10]
  rw [phR_line L1 _ _ _ (by decide), phR_line [] _ _ _ (by decide), phR_line L3 _ _ _ (by decide), phR_line L4 _ _ _ (by decide), phR_no _ _ _ h5]
  rw [if_neg (by unfold L5; simp)]
  simp only [List.nil_append]
  rw [trim_no L1 (by decide), trim_no [] (by decide), trim_no L3 (by decide), trim_no L4 (by decide)]
theorem nB (v : List UInt8) : (10 ∉ M3 v ∧ 13 ∉ M3 v) ∧ 10 ∉ M4 v ∧ 13 ∉ M4 v := by
  have h1 : 10 ∉ b64 v := fun h => (gb_b64 v _ h).1 rfl
  have h2 : 13 ∉ b64 v := fun h => (gb_b64 v _ h).2.1 rfl
  unfold M3 M4
  simp [h1, h2]
theorem physB (v : List UInt8) : phys (rawB v) = [(1, L1), (2, []), (3, M3 v), (4, M4 v)] := by
  obtain ⟨⟨h1, h2⟩, h3, h4⟩ := nB v
  rw [phys_eq]
  unfold rawB
  rw [phR_line L1 _ _ _ (by decide), phR_line [] _ _ _ (by decide), phR_line _ _ _ _ h1, phR_line _ _ _ _ h3, phR_no _ _ _ (by decide)]
  rw [if_pos (by simp)]
  simp only [List.nil_append]
  rw [trim_no L1 (by decide), trim_no [] (by decide), trim_no _ h2, trim_no _ h4]
theorem flt_no (a x : List UInt8) (h : 13 ∉ x) (hg : goes x = false) : flt a x = none := by
  unfold flt
  rw [if_neg (by simpa using h), hg]
  rfl
theorem ferr_no (l : List (Nat × List UInt8)) : ∀ a, (∀ p ∈ l, 13 ∉ p.2 ∧ goes p.2 = false) → ferr a l = none := by
  induction l with
  | nil => intro a _; rfl
  | cons x l ih =>
    intro a h
    have hx := h x List.mem_cons_self
    rw [ferr, flt_no a x.2 hx.1 hx.2]
    exact ih _ (fun p hp => h p (List.mem_cons_of_mem _ hp))
theorem joinS_no (l : List (Nat × List UInt8)) : (∀ p ∈ l, goes p.2 = false) → joinS l = l := by
  induction l using snocInd with
  | nil => intro _; rfl
  | append_singleton pre x ih =>
    intro h
    rw [joinS_new pre x (h x (by simp)), ih (fun p hp => h p (List.mem_append_left _ hp))]
theorem rdT_no (b : List UInt8) (l : List (Nat × List UInt8)) (hp : phys b = l) (h : ∀ p ∈ l, 13 ∉ p.2 ∧ goes p.2 = false) : rdT b = rdL (l.length + 1) st0 l := by
  unfold rdT
  rw [hp, ferr_no l [] h, joinS_no l (fun p hp => (h p hp).2)]
/-- What is read. -/
theorem rdA (w : List UInt8) (h10 : 10 ∉ w) (h13 : 13 ∉ w) : rdT (rawA w) = if safe (skipS w) then ([(3, [111, 61, 120], [([111], [120]), ([99, 110], skipS w)])], 0, 0) else ([], 76, 5) := by
  rw [rdT_no _ _ (physA w h10) (by
    intro p hp
    simp only [List.mem_cons, List.mem_nil_iff, or_false] at hp
    rcases hp with rfl | rfl | rfl | rfl | rfl
    · decide
    · decide
    · decide
    · decide
    · refine ⟨?_, rfl⟩
      show 13 ∉ L5 w
      unfold L5
      simp [h13])]
  have t1 : takeF st0 L1 = 0 ∧ takeS st0 1 L1 = (1, 0, [], []) := by decide
  have t3 : takeF (1, 0, [], []) L3 = 0 ∧ takeS (1, 0, [], []) 3 L3 = (3, 3, [111, 61, 120], []) := by decide
  have t4 : takeF (3, 3, [111, 61, 120], []) L4 = 0 ∧ takeS (3, 3, [111, 61, 120], []) 4 L4 = (4, 3, [111, 61, 120], [([111], [120])]) := by decide
  have w5 : wordOf (L5 w) = [99, 110] := by unfold wordOf L5; simp
  have r5 : restOf (L5 w) = 32 :: w := by unfold restOf L5; simp
  have v5 : valOf (32 :: w) = if safe (skipS w) then (skipS w, 0) else ([], 76) := by
    unfold valOf
    have e : skipS (32 :: w) = skipS w := rfl
    rw [if_neg (by simp), if_neg (by simp), e]
  have f5 : takeF (4, 3, [111, 61, 120], [([111], [120])]) (L5 w) = if safe (skipS w) then 0 else 76 := by
    unfold takeF
    rw [w5, r5, v5, if_neg (by decide), if_neg (by decide), if_neg (by decide)]
    split <;> rfl
  have s5 : takeS (4, 3, [111, 61, 120], [([111], [120])]) 5 (L5 w) = (4, 3, [111, 61, 120], [([111], [120]), ([99, 110], (valOf (32 :: w)).1)]) := by
    unfold takeS
    rw [w5, r5, if_neg (by decide), if_neg (by decide)]
    rfl
  rw [rdL, if_neg (by decide), if_pos (by decide), if_pos t1.1, t1.2]
  rw [rdL, if_neg (by decide), if_neg (by decide), if_neg (by decide), if_neg (by decide)]
  rw [rdL, if_neg (by decide), if_pos (by decide), if_pos t3.1, t3.2]
  rw [rdL, if_neg (by decide), if_pos (by decide), if_pos t4.1, t4.2]
  rw [rdL, if_neg (by unfold L5; simp), if_pos (by unfold L5; simp), f5, s5, v5]
  by_cases hs : safe (skipS w) = true
  · rw [if_pos hs, if_pos hs, if_pos hs, if_pos rfl]
    rfl
  · rw [if_neg hs, if_neg hs, if_neg hs, if_neg (by decide)]
theorem rdB (v : List UInt8) : rdT (rawB v) = ([(3, v, [([67, 78, 59, 120], v)])], 0, 0) := by
  obtain ⟨⟨h1, h2⟩, h3, h4⟩ := nB v
  rw [rdT_no _ _ (physB v) (by
    intro p hp
    simp only [List.mem_cons, List.mem_nil_iff, or_false] at hp
    rcases hp with rfl | rfl | rfl | rfl
    · decide
    · decide
    · exact ⟨h2, rfl⟩
    · exact ⟨h4, rfl⟩)]
  have t1 : takeF st0 L1 = 0 ∧ takeS st0 1 L1 = (1, 0, [], []) := by decide
  have vv : valOf (58 :: 32 :: b64 v) = (v, 0) := by
    unfold valOf
    rw [if_neg (by simp), if_pos (by rfl)]
    show (match unb (skipS (32 :: b64 v)) 0 with | .ok v => (v, 0) | .error _ => ([], 76)) = (v, 0)
    rw [skip_b64, TextMath.unb_b64]
  have w3 : wordOf (M3 v) = [100, 110] := by unfold wordOf M3; simp
  have r3 : restOf (M3 v) = 58 :: 32 :: b64 v := by unfold restOf M3; simp
  have w4 : wordOf (M4 v) = [67, 78, 59, 120] := by unfold wordOf M4; simp
  have r4 : restOf (M4 v) = 58 :: 32 :: b64 v := by unfold restOf M4; simp
  have t3 : takeF (1, 0, [], []) (M3 v) = 0 ∧ takeS (1, 0, [], []) 3 (M3 v) = (3, 3, v, []) := by
    unfold takeF takeS
    rw [w3, r3, vv]
    refine ⟨?_, ?_⟩
    · rw [if_neg (by decide), if_neg (by decide), if_pos (by decide), if_pos rfl]
    · rw [if_neg (by decide), if_pos (by decide)]
  have t4 : takeF (3, 3, v, []) (M4 v) = 0 ∧ takeS (3, 3, v, []) 4 (M4 v) = (4, 3, v, [([67, 78, 59, 120], v)]) := by
    unfold takeF takeS
    rw [w4, r4, vv]
    refine ⟨?_, ?_⟩
    · rw [if_neg (by show ¬ wfl 3 [67, 78, 59, 120] ≠ 0; decide), if_neg (by simp), if_neg (by simp)]
    · rw [if_neg (by simp), if_neg (by simp)]
      rfl
  rw [rdL, if_neg (by decide), if_pos (by decide), if_pos t1.1, t1.2]
  rw [rdL, if_neg (by decide), if_neg (by decide), if_neg (by decide), if_neg (by decide)]
  rw [rdL, if_neg (by unfold M3; simp), if_pos (by unfold M3; simp), if_pos t3.1, t3.2]
  rw [rdL, if_neg (by unfold M4; simp), if_pos (by unfold M4; simp), if_pos t4.1, t4.2]
  rfl
theorem ldA (w : List UInt8) (h10 : 10 ∉ w) (h13 : 13 ∉ w) : ldR (rawA w) = if safe (skipS w) then [(3, [111, 61, 120], [([111], [120]), ([99, 110], skipS w)])] else [] := by
  unfold ldR
  rw [rdA w h10 h13]
  split <;> rfl
theorem ldB (v : List UInt8) : ldR (rawB v) = [(3, v, [([67, 78, 59, 120], v)])] := by
  unfold ldR
  rw [rdB v]
  rfl
end Rd
end Go.Proofs.YtgdinncdhjeokaaGreatDoor

namespace Go.Proofs.YtgdinncdhjeokaaGreatDoor
namespace Rd
open Go.RowKit
open LdMath
open Lr (PR RC pf chg okD dnB ChgTab GOwn GRow pV pV_len Kd PX RX rV rV_len append_gen RRow PRow said rrow_at prow_at drewN_below)
set_option linter.unusedVariables false
set_option maxRecDepth 100000

/-- Without line feeds and returns. -/
def cln (l : List UInt8) : List UInt8 := l.filter (fun c => c != 10 && c != 13)
theorem cln_no (l : List UInt8) : 10 ∉ cln l ∧ 13 ∉ cln l := by
  unfold cln
  constructor
  all_goals
    intro h
    have := (List.mem_filter.1 h).2
    revert this
    decide
theorem cln_len (l : List UInt8) : (cln l).length ≤ l.length := List.length_filter_le _ _
set_option maxHeartbeats 4000000 in
theorem clean_any (s : ByteArray) (hs : s.size ≤ 1048576) (w : World) :
    Calls Tryz.prog 7 #[.string s] w fun e w' => e = .returned (.string (S (cln s.data.toList))) ∧ Below w.heap.size w w' := by
  go_enter Tryz.func7, Tryz.ntmps7
  go_wp2_with fail
  go_loopw [3, 4] (fun bv iv wr => ∃ (i : Nat) (a : Option Addr) (n c : Nat), i ≤ s.size ∧ iv = .int .i64 (i : Int) ∧ bv = .slice a n c ∧ Hid (Own wr w.heap.size (.slice a n c) (cln (s.data.toList.take i)) ∧ Below w.heap.size w wr)) (fun _ iv _ => s.size - (intOf iv).toNat)
  case atStart => exact ⟨0, none, 0, 0, Nat.zero_le _, rfl, rfl, own_nil _ _, Below.refl _ _⟩
  case round =>
    obtain ⟨i, a, n, c, hi, rfl, rfl, hQ⟩ := hrel
    have i0 : (0 : Int) ≤ (i : Int) := Int.natCast_nonneg _
    have i1 : (i : Int) < 1099511627777 := by omega
    by_cases hlt : i < s.size
    · obtain ⟨cc, hcc⟩ : ∃ cc, s[i] = cc := ⟨_, rfl⟩
      obtain ⟨z, hz⟩ : ∃ z : Int, (s[i].toNat : Int) = z := ⟨_, rfl⟩
      have hzc : (cc.toNat : Int) = z := by rw [← hcc]; exact hz
      have hlt' : Hid (i < s.size) := hlt
      have htk : s.data.toList.take (i + 1) = s.data.toList.take i ++ [cc] := by rw [← hcc]; exact take_snoc s i hlt
      have hne : ∀ k : UInt8, cc ≠ k → (z != (k.toNat : Int)) = true := by
        intro k hk
        rw [← hzc, bne_iff_ne]
        intro e
        exact hk (UInt8.toNat_inj.1 (by omega))
      have happ : cln (s.data.toList.take (i + 1)) = cln (s.data.toList.take i) ++ cln [cc] := by rw [htk]; exact List.filter_append _ _
      by_cases h10 : cc = 10
      · have hb : (z != 10) = false := by rw [← hzc, h10]; rfl
        have hfin : Hid (Own wr w.heap.size (.slice a n c) (cln (s.data.toList.take (i + 1))) ∧ Below w.heap.size w wr) := by
          refine ⟨?_, hQ.out.2⟩
          have e1 : cln [cc] = [] := by rw [h10]; rfl
          rw [happ, e1, List.append_nil]
          exact hQ.out.1
        clear h10 htk hcc hQ hi hs hzc hne happ
        go_wp2_with fail
        go_roundw
        case rel => exact ⟨i + 1, _, _, _, hlt'.out, by simp, rfl, hfin⟩
        case measure => have := hlt'.out; simp [intOf]; omega
      · have hb : (z != 10) = true := hne 10 h10
        by_cases h13 : cc = 13
        · have hb' : (z != 13) = false := by rw [← hzc, h13]; rfl
          have hfin : Hid (Own wr w.heap.size (.slice a n c) (cln (s.data.toList.take (i + 1))) ∧ Below w.heap.size w wr) := by
            refine ⟨?_, hQ.out.2⟩
            have e1 : cln [cc] = [] := by rw [h13]; rfl
            rw [happ, e1, List.append_nil]
            exact hQ.out.1
          clear h10 h13 htk hcc hQ hi hs hzc hne happ
          go_wp2_with fail
          go_roundw
          case rel => exact ⟨i + 1, _, _, _, hlt'.out, by simp, rfl, hfin⟩
          case measure => have := hlt'.out; simp [intOf]; omega
        · have hb' : (z != 13) = true := hne 13 h13
          have hsz : w.heap.size ≤ wr.heap.size := hQ.out.2.size
          have hcl := cln_len (s.data.toList.take i)
          rw [List.length_take] at hcl
          obtain ⟨g2, k2, w3, e2, o2, b2⟩ := app_byte wr w.heap.size (.slice a n c) _ cc hQ.out.1 hsz (by omega)
          obtain ⟨n2, hn2⟩ : ∃ n2, (cln (s.data.toList.take i)).length + 1 = n2 := ⟨_, rfl⟩
          rw [hn2] at e2 o2
          have hfin : Hid (Own w3 w.heap.size (.slice (some ⟨g2, 0, none⟩) n2 k2) (cln (s.data.toList.take (i + 1))) ∧ Below w.heap.size w w3) := by
            refine ⟨?_, hQ.out.2.trans b2⟩
            have e1 : cln [cc] = [cc] := by unfold cln; simp [h10, h13]
            rw [happ, e1]
            exact o2
          rw [hzc] at e2
          clear o2 b2 hn2 htk hsz hcl hQ h13 h10 hi hs hcc hzc hne happ
          go_wp2_with (at_builtin; refine Lib.wpList_append_run _ rfl _ _ _ _ rfl _ _ rfl rfl _ _ e2 ?_; clear e2)
          go_roundw
          case rel => exact ⟨i + 1, _, _, _, hlt'.out, by simp, rfl, hfin⟩
          case measure => have := hlt'.out; simp [intOf]; omega
    · have hie : i = s.size := by omega
      subst hie
      obtain ⟨q1, q3⟩ := hQ.out
      rw [List.take_of_length_le (by rw [size_l]; exact Nat.le_refl _)] at q1
      have hcv := own_conv q1
      have hb3 : Hid (Below w.heap.size w wr) := q3
      clear q1 q3 hQ hlt hi hs
      go_wp2_with fail
      go_ret
      exact ⟨rfl, hb3.out⟩
/-- Blanks ahead. -/
theorem skip_at (l : List UInt8) : ∀ (i : Nat), (∀ j, j < i → l[j]? = some 32) → skipS l = skipS (l.drop i) := by
  intro i
  induction i with
  | zero => intro _; rfl
  | succ i ih =>
    intro h
    rw [ih (fun j hj => h j (by omega))]
    have h1 := h i (by omega)
    obtain ⟨hi, he⟩ := List.getElem?_eq_some_iff.1 h1
    rw [List.drop_eq_getElem_cons hi, he]
    rfl
theorem skip_end (l : List UInt8) (i : Nat) (h : ∀ j, j < i → l[j]? = some 32) (he : ¬ l[i]? = some 32) : skipS l = l.drop i := by
  rw [skip_at l i h]
  cases hd : l.drop i with
  | nil => rfl
  | cons c r =>
    have h1 : l[i]? = some c := by rw [← List.head?_drop, hd]; rfl
    unfold skipS
    rw [List.dropWhile_cons, if_neg (by
      intro e
      have : c = 32 := by simpa using e
      rw [this] at h1
      exact he h1)]
/-- One record's cells. -/
theorem one_rec {W : World} {ln : Nat} {nm : List UInt8} {ps : List PR} {a : Option Addr} {Rs : List RX} (h : LdRw W [(ln, nm, ps)] a Rs) : ∃ b o pa pc, a = some ⟨b, o, none⟩ ∧ W.cell? ⟨b, o, none⟩ = some (.int .i64 (ln : Int)) ∧ W.cell? ⟨b, o + 1, none⟩ = some (.string (S nm)) ∧ W.cell? ⟨b, o + 2, none⟩ = some (.slice pa ps.length pc) ∧ PRow W pa ps := by
  obtain ⟨h1, h2, h3⟩ := h
  have hl : 0 < Rs.length := by rw [h2]; exact Nat.zero_lt_one
  obtain ⟨b, o, rfl, c0, c1, c2⟩ := rrow_at h1 0 hl
  obtain ⟨e1, e2⟩ := h3 0 hl Nat.zero_lt_one
  have r1 := (h1.2 _ (List.getElem_mem hl)).1
  generalize hx : Rs[0] = x at *
  obtain ⟨ln', nm', pa, pc, ps'⟩ := x
  dsimp only [said] at c0 c1 c2 e1 e2 r1
  injection e2 with e2 e3
  have e4 : ps' = ps := e3
  have e5 : nm' = nm := e2
  subst e4 e5
  have e6 : ln' = (ln : Int) := e1
  subst e6
  exact ⟨b, o, pa, pc, rfl, by simpa using c0, by simpa using c1, by simpa using c2, r1⟩
end Rd
end Go.Proofs.YtgdinncdhjeokaaGreatDoor

namespace Go.Proofs.YtgdinncdhjeokaaGreatDoor
namespace Rd
open Go.RowKit
open LdMath
open TextMath (b64)
open Lr (PR RC pf chg okD dnB ChgTab GOwn GRow pV pV_len Kd PX RX rV rV_len append_gen RRow PRow said rrow_at prow_at drewN_below)
set_option linter.unusedVariables false
set_option maxRecDepth 100000

/-- Load of the text with the raw value: taken, and refused. -/
theorem loadA_yes (x : ByteArray) (hx : x.size ≤ 1048576) (h10 : 10 ∉ x.data.toList) (h13 : 13 ∉ x.data.toList) (hs : safe (skipS x.data.toList) = true) (t : ByteArray) (ht : t.data.toList = rawA x.data.toList) (W : World) (hWt : WTab W) (hCt : ChgTab W) :
    Calls Tryz.prog 8 #[.string t] W fun e w' => ∃ b o c pb po pc, e = .returned (.tuple #[.slice (some ⟨b, o, none⟩) 1 c, .int .i64 0, .int .i64 0]) ∧ (w'.cell? ⟨b, o + 2, none⟩ = some (.slice (some ⟨pb, po, none⟩) 2 pc) ∧ w'.cell? ⟨pb, po + 2, none⟩ = some (.string { data := #[99, 110] }) ∧ w'.cell? ⟨pb, po + 3, none⟩ = some (.string (S (skipS x.data.toList)))) ∧ Below W.heap.size W w' := by
  have hr := rdA x.data.toList h10 h13
  have hl := ldA x.data.toList h10 h13
  rw [if_pos hs] at hr hl
  have hz : t.size ≤ 4194304 := by
    rw [← size_l, ht]
    have := size_l x
    unfold rawA L5
    simp [L1, L3, L4]
    omega
  have hL := loads_any t hz W hWt hCt 1 (by rw [ht, hl]; rfl)
  rw [ht, hr, hl] at hL
  refine Calls.mono hL ?_
  rintro e w' ⟨a, c, Rs, rfl, h, hb⟩
  obtain ⟨b, o, pa, pc, rfl, c0, c1, c2, hp⟩ := one_rec h
  obtain ⟨pb, po, rfl, d0, d1⟩ := prow_at hp 1 (by simp)
  exact ⟨b, o, c, pb, po, pc, rfl, ⟨c2, d0, by simpa using d1⟩, hb⟩
theorem loadA_no (x : ByteArray) (hx : x.size ≤ 1048576) (h10 : 10 ∉ x.data.toList) (h13 : 13 ∉ x.data.toList) (hs : ¬ safe (skipS x.data.toList) = true) (t : ByteArray) (ht : t.data.toList = rawA x.data.toList) (W : World) (hWt : WTab W) (hCt : ChgTab W) :
    Calls Tryz.prog 8 #[.string t] W fun e w' => ∃ a c, e = .returned (.tuple #[.slice a 0 c, .int .i64 76, .int .i64 5]) ∧ Below W.heap.size W w' := by
  have hr := rdA x.data.toList h10 h13
  have hl := ldA x.data.toList h10 h13
  rw [if_neg hs] at hr hl
  have hz : t.size ≤ 4194304 := by
    rw [← size_l, ht]
    have := size_l x
    unfold rawA L5
    simp [L1, L3, L4]
    omega
  have hL := loads_any t hz W hWt hCt 0 (by rw [ht, hl]; rfl)
  rw [ht, hr, hl] at hL
  refine Calls.mono hL ?_
  rintro e w' ⟨a, c, Rs, rfl, h, hb⟩
  exact ⟨a, c, rfl, hb⟩
theorem loadB (v : ByteArray) (hv : v.size ≤ 1048576) (t : ByteArray) (ht : t.data.toList = rawB v.data.toList) (W : World) (hWt : WTab W) (hCt : ChgTab W) :
    Calls Tryz.prog 8 #[.string t] W fun e w' => ∃ b o c pb po pc, e = .returned (.tuple #[.slice (some ⟨b, o, none⟩) 1 c, .int .i64 0, .int .i64 0]) ∧ (w'.cell? ⟨b, o, none⟩ = some (.int .i64 3) ∧ w'.cell? ⟨b, o + 1, none⟩ = some (.string v) ∧ w'.cell? ⟨b, o + 2, none⟩ = some (.slice (some ⟨pb, po, none⟩) 1 pc) ∧ w'.cell? ⟨pb, po, none⟩ = some (.string { data := #[67, 78, 59, 120] }) ∧ w'.cell? ⟨pb, po + 1, none⟩ = some (.string v)) ∧ Below W.heap.size W w' := by
  have hr := rdB v.data.toList
  have hl := ldB v.data.toList
  have hz : t.size ≤ 4194304 := by
    rw [← size_l, ht]
    have h1 := TextMath.b64_len v.data.toList
    have := size_l v
    unfold rawB M3 M4
    simp [L1]
    omega
  have hL := loads_any t hz W hWt hCt 1 (by rw [ht, hl]; rfl)
  rw [ht, hr, hl] at hL
  refine Calls.mono hL ?_
  rintro e w' ⟨a, c, Rs, rfl, h, hb⟩
  obtain ⟨b, o, pa, pc, rfl, c0, c1, c2, hp⟩ := one_rec h
  obtain ⟨pb, po, rfl, d0, d1⟩ := prow_at hp 0 (by simp)
  rw [S_of] at c1
  have d1' : w'.cell? ⟨pb, po + 1, none⟩ = some (.string (S v.data.toList)) := by simpa using d1
  rw [S_of] at d1'
  exact ⟨b, o, c, pb, po, pc, rfl, ⟨c0, c1, c2, by simpa [S] using d0, d1'⟩, hb⟩
theorem cell_below {w w' : World} {a : Addr} {u : Value} (hb : Below w.heap.size w w') (h : w.cell? a = some u) : w'.cell? a = w.cell? a := hb.cell (blockA_lt h)
theorem catA (x : ByteArray) : (({ data := #[118, 101, 114, 115, 105, 111, 110, 58, 32, 49, 10, 10, 100, 110, 58, 32, 111, 61, 120, 10, 111, 58, 32, 120, 10, 99, 110, 58, 32] } : ByteArray) ++ x).data.toList = rawA x.data.toList := by
  rw [app_l]; rfl
theorem catB (v : ByteArray) : (((({ data := #[118, 101, 114, 115, 105, 111, 110, 58, 32, 49, 10, 10, 100, 110, 58, 58, 32] } : ByteArray) ++ S (b64 v.data.toList)) ++ ({ data := #[10, 67, 78, 59, 120, 58, 58, 32] } : ByteArray)) ++ S (b64 v.data.toList) ++ ({ data := #[10] } : ByteArray)).data.toList = rawB v.data.toList := by
  rw [app_l, app_l, app_l, app_l, S_l]
  unfold rawB L1 M3 M4
  simp

set_option maxHeartbeats 8000000 in
theorem ldifRaw_walk (v : ByteArray) (hs : v.size ≤ 1048576) (w : World) (hWt : WTab w) (hCt : ChgTab w) (hAt : AlTab w) :
    Calls Tryz.prog 3 #[.string v] w fun e w' => e = .returned (.bool true) ∧ Below w.heap.size w w' := by
  have hC := clean_any v hs w
  obtain ⟨x, hx⟩ : ∃ x, S (cln v.data.toList) = x := ⟨_, rfl⟩
  rw [hx] at hC
  have xl : x.data.toList = cln v.data.toList := by rw [← hx, S_l]
  have n10 : 10 ∉ x.data.toList := by rw [xl]; exact (cln_no _).1
  have n13 : 13 ∉ x.data.toList := by rw [xl]; exact (cln_no _).2
  have xs : x.size ≤ 1048576 := by rw [← size_l, xl]; have := cln_len v.data.toList; rw [size_l] at this; omega
  have hC' : Hid (Calls Tryz.prog 7 #[.string v] w fun e w' => e = .returned (.string x) ∧ Below w.heap.size w w') := hC
  obtain ⟨TA, hTA⟩ : ∃ TA, ({ data := #[118, 101, 114, 115, 105, 111, 110, 58, 32, 49, 10, 10, 100, 110, 58, 32, 111, 61, 120, 10, 111, 58, 32, 120, 10, 99, 110, 58, 32] } : ByteArray) ++ x = TA := ⟨_, rfl⟩
  have hTl : TA.data.toList = rawA x.data.toList := by rw [← hTA]; exact catA x
  have hB : Hid (∀ W, Below w.heap.size w W → Calls Tryz.prog 11 #[.string v] W fun e w' => e = .returned (.string (S (b64 v.data.toList))) ∧ Below W.heap.size W w') := fun W hb => base64_any v W (by omega) (hAt.below hb)
  have hLB : Hid (∀ t, t.data.toList = rawB v.data.toList → ∀ W, Below w.heap.size w W → Calls Tryz.prog 8 #[.string t] W fun e w' => ∃ b o c pb po pc, e = .returned (.tuple #[.slice (some ⟨b, o, none⟩) 1 c, .int .i64 0, .int .i64 0]) ∧ (w'.cell? ⟨b, o, none⟩ = some (.int .i64 3) ∧ w'.cell? ⟨b, o + 1, none⟩ = some (.string v) ∧ w'.cell? ⟨b, o + 2, none⟩ = some (.slice (some ⟨pb, po, none⟩) 1 pc) ∧ w'.cell? ⟨pb, po, none⟩ = some (.string { data := #[67, 78, 59, 120] }) ∧ w'.cell? ⟨pb, po + 1, none⟩ = some (.string v)) ∧ Below W.heap.size W w') := fun t ht W hb => loadB v hs t ht W (hWt.below hb) (hCt.below hb)
  have hcB : Hid ((((({ data := #[118, 101, 114, 115, 105, 111, 110, 58, 32, 49, 10, 10, 100, 110, 58, 58, 32] } : ByteArray) ++ S (b64 v.data.toList)) ++ ({ data := #[10, 67, 78, 59, 120, 58, 58, 32] } : ByteArray)) ++ S (b64 v.data.toList) ++ ({ data := #[10] } : ByteArray)).data.toList = rawB v.data.toList) := catB v
  have zb : (S (b64 v.data.toList)).size ≤ 1398112 := by
    rw [S_size, TextMath.b64_len, size_l]
    omega
  generalize hbv : S (b64 v.data.toList) = bv at *
  obtain ⟨T1, hT1⟩ : ∃ T, ({ data := #[118, 101, 114, 115, 105, 111, 110, 58, 32, 49, 10, 10, 100, 110, 58, 58, 32] } : ByteArray) ++ bv = T := ⟨_, rfl⟩
  rw [hT1] at hcB
  obtain ⟨T2, hT2⟩ : ∃ T, T1 ++ ({ data := #[10, 67, 78, 59, 120, 58, 58, 32] } : ByteArray) = T := ⟨_, rfl⟩
  rw [hT2] at hcB
  obtain ⟨T3, hT3⟩ : ∃ T, T2 ++ bv = T := ⟨_, rfl⟩
  rw [hT3] at hcB
  obtain ⟨T4, hT4⟩ : ∃ T, T3 ++ ({ data := #[10] } : ByteArray) = T := ⟨_, rfl⟩
  rw [hT4] at hcB
  have z1 : T1.size ≤ 1398200 := by rw [← hT1, ByteArray.size_append]; show 17 + bv.size ≤ _; omega
  have z2 : T2.size ≤ 1398300 := by rw [← hT2, ByteArray.size_append]; show T1.size + 8 ≤ _; omega
  have z3 : T3.size ≤ 2796500 := by rw [← hT3, ByteArray.size_append]; omega
  by_cases hsf : safe (skipS x.data.toList) = true
  · have hLA : Hid (∀ W, Below w.heap.size w W → Calls Tryz.prog 8 #[.string TA] W fun e w' => ∃ b o c pb po pc, e = .returned (.tuple #[.slice (some ⟨b, o, none⟩) 1 c, .int .i64 0, .int .i64 0]) ∧ (w'.cell? ⟨b, o + 2, none⟩ = some (.slice (some ⟨pb, po, none⟩) 2 pc) ∧ w'.cell? ⟨pb, po + 2, none⟩ = some (.string { data := #[99, 110] }) ∧ w'.cell? ⟨pb, po + 3, none⟩ = some (.string (S (skipS x.data.toList)))) ∧ Below W.heap.size W w') := fun W hb => loadA_yes x xs n10 n13 hsf TA hTl W (hWt.below hb) (hCt.below hb)
    have hsf' : Hid (safe (skipS x.data.toList) = true) := hsf
    clear hC hx xl n10 n13 hTl hWt hCt hAt hs hbv hsf
    have xs' : (x.size : Int) ≤ 1048576 := by omega
    go_enter Tryz.func3, Tryz.ntmps3
    go_wp2_with (go_at_call 7; refine hC'.out.mono ?_; rintro e w1 ⟨rfl, hb1⟩)
    obtain ⟨W1, rfl⟩ : ∃ W1, W1 = w1 := ⟨_, rfl⟩
    have hb1' : Hid (Below w.heap.size w W1) := hb1
    clear hb1 hC'
    go_loopw [4] (fun iv wr => ∃ i : Nat, i ≤ x.size ∧ iv = .int .i64 (i : Int) ∧ Hid (∀ j, j < i → x.data.toList[j]? = some 32) ∧ wr = W1) (fun iv _ => x.size - (intOf iv).toNat)
    case atStart => exact ⟨0, Nat.zero_le _, rfl, fun j hj => absurd hj (Nat.not_lt_zero _), rfl⟩
    case round =>
      obtain ⟨i, hi, rfl, hQ, rfl⟩ := hrel
      have i0 : (0 : Int) ≤ (i : Int) := Int.natCast_nonneg _
      have i1 : (i : Int) < 1099511627777 := by omega
      have i2 : (i : Int) ≤ (x.size : Int) := Int.ofNat_le.2 hi
      have hgo : (∃ h : i < x.size, x[i] = 32) ∨ ((∃ h : i < x.size, x[i] ≠ 32) ∨ i = x.size) := by
        by_cases h : i < x.size
        · by_cases h' : x[i] = 32
          · exact .inl ⟨h, h'⟩
          · exact .inr (.inl ⟨h, h'⟩)
        · exact .inr (.inr (by omega))
      rcases hgo with ⟨hlt, h32⟩ | hgo
      · obtain ⟨z, hz⟩ : ∃ z : Int, (x[i].toNat : Int) = z := ⟨_, rfl⟩
        have hb : (z == 32) = true := by rw [← hz, h32]; rfl
        have hn : Hid (∀ j, j < i + 1 → x.data.toList[j]? = some 32) := by
          intro j hj
          by_cases hji : j < i
          · exact hQ.out j hji
          · have e : j = i := by omega
            subst e
            rw [List.getElem?_eq_getElem (by rw [size_l]; exact hlt)]
            have := h32
            simp only [Option.some.injEq]
            exact this
        have hlt' : Hid (i < x.size) := hlt
        clear h32 hQ hi
        go_wp2_with fail
        go_roundw
        case rel => exact ⟨i + 1, hlt'.out, by simp, hn, trivial⟩
        case measure => have := hlt'.out; simp [intOf]; omega
      · have hend : skipS x.data.toList = x.data.toList.drop i := skip_end _ i hQ.out (by
          intro e
          obtain ⟨h1, h2⟩ := List.getElem?_eq_some_iff.1 e
          rcases hgo with ⟨h3, h4⟩ | h3
          · exact h4 h2
          · rw [size_l] at h1; omega)
        have hEx : S (skipS x.data.toList) = x.extract i x.size := (S_eq _ _ (by rw [drop_l, hend])).symm
        have hSf : Hid (∀ W, Calls Tryz.prog 9 #[.string (x.extract i x.size)] W fun e w' => e = .returned (.bool true) ∧ Below W.heap.size W w') := fun W => by
          have h := safe_any (x.extract i x.size) W
          rw [drop_l, ← hend, hsf'.out] at h
          exact h
        rw [hEx] at hLA
        have hfalse : (∃ h : i < x.size, ((x[i].toNat : Int) == 32) = false) ∨ i = x.size := by
          rcases hgo with ⟨h3, h4⟩ | h3
          · refine .inl ⟨h3, ?_⟩
            rw [beq_eq_false_iff_ne]
            intro e
            exact h4 (UInt8.toNat_inj.1 (by show _ = 32; omega))
          · exact .inr h3
        clear hgo hend hQ hsf' hEx hi
        rcases hfalse with ⟨hlt, hb⟩ | he
        · obtain ⟨z, hz⟩ : ∃ z : Int, (x[i].toNat : Int) = z := ⟨_, rfl⟩
          rw [hz] at hb
          go_wp2_with (first
            | (go_at_call 8; refine (hLA.out _ hb1'.out).mono ?_; rintro e w2 ⟨b, o, c, pb, po, pc, rfl, ⟨c2, d0, d1⟩, hb2⟩; have H2 : Hid (Below w.heap.size w w2) := hb1'.out.trans (hb2.mono hb1'.out.size); clear hb2 hLA)
            | (go_at_call 9; refine (hSf.out _).mono ?_; rintro e w3 ⟨rfl, hb3⟩; have H3 : Hid (Below w.heap.size w w3) := H2.out.trans (hb3.mono H2.out.size); rw [← cell_below hb3 c2] at c2; rw [← cell_below hb3 d0] at d0; rw [← cell_below hb3 d1] at d1; clear hb3 H2 hSf))
          clear hb hz hlt
          go_quiet ((go_at_call 10; exact Calls.quiet_of_same (num_any _ _)))
          clear c2 d0 d1
          go_wp2_with fail
          have H4 : Hid (Below w.heap.size w (w3.drewN nq)) := H3.out.trans (drewN_below _ _ _)
          generalize w3.drewN nq = w4 at *
          clear H3
          refine (hB.out _ H4.out).mono ?_
          rintro e w5 ⟨rfl, hb5⟩
          have H5 : Hid (Below w.heap.size w w5) := H4.out.trans (hb5.mono H4.out.size)
          clear hb5 H4
          go_wp2_with fail
          refine (hB.out _ H5.out).mono ?_
          rintro e w6 ⟨rfl, hb6⟩
          have H6 : Hid (Below w.heap.size w w6) := H5.out.trans (hb6.mono H5.out.size)
          clear hb6 H5
          go_wp2_with fail
          refine (hLB.out _ hcB.out _ H6.out).mono ?_
          rintro e w7 ⟨b2, o2, c9, pb2, po2, pc2, rfl, ⟨f0, f1, f2, f3, f4⟩, hb7⟩
          have H7 : Hid (Below w.heap.size w w7) := H6.out.trans (hb7.mono H6.out.size)
          clear hb7 H6 hLB hcB
          go_wp2_with (go_at_call 10; refine (num_any _ _).mono ?_; rintro e w9 ⟨rfl, rfl⟩)
          go_ret
          exact ⟨rfl, H7.out⟩
        · have hnl : ¬ ((i : Int) < (x.size : Int)) := by omega
          clear he
          go_wp2_with (first
            | (go_at_call 8; refine (hLA.out _ hb1'.out).mono ?_; rintro e w2 ⟨b, o, c, pb, po, pc, rfl, ⟨c2, d0, d1⟩, hb2⟩; have H2 : Hid (Below w.heap.size w w2) := hb1'.out.trans (hb2.mono hb1'.out.size); clear hb2 hLA)
            | (go_at_call 9; refine (hSf.out _).mono ?_; rintro e w3 ⟨rfl, hb3⟩; have H3 : Hid (Below w.heap.size w w3) := H2.out.trans (hb3.mono H2.out.size); rw [← cell_below hb3 c2] at c2; rw [← cell_below hb3 d0] at d0; rw [← cell_below hb3 d1] at d1; clear hb3 H2 hSf))
          clear hnl
          go_quiet ((go_at_call 10; exact Calls.quiet_of_same (num_any _ _)))
          clear c2 d0 d1
          go_wp2_with fail
          have H4 : Hid (Below w.heap.size w (w3.drewN nq)) := H3.out.trans (drewN_below _ _ _)
          generalize w3.drewN nq = w4 at *
          clear H3
          refine (hB.out _ H4.out).mono ?_
          rintro e w5 ⟨rfl, hb5⟩
          have H5 : Hid (Below w.heap.size w w5) := H4.out.trans (hb5.mono H4.out.size)
          clear hb5 H4
          go_wp2_with fail
          refine (hB.out _ H5.out).mono ?_
          rintro e w6 ⟨rfl, hb6⟩
          have H6 : Hid (Below w.heap.size w w6) := H5.out.trans (hb6.mono H5.out.size)
          clear hb6 H5
          go_wp2_with fail
          refine (hLB.out _ hcB.out _ H6.out).mono ?_
          rintro e w7 ⟨b2, o2, c9, pb2, po2, pc2, rfl, ⟨f0, f1, f2, f3, f4⟩, hb7⟩
          have H7 : Hid (Below w.heap.size w w7) := H6.out.trans (hb7.mono H6.out.size)
          clear hb7 H6 hLB hcB
          go_wp2_with (go_at_call 10; refine (num_any _ _).mono ?_; rintro e w9 ⟨rfl, rfl⟩)
          go_ret
          exact ⟨rfl, H7.out⟩
  · have hLA : Hid (∀ W, Below w.heap.size w W → Calls Tryz.prog 8 #[.string TA] W fun e w' => ∃ a c, e = .returned (.tuple #[.slice a 0 c, .int .i64 76, .int .i64 5]) ∧ Below W.heap.size W w') := fun W hb => loadA_no x xs n10 n13 hsf TA hTl W (hWt.below hb) (hCt.below hb)
    have hsf' : Hid (safe (skipS x.data.toList) = false) := by simpa [Hid] using hsf
    clear hC hx xl n10 n13 hTl hWt hCt hAt hs hbv hsf
    have xs' : (x.size : Int) ≤ 1048576 := by omega
    go_enter Tryz.func3, Tryz.ntmps3
    go_wp2_with (go_at_call 7; refine hC'.out.mono ?_; rintro e w1 ⟨rfl, hb1⟩)
    obtain ⟨W1, rfl⟩ : ∃ W1, W1 = w1 := ⟨_, rfl⟩
    have hb1' : Hid (Below w.heap.size w W1) := hb1
    clear hb1 hC'
    go_loopw [4] (fun iv wr => ∃ i : Nat, i ≤ x.size ∧ iv = .int .i64 (i : Int) ∧ Hid (∀ j, j < i → x.data.toList[j]? = some 32) ∧ wr = W1) (fun iv _ => x.size - (intOf iv).toNat)
    case atStart => exact ⟨0, Nat.zero_le _, rfl, fun j hj => absurd hj (Nat.not_lt_zero _), rfl⟩
    case round =>
      obtain ⟨i, hi, rfl, hQ, rfl⟩ := hrel
      have i0 : (0 : Int) ≤ (i : Int) := Int.natCast_nonneg _
      have i1 : (i : Int) < 1099511627777 := by omega
      have i2 : (i : Int) ≤ (x.size : Int) := Int.ofNat_le.2 hi
      have hgo : (∃ h : i < x.size, x[i] = 32) ∨ ((∃ h : i < x.size, x[i] ≠ 32) ∨ i = x.size) := by
        by_cases h : i < x.size
        · by_cases h' : x[i] = 32
          · exact .inl ⟨h, h'⟩
          · exact .inr (.inl ⟨h, h'⟩)
        · exact .inr (.inr (by omega))
      rcases hgo with ⟨hlt, h32⟩ | hgo
      · obtain ⟨z, hz⟩ : ∃ z : Int, (x[i].toNat : Int) = z := ⟨_, rfl⟩
        have hb : (z == 32) = true := by rw [← hz, h32]; rfl
        have hn : Hid (∀ j, j < i + 1 → x.data.toList[j]? = some 32) := by
          intro j hj
          by_cases hji : j < i
          · exact hQ.out j hji
          · have e : j = i := by omega
            subst e
            rw [List.getElem?_eq_getElem (by rw [size_l]; exact hlt)]
            have := h32
            simp only [Option.some.injEq]
            exact this
        have hlt' : Hid (i < x.size) := hlt
        clear h32 hQ hi
        go_wp2_with fail
        go_roundw
        case rel => exact ⟨i + 1, hlt'.out, by simp, hn, trivial⟩
        case measure => have := hlt'.out; simp [intOf]; omega
      · have hend : skipS x.data.toList = x.data.toList.drop i := skip_end _ i hQ.out (by
          intro e
          obtain ⟨h1, h2⟩ := List.getElem?_eq_some_iff.1 e
          rcases hgo with ⟨h3, h4⟩ | h3
          · exact h4 h2
          · rw [size_l] at h1; omega)
        have hEx : S (skipS x.data.toList) = x.extract i x.size := (S_eq _ _ (by rw [drop_l, hend])).symm
        have hSf : Hid (∀ W, Calls Tryz.prog 9 #[.string (x.extract i x.size)] W fun e w' => e = .returned (.bool false) ∧ Below W.heap.size W w') := fun W => by
          have h := safe_any (x.extract i x.size) W
          rw [drop_l, ← hend, hsf'.out] at h
          exact h
        have hfalse : (∃ h : i < x.size, ((x[i].toNat : Int) == 32) = false) ∨ i = x.size := by
          rcases hgo with ⟨h3, h4⟩ | h3
          · refine .inl ⟨h3, ?_⟩
            rw [beq_eq_false_iff_ne]
            intro e
            exact h4 (UInt8.toNat_inj.1 (by show _ = 32; omega))
          · exact .inr h3
        clear hgo hend hQ hsf' hEx hi
        rcases hfalse with ⟨hlt, hb⟩ | he
        · obtain ⟨z, hz⟩ : ∃ z : Int, (x[i].toNat : Int) = z := ⟨_, rfl⟩
          rw [hz] at hb
          go_wp2_with (first
            | (go_at_call 8; refine (hLA.out _ hb1'.out).mono ?_; rintro e w2 ⟨a, c, rfl, hb2⟩; have H2 : Hid (Below w.heap.size w w2) := hb1'.out.trans (hb2.mono hb1'.out.size); clear hb2 hLA)
            | (go_at_call 9; refine (hSf.out _).mono ?_; rintro e w4 ⟨rfl, hb3⟩; have H4 : Hid (Below w.heap.size w w4) := H2.out.trans (hb3.mono H2.out.size); clear hb3 H2 hSf)
            | (go_at_call 10; refine (num_any _ _).mono ?_; rintro e w9 ⟨rfl, rfl⟩))
          clear hb hz hlt
          refine (hB.out _ H4.out).mono ?_
          rintro e w5 ⟨rfl, hb5⟩
          have H5 : Hid (Below w.heap.size w w5) := H4.out.trans (hb5.mono H4.out.size)
          clear hb5 H4
          go_wp2_with fail
          refine (hB.out _ H5.out).mono ?_
          rintro e w6 ⟨rfl, hb6⟩
          have H6 : Hid (Below w.heap.size w w6) := H5.out.trans (hb6.mono H5.out.size)
          clear hb6 H5
          go_wp2_with fail
          refine (hLB.out _ hcB.out _ H6.out).mono ?_
          rintro e w7 ⟨b2, o2, c9, pb2, po2, pc2, rfl, ⟨f0, f1, f2, f3, f4⟩, hb7⟩
          have H7 : Hid (Below w.heap.size w w7) := H6.out.trans (hb7.mono H6.out.size)
          clear hb7 H6 hLB hcB
          go_wp2_with (go_at_call 10; refine (num_any _ _).mono ?_; rintro e w9 ⟨rfl, rfl⟩)
          go_ret
          exact ⟨rfl, H7.out⟩
        · have hnl : ¬ ((i : Int) < (x.size : Int)) := by omega
          clear he
          go_wp2_with (first
            | (go_at_call 8; refine (hLA.out _ hb1'.out).mono ?_; rintro e w2 ⟨a, c, rfl, hb2⟩; have H2 : Hid (Below w.heap.size w w2) := hb1'.out.trans (hb2.mono hb1'.out.size); clear hb2 hLA)
            | (go_at_call 9; refine (hSf.out _).mono ?_; rintro e w4 ⟨rfl, hb3⟩; have H4 : Hid (Below w.heap.size w w4) := H2.out.trans (hb3.mono H2.out.size); clear hb3 H2 hSf)
            | (go_at_call 10; refine (num_any _ _).mono ?_; rintro e w9 ⟨rfl, rfl⟩))
          clear hnl
          refine (hB.out _ H4.out).mono ?_
          rintro e w5 ⟨rfl, hb5⟩
          have H5 : Hid (Below w.heap.size w w5) := H4.out.trans (hb5.mono H4.out.size)
          clear hb5 H4
          go_wp2_with fail
          refine (hB.out _ H5.out).mono ?_
          rintro e w6 ⟨rfl, hb6⟩
          have H6 : Hid (Below w.heap.size w w6) := H5.out.trans (hb6.mono H5.out.size)
          clear hb6 H5
          go_wp2_with fail
          refine (hLB.out _ hcB.out _ H6.out).mono ?_
          rintro e w7 ⟨b2, o2, c9, pb2, po2, pc2, rfl, ⟨f0, f1, f2, f3, f4⟩, hb7⟩
          have H7 : Hid (Below w.heap.size w w7) := H6.out.trans (hb7.mono H6.out.size)
          clear hb7 H6 hLB hcB
          go_wp2_with (go_at_call 10; refine (num_any _ _).mono ?_; rintro e w9 ⟨rfl, rfl⟩)
          go_ret
          exact ⟨rfl, H7.out⟩
end Rd
end Go.Proofs.YtgdinncdhjeokaaGreatDoor

namespace Go.Proofs.YtgdinncdhjeokaaGreatDoor
open Go.RowKit
theorem ldifRaw_w (v : ByteArray) (w : World) (hs : v.size ≤ 1048576) (hAt : AlTab w) (hWt : WTab w) (hCt : Lr.ChgTab w) :
    Calls Tryz.prog 3 #[.string v] w fun e w' => e = .returned (.bool true) ∧ Below w.heap.size w w' := Rd.ldifRaw_walk v hs w hWt hCt hAt
end Go.Proofs.YtgdinncdhjeokaaGreatDoor
