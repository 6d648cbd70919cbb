import Derived.Test.YtoomoicjoockjaaGreatDoorGRb
import Derived.Test.YtoomoicjoockjaaGreatDoorLdRLin
import Derived.BigQuiet
namespace Go.Proofs.YtoomoicjoockjaaGreatDoor
namespace Rd
open Go.RowKit
open TextMath (fold unb)
open LdMath
open Lr (PR RC pf chg okD dnB GOwn GRow pV pV_len Kd append_gen)
set_option linter.unusedVariables false
set_option maxRecDepth 100000

abbrev GxR := Nat × Nat × Ls
def sV (lb : Nat) (x : GxR) : List Value := [.slice (some ⟨lb, x.1, none⟩) x.2.2.length x.2.1]
theorem sV_one (lb : Nat) : ∀ x, (sV lb x).length = 1 := fun _ => rfl
theorem info_lines : (Tryz.prog.info? 39).map (fun i => (i.zero, i.size, i.bytes)) = some (some (.slice none 0 0), 1, 24) := by kernel_rfl
theorem KDs (lb : Nat) : Kd 39 44 1 24 (sV lb) := by
  obtain ⟨i0, hi, hz0, hz1, hz2⟩ := info_parts info_lines
  exact ⟨Tryz.underlying44, ⟨i0, _, hi, hz0, hz1, hz2, rfl⟩, by decide, by decide, sV_one lb, fun x u hu => by simp [sV] at hu; subst hu; rfl⟩
/-- The runs as they lie in memory. -/
def GrI (W : World) (v : Value) (gs : List Ls) : Prop := ∃ a c lb, ∃ L : List GxR, v = .slice a gs.length c ∧ L.map (·.2.2) = gs ∧ GRow 1 (sV lb) W a L ∧ ∀ x ∈ L, GRow 2 lV W (some ⟨lb, x.1, none⟩) x.2.2
def GrQ (E : Nat) (F : Ls) (w : World) (e : Ending) (w' : World) : Prop := (∃ v, e = .returned (.tuple #[v, .int .i64 ((grA E F).2.1 : Int), .int .i64 ((grA E F).2.2 : Int)]) ∧ ((grA E F).2.1 = 0 → GrI w' v (grA E F).1)) ∧ Below w.heap.size w w'
theorem GrQ.bad {E : Nat} {F : Ls} {w w' : World} {f n : Nat} (h : (grA E F).2 = (f, n)) (hf : f ≠ 0) (hb : Below w.heap.size w w') (v : Value) : GrQ E F w (.returned (.tuple #[v, .int .i64 (f : Int), .int .i64 (n : Int)])) w' :=
  ⟨⟨v, by rw [h], fun e => absurd (by rw [h] at e; exact e) hf⟩, hb⟩
theorem push_grp (w : World) {ops : Array Oper} {rest : List Oper} {o : Oper} {a : Act} {Q : Exit → Act → World → Prop} (hgd : o.guard = none) (s x : Operand)
    (ho : o.op = .call { callee := .builtin .append, args := #[s, x], argTypes := #[44, 44] }) (ht : o.type = 44) (lb B : Nat) (v : Value) (l : List GxR) (p : GxR) (g : Nat)
    (hs : a.eval s = v) (hx : a.eval x = .slice (some ⟨g, 0, none⟩) 1 1) (hown : GOwn 39 1 (sV lb) w B v l) (hg : GRow 1 (sV lb) w (some ⟨g, 0, none⟩) [p]) (hB : B ≤ w.heap.size) (hl : l.length ≤ 16777216)
    (h : ∀ a' c' w', GOwn 39 1 (sV lb) w' B (.slice a' (l.length + 1) c') (l ++ [p]) → Below B w w' → wpList Tryz.prog ops Q rest (a.put o.dst (.slice a' (l.length + 1) c')) w') :
    wpList Tryz.prog ops Q (o :: rest) a w := by
  obtain ⟨v', w', e1, o1, _, b1⟩ := append_gen (KDs lb) w B v l [p] (some ⟨g, 0, none⟩) 1 1 hown hg rfl hB (by simp; omega)
  obtain ⟨a', c', hv, _⟩ := o1.row (sV_one lb)
  rw [List.length_append, List.length_singleton] at hv
  subst hv
  exact Lib.wpList_append_run w hgd s x _ _ ho _ _ hs hx _ _ (ht ▸ e1) (h a' c' w' o1 b1)
theorem takeW {α : Type} (p : α → Bool) : ∀ (l : List α) (i : Nat), i ≤ l.length → (∀ j (h : j < l.length), j < i → p l[j] = true) → (∀ h : i < l.length, p l[i] = false) → l.takeWhile p = l.take i
  | [], i, _, _, _ => by simp
  | x :: l, 0, _, _, h => by
    have := h (by simp)
    rw [List.getElem_cons_zero] at this
    rw [List.takeWhile_cons, if_neg (by rw [this]; decide), List.take_zero]
  | x :: l, i + 1, hi, hn, h => by
    have h0 := hn 0 (by simp) (by omega)
    rw [List.getElem_cons_zero] at h0
    rw [List.takeWhile_cons, if_pos h0, List.take_succ_cons]
    rw [takeW p l i (by simpa using hi) (fun j hj hi => by have := hn (j + 1) (by simpa using hj) (by omega); simpa using this) (fun hi => by have := h (by simpa using hi); simpa using this)]
theorem dropW {α : Type} (p : α → Bool) : ∀ (l : List α) (i : Nat), (∀ j (h : j < l.length), j < i → p l[j] = true) → (∀ h : i < l.length, p l[i] = false) → l.dropWhile p = l.drop i
  | [], i, _, _ => by simp
  | x :: l, 0, _, h => by
    have := h (by simp)
    rw [List.getElem_cons_zero] at this
    rw [List.dropWhile_cons, if_neg (by rw [this]; decide), List.drop_zero]
  | x :: l, i + 1, hn, h => by
    have h0 := hn 0 (by simp) (by omega)
    rw [List.getElem_cons_zero] at h0
    rw [List.dropWhile_cons, if_pos h0, List.drop_succ_cons]
    exact dropW p l i (fun j hj hi => by have := hn (j + 1) (by simpa using hj) (by omega); simpa using this) (fun hi => by have := h (by simpa using hi); simpa using this)
theorem G_cut (F : Ls) (j k : Nat) (hjk : j < k) (hk : k ≤ F.length) (hn : ∀ q (h : q < F.length), j ≤ q → q < k → nbl F[q] = true) (he : ∀ h : k < F.length, nbl F[k] = false) : G (F.drop j) = (F.drop j).take (k - j) :: G (F.drop k) := by
  have hj : j < F.length := by omega
  have e : F.drop j = F[j] :: F.drop (j + 1) := List.drop_eq_getElem_cons hj
  have h1 : (F.drop (j + 1)).takeWhile nbl = (F.drop (j + 1)).take (k - (j + 1)) := takeW nbl _ _ (by rw [List.length_drop]; omega) (fun q hq hi => by rw [List.getElem_drop]; exact hn _ _ (by omega) (by omega)) (fun h => by
    rw [List.length_drop] at h
    rw [List.getElem_drop]
    have := he (by omega)
    have e2 : j + 1 + (k - (j + 1)) = k := by omega
    simp only [e2]
    exact this)
  have h2 : (F.drop (j + 1)).dropWhile nbl = (F.drop (j + 1)).drop (k - (j + 1)) := dropW nbl _ _ (fun q hq hi => by rw [List.getElem_drop]; exact hn _ _ (by omega) (by omega)) (fun h => by
    rw [List.length_drop] at h
    rw [List.getElem_drop]
    have := he (by omega)
    have e2 : j + 1 + (k - (j + 1)) = k := by omega
    simp only [e2]
    exact this)
  rw [e, G_run _ _ (hn j hj (Nat.le_refl _) hjk), h1, h2, List.drop_drop, show k - j = (k - (j + 1)) + 1 by omega, List.take_succ_cons, show j + 1 + (k - (j + 1)) = k by omega]
theorem row_cut {w : World} {b off : Nat} {F : Ls} (h : GRow 2 lV w (some ⟨b, off, none⟩) F) (j m : Nat) : GRow 2 lV w (some ⟨b, off + j * 2, none⟩) ((F.drop j).take m) := fun i hi => by
  have hl := hi
  rw [List.length_take, List.length_drop] at hl
  obtain ⟨b', off', e, hc⟩ := h (j + i) (by omega)
  injection e with e
  injection e with e1 e2
  subst e1 e2
  refine ⟨_, _, rfl, fun q hq => ?_⟩
  have h2 := hc q hq
  rw [List.getElem_take, List.getElem_drop, ← h2]
  congr 2
  simp only [Nat.add_mul]
  omega
theorem rows_of {w : World} {B : Nat} {v : Value} {L : Ls} (h : OwnL w B v L) : ∃ a c, v = .slice a L.length c ∧ L.length ≤ c ∧ c ≤ maxLen ∧ GRow 2 lV w a L := GOwn.row lV_two (show GOwn 67 2 lV w B v L from h)
theorem row_at {w W : World} {a : Option Addr} {xs : Ls} (h : GRow 2 lV w a xs) (hb : Below w.heap.size w W) (i : Nat) (hi : i < xs.length) : ∃ b off, a = some ⟨b, off, none⟩ ∧ W.cell? ⟨b, off + i * 2, none⟩ = some (.int .i64 (xs[i].1 : Int)) ∧ W.cell? ⟨b, off + i * 2 + 1, none⟩ = some (.string (S xs[i].2)) := by
  obtain ⟨b, off, rfl, _⟩ := h i hi
  exact ⟨b, off, rfl, row_line (h.below lV_two hb) i hi⟩
theorem toL_e {s : ByteArray} {l : List UInt8} (h : S l = s) : (s.toList == []) = (l == []) := by rw [Lib.toList_data, ← h, S_l]
set_option maxHeartbeats 8000000 in
theorem groups_ok (s : ByteArray) (hs : s.size ≤ 1048576) (w : World) (hfe : ferr [] (phys s.data.toList) = none) :
    Calls Tryz.prog 15 #[.string s] w fun e w' => GrQ ((phys s.data.toList).length + 1) ((joinS (phys s.data.toList)).filter noC) w e w' := by
  obtain ⟨PL, hPL⟩ : ∃ PL, phys s.data.toList = PL := ⟨_, rfl⟩
  have hlP : PL.length ≤ 1048577 := by rw [← hPL]; have := phys_len s.data.toList; rw [size_l] at this; omega
  obtain ⟨AL, hAL⟩ : ∃ AL, joinS PL = AL := ⟨_, rfl⟩
  have hlA : AL.length ≤ 1048577 := by rw [← hAL]; have := (joinS_sizes PL).1; omega
  obtain ⟨nP, hnP⟩ : ∃ n, PL.length = n := ⟨_, rfl⟩
  obtain ⟨nA, hnA⟩ : ∃ n, AL.length = n := ⟨_, rfl⟩
  have hLn : Hid (Calls Tryz.prog 25 #[.string s] w fun e w' => ∃ a c, e = .returned (.tuple #[.slice a nA c, .int .i64 0, .int .i64 0]) ∧ Hid (GRow 2 lV w' a AL) ∧ Below w.heap.size w w') := by
    refine (rlines_any s hs w).mono ?_
    rintro e w' ⟨v, er, ln, rfl, hu, hb⟩
    unfold UnfIs UnfP at hu
    rw [hfe] at hu
    obtain ⟨ho, rfl, rfl⟩ := hu
    rw [hPL, hAL] at ho
    obtain ⟨a, c, rfl, _, _, hr⟩ := rows_of ho
    rw [hnA]
    exact ⟨a, c, rfl, hr, hb⟩
  have hPh : Hid (∀ W, Calls Tryz.prog 26 #[.string s] W fun e w' => ∃ a c, e = .returned (.slice a nP c) ∧ Below W.heap.size W w') := fun W => by
    refine (rphys_any s hs W).mono ?_
    rintro e w' ⟨v, rfl, ho, hb⟩
    rw [hPL] at ho
    rcases ownS_form ho with ⟨rfl, h0⟩ | ⟨g, c, rfl⟩
    · have : nP = 0 := by rw [← hnP, ← txs_len, h0]; rfl
      rw [this]
      exact ⟨none, 0, rfl, hb⟩
    · rw [txs_len, hnP]
      exact ⟨_, _, rfl, hb⟩
  rw [hPL, hAL, hnP]
  have zP : (nP : Int) ≤ 1048577 := by omega
  have zA : (nA : Int) ≤ 1048577 := by omega
  have hnA' : Hid (AL.length = nA) := hnA
  have hAz : Hid (∀ p ∈ AL, p.2.length ≤ 1048576) := fun p hp => by
    rw [← hAL] at hp
    have h1 := (joinS_sizes PL).2 p hp
    have h2 := phys_tot s.data.toList
    rw [hPL, size_l] at h2
    omega
  obtain ⟨F, hF0⟩ : ∃ F, AL.filter noC = F := ⟨_, rfl⟩
  rw [hF0]
  have hF' : Hid (AL.filter noC = F) := hF0
  have hE : Hid (((nP + 1 : Nat) : Int) = (nP : Int) + 1) := by unfold Hid; omega
  clear hPL hAL hlP hlA hnP hnA hfe hs hF0
  go_enter Tryz.func15, Tryz.ntmps15
  go_wp2_with (first
    | (go_at_call 25; refine hLn.out.mono ?_; rintro e w1 ⟨a1, c1, rfl, G1, hb1⟩; have H1 : Hid (Below w.heap.size w w1) := hb1; clear hb1)
    | (go_at_call 26; refine (hPh.out _).mono ?_; rintro e w2 ⟨a2, c2, rfl, hb2⟩; have H2 : Hid (Below w.heap.size w w2) := H1.out.trans (hb2.mono H1.out.size); have G2 : Hid (GRow 2 lV w2 a1 AL) := G1.out.below lV_two hb2; clear hb2))
  clear hLn hPh G1 H1
  go_loopw [9, 10] (fun v iv wr => ∃ (i : Nat) (al : Option Addr) (nl cl : Nat), iv = .int .i64 (i : Int) ∧ v = .slice al nl cl ∧ i ≤ nA ∧ Hid (OwnL wr w2.heap.size (.slice al nl cl) ((AL.take i).filter noC)) ∧ Hid (Below w2.heap.size w2 wr)) (fun _ iv _ => nA - (intOf iv).toNat)
  case atStart => exact ⟨0, none, 0, 0, rfl, rfl, Nat.zero_le _, ownL_nil _ _, Below.refl _ _⟩
  case round =>
    obtain ⟨i, al, nl, cl, rfl, rfl, hi, hO, hB⟩ := hrel
    have i0 : (0 : Int) ≤ (i : Int) := Int.natCast_nonneg _
    by_cases hlt : i < nA
    · have i1 : (i : Int) < (nA : Int) := Int.ofNat_lt.2 hlt
      have hiA : i < AL.length := by rw [hnA'.out]; exact hlt
      obtain ⟨b1, o1, rfl, u0, u1⟩ := row_at G2.out hB.out i hiA
      obtain ⟨⟨k, tx⟩, hx⟩ : ∃ x, AL[i] = x := ⟨_, rfl⟩
      rw [hx] at u0 u1
      dsimp only at u0 u1
      have htz : tx.length ≤ 1048576 := by have := hAz.out _ (List.getElem_mem hiA); rw [hx] at this; exact this
      have htk : (AL.take (i + 1)).filter noC = (AL.take i).filter noC ++ if noC (k, tx) then [(k, tx)] else [] := by
        rw [List.take_succ_eq_append_getElem hiA, List.filter_append, hx]
        congr 1
        cases h : noC (k, tx) <;> simp [h]
      have hln : Hid (((AL.take i).filter noC).length ≤ 16777216) := by
        have h1 := List.length_filter_le noC (AL.take i)
        rw [List.length_take] at h1
        have : i ≤ 1048577 := by omega
        unfold Hid
        omega
      obtain ⟨T, hT⟩ : ∃ T, S tx = T := ⟨_, rfl⟩
      rw [hT] at u1
      have hTs : T.size = tx.length := by rw [← hT, S_size]
      have tz : (T.size : Int) ≤ 1048576 := by omega
      have hTe := toL_e hT
      have hlt' : Hid (i < nA) := hlt
      have hT' : Hid (S tx = T) := hT
      clear hT
      by_cases hte : tx = []
      · have he : (T.toList == []) = true := by rw [hTe, hte]; rfl
        have htk' : Hid ((AL.take (i + 1)).filter noC = (AL.take i).filter noC ++ [(k, tx)]) := by
          unfold Hid
          rw [htk, if_pos (by rw [hte]; rfl)]
        clear hTe htk hte hx hiA htz hTs hlt hi
        go_wp2_with (at_builtin; refine push_line _ rfl _ _ rfl w2.heap.size _ ((AL.take i).filter noC) (k, tx) wr.heap.size rfl rfl (World.ownsRow.alloc hO.out _) (by have h := heap_alloc_last wr (.cells #[.int .i64 (k : Int), .string T] 67); rw [← hT'.out] at h; rw [← hT'.out]; exact h) (by have := hB.out.size; simp; omega) hln.out ?_; intro g2 cap2 w6 hO2 hg2 hb2; have O6 : Hid (OwnL w6 w2.heap.size _ _) := hO2; have B6 : Hid (Below w2.heap.size w2 w6) := (hB.out.alloc hB.out.size _).trans hb2; clear hO2 hg2 hb2)
        go_roundw
        case rel => exact ⟨i + 1, _, _, _, by simp, rfl, hlt'.out, by have h := O6.out; rw [← htk'.out] at h; exact h, B6⟩
        case measure => have := hlt'.out; simp [intOf]; omega
      · have he : (T.toList == []) = false := by rw [hTe]; simpa using hte
        have hpos : 0 < tx.length := List.length_pos_iff.2 hte
        have hTp : 0 < T.size := by omega
        have sp : (1 : Int) ≤ (T.size : Int) := by omega
        have sp0 : (0 : Int) < (T.size : Int) := by omega
        obtain ⟨z, hz⟩ : ∃ z : Int, (T[0].toNat : Int) = z := ⟨_, rfl⟩
        have hhd : tx.head? = some T[0] := by
          have : T.data.toList = tx := by rw [← hT'.out, S_l]
          cases tx with
          | nil => exact absurd rfl hte
          | cons c r =>
            have e : T[0] = T.data.toList[0]'(by rw [size_l]; exact hTp) := rfl
            rw [e]
            simp only [this]
            rfl
        by_cases h35 : T[0] = 35
        · have hb : (z == 35) = true := by rw [← hz, h35]; rfl
          have hb' : (z != 35) = false := by rw [bne, hb]; rfl
          have htk' : Hid ((AL.take (i + 1)).filter noC = (AL.take i).filter noC) := by
            unfold Hid
            rw [htk, if_neg (by simp [noC, hhd, h35]), List.append_nil]
          clear hTe htk hte hx hiA htz hTs hlt hi hpos hhd h35
          go_wp2_with fail
          go_roundw
          case rel => exact ⟨i + 1, _, _, _, by simp, rfl, hlt'.out, by have h := hO.out; rw [← htk'.out] at h; exact h, hB⟩
          case measure => have := hlt'.out; simp [intOf]; omega
        · have hb : (z == 35) = false := by
            rw [← hz, beq_eq_false_iff_ne]
            intro e
            exact h35 (UInt8.toNat_inj.1 (by show _ = 35; omega))
          have hb' : (z != 35) = true := by rw [bne, hb]; rfl
          have htk' : Hid ((AL.take (i + 1)).filter noC = (AL.take i).filter noC ++ [(k, tx)]) := by
            unfold Hid
            rw [htk, if_pos (by simp [noC, hhd, h35])]
          clear hTe htk hte hx hiA htz hTs hlt hi hpos hhd h35
          go_wp2_with (at_builtin; refine push_line _ rfl _ _ rfl w2.heap.size _ ((AL.take i).filter noC) (k, tx) wr.heap.size rfl rfl (World.ownsRow.alloc hO.out _) (by have h := heap_alloc_last wr (.cells #[.int .i64 (k : Int), .string T] 67); rw [← hT'.out] at h; rw [← hT'.out]; exact h) (by have := hB.out.size; simp; omega) hln.out ?_; intro g2 cap2 w6 hO2 hg2 hb2; have O6 : Hid (OwnL w6 w2.heap.size _ _) := hO2; have B6 : Hid (Below w2.heap.size w2 w6) := (hB.out.alloc hB.out.size _).trans hb2; clear hO2 hg2 hb2)
          go_roundw
          case rel => exact ⟨i + 1, _, _, _, by simp, rfl, hlt'.out, by have h := O6.out; rw [← htk'.out] at h; exact h, B6⟩
          case measure => have := hlt'.out; simp [intOf]; omega
    · have i1 : ¬ (i : Int) < (nA : Int) := by omega
      have hF := hF'.out
      have hO' : OwnL wr w2.heap.size (.slice al nl cl) F := by
        have h := hO.out
        rw [List.take_of_length_le (by rw [hnA'.out]; omega), hF] at h
        exact h
      obtain ⟨aF, cF, hv, hc1, hc2, gF⟩ := rows_of hO'
      obtain ⟨nF, hnF⟩ : ∃ n, F.length = n := ⟨_, rfl⟩
      have hzF : nF ≤ 1048577 := by rw [← hnF, ← hF]; have := List.length_filter_le noC AL; have := hnA'.out; omega
      rw [hnF] at hv hc1
      injection hv with e1 e2 e3
      subst e1 e3
      have e2 := e2.symm
      subst e2
      have gF' : Hid (GRow 2 lV wr al F) := gF
      have hFz : Hid (∀ p ∈ F, p.2.length ≤ 1048576) := fun p hp => by rw [← hF] at hp; exact hAz.out p ((List.mem_filter.1 hp).1)
      have HB : Hid (Below w.heap.size w wr) := H2.out.trans (hB.out.mono H2.out.size)
      clear hO hO' hB gF hF hi hlt hAz G2 H2 hnA'
      have zF : (nF : Int) ≤ 1048577 := by omega
      have hnF' : Hid (F.length = nF) := hnF
      clear hnF hzF hF'
      go_wp2_with fail
      go_loopw [11] (fun iv ws => ∃ (i : Nat), i ≤ nF ∧ iv = .int .i64 (i : Int) ∧ Hid (∀ j (h : j < F.length), j < i → nbl F[j] = false) ∧ wr = ws) (fun iv _ => nF - (intOf iv).toNat)
      case atStart => exact ⟨0, Nat.zero_le _, rfl, fun j _ h => absurd h (Nat.not_lt_zero _), rfl⟩
      case round =>
        obtain ⟨r, hr, rfl, hN, rfl⟩ := hrel
        have r0 : (0 : Int) ≤ (r : Int) := Int.natCast_nonneg _
        by_cases hrl : r < nF
        · have r1 : (r : Int) < (nF : Int) := Int.ofNat_lt.2 hrl
          have hrF : r < F.length := by rw [hnF'.out]; exact hrl
          obtain ⟨lb, lo, rfl, u0, u1⟩ := row_at gF'.out (Below.refl _ _) r hrF
          obtain ⟨⟨k, tx⟩, hx⟩ : ∃ x, F[r] = x := ⟨_, rfl⟩
          rw [hx] at u0 u1
          dsimp only at u0 u1
          obtain ⟨T, hT⟩ : ∃ T, S tx = T := ⟨_, rfl⟩
          rw [hT] at u1
          have hTe := toL_e hT
          by_cases hte : tx = []
          · have he : (T.toList == []) = true := by rw [hTe, hte]; rfl
            have hN2 : Hid (∀ j (h : j < F.length), j < r + 1 → nbl F[j] = false) := fun j hj hjr => by
              by_cases h : j < r
              · exact hN.out j hj h
              · have e : j = r := by omega
                subst e
                rw [hx, hte]
                rfl
            have hrl' : Hid (r < nF) := hrl
            clear hTe hte hT hx hrF hN hr hrl
            go_wp2_with fail
            go_roundw
            case rel => exact ⟨r + 1, hrl'.out, by simp, hN2, trivial⟩
            case measure => have := hrl'.out; simp [intOf]; omega
          · have he : (T.toList == []) = false := by rw [hTe]; simpa using hte
            have hrn : ((r : Int) == (nF : Int)) = false := by rw [beq_eq_false_iff_ne]; omega
            have hdw : F.dropWhile (fun p => !(nbl p)) = (k, tx) :: F.drop (r + 1) := by
              rw [dropW _ F r (fun j hj hjr => by rw [hN.out j hj hjr]; rfl) (fun h => by rw [hx]; simp [nbl, hte]), List.drop_eq_getElem_cons hrF, hx]
            have hgr : Hid (grA (nP + 1) F = if isV tx = false then ([], 72, k) else if G (F.drop (r + 1)) = [] then ([], 73, nP + 1) else (G (F.drop (r + 1)), 0, 0)) := by
              unfold Hid grA
              rw [hdw]
            have htz : tx.length ≤ 1048576 := by have := hFz.out _ (List.getElem_mem hrF); rw [hx] at this; exact this
            have hTs : T.size = tx.length := by rw [← hT, S_size]
            have hVs : Hid (Calls Tryz.prog 27 #[.string T] wr fun e w' => e = .returned (.bool (isV tx)) ∧ Below wr.heap.size wr w') := by
              have := isVersion_any T (by omega) wr
              rw [← hT, S_l] at this
              rw [← hT]
              exact this
            have hrl' : Hid (r < nF) := hrl
            clear hTe hte hT hx hrF hN hr hrl hdw htz hTs
            cases hv : isV tx with
            | false =>
              rw [hv] at hVs
              have hbad : Hid ((grA (nP + 1) F).2 = (72, k)) := by
                unfold Hid
                rw [hgr.out, hv, if_pos rfl]
              clear hgr hv
              go_wp2_with (go_at_call 27; refine hVs.out.mono ?_; rintro e w4 ⟨rfl, hb4⟩; have v0 : w4.cell? ⟨lb, lo + r * 2, none⟩ = some (.int .i64 (k : Int)) := (by rw [hb4.cell (World.block_lt_of_cell? _ _ u0)]; exact u0); have H4 : Hid (Below w.heap.size w w4) := HB.out.trans (hb4.mono HB.out.size); clear hb4)
              go_quiet (fail)
              go_wp2_with fail
              go_ret3
              exact GrQ.bad hbad.out (by decide) (H4.out.trans (Lr.drewN_below _ _ _)) _
            | true =>
              rw [hv] at hVs
              have hgr2 : Hid (grA (nP + 1) F = if G (F.drop (r + 1)) = [] then ([], 73, nP + 1) else (G (F.drop (r + 1)), 0, 0)) := by
                unfold Hid
                rw [hgr.out, hv, if_neg (by decide)]
              clear hgr hv
              have hi0 : Hid (r + 1 ≤ nF) := hrl'.out
              go_wp2_with (go_at_call 27; refine hVs.out.mono ?_; rintro e w4 ⟨rfl, hb4⟩; have H4 : Hid (Below w.heap.size w w4) := HB.out.trans (hb4.mono HB.out.size); have G4 : Hid (GRow 2 lV w4 (some ⟨lb, lo, none⟩) F) := gF'.out.below lV_two hb4; clear hb4)
              clear u0 u1 he hrn r0 r1 hVs gF' HB hrl'
              go_loopw [11, 13] (fun iv v ws => ∃ (i : Nat) (oa : Option Addr) (on oc : Nat) (L : List GxR), iv = .int .i64 (i : Int) ∧ v = .slice oa on oc ∧ i ≤ nF ∧ Hid (L.map (·.2.2) ++ G (F.drop i) = G (F.drop (r + 1))) ∧ Hid (L.length ≤ i ∧ GOwn 39 1 (sV lb) ws w4.heap.size (.slice oa on oc) L ∧ ∀ x ∈ L, GRow 2 lV w4 (some ⟨lb, x.1, none⟩) x.2.2) ∧ Hid (Below w4.heap.size w4 ws)) (fun iv _ _ => nF - (intOf iv).toNat)
              case atStart => exact ⟨r + 1, none, 0, 0, [], by simp, rfl, hi0.out, rfl, ⟨Nat.zero_le _, GOwn.nil _ _ _ _ _, fun x hx => by simp at hx⟩, Below.refl _ _⟩
              case round =>
                obtain ⟨i, oa, on, oc, L, rfl, rfl, hi, hL, hO, hB⟩ := hrel
                obtain ⟨wo, hwo⟩ : ∃ wo, wo = wr := ⟨_, rfl⟩
                subst hwo
                go_wp2_with fail
                go_loopw [11] (fun jv wt => ∃ (j : Nat), i ≤ j ∧ j ≤ nF ∧ jv = .int .i64 (j : Int) ∧ Hid (G (F.drop j) = G (F.drop i)) ∧ wo = wt) (fun jv _ => nF - (intOf jv).toNat)
                case atStart => exact ⟨i, Nat.le_refl _, hi, rfl, rfl, rfl⟩
                case round =>
                  obtain ⟨j, hij, hj, rfl, hG, rfl⟩ := hrel
                  have j0 : (0 : Int) ≤ (j : Int) := Int.natCast_nonneg _
                  by_cases hjl : j < nF
                  · have j1 : (j : Int) < (nF : Int) := Int.ofNat_lt.2 hjl
                    have hjF : j < F.length := by rw [hnF'.out]; exact hjl
                    obtain ⟨u0, u1⟩ := row_line (G4.out.below lV_two hB.out) j hjF
                    obtain ⟨⟨k0, tx⟩, hx⟩ : ∃ x, F[j] = x := ⟨_, rfl⟩
                    rw [hx] at u0 u1
                    dsimp only at u0 u1
                    obtain ⟨T, hT⟩ : ∃ T, S tx = T := ⟨_, rfl⟩
                    rw [hT] at u1
                    have hTe := toL_e hT
                    by_cases hte : tx = []
                    · have he : (T.toList == []) = true := by rw [hTe, hte]; rfl
                      have hG2 : Hid (G (F.drop (j + 1)) = G (F.drop i)) := by
                        unfold Hid
                        rw [← hG.out, List.drop_eq_getElem_cons hjF, hx, G_skip _ _ (by rw [hte]; rfl)]
                      have hjl' : Hid (j < nF ∧ i ≤ j) := ⟨hjl, hij⟩
                      clear hTe hte hT hx hjF hG hj hjl hij
                      go_wp2_with fail
                      go_roundw
                      case rel => exact ⟨j + 1, by have := hjl'.out.2; omega, hjl'.out.1, by simp, hG2, trivial⟩
                      case measure => have := hjl'.out.1; simp [intOf]; omega
                    · have he : (T.toList == []) = false := by rw [hTe]; simpa using hte
                      have hjn : ((j : Int) == (nF : Int)) = false := by rw [beq_eq_false_iff_ne]; omega
                      have hnj : Hid (∀ h : j < F.length, nbl F[j] = true) := fun _ => by rw [hx]; simp [nbl, hte]
                      have hj2 : Hid (j < nF) := hjl
                      clear hTe hte hT hx hjF hj hjl
                      go_wp2_with fail
                      clear u0 u1 he
                      go_loopw [14] (fun kv wt => ∃ (k : Nat), j ≤ k ∧ k ≤ nF ∧ kv = .int .i64 (k : Int) ∧ Hid (∀ q (h : q < F.length), j ≤ q → q < k → nbl F[q] = true) ∧ wo = wt) (fun kv _ => nF - (intOf kv).toNat)
                      case atStart => exact ⟨j, Nat.le_refl _, Nat.le_of_lt hj2.out, rfl, fun q _ h1 h2 => by omega, rfl⟩
                      case round =>
                        obtain ⟨k, hk1, hk2, rfl, hK, rfl⟩ := hrel
                        have k0 : (0 : Int) ≤ (k : Int) := Int.natCast_nonneg _
                        by_cases hkl : k < nF
                        · have k1 : (k : Int) < (nF : Int) := Int.ofNat_lt.2 hkl
                          have hkF : k < F.length := by rw [hnF'.out]; exact hkl
                          obtain ⟨u0, u1⟩ := row_line (G4.out.below lV_two hB.out) k hkF
                          obtain ⟨⟨k9, tx⟩, hx⟩ : ∃ x, F[k] = x := ⟨_, rfl⟩
                          rw [hx] at u0 u1
                          dsimp only at u0 u1
                          obtain ⟨T, hT⟩ : ∃ T, S tx = T := ⟨_, rfl⟩
                          rw [hT] at u1
                          have hTe := toL_e hT
                          by_cases hte : tx = []
                          · have he : (T.toList == []) = true := by rw [hTe, hte]; rfl
                            have hjk : j < k := by
                              rcases Nat.lt_or_ge j k with h | h
                              · exact h
                              · have e : k = j := by omega
                                subst e
                                have h2 := hnj.out hkF
                                rw [hx, hte] at h2
                                cases h2
                            have hend : ∀ h : k < F.length, nbl F[k] = false := fun h => by rw [hx, hte]; rfl
                            clear hTe hte hT hx hkF hkl
                            have hjk' : Hid (j < k) := hjk
                            have hcut : Hid (G (F.drop i) = (F.drop j).take (k - j) :: G (F.drop k)) := by
                              unfold Hid
                              rw [← hG.out]
                              exact G_cut F j k hjk (by rw [hnF'.out]; omega) hK.out hend
                            have hcl2 : (k : Int) ≤ (cl : Int) := by omega
                            have jk1 : (j : Int) ≤ (k : Int) := by omega
                            have hkn : Hid (k ≤ nF ∧ i ≤ j) := ⟨by omega, hij⟩
                            clear hend hK hG hjk hk1 hk2 hij hj2
                            obtain ⟨p, hp⟩ : ∃ p : GxR, (lo + j * 2, cl - j, (F.drop j).take (k - j)) = p := ⟨_, rfl⟩
                            have hrow : Hid (GRow 1 (sV lb) (wo.alloc (.cells #[.slice (some ⟨lb, lo + j * 2, none⟩) (k - j) (cl - j)] 39)) (some ⟨wo.heap.size, 0, none⟩) [p]) := by
                              have h := GRow.one (k := 1) (sV lb) wo 39 p
                              have e : sV lb p = [.slice (some ⟨lb, lo + j * 2, none⟩) (k - j) (cl - j)] := by
                                rw [← hp]
                                show [Value.slice (some ⟨lb, lo + j * 2, none⟩) ((F.drop j).take (k - j)).length (cl - j)] = _
                                rw [List.length_take, List.length_drop, hnF'.out, Nat.min_eq_left (by have := hkn.out.1; omega)]
                              rw [e] at h
                              exact h
                            have hp2 : Hid (p.2.2 = (F.drop j).take (k - j) ∧ GRow 2 lV w4 (some ⟨lb, p.1, none⟩) p.2.2) := by
                              unfold Hid
                              rw [← hp]
                              exact ⟨rfl, row_cut G4.out j (k - j)⟩
                            have hLz : Hid (L.length ≤ 16777216) := by
                              have h1 := hO.out.1
                              have h2 := hkn.out
                              have h3 := hjk'.out
                              unfold Hid
                              omega
                            clear hp
                            go_wp2_with (at_builtin; refine push_grp _ rfl _ _ rfl rfl lb w4.heap.size _ L p wo.heap.size rfl rfl (hO.out.2.1.below ((Below.refl _ _).alloc (Nat.le_refl _) _)) hrow.out (by have := hB.out.size; simp; omega) hLz.out ?_; intro a6 c6 w6 o6 b6; have O6 : Hid (GOwn 39 1 (sV lb) w6 w4.heap.size _ _) := o6; have B6 : Hid (Below w4.heap.size w4 w6) := (hB.out.alloc hB.out.size _).trans b6; clear o6 b6)
                            go_roundw
                            case rel =>
                              refine ⟨k, a6, _, c6, L ++ [p], rfl, rfl, hkn.out.1, ?_, ⟨?_, O6.out, ?_⟩, B6⟩
                              · unfold Hid
                                rw [List.map_append, List.append_assoc, ← hL.out, hcut.out]
                                show _ ++ ([p.2.2] ++ _) = _
                                rw [hp2.out.1]
                                rfl
                              · have h1 := hO.out.1
                                have h2 := hkn.out
                                have h3 := hjk'.out
                                rw [List.length_append, List.length_singleton]
                                omega
                              · intro x hx
                                rcases List.mem_append.1 hx with hx | hx
                                · exact hO.out.2.2 x hx
                                · have e : x = p := by simpa using hx
                                  rw [e]
                                  exact hp2.out.2
                            case measure => have h2 := hkn.out; have h3 := hjk'.out; simp [intOf]; omega
                          · have he : (T.toList == []) = false := by rw [hTe]; simpa using hte
                            have hK2 : Hid (∀ q (h : q < F.length), j ≤ q → q < k + 1 → nbl F[q] = true) := fun q hq h1 h2 => by
                              by_cases h : q < k
                              · exact hK.out q hq h1 h
                              · have e : q = k := by omega
                                subst e
                                rw [hx]
                                simp [nbl, hte]
                            have hkl' : Hid (k < nF ∧ j ≤ k) := ⟨hkl, hk1⟩
                            clear hTe hte hT hx hkF hK hkl hk1 hk2
                            go_wp2_with fail
                            go_roundw
                            case rel => exact ⟨k + 1, by have := hkl'.out.2; omega, hkl'.out.1, by simp, hK2, trivial⟩
                            case measure => have := hkl'.out.1; simp [intOf]; omega
                        · have k1 : ¬ (k : Int) < (nF : Int) := by omega
                          have hjk : j < k := by have := hj2.out; omega
                          have hend : ∀ h : k < F.length, nbl F[k] = false := fun h => by rw [hnF'.out] at h; omega
                          clear hkl
                          have hjk' : Hid (j < k) := hjk
                          have hcut : Hid (G (F.drop i) = (F.drop j).take (k - j) :: G (F.drop k)) := by
                            unfold Hid
                            rw [← hG.out]
                            exact G_cut F j k hjk (by rw [hnF'.out]; omega) hK.out hend
                          have hcl2 : (k : Int) ≤ (cl : Int) := by omega
                          have jk1 : (j : Int) ≤ (k : Int) := by omega
                          have hkn : Hid (k ≤ nF ∧ i ≤ j) := ⟨by omega, hij⟩
                          clear hend hK hG hjk hk1 hk2 hij hj2
                          obtain ⟨p, hp⟩ : ∃ p : GxR, (lo + j * 2, cl - j, (F.drop j).take (k - j)) = p := ⟨_, rfl⟩
                          have hrow : Hid (GRow 1 (sV lb) (wo.alloc (.cells #[.slice (some ⟨lb, lo + j * 2, none⟩) (k - j) (cl - j)] 39)) (some ⟨wo.heap.size, 0, none⟩) [p]) := by
                            have h := GRow.one (k := 1) (sV lb) wo 39 p
                            have e : sV lb p = [.slice (some ⟨lb, lo + j * 2, none⟩) (k - j) (cl - j)] := by
                              rw [← hp]
                              show [Value.slice (some ⟨lb, lo + j * 2, none⟩) ((F.drop j).take (k - j)).length (cl - j)] = _
                              rw [List.length_take, List.length_drop, hnF'.out, Nat.min_eq_left (by have := hkn.out.1; omega)]
                            rw [e] at h
                            exact h
                          have hp2 : Hid (p.2.2 = (F.drop j).take (k - j) ∧ GRow 2 lV w4 (some ⟨lb, p.1, none⟩) p.2.2) := by
                            unfold Hid
                            rw [← hp]
                            exact ⟨rfl, row_cut G4.out j (k - j)⟩
                          have hLz : Hid (L.length ≤ 16777216) := by
                            have h1 := hO.out.1
                            have h2 := hkn.out
                            have h3 := hjk'.out
                            unfold Hid
                            omega
                          clear hp
                          go_wp2_with (at_builtin; refine push_grp _ rfl _ _ rfl rfl lb w4.heap.size _ L p wo.heap.size rfl rfl (hO.out.2.1.below ((Below.refl _ _).alloc (Nat.le_refl _) _)) hrow.out (by have := hB.out.size; simp; omega) hLz.out ?_; intro a6 c6 w6 o6 b6; have O6 : Hid (GOwn 39 1 (sV lb) w6 w4.heap.size _ _) := o6; have B6 : Hid (Below w4.heap.size w4 w6) := (hB.out.alloc hB.out.size _).trans b6; clear o6 b6)
                          go_roundw
                          case rel =>
                            refine ⟨k, a6, _, c6, L ++ [p], rfl, rfl, hkn.out.1, ?_, ⟨?_, O6.out, ?_⟩, B6⟩
                            · unfold Hid
                              rw [List.map_append, List.append_assoc, ← hL.out, hcut.out]
                              show _ ++ ([p.2.2] ++ _) = _
                              rw [hp2.out.1]
                              rfl
                            · have h1 := hO.out.1
                              have h2 := hkn.out
                              have h3 := hjk'.out
                              rw [List.length_append, List.length_singleton]
                              omega
                            · intro x hx
                              rcases List.mem_append.1 hx with hx | hx
                              · exact hO.out.2.2 x hx
                              · have e : x = p := by simpa using hx
                                rw [e]
                                exact hp2.out.2
                          case measure => have h2 := hkn.out; have h3 := hjk'.out; simp [intOf]; omega
                  · have j1 : ¬ (j : Int) < (nF : Int) := by omega
                    have hjn : ((j : Int) == (nF : Int)) = true := by rw [beq_iff_eq]; omega
                    have hLG : Hid (L.map (·.2.2) = G (F.drop (r + 1))) := by
                      unfold Hid
                      rw [← hL.out, ← hG.out, List.drop_eq_nil_of_le (by rw [hnF'.out]; omega), G_nil, List.append_nil]
                    obtain ⟨oa', oc', hov, _, _, hrw⟩ := hO.out.2.1.row (sV_one lb)
                    injection hov with e1 e2 e3
                    subst e1 e3
                    have HW : Hid (Below w.heap.size w wo) := H4.out.trans (hB.out.mono H4.out.size)
                    have hGI : Hid (GrI wo (.slice oa on oc) (G (F.drop (r + 1)))) := by
                      refine ⟨oa, oc, lb, L, ?_, hLG.out, hrw, fun x hx => (hO.out.2.2 x hx).below lV_two hB.out⟩
                      rw [← hLG.out, List.length_map, e2]
                    by_cases hL0 : L = []
                    · have on0 : on = 0 := by rw [e2, hL0]; rfl
                      have hbad : Hid ((grA (nP + 1) F).2 = (73, nP + 1)) := by
                        unfold Hid
                        rw [hgr2.out, if_pos (by rw [← hLG.out, hL0]; rfl)]
                      clear hGI hLG hL hG hij hj hjl hO hrw e2 hL0 hgr2
                      subst on0
                      go_wp2_with fail
                      go_ret3
                      have h := GrQ.bad hbad.out (by decide) HW.out (.slice none 0 0)
                      rw [hE.out] at h
                      exact h
                    · have on0 : ((on : Int) == 0) = false := by
                        have : 0 < L.length := List.length_pos_iff.2 hL0
                        rw [beq_eq_false_iff_ne]
                        omega
                      have hok : Hid (grA (nP + 1) F = (G (F.drop (r + 1)), 0, 0)) := by
                        unfold Hid
                        rw [hgr2.out, if_neg (fun e => hL0 (by rw [← hLG.out] at e; simpa using e))]
                      clear hLG hL hG hij hj hjl hO hrw e2 hL0 hgr2
                      go_wp2_with fail
                      go_ret3
                      unfold GrQ
                      rw [hok.out]
                      exact ⟨⟨_, rfl, fun _ => hGI.out⟩, HW.out⟩
        · have r1 : ¬ (r : Int) < (nF : Int) := by omega
          have hrn : ((r : Int) == (nF : Int)) = true := by rw [beq_iff_eq]; omega
          have hbad : Hid ((grA (nP + 1) F).2 = (72, nP + 1)) := by
            unfold Hid grA
            rw [dropW _ F r (fun j hj hjr => by rw [hN.out j hj hjr]; rfl) (fun h => by rw [hnF'.out] at h; omega), List.drop_eq_nil_of_le (by rw [hnF'.out]; omega)]
          clear hN hr hrl
          go_wp2_with fail
          go_ret3
          have h := GrQ.bad hbad.out (by decide) HB.out (.slice none 0 0)
          rw [hE.out] at h
          exact h
end Rd
end Go.Proofs.YtoomoicjoockjaaGreatDoor
