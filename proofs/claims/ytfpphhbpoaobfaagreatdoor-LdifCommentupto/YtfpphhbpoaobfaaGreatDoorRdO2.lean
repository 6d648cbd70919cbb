import Derived.Test.YtfpphhbpoaobfaaGreatDoorGRI
import Derived.Test.YtfpphhbpoaobfaaGreatDoorGO
namespace Go.Proofs.YtfpphhbpoaobfaaGreatDoor
namespace Rd
open Go.RowKit
open LdMath
open Lr (PR RC pf chg okD dnB ChgTab GOwn GRow pV pV_len Kd PX RX rV rV_len append_gen RRow PRow said rrow_at prow_at drewN_below)
set_option linter.unusedVariables false
set_option maxRecDepth 100000

/-- Without line feeds and returns. -/
def cln (l : List UInt8) : List UInt8 := l.filter (fun c => c != 10 && c != 13)
theorem cln_no (l : List UInt8) : 10 ∉ cln l ∧ 13 ∉ cln l := by
  unfold cln
  constructor
  all_goals
    intro h
    have := (List.mem_filter.1 h).2
    revert this
    decide
theorem cln_len (l : List UInt8) : (cln l).length ≤ l.length := List.length_filter_le _ _
set_option maxHeartbeats 4000000 in
theorem clean_any (s : ByteArray) (hs : s.size ≤ 1048576) (w : World) :
    Calls Tryz.prog 14 #[.string s] w fun e w' => e = .returned (.string (S (cln s.data.toList))) ∧ Below w.heap.size w w' := by
  go_enter Tryz.func14, Tryz.ntmps14
  go_wp2_with fail
  go_loopw [3, 4] (fun bv iv wr => ∃ (i : Nat) (a : Option Addr) (n c : Nat), i ≤ s.size ∧ iv = .int .i64 (i : Int) ∧ bv = .slice a n c ∧ Hid (Own wr w.heap.size (.slice a n c) (cln (s.data.toList.take i)) ∧ Below w.heap.size w wr)) (fun _ iv _ => s.size - (intOf iv).toNat)
  case atStart => exact ⟨0, none, 0, 0, Nat.zero_le _, rfl, rfl, own_nil _ _, Below.refl _ _⟩
  case round =>
    obtain ⟨i, a, n, c, hi, rfl, rfl, hQ⟩ := hrel
    have i0 : (0 : Int) ≤ (i : Int) := Int.natCast_nonneg _
    have i1 : (i : Int) < 1099511627777 := by omega
    by_cases hlt : i < s.size
    · obtain ⟨cc, hcc⟩ : ∃ cc, s[i] = cc := ⟨_, rfl⟩
      obtain ⟨z, hz⟩ : ∃ z : Int, (s[i].toNat : Int) = z := ⟨_, rfl⟩
      have hzc : (cc.toNat : Int) = z := by rw [← hcc]; exact hz
      have hlt' : Hid (i < s.size) := hlt
      have htk : s.data.toList.take (i + 1) = s.data.toList.take i ++ [cc] := by rw [← hcc]; exact take_snoc s i hlt
      have hne : ∀ k : UInt8, cc ≠ k → (z != (k.toNat : Int)) = true := by
        intro k hk
        rw [← hzc, bne_iff_ne]
        intro e
        exact hk (UInt8.toNat_inj.1 (by omega))
      have happ : cln (s.data.toList.take (i + 1)) = cln (s.data.toList.take i) ++ cln [cc] := by rw [htk]; exact List.filter_append _ _
      by_cases h10 : cc = 10
      · have hb : (z != 10) = false := by rw [← hzc, h10]; rfl
        have hfin : Hid (Own wr w.heap.size (.slice a n c) (cln (s.data.toList.take (i + 1))) ∧ Below w.heap.size w wr) := by
          refine ⟨?_, hQ.out.2⟩
          have e1 : cln [cc] = [] := by rw [h10]; rfl
          rw [happ, e1, List.append_nil]
          exact hQ.out.1
        clear h10 htk hcc hQ hi hs hzc hne happ
        go_wp2_with fail
        go_roundw
        case rel => exact ⟨i + 1, _, _, _, hlt'.out, by simp, rfl, hfin⟩
        case measure => have := hlt'.out; simp [intOf]; omega
      · have hb : (z != 10) = true := hne 10 h10
        by_cases h13 : cc = 13
        · have hb' : (z != 13) = false := by rw [← hzc, h13]; rfl
          have hfin : Hid (Own wr w.heap.size (.slice a n c) (cln (s.data.toList.take (i + 1))) ∧ Below w.heap.size w wr) := by
            refine ⟨?_, hQ.out.2⟩
            have e1 : cln [cc] = [] := by rw [h13]; rfl
            rw [happ, e1, List.append_nil]
            exact hQ.out.1
          clear h10 h13 htk hcc hQ hi hs hzc hne happ
          go_wp2_with fail
          go_roundw
          case rel => exact ⟨i + 1, _, _, _, hlt'.out, by simp, rfl, hfin⟩
          case measure => have := hlt'.out; simp [intOf]; omega
        · have hb' : (z != 13) = true := hne 13 h13
          have hsz : w.heap.size ≤ wr.heap.size := hQ.out.2.size
          have hcl := cln_len (s.data.toList.take i)
          rw [List.length_take] at hcl
          obtain ⟨g2, k2, w3, e2, o2, b2⟩ := app_byte wr w.heap.size (.slice a n c) _ cc hQ.out.1 hsz (by omega)
          obtain ⟨n2, hn2⟩ : ∃ n2, (cln (s.data.toList.take i)).length + 1 = n2 := ⟨_, rfl⟩
          rw [hn2] at e2 o2
          have hfin : Hid (Own w3 w.heap.size (.slice (some ⟨g2, 0, none⟩) n2 k2) (cln (s.data.toList.take (i + 1))) ∧ Below w.heap.size w w3) := by
            refine ⟨?_, hQ.out.2.trans b2⟩
            have e1 : cln [cc] = [cc] := by unfold cln; simp [h10, h13]
            rw [happ, e1]
            exact o2
          rw [hzc] at e2
          clear o2 b2 hn2 htk hsz hcl hQ h13 h10 hi hs hcc hzc hne happ
          go_wp2_with (at_builtin; refine Lib.wpList_append_run _ rfl _ _ _ _ rfl _ _ rfl rfl _ _ e2 ?_; clear e2)
          go_roundw
          case rel => exact ⟨i + 1, _, _, _, hlt'.out, by simp, rfl, hfin⟩
          case measure => have := hlt'.out; simp [intOf]; omega
    · have hie : i = s.size := by omega
      subst hie
      obtain ⟨q1, q3⟩ := hQ.out
      rw [List.take_of_length_le (by rw [size_l]; exact Nat.le_refl _)] at q1
      have hcv := own_conv q1
      have hb3 : Hid (Below w.heap.size w wr) := q3
      clear q1 q3 hQ hlt hi hs
      go_wp2_with fail
      go_ret
      exact ⟨rfl, hb3.out⟩
/-- Blanks ahead. -/
theorem skip_at (l : List UInt8) : ∀ (i : Nat), (∀ j, j < i → l[j]? = some 32) → skipS l = skipS (l.drop i) := by
  intro i
  induction i with
  | zero => intro _; rfl
  | succ i ih =>
    intro h
    rw [ih (fun j hj => h j (by omega))]
    have h1 := h i (by omega)
    obtain ⟨hi, he⟩ := List.getElem?_eq_some_iff.1 h1
    rw [List.drop_eq_getElem_cons hi, he]
    rfl
theorem skip_end (l : List UInt8) (i : Nat) (h : ∀ j, j < i → l[j]? = some 32) (he : ¬ l[i]? = some 32) : skipS l = l.drop i := by
  rw [skip_at l i h]
  cases hd : l.drop i with
  | nil => rfl
  | cons c r =>
    have h1 : l[i]? = some c := by rw [← List.head?_drop, hd]; rfl
    unfold skipS
    rw [List.dropWhile_cons, if_neg (by
      intro e
      have : c = 32 := by simpa using e
      rw [this] at h1
      exact he h1)]
/-- One record's cells. -/
theorem one_rec {W : World} {ln : Nat} {nm : List UInt8} {ps : List PR} {a : Option Addr} {Rs : List RX} (h : LdRw W [(ln, nm, ps)] a Rs) : ∃ b o pa pc, a = some ⟨b, o, none⟩ ∧ W.cell? ⟨b, o, none⟩ = some (.int .i64 (ln : Int)) ∧ W.cell? ⟨b, o + 1, none⟩ = some (.string (S nm)) ∧ W.cell? ⟨b, o + 2, none⟩ = some (.slice pa ps.length pc) ∧ PRow W pa ps := by
  obtain ⟨h1, h2, h3⟩ := h
  have hl : 0 < Rs.length := by rw [h2]; exact Nat.zero_lt_one
  obtain ⟨b, o, rfl, c0, c1, c2⟩ := rrow_at h1 0 hl
  obtain ⟨e1, e2⟩ := h3 0 hl Nat.zero_lt_one
  have r1 := (h1.2 _ (List.getElem_mem hl)).1
  generalize hx : Rs[0] = x at *
  obtain ⟨ln', nm', pa, pc, ps'⟩ := x
  dsimp only [said] at c0 c1 c2 e1 e2 r1
  injection e2 with e2 e3
  have e4 : ps' = ps := e3
  have e5 : nm' = nm := e2
  subst e4 e5
  have e6 : ln' = (ln : Int) := e1
  subst e6
  exact ⟨b, o, pa, pc, rfl, by simpa using c0, by simpa using c1, by simpa using c2, r1⟩
end Rd
end Go.Proofs.YtfpphhbpoaobfaaGreatDoor
