import Derived.Test.YtfpphhbpoaobfaaGreatDoorGLrB
namespace Go.Proofs.YtfpphhbpoaobfaaGreatDoor
namespace Lr
open Go.RowKit
open TextMath (b64 fold)
set_option linter.unusedVariables false
set_option maxRecDepth 100000

set_option maxHeartbeats 2000000 in
theorem recordFault_any (ln : Int) (nm : List UInt8) (pa : Option Addr) (pc : Nat) (ps : List PR) (w : World) (hr : PRow w pa ps) (hz : wRc (nm, ps) ≤ 1048576) (hT : ChgTab w) :
    Calls Tryz.prog 27 #[.agg #[.int .i64 ln, .string (S nm), .slice pa ps.length pc]] w fun e w' => e = .returned (.int .i64 (rf (nm, ps) : Nat)) ∧ Below w.heap.size w w' := by
  have hpl := wp_len (nm, ps)
  have hws : Hid (∀ i (hi : i < ps.length), ps[i].1.length ≤ 1048576) := fun i hi => by
    have := wp_le (nm, ps) ps[i] (List.getElem_mem hi)
    unfold wp at this
    omega
  have nb : (ps.length : Int) ≤ 1048576 := by simp only at hpl; omega
  have hr' : Hid (PRow w pa ps) := hr
  have hT' : Hid (ChgTab w) := hT
  obtain ⟨N, hN⟩ : ∃ N, S nm = N := ⟨_, rfl⟩
  rw [hN]
  by_cases h0 : ps = []
  · subst h0
    have hres : Hid (rf (nm, []) = 79) := by unfold Hid rf; rw [if_pos rfl]
    clear hr hz hT hpl hN
    go_enter Tryz.func27, Tryz.ntmps27
    go_wp2_with fail
    go_ret
    exact ⟨by rw [hres.out]; rfl, (Below.refl _ _).alloc (Nat.le_refl _) _⟩
  · obtain ⟨n, hn⟩ : ∃ n, ps.length = n := ⟨_, rfl⟩
    have hrf : Hid (rf (nm, ps) = pfs true ps) := by unfold Hid rf; rw [if_neg h0]
    have hn' : Hid (ps.length = n) := hn
    have hn0 : ((n : Int) == 0) = false := by
      have : n ≠ 0 := fun e => h0 (List.eq_nil_of_length_eq_zero (by omega))
      simp; omega
    rw [hn] at nb ⊢
    clear hr hz hT hpl hN h0 hn
    go_enter Tryz.func27, Tryz.ntmps27
    go_wp2_with fail
    go_loopw [3, 14] (fun kv iv wr => ∃ i : Nat, iv = .int .i64 (i : Int) ∧ i ≤ n ∧ kv = .int .i64 (if decide (i = 0) = true then 3 else 4) ∧ Hid (∀ j (h : j < ps.length), j < i → pf (true && decide (j = 0)) ps[j].1 = 0) ∧ Hid (Below w.heap.size w wr)) (fun _ iv _ => n - (intOf iv).toNat)
    case atStart => exact ⟨0, rfl, Nat.zero_le _, rfl, fun j _ h => by omega, (Below.refl _ _).alloc (Nat.le_refl _) _⟩
    case round =>
      obtain ⟨i, rfl, hi, rfl, hall, hB⟩ := hrel
      have i0 : (0 : Int) ≤ (i : Int) := Int.natCast_nonneg _
      by_cases hlt : i < n
      · have i1 : (i : Int) < (n : Int) := Int.ofNat_lt.2 hlt
        have hiP : i < ps.length := by rw [hn'.out]; exact hlt
        obtain ⟨pb, po, rfl, c1, c2⟩ := prow_at (hr'.out.below pV_len hB.out) i hiP
        obtain ⟨kv, hkv⟩ : ∃ kv : Int, (if decide (i = 0) = true then 3 else 4) = kv := ⟨_, rfl⟩
        rw [hkv]
        obtain ⟨d, hd⟩ : ∃ d, S ps[i].1 = d := ⟨_, rfl⟩
        obtain ⟨v, hv⟩ : ∃ v, S ps[i].2 = v := ⟨_, rfl⟩
        rw [hd] at c1
        rw [hv] at c2
        have hW : Hid (∀ W, Below w.heap.size w W → Calls Tryz.prog 44 #[.string d, .int .i64 kv] W fun e w' => e = .returned (.int .i64 (pf (true && decide (i = 0)) ps[i].1 : Nat)) ∧ Below W.heap.size W w') := fun W hW => by
          have := wordFault_any d (true && decide (i = 0)) kv (by rw [Bool.true_and]; exact hkv.symm) W (by rw [← hd, S_size]; have := hws.out i hiP; omega) (hT'.out.below hW)
          rw [← hd, S_l] at this
          rw [← hd]
          exact this
        have hlt' : Hid (i < n) := hlt
        have hB1 : Hid (Below w.heap.size w (wr.alloc (.cells #[.string d, .string v] 46))) := hB.out.alloc hB.out.size _
        have hnext : Hid (pf (true && decide (i = 0)) ps[i].1 = 0 → ∀ j (h : j < ps.length), j < i + 1 → pf (true && decide (j = 0)) ps[j].1 = 0) := fun e j h hj => by
          by_cases e2 : j = i
          · subst e2; exact e
          · exact hall.out j h (by omega)
        have hbad : Hid (pf (true && decide (i = 0)) ps[i].1 ≠ 0 → rf (nm, ps) = pf (true && decide (i = 0)) ps[i].1) := fun e => by
          rw [hrf.out]
          exact pfs_at ps true i hiP (fun j h hj => hall.out j h hj) e
        have hfb : (pf (true && decide (i = 0)) ps[i].1 : Int) ≤ 78 := by unfold pf; split; decide; split <;> decide
        generalize pf (true && decide (i = 0)) ps[i].1 = F at *
        clear hd hv hkv hall hi hlt hiP
        by_cases hF : F = 0
        · subst hF
          have hnx : Hid (∀ j (h : j < ps.length), j < i + 1 → pf (true && decide (j = 0)) ps[j].1 = 0) := hnext.out rfl
          have hks : Hid ((if decide (i + 1 = 0) = true then (3 : Int) else 4) = 4) := by unfold Hid; rw [if_neg (by simp)]
          clear hnext hbad
          go_wp2_with (go_at_call 44; refine (hW.out _ hB1.out).mono ?_; rintro e w2 ⟨rfl, hb2⟩; have H2 : Hid (Below w.heap.size w w2) := hB1.out.trans (hb2.mono hB1.out.size); clear hb2)
          go_roundw
          case rel => exact ⟨i + 1, by simp, hlt'.out, by rw [hks.out], hnx, H2⟩
          case measure => have := hlt'.out; simp [intOf]; omega
        · have hres := hbad.out hF
          have hres' : Hid (rf (nm, ps) = F) := hres
          have hFb : ((F : Int) != 0) = true := by simp; omega
          clear hnext hbad hres hF
          go_wp2_with (go_at_call 44; refine (hW.out _ hB1.out).mono ?_; rintro e w2 ⟨rfl, hb2⟩; have H2 : Hid (Below w.heap.size w w2) := hB1.out.trans (hb2.mono hB1.out.size); clear hb2)
          go_ret
          exact ⟨by rw [hres'.out]; rfl, H2.out⟩
      · have e : n = i := by omega
        subst e
        have i1 : ¬ (n : Int) < (n : Int) := by omega
        have hres : Hid (rf (nm, ps) = 0) := by
          unfold Hid
          rw [hrf.out]
          exact pfs_all ps true (fun j h => hall.out j h (by have := hn'.out; omega))
        clear hall hi hlt
        obtain ⟨kv, hkv⟩ : ∃ kv : Int, (if decide (n = 0) = true then 3 else 4) = kv := ⟨_, rfl⟩
        rw [hkv]
        clear hkv
        go_wp2_with fail
        go_ret
        exact ⟨by rw [hres.out]; rfl, hB.out⟩
theorem kt_box {w w' : World} {k : Nat} {cs : Array Value} {t : TypeId} {fz : Nat × Nat} (h : Kt w w') (hb : w.heap[k]? = some (.cells cs t fz)) (h1 : t ≠ 66) (h2 : t ≠ 5) : w'.heap[k]? = some (.cells cs t fz) :=
  h k _ hb (fun _ _ e => by injection e with _ e _; exact h1 e) (fun _ _ e => by injection e with _ e _; exact h2 e)
set_option maxHeartbeats 2000000 in
theorem writeRecord_any (b : Nat) (w0 wS : World) (l : List UInt8) (ln : Int) (nm : List UInt8) (pa : Option Addr) (pc : Nat) (ps : List PR) (w : World) (h : Bd b w0 wS l w) (ht : AlTab w0) (hr : PRow w0 pa ps) (hz : wRc (nm, ps) ≤ 1048576) (hl : l.length ≤ 8388608) :
    Calls Tryz.prog 29 #[.pointer (some ⟨b, 0, none⟩), .agg #[.int .i64 ln, .string (S nm), .slice pa ps.length pc]] w fun e w' => e = .returned (.tuple #[]) ∧ Bd b w0 wS (l ++ rec1 (nm, ps)) w' := by
  have hpl := wp_len (nm, ps)
  have hwn : nm.length ≤ 1048576 := by unfold wRc at hz; simp only at hz; omega
  have hws : Hid (∀ i (hi : i < ps.length), ps[i].1.length + ps[i].2.length ≤ 1048576) := fun i hi => by
    have := wp_le (nm, ps) ps[i] (List.getElem_mem hi)
    unfold wp at this
    unfold wRc at this hz
    simp only at this hz
    omega
  have nb : (ps.length : Int) ≤ 1048576 := by simp only at hpl; omega
  have hlen : Hid (∀ i, (l ++ lin dnB nm ++ ((ps.take i).flatMap fun p => lin p.1 p.2)).length ≤ 33554432) := fun i => by
    have h1 := lin_len dnB nm
    have h2 := lins_len (ps.take i)
    have h3 : ((ps.take i).map wp).sum ≤ (ps.map wp).sum := by
      have e : (ps.map wp).sum = ((ps.take i).map wp).sum + ((ps.drop i).map wp).sum := by rw [← List.sum_append, ← List.map_append, List.take_append_drop]
      omega
    have h4 : (ps.map wp).sum ≤ 1048576 := by unfold wRc at hz; simp only at hz; omega
    have h5 : dnB.length = 2 := rfl
    rw [List.length_append, List.length_append]
    omega
  obtain ⟨W0, hW0⟩ : ∃ W0, w.alloc (.cells #[.int .i64 ln, .string (S nm), .slice pa ps.length pc] 36) = W0 := ⟨_, rfl⟩
  have hB0 : Bd b w0 wS l W0 := by rw [← hW0]; exact h.below ((Below.refl _ _).alloc (Nat.le_refl _) _)
  have hx0 : W0.heap[w.heap.size]? = some (.cells #[.int .i64 ln, .string (S nm), .slice pa ps.length pc] 36 (0, 0)) := by rw [← hW0]; exact heap_alloc_new _ _
  have hL1 : Hid (Calls Tryz.prog 45 #[.pointer (some ⟨b, 0, none⟩), .string { data := #[100, 110] }, .string (S nm)] W0 fun e w' => e = .returned (.tuple #[]) ∧ Bd b w0 W0 (l ++ lin dnB nm) w') := by
    have := writeLine_any b w0 W0 l { data := #[100, 110] } (S nm) W0 hB0.rebase ht (by rw [S_size]; show l.length + 2 + 2 * nm.length ≤ 1073741824; omega)
    rw [S_l] at this
    exact this
  have c1 : W0.cell? ⟨w.heap.size, 1, none⟩ = some (.string (S nm)) := by rw [cell_of_row _ _ _ _ _ _ hx0]; rfl
  have hkS : Hid (Kt wS W0) := hB0.2.2
  obtain ⟨n, hn⟩ : ∃ n, ps.length = n := ⟨_, rfl⟩
  have hn' : Hid (ps.length = n) := hn
  have hr' : Hid (PRow w0 pa ps) := hr
  have ht' : Hid (AlTab w0) := ht
  obtain ⟨N, hN⟩ : ∃ N, S nm = N := ⟨_, rfl⟩
  rw [hN] at hL1 hx0 c1 hW0 ⊢
  rw [hn] at nb hx0 hW0 ⊢
  have hx0' : Hid (W0.heap[w.heap.size]? = some (.cells #[.int .i64 ln, .string N, .slice pa n pc] 36 (0, 0))) := hx0
  clear h ht hr hz hl hpl hwn hn hN hB0 hx0
  go_enter Tryz.func29, Tryz.ntmps29
  go_wp2_with fail
  refine hL1.out.mono ?_
  rintro e w1 ⟨rfl, h1⟩
  have h1' : Hid (Bd b w0 W0 (l ++ lin dnB nm) w1) := h1
  have hx1 := kt_box h1.2.2 hx0'.out (by decide) (by decide)
  have c2 : w1.cell? ⟨w.heap.size, 2, none⟩ = some (.slice pa n pc) := by rw [cell_of_row _ _ _ _ _ _ hx1]; rfl
  clear h1 hL1 hx1 c1 hW0
  go_wp2_with fail
  go_loopw [13] (fun iv wr => ∃ i : Nat, iv = .int .i64 (i : Int) ∧ i ≤ n ∧ Hid (Bd b w0 W0 (l ++ lin dnB nm ++ ((ps.take i).flatMap fun p => lin p.1 p.2)) wr)) (fun iv _ => n - (intOf iv).toNat)
  case atStart => exact ⟨0, rfl, Nat.zero_le _, by unfold Hid; simpa using h1'.out⟩
  case round =>
    obtain ⟨i, rfl, hi, hB⟩ := hrel
    have i0 : (0 : Int) ≤ (i : Int) := Int.natCast_nonneg _
    by_cases hlt : i < n
    · have i1 : (i : Int) < (n : Int) := Int.ofNat_lt.2 hlt
      have hiP : i < ps.length := by rw [hn'.out]; exact hlt
      obtain ⟨pb, po, rfl, c3, c4⟩ := prow_at (hr'.out.below pV_len hB.out.2.1) i hiP
      obtain ⟨d, hd⟩ : ∃ d, S ps[i].1 = d := ⟨_, rfl⟩
      obtain ⟨v, hv⟩ : ∃ v, S ps[i].2 = v := ⟨_, rfl⟩
      rw [hd] at c3
      rw [hv] at c4
      have hW : Hid (Calls Tryz.prog 45 #[.pointer (some ⟨b, 0, none⟩), .string d, .string v] (wr.alloc (.cells #[.string d, .string v] 46)) fun e w' => e = .returned (.tuple #[]) ∧ Bd b w0 W0 (l ++ lin dnB nm ++ ((ps.take (i + 1)).flatMap fun p => lin p.1 p.2)) w') := by
        have := writeLine_any b w0 W0 _ d v (wr.alloc (.cells #[.string d, .string v] 46)) (hB.out.below ((Below.refl _ _).alloc (Nat.le_refl _) _)) ht'.out (by have h1 := hlen.out i; have h2 := hws.out i hiP; rw [← hd, ← hv, S_size, S_size]; omega)
        rw [lins_snoc ps i hiP, ← List.append_assoc]
        rw [← hd, ← hv, S_l, S_l] at this
        rw [← hd, ← hv]
        exact this
      have hlt' : Hid (i < n) := hlt
      clear hd hv hi hlt hiP hB
      go_wp2_with (go_at_call 45; refine hW.out.mono ?_; rintro e w2 ⟨rfl, h2⟩; have h2' : Hid (Bd b w0 W0 (l ++ lin dnB nm ++ ((ps.take (i + 1)).flatMap fun p => lin p.1 p.2)) w2) := h2; clear h2)
      go_roundw
      case rel => exact ⟨i + 1, by simp, hlt'.out, h2'⟩
      case measure => have := hlt'.out; simp [intOf]; omega
    · have e : n = i := by omega
      subst e
      have i1 : ¬ (n : Int) < (n : Int) := by omega
      have hfin : Hid (Bd b w0 wS (l ++ rec1 (nm, ps)) wr) := by
        have h2 := hB.out
        rw [List.take_of_length_le (by rw [hn'.out]; exact Nat.le_refl _), List.append_assoc] at h2
        exact ⟨h2.1, h2.2.1, hkS.out.trans h2.2.2⟩
      clear hi hlt hB
      go_wp2_with fail
      go_end0
      exact ⟨rfl, hfin.out⟩
end Lr
end Go.Proofs.YtfpphhbpoaobfaaGreatDoor

namespace Go.Proofs.YtfpphhbpoaobfaaGreatDoor
namespace Lr
open Go.RowKit
open TextMath (b64 fold)
set_option linter.unusedVariables false
set_option maxRecDepth 100000

/-- What Render answers. -/
def renV (L : List RC) : Value := if L = [] then .tuple #[.string ⟨#[]⟩, .int .i64 73, .int .i64 0] else match ffs 0 L with
  | some (e, i) => .tuple #[.string ⟨#[]⟩, .int .i64 (e : Int), .int .i64 (i : Int)]
  | none => .tuple #[.string (S (ren L)), .int .i64 0, .int .i64 0]
theorem renV_nil : renV [] = .tuple #[.string ⟨#[]⟩, .int .i64 73, .int .i64 0] := rfl
theorem renV_bad (L : List RC) (i : Nat) (hi : i < L.length) (h : ∀ j (hj : j < L.length), j < i → rf L[j] = 0) (hn : rf L[i] ≠ 0) : renV L = .tuple #[.string ⟨#[]⟩, .int .i64 (rf L[i] : Int), .int .i64 (i : Int)] := by
  unfold renV
  rw [if_neg (by intro e; subst e; simp at hi), ffs_at L 0 i hi h hn, Nat.zero_add]
theorem renV_ok (L : List RC) (h0 : L ≠ []) (h : ∀ j (hj : j < L.length), rf L[j] = 0) : renV L = .tuple #[.string (S (ren L)), .int .i64 0, .int .i64 0] := by
  unfold renV
  rw [if_neg h0, ffs_all L 0 h]
theorem Bd.norm {b : Nat} {w0 wS : World} {l : List UInt8} {W : World} (h : Bd b w0 wS l W) : Bd b w0 w0 l W := ⟨h.1, h.2.1, Kt.below h.2.1⟩

set_option maxHeartbeats 2000000 in
theorem render_any (a : Option Addr) (c : Nat) (L : List RX) (w : World) (hr : RRow w a L) (ht : AlTab w) (hT : ChgTab w) (hz : wt (L.map said) ≤ 1048576) :
    Calls Tryz.prog 16 #[.slice a L.length c] w fun e w' => e = .returned (renV (L.map said)) ∧ Below w.heap.size w w' := by
  have hlen := wt_len (L.map said)
  rw [List.length_map] at hlen
  have nb : (L.length : Int) ≤ 1048576 := by omega
  obtain ⟨D, hD⟩ : ∃ D, L.map said = D := ⟨_, rfl⟩
  have hDl : Hid (D.length = L.length) := by unfold Hid; rw [← hD, List.length_map]
  have hDi : Hid (∀ i (hi : i < L.length) (hi' : i < D.length), D[i] = said L[i]) := fun i hi hi' => by subst hD; simp
  rw [hD] at hz ⊢
  by_cases h0 : L = []
  · subst h0
    have hD0 : D = [] := by rw [← hD]; rfl
    subst hD0
    clear hr ht hT hz hlen hD
    go_enter Tryz.func16, Tryz.ntmps16
    go_wp2_with fail
    go_ret3
    exact ⟨rfl, Below.refl _ _⟩
  · obtain ⟨n, hn⟩ : ∃ n, L.length = n := ⟨_, rfl⟩
    have hn0 : ((n : Int) == 0) = false := by
      have : n ≠ 0 := fun e => h0 (List.eq_nil_of_length_eq_zero (by omega))
      simp; omega
    have hne : Hid (D ≠ []) := fun e => h0 (List.eq_nil_of_length_eq_zero (by rw [← hDl.out, e]; rfl))
    have hn' : Hid (L.length = n) := hn
    have hr' : Hid (RRow w a L) := hr
    have ht' : Hid (AlTab w) := ht
    have hT' : Hid (ChgTab w) := hT
    have hz' : Hid (wt D ≤ 1048576) := hz
    have hll : Hid (∀ i, (ren (D.take i)).length ≤ 3145739) := fun i => by
      have h1 := ren_len (D.take i)
      have h2 := wt_take D i
      omega
    obtain ⟨W0, hW0⟩ : ∃ W0, w.alloc (.cells #[.pointer none, .slice none 0 0] 66) = W0 := ⟨_, rfl⟩
    have hB0 : Bd w.heap.size w w [] W0 := by
      have hb : Below w.heap.size w W0 := by rw [← hW0]; exact (Below.refl _ _).alloc (Nat.le_refl _) _
      refine ⟨?_, hb, Kt.below hb⟩
      have h := Lib.fresh_isBuilder 66 5 w
      rw [hW0] at h
      exact h
    have hS1 : Hid (Calls Tryz.prog 26 #[.pointer (some ⟨w.heap.size, 0, none⟩), .string { data := #[118, 101, 114, 115, 105, 111, 110, 58, 32, 49, 10] }] W0 fun e w' => e = .returned (.tuple #[.int .i64 11, .nilIface]) ∧ Bd w.heap.size w w verB w') := hB0.str { data := #[118, 101, 114, 115, 105, 111, 110, 58, 32, 49, 10] } (by decide)
    rw [hn] at nb ⊢
    clear hr ht hT hz hlen hD h0 hn hB0
    go_enter Tryz.func16, Tryz.ntmps16
    go_wp2_with fail
    refine hS1.out.mono ?_
    rintro e w1 ⟨rfl, h1⟩
    have h1' : Hid (Bd w.heap.size w w verB w1) := h1
    clear h1 hS1 hW0
    go_wp2_with fail
    go_loopw [15] (fun iv wr => ∃ i : Nat, iv = .int .i64 (i : Int) ∧ i ≤ n ∧ Hid (∀ j (h : j < D.length), j < i → rf D[j] = 0) ∧ Hid (Bd w.heap.size w w (ren (D.take i)) wr)) (fun iv _ => n - (intOf iv).toNat)
    case atStart => exact ⟨0, rfl, Nat.zero_le _, fun j _ h => by omega, by unfold Hid ren; simpa using h1'.out⟩
    case round =>
      obtain ⟨i, rfl, hi, hall, hB⟩ := hrel
      clear h1'
      have i0 : (0 : Int) ≤ (i : Int) := Int.natCast_nonneg _
      by_cases hlt : i < n
      · have i1 : (i : Int) < (n : Int) := Int.ofNat_lt.2 hlt
        have hiL : i < L.length := by rw [hn'.out]; exact hlt
        have hiD : i < D.length := by rw [hDl.out]; exact hiL
        have hRw := hr'.out.below hB.out.2.1
        obtain ⟨rb, ro, rfl, c1, c2, c3⟩ := rrow_at hRw i hiL
        have hpr := (hr'.out.2 _ (List.getElem_mem hiL)).1
        have hdi := hDi.out i hiL hiD
        have hwi : wRc D[i] ≤ 1048576 := Nat.le_trans (wr_le D D[i] (List.getElem_mem hiD)) hz'.out
        have hsn := ren_snoc D i hiD
        have hbad : Hid (rf D[i] ≠ 0 → renV D = .tuple #[.string ⟨#[]⟩, .int .i64 (rf D[i] : Int), .int .i64 (i : Int)]) := fun e => renV_bad D i hiD hall.out e
        have hnext : Hid (rf D[i] = 0 → ∀ j (h : j < D.length), j < i + 1 → rf D[j] = 0) := fun e j h hj => by
          by_cases e2 : j = i
          · subst e2; exact e
          · exact hall.out j h (by omega)
        rw [hdi] at hwi hsn hbad hnext
        generalize L[i] = r at *
        obtain ⟨ln, nm, pa, pc, ps⟩ := r
        dsimp only [said] at hwi hsn hbad hnext hpr c1 c2 c3
        obtain ⟨N, hN⟩ : ∃ N, S nm = N := ⟨_, rfl⟩
        obtain ⟨m, hm⟩ : ∃ m, ps.length = m := ⟨_, rfl⟩
        obtain ⟨W2, hW2⟩ : ∃ W2, wr.alloc (.cells #[.int .i64 ln, .string N, .slice pa m pc] 36) = W2 := ⟨_, rfl⟩
        have hx2 : W2.heap[wr.heap.size]? = some (.cells #[.int .i64 ln, .string N, .slice pa m pc] 36 (0, 0)) := by rw [← hW2]; exact heap_alloc_new _ _
        have hb2 : Below wr.heap.size wr W2 := by rw [← hW2]; exact (Below.refl _ _).alloc (Nat.le_refl _) _
        have hB2 : Hid (Bd w.heap.size w W2 (ren (D.take i)) W2) := (hB.out.below hb2).rebase
        have hF : Hid (Calls Tryz.prog 27 #[.agg #[.int .i64 ln, .string N, .slice pa m pc]] W2 fun e w' => e = .returned (.int .i64 (rf (nm, ps) : Nat)) ∧ Below W2.heap.size W2 w') := by
          have := recordFault_any ln nm pa pc ps W2 (hpr.below pV_len hB2.out.2.1) hwi (hT'.out.below hB2.out.2.1)
          rw [hN, hm] at this
          exact this
        have hWr : Hid (∀ W l, Bd w.heap.size w W2 l W → l.length ≤ 8388608 → Calls Tryz.prog 29 #[.pointer (some ⟨w.heap.size, 0, none⟩), .agg #[.int .i64 ln, .string N, .slice pa m pc]] W fun e w' => e = .returned (.tuple #[]) ∧ Bd w.heap.size w W2 (l ++ rec1 (nm, ps)) w') := fun W l hW hl => by
          have := writeRecord_any w.heap.size w W2 l ln nm pa pc ps W hW ht'.out hpr hwi hl
          rw [hN, hm] at this
          exact this
        rw [hN] at c2
        rw [hm] at c3
        have d0 : W2.cell? ⟨wr.heap.size, 0, none⟩ = some (.int .i64 ln) := by rw [cell_of_row _ _ _ _ _ _ hx2]; rfl
        have d1 : W2.cell? ⟨wr.heap.size, 1, none⟩ = some (.string N) := by rw [cell_of_row _ _ _ _ _ _ hx2]; rfl
        have d2 : W2.cell? ⟨wr.heap.size, 2, none⟩ = some (.slice pa m pc) := by rw [cell_of_row _ _ _ _ _ _ hx2]; rfl
        have hx2' : Hid (W2.heap[wr.heap.size]? = some (.cells #[.int .i64 ln, .string N, .slice pa m pc] 36 (0, 0))) := hx2
        have hsn' : Hid (ren (D.take (i + 1)) = ren (D.take i) ++ 10 :: rec1 (nm, ps)) := hsn
        have hlt' : Hid (i < n) := hlt
        have hfb : (rf (nm, ps) : Int) ≤ 79 := by
          unfold rf
          split
          · decide
          · have : ∀ (l : List PR) (b : Bool), pfs b l ≤ 79 := by
              intro l
              induction l with
              | nil => intro b; unfold pfs; omega
              | cons p t ih =>
                intro b
                unfold pfs
                split
                · exact ih false
                · unfold pf; split; omega; split <;> omega
            have := this ps true
            simp only
            omega
        clear hN hm hx2 hb2 hpr hdi hwi hsn hRw hall hi hlt hiL hiD hB
        generalize rf (nm, ps) = F at *
        by_cases hF0 : F = 0
        · subst hF0
          have hnx := hnext.out rfl
          have hnx' : Hid (∀ j (h : j < D.length), j < i + 1 → rf D[j] = 0) := hnx
          clear hnext hbad hnx
          go_wp2_with fail
          refine hF.out.mono ?_
          rintro e w3 ⟨rfl, hb3⟩
          have hB4 : Hid (Calls Tryz.prog 28 #[.pointer (some ⟨w.heap.size, 0, none⟩), .int .u8 10] w3 fun e w' => e = .returned .nilIface ∧ Bd w.heap.size w W2 (ren (D.take i) ++ [10]) w') := (hB2.out.below hb3).byte 10 (by have := hll.out i; omega)
          clear hb3 hF d0 d1 d2 hW2
          go_wp2_with fail
          refine hB4.out.mono ?_
          rintro e w4 ⟨rfl, h4⟩
          have hx4 := kt_box h4.2.2 hx2'.out (by decide) (by decide)
          have e0 : w4.cell? ⟨wr.heap.size, 0, none⟩ = some (.int .i64 ln) := by rw [cell_of_row _ _ _ _ _ _ hx4]; rfl
          have e1 : w4.cell? ⟨wr.heap.size, 1, none⟩ = some (.string N) := by rw [cell_of_row _ _ _ _ _ _ hx4]; rfl
          have e2 : w4.cell? ⟨wr.heap.size, 2, none⟩ = some (.slice pa m pc) := by rw [cell_of_row _ _ _ _ _ _ hx4]; rfl
          have hR5 : Hid (Calls Tryz.prog 29 #[.pointer (some ⟨w.heap.size, 0, none⟩), .agg #[.int .i64 ln, .string N, .slice pa m pc]] w4 fun e w' => e = .returned (.tuple #[]) ∧ Bd w.heap.size w W2 (ren (D.take i) ++ [10] ++ rec1 (nm, ps)) w') := hWr.out w4 _ h4 (by rw [List.length_append]; have := hll.out i; simp; omega)
          clear hx4 h4 hB4
          go_wp2_with fail
          refine hR5.out.mono ?_
          rintro e w5 ⟨rfl, h5⟩
          have h5' : Hid (Bd w.heap.size w w (ren (D.take (i + 1))) w5) := by
            unfold Hid
            rw [hsn'.out]
            have := h5.norm
            rw [List.append_assoc] at this
            exact this
          clear h5 hR5 e0 e1 e2
          go_wp2_with fail
          go_roundw
          case rel => exact ⟨i + 1, by simp, hlt'.out, hnx', h5'⟩
          case measure => have := hlt'.out; simp [intOf]; omega
        · have hres := hbad.out hF0
          have hres' : Hid (renV D = .tuple #[.string ⟨#[]⟩, .int .i64 (F : Int), .int .i64 (i : Int)]) := hres
          have hFb : ((F : Int) != 0) = true := by simp; omega
          have hBw : Hid (Below w.heap.size w W2) := hB2.out.2.1
          clear hnext hbad hres hF0
          go_wp2_with fail
          refine hF.out.mono ?_
          rintro e w3 ⟨rfl, hb3⟩
          have H3 : Hid (Below w.heap.size w w3) := hBw.out.trans (hb3.mono hBw.out.size)
          clear hb3 hF d0 d1 d2 hW2
          go_wp2_with fail
          go_ret3
          exact ⟨by rw [hres'.out]; rfl, H3.out⟩
      · have e : n = i := by omega
        subst e
        have i1 : ¬ (n : Int) < (n : Int) := by omega
        have hres : Hid (renV D = .tuple #[.string (S (ren D)), .int .i64 0, .int .i64 0]) := renV_ok D hne.out (fun j hj => hall.out j hj (by have := hDl.out; have := hn'.out; omega))
        have hst : Hid (Calls Tryz.prog 30 #[.pointer (some ⟨w.heap.size, 0, none⟩)] wr fun e w' => e = .returned (.string (S (ren D))) ∧ Below w.heap.size wr w') := by
          have := bString_any _ _ _ wr hB.out.1 hB.out.2.1.size
          rw [List.take_of_length_le (by rw [hDl.out, hn'.out]; exact Nat.le_refl _)] at this
          exact this
        have hBw : Hid (Below w.heap.size w wr) := hB.out.2.1
        clear hall hi hlt hB
        go_wp2_with fail
        refine hst.out.mono ?_
        rintro e w2 ⟨rfl, hb2⟩
        have H2 : Hid (Below w.heap.size w w2) := hBw.out.trans hb2
        clear hb2 hst
        go_wp2_with fail
        go_ret3
        exact ⟨by rw [hres.out]; rfl, H2.out⟩
end Lr
end Go.Proofs.YtfpphhbpoaobfaaGreatDoor
