import Derived.Test.YtkanoloddpigdaaDoorKeW
import Derived.Test.YtkanoloddpigdaaDoorDnLaw
namespace Go.Proofs.YtkanoloddpigdaaDoor
namespace Ke
open Go.RowKit Go.Lib
open Du (PRow DRow PX sd sd_len drow_at pV pV_len xV_len prow_at elD szD add_o)
set_option linter.unusedVariables false
set_option linter.unusedSimpArgs false
set_option maxRecDepth 100000

def cutA (a : Option Addr) (k c : Nat) : Option Addr := if c = k then a else a.map (·.add (k * 1))
theorem slice_from (a : Option Addr) (n c k : Nat) (hk : k ≤ n) (W : World) :
    (Instr.sliceAt 23 (.slice a n c) (some (.int .i64 (k : Int))) none none).run Tryd.prog W = .ok (.slice (cutA a k c) (n - k) (c - k)) W := by
  rw [run_sliceAt_slice _ _ _ _ _ _ elD, run_slice_l _ _ _ _ _ elD _ _ (Int.natCast_nonneg _) (Int.ofNat_le.2 hk), szD]
  simp [Result.andThen, sliced, cutA]
theorem drow_cut {w : World} {a : Option Addr} {L : List PX} {k c : Nat} (h : DRow w a L) (hc : L.length ≤ c) : DRow w (cutA a k c) (L.drop k) := by
  refine ⟨fun i hi => ?_, fun r hr => h.2 r (List.mem_of_mem_drop hr)⟩
  rw [List.length_drop] at hi
  obtain ⟨b, off, e, h1⟩ := h.1 (k + i) (by omega)
  subst e
  refine ⟨b, off + k, ?_, fun j hj => ?_⟩
  · unfold cutA
    rw [if_neg (by omega)]
    simp [add_o]
  · have := h1 j hj
    rw [List.getElem_drop]
    rw [← this]
    congr 2
    omega
theorem sd_drop (L : List PX) (k : Nat) : sd (L.drop k) = (sd L).drop k := by unfold sd; rw [List.map_drop]
theorem szs_drop {L : List PX} (h : Szs L) (k : Nat) : Szs (L.drop k) := ⟨fun r hr => h.1 r (List.mem_of_mem_drop hr), fun r hr => h.2.1 r (List.mem_of_mem_drop hr), by rw [List.length_drop]; have := h.2.2; omega⟩
theorem okD_drop {D : List (List PR)} (h : OkD D) (k : Nat) : OkD (D.drop k) := ⟨by rw [List.length_drop]; have := h.1; omega, fun r hr => h.2 r (List.mem_of_mem_drop hr)⟩
theorem keys_drop (D : List (List PR)) (k : Nat) : keys (D.drop k) = (keys D).take (D.length - k) := by
  unfold keys
  rw [List.take_reverse, List.map_drop, List.length_map]
  by_cases h : k ≤ D.length
  · rw [show D.length - (D.length - k) = k from by omega]
  · rw [show D.length - (D.length - k) = D.length from by omega, List.drop_of_length_le (by rw [List.length_map]; omega), List.drop_of_length_le (by rw [List.length_map]; exact Nat.le_refl _)]
theorem take_last (l : List (List UInt8)) (m : Nat) (h : m ≤ l.length) : (l.take m).dropLast = l.take (m - 1) := by
  rw [List.dropLast_eq_take, List.length_take, List.take_take]
  congr 1
  omega

set_option maxHeartbeats 4000000 in
theorem dnFamily_walk (sa : Option Addr) (sc n : Nat) (L : List PX) (w : World) (hG : ErrsG w) (hn : L.length = n) (hr : DRow w sa L) (hz : Szs L) (hc : n ≤ sc) :
    Calls Tryd.prog 4 #[.slice sa n sc] w fun e w' => e = .returned (.bool true) ∧ Below w.heap.size w w' := by
  have nb : (n : Int) ≤ 1073741824 := by have := hz.2.2; omega
  have hn' : Hid (L.length = n) := hn
  have hr' : Hid (DRow w sa L) := hr
  have hz' : Hid (Szs L) := hz
  have hG' : Hid (ErrsG w) := hG
  have hc' : Hid (n ≤ sc) := hc
  have c1 : Hid (Calls Tryd.prog 5 #[.slice sa n sc] w fun e w' => SdQ w (OkD (sd L)) e w') := sound_any sa sc n L w hn hr hz
  clear hn hr hz hG hc
  go_enter Tryd.func4, Tryd.ntmps4
  go_wp2_with fail
  refine c1.out.mono ?_
  rintro e W1 ⟨⟨b1, rfl, h1⟩, hb1⟩
  have hB1 : Hid (Below w.heap.size w W1) := hb1
  clear c1 hb1
  cases b1 with
  | false =>
    clear h1
    go_wp2_with fail
    go_ret
    exact ⟨rfl, hB1.out⟩
  | true =>
    have hD : Hid (OkD (sd L)) := h1.1 rfl
    clear h1
    have c3 : Hid (Calls Tryd.prog 7 #[.slice sa n sc] W1 fun e w' => ∃ a c, e = .returned (.slice a n c) ∧ Below W1.heap.size W1 w' ∧ Calls Tryd.prog 6 #[.slice a n c] w' fun e w'' => KeyQ w' (sd L) n e w'') := copy_key sa sc n L W1 hn'.out (hr'.out.below hB1.out) hz'.out (hG'.out.below hB1.out)
    go_wp2_with fail
    refine c3.out.mono ?_
    rintro e W3 ⟨a3, k3, rfl, hb3, c4⟩
    have hB3 : Hid (Below w.heap.size w W3) := hB1.out.trans (hb3.mono hB1.out.size)
    have c4' : Hid (Calls Tryd.prog 6 #[.slice a3 n k3] W3 fun e w'' => KeyQ W3 (sd L) n e w'') := c4
    clear c3 c4 hb3 hB1
    go_wp2_with fail
    refine c4'.out.mono ?_
    rintro e W4 ⟨hb4, hK4⟩
    have hB4 : Hid (Below w.heap.size w W4) := hB3.out.trans (hb4.mono hB3.out.size)
    obtain ⟨ka, kc, rfl, ho⟩ : ∃ ka kc, e = .returned (.tuple #[.slice ka n kc, .nilIface]) ∧ OwnS W4 W3.heap.size (.slice ka n kc) (keys (sd L)) := by
      rcases hK4 with ⟨_, ka, kc, h, ho⟩ | ⟨hno, _⟩
      · exact ⟨ka, kc, h, ho⟩
      · exact (hno hD.out).elim
    have hkl : Hid ((keys (sd L)).length = n ∧ n ≤ kc) := by
      refine ⟨by rw [keys_len, sd_len]; exact hn'.out, ?_⟩
      rcases ownS_form ho with ⟨h0, h1⟩ | ⟨g, cap, h0, hcap, _⟩
      · injection h0 with _ h0; omega
      · injection h0 with _ h0 h2; rw [h0, h2]; exact hcap
    have hrk : Hid (Row W4 ka (keys (sd L))) := (ownS_row ho).1
    obtain ⟨hv, W5, e5, o5, b5⟩ := append_row (W4.alloc (.cells #[] 9)) W4.heap.size (.slice (some ⟨W4.heap.size, 0, none⟩) 0 0) [] (keys (sd L)) ka n kc (own_empty W4) (hrk.out.below ((Below.refl _ _).alloc (Nat.le_refl _) _)) hkl.out.1.symm (by simp) (by rw [hkl.out.1]; simp; omega)
    rw [List.nil_append] at o5
    obtain ⟨ha, hc5, rfl⟩ : ∃ ha hc5, hv = .slice ha n hc5 := by
      rcases ownS_form o5 with ⟨h0, h1⟩ | ⟨g, cap, h0, _⟩
      · have h2 := hkl.out.1
        rw [h1] at h2
        exact ⟨none, 0, by rw [h0, ← h2]; rfl⟩
      · exact ⟨_, _, by rw [h0, hkl.out.1]⟩
    have hrh : Hid (Row W5 ha (keys (sd L))) := (ownS_row o5).1
    have hB5 : Hid (Below w.heap.size w W5 ∧ Below W4.heap.size W4 W5) := by
      have h := ((Below.refl W4.heap.size W4).alloc (Nat.le_refl _) (.cells #[] 9)).trans b5
      exact ⟨hB4.out.trans (h.mono hB4.out.size), h⟩
    clear c4' hb4 hB3 hK4 ho o5 b5
    go_wp2_with (at_builtin; refine Lib.wpList_append_run _ rfl _ _ _ _ rfl _ _ rfl rfl _ _ e5 ?_; clear e5)
    go_loopw [6, 7] (fun hv iv wr => ∃ (i hn0 hc0 : Nat) (ha0 : Option Addr), i ≤ n + 1 ∧ iv = .int .i64 (i : Int) ∧ hv = .slice ha0 hn0 hc0 ∧ Hid (hn0 = n - i ∧ Row wr ha0 ((keys (sd L)).take (n - i)) ∧ Below W5.heap.size W5 wr)) (fun _ iv _ => n + 1 - (intOf iv).toNat)
    case atStart => exact ⟨0, n, hc5, ha, by omega, rfl, rfl, rfl, by rw [Nat.sub_zero, List.take_of_length_le (by rw [hkl.out.1]; exact Nat.le_refl _)]; exact hrh.out, Below.refl _ _⟩
    case round =>
      obtain ⟨i, hn0, hc0, ha0, hi, rfl, rfl, hR⟩ := hrel
      have i0 : (0 : Int) ≤ (i : Int) := Int.natCast_nonneg _
      have hBw : Hid (Below w.heap.size w wr ∧ Below W4.heap.size W4 wr) := ⟨hB5.out.1.trans (hR.out.2.2.mono hB5.out.1.size), hB5.out.2.trans (hR.out.2.2.mono hB5.out.2.size)⟩
      by_cases hlt : i ≤ n
      · have i1 : (i : Int) ≤ (n : Int) := Int.ofNat_le.2 hlt
        have hsl : ∀ X, (Instr.sliceAt 23 (.slice sa n sc) (some (.int .i64 (i : Int))) none none).run Tryd.prog X = .ok (.slice (cutA sa i sc) (n - i) (sc - i)) X := fun X => slice_from sa n sc i hlt X
        have hLd : (L.drop i).length = n - i := by rw [List.length_drop, hn'.out]
        have c6 : Hid (Calls Tryd.prog 7 #[.slice (cutA sa i sc) (n - i) (sc - i)] wr fun e w' => ∃ a c, e = .returned (.slice a (n - i) c) ∧ Below wr.heap.size wr w' ∧ Calls Tryd.prog 6 #[.slice a (n - i) c] w' fun e w'' => KeyQ w' (sd (L.drop i)) (n - i) e w'') :=
          copy_key _ _ (n - i) (L.drop i) wr hLd (drow_cut (hr'.out.below hBw.out.1) (by rw [hn'.out]; exact hc'.out)) (szs_drop hz'.out i) (hG'.out.below hBw.out.1)
        have hlt' : Hid (i ≤ n) := hlt
        obtain ⟨m, hm⟩ : ∃ m, n - i = m := ⟨_, rfl⟩
        have hm' : Hid (n - i = m) := hm
        obtain ⟨cu, hcu⟩ : ∃ cu, cutA sa i sc = cu := ⟨_, rfl⟩
        obtain ⟨cc, hcc⟩ : ∃ cc, sc - i = cc := ⟨_, rfl⟩
        rw [hm, hcu, hcc] at c6
        simp only [hm, hcu, hcc] at hsl
        rw [hm] at hR
        clear hi hlt hLd hm hcu hcc
        go_wp2_with fail
        refine c6.out.mono ?_
        rintro e W6 ⟨a6, k6, rfl, hb6, c7⟩
        have hB6 : Hid (Below wr.heap.size wr W6) := hb6
        have c7' : Hid (Calls Tryd.prog 6 #[.slice a6 m k6] W6 fun e w'' => KeyQ W6 (sd (L.drop i)) m e w'') := c7
        clear c6 c7 hb6 hsl
        go_wp2_with fail
        refine c7'.out.mono ?_
        rintro e W7 ⟨hb7, hK7⟩
        have hB7 : Hid (Below wr.heap.size wr W7) := hB6.out.trans (hb7.mono hB6.out.size)
        have hkeq : Hid (keys (sd (L.drop i)) = (keys (sd L)).take m) := by
          unfold Hid
          rw [sd_drop, keys_drop, sd_len, hn'.out, hm'.out]
        obtain ⟨la, lc, rfl, hlrow, hlc⟩ : ∃ la lc, e = .returned (.tuple #[.slice la m lc, .nilIface]) ∧ Row W7 la ((keys (sd L)).take m) ∧ m ≤ lc := by
          rcases hK7 with ⟨_, la, lc, h, ho⟩ | ⟨hno, _⟩
          · refine ⟨la, lc, h, by rw [← hkeq.out]; exact (ownS_row ho).1, ?_⟩
            rcases ownS_form ho with ⟨h0, h1⟩ | ⟨g, cap, h0, hcap, _⟩
            · injection h0 with _ h0; omega
            · injection h0 with _ h0 h2; rw [h0, h2]; exact hcap
          · exact (hno (by rw [sd_drop]; exact okD_drop hD.out i)).elim
        have hlr : Hid (Row W7 la ((keys (sd L)).take m) ∧ m ≤ lc) := ⟨hlrow, hlc⟩
        obtain ⟨K, hK⟩ : ∃ K, keys (sd L) = K := ⟨_, rfl⟩
        rw [hK] at hkl hrk hrh hR hkeq hlr
        have hmn : Hid (m ≤ n) := by have := hm'.out; unfold Hid; omega
        have htl : Hid ((K.take m).length = m) := by unfold Hid; rw [List.length_take, hkl.out.1]; have := hmn.out; omega
        have s1 : Hid (Calls Tryd.prog 9 #[.slice la m lc, .slice ha0 hn0 hc0] W7 fun e w' => e = .returned (.bool true) ∧ Below W7.heap.size W7 w') := by
          have h := sameTexts_any (K.take m) (K.take m) la ha0 lc hc0 W7 (by rw [htl.out]; have := hmn.out; omega) (by rw [htl.out]; have := hmn.out; omega) hlr.out.1 (hR.out.2.1.below hB7.out)
          rw [htl.out] at h
          rw [hR.out.1]
          have : (decide (List.take m K = List.take m K)) = true := by simp
          rw [this] at h
          refine h.mono ?_
          rintro e w' ⟨rfl, q, rfl⟩
          exact ⟨rfl, Du.drewN_below _ _ _⟩
        have s2 : Hid (∀ X, Below W7.heap.size W7 X → Calls Tryd.prog 10 #[.slice la m lc, .slice ka n kc] X fun e w' => e = .returned (.bool true) ∧ Below X.heap.size X w') := fun X hX => by
          have hkX : Row X ka K := ((hrk.out.below hBw.out.2).below hB7.out).below hX
          have h := dnWithin_any (K.take m) K la ka lc kc X (by rw [htl.out]; have := hmn.out; omega) (by rw [hkl.out.1]; omega) (by rw [hkl.out.1]; exact hkl.out.2) (hlr.out.1.below hX) hkX
          rw [htl.out, hkl.out.1, decide_eq_true (List.take_prefix m K)] at h
          refine h.mono ?_
          rintro e w' ⟨rfl, q, rfl⟩
          exact ⟨rfl, Du.drewN_below _ _ _⟩
        have s3 : Hid (∀ X, Below W7.heap.size W7 X → Calls Tryd.prog 10 #[.slice ka n kc, .slice la m lc] X fun e w' => e = .returned (.bool (decide (i = 0))) ∧ Below X.heap.size X w') := fun X hX => by
          have hkX : Row X ka K := ((hrk.out.below hBw.out.2).below hB7.out).below hX
          have h := dnWithin_any K (K.take m) ka la kc lc X (by rw [hkl.out.1]; omega) (by rw [htl.out]; have := hmn.out; omega) (by rw [htl.out]; exact hlr.out.2) hkX (hlr.out.1.below hX)
          have hdec : decide (K <+: K.take m) = decide (i = 0) := by
            rw [decide_eq_decide]
            constructor
            · intro hp
              have h1 := hp.length_le
              rw [htl.out, hkl.out.1] at h1
              have := hm'.out
              have := hlt'.out
              omega
            · intro h0
              have : m = n := by have := hm'.out; omega
              rw [this, List.take_of_length_le (by rw [hkl.out.1]; exact Nat.le_refl _)]
              exact List.prefix_refl _
          rw [htl.out, hkl.out.1, hdec] at h
          refine h.mono ?_
          rintro e w' ⟨rfl, q, rfl⟩
          exact ⟨rfl, Du.drewN_below _ _ _⟩
        have s4 : Hid (∀ X, Below W7.heap.size W7 X → Calls Tryd.prog 11 #[.slice la m lc] X fun e w' => ∃ a' c', e = .returned (.tuple #[.slice a' (m - 1) c', .bool (decide (i < n))]) ∧ Row w' a' (K.take (m - 1)) ∧ Below X.heap.size X w') := fun X hX => by
          have h := dnParent_any (K.take m) la lc X (by rw [htl.out]; have := hmn.out; omega) (by rw [htl.out]; exact hlr.out.2) (hlr.out.1.below hX)
          have e1 : (K.take m).dropLast = K.take (m - 1) := take_last K m (by rw [hkl.out.1]; exact hmn.out)
          have e2 : (K.take (m - 1)).length = m - 1 := by rw [List.length_take, hkl.out.1]; have := hmn.out; omega
          have e3 : decide (0 < m) = decide (i < n) := by rw [decide_eq_decide]; have := hm'.out; have := hlt'.out; omega
          rw [e1, htl.out, e2, e3] at h
          exact h
        have hW7w : Hid (Below W5.heap.size W5 W7) := hR.out.2.2.trans (hB7.out.mono hR.out.2.2.size)
        clear hb7 hK7 hlrow hlc c7' hB6 hkeq
        go_wp2_with fail
        refine s1.out.mono ?_
        rintro e W8 ⟨rfl, hb8⟩
        have hB8 : Hid (Below W7.heap.size W7 W8) := hb8
        have s2' := s2.out W8 hb8
        have s2'' : Hid (Calls Tryd.prog 10 #[.slice la m lc, .slice ka n kc] W8 fun e w' => e = .returned (.bool true) ∧ Below W8.heap.size W8 w') := s2'
        clear s1 s2' hb8
        go_wp2_with fail
        refine s2''.out.mono ?_
        rintro e W9 ⟨rfl, hb9⟩
        have hB9 : Hid (Below W7.heap.size W7 W9) := hB8.out.trans (hb9.mono hB8.out.size)
        have s3' : Hid (Calls Tryd.prog 10 #[.slice ka n kc, .slice la m lc] W9 fun e w' => e = .returned (.bool (decide (i = 0))) ∧ Below W9.heap.size W9 w') := s3.out W9 hB9.out
        clear s2'' hb9 hB8 s2
        go_wp2_with fail
        refine s3'.out.mono ?_
        rintro e W10 ⟨rfl, hb10⟩
        have hB10 : Hid (Below W7.heap.size W7 W10) := hB9.out.trans (hb10.mono hB9.out.size)
        have s4' : Hid (Calls Tryd.prog 11 #[.slice la m lc] W10 fun e w' => ∃ a' c', e = .returned (.tuple #[.slice a' (m - 1) c', .bool (decide (i < n))]) ∧ Row w' a' (K.take (m - 1)) ∧ Below W10.heap.size W10 w') := s4.out W10 hB10.out
        clear s3' hb10 hB9 s3 s4
        have hend : Hid (∀ (a' : Option Addr) (W11 : World), Row W11 a' (K.take (m - 1)) → Below W10.heap.size W10 W11 → (m - 1 = n - (i + 1) ∧ Row W11 a' (K.take (n - (i + 1))) ∧ Below W5.heap.size W5 W11)) := fun a' W11 hrw hb => by
          have e1 : m - 1 = n - (i + 1) := by have := hm'.out; omega
          rw [← e1]
          exact ⟨rfl, hrw, (hW7w.out.trans (hB10.out.mono hW7w.out.size)).trans (hb.mono (hW7w.out.trans (hB10.out.mono hW7w.out.size)).size)⟩
        have hlt2 : Hid (i + 1 ≤ n + 1) := by have := hlt'.out; unfold Hid; omega
        rw [← hK] at hend
        by_cases hz0 : i = 0
        · have z1 : ((i : Int) == 0) = true := by simp [hz0]
          rw [decide_eq_true hz0]
          by_cases hin : i < n
          · have p1 : (i : Int) < (n : Int) := Int.ofNat_lt.2 hin
            rw [decide_eq_true hin] at s4'
            have mz : ((m - 1 : Nat) : Int) = (m : Int) - 1 := by have := hm'.out; omega
            have mb : (m : Int) ≤ 1073741824 := by have := hmn.out; omega
            clear hz0 hin
            go_wp2_with fail
            refine s4'.out.mono ?_
            rintro e W11 ⟨a', c', rfl, hrw, hb11⟩
            have hfin : Hid (m - 1 = n - (i + 1) ∧ Row W11 a' ((keys (sd L)).take (n - (i + 1))) ∧ Below W5.heap.size W5 W11) := hend.out a' W11 (by rw [hK]; exact hrw) hb11
            clear hrw hb11 s4' hend
            go_wp2_with fail
            go_roundw
            case rel => exact ⟨i + 1, _, _, _, hlt2.out, by go_num, rfl, hfin⟩
            case measure => have := hlt2.out; simp [intOf]; omega
          · have p1 : ¬ (i : Int) < (n : Int) := by omega
            rw [decide_eq_false hin] at s4'
            have mb : (m : Int) ≤ 1073741824 := by have := hmn.out; omega
            clear hz0 hin
            go_wp2_with fail
            refine s4'.out.mono ?_
            rintro e W11 ⟨a', c', rfl, hrw, hb11⟩
            have hfin : Hid (m - 1 = n - (i + 1) ∧ Row W11 a' ((keys (sd L)).take (n - (i + 1))) ∧ Below W5.heap.size W5 W11) := hend.out a' W11 (by rw [hK]; exact hrw) hb11
            clear hrw hb11 s4' hend
            go_wp2_with fail
            go_roundw
            case rel => exact ⟨i + 1, _, _, _, hlt2.out, by go_num, rfl, hfin⟩
            case measure => have := hlt2.out; simp [intOf]; omega
        · have z1 : ((i : Int) == 0) = false := by simp; omega
          rw [decide_eq_false hz0]
          by_cases hin : i < n
          · have p1 : (i : Int) < (n : Int) := Int.ofNat_lt.2 hin
            rw [decide_eq_true hin] at s4'
            have mz : ((m - 1 : Nat) : Int) = (m : Int) - 1 := by have := hm'.out; omega
            have mb : (m : Int) ≤ 1073741824 := by have := hmn.out; omega
            clear hz0 hin
            go_wp2_with fail
            refine s4'.out.mono ?_
            rintro e W11 ⟨a', c', rfl, hrw, hb11⟩
            have hfin : Hid (m - 1 = n - (i + 1) ∧ Row W11 a' ((keys (sd L)).take (n - (i + 1))) ∧ Below W5.heap.size W5 W11) := hend.out a' W11 (by rw [hK]; exact hrw) hb11
            clear hrw hb11 s4' hend
            go_wp2_with fail
            go_roundw
            case rel => exact ⟨i + 1, _, _, _, hlt2.out, by go_num, rfl, hfin⟩
            case measure => have := hlt2.out; simp [intOf]; omega
          · have p1 : ¬ (i : Int) < (n : Int) := by omega
            rw [decide_eq_false hin] at s4'
            have mb : (m : Int) ≤ 1073741824 := by have := hmn.out; omega
            clear hz0 hin
            go_wp2_with fail
            refine s4'.out.mono ?_
            rintro e W11 ⟨a', c', rfl, hrw, hb11⟩
            have hfin : Hid (m - 1 = n - (i + 1) ∧ Row W11 a' ((keys (sd L)).take (n - (i + 1))) ∧ Below W5.heap.size W5 W11) := hend.out a' W11 (by rw [hK]; exact hrw) hb11
            clear hrw hb11 s4' hend
            go_wp2_with fail
            go_roundw
            case rel => exact ⟨i + 1, _, _, _, hlt2.out, by go_num, rfl, hfin⟩
            case measure => have := hlt2.out; simp [intOf]; omega
      · have e : i = n + 1 := by omega
        subst e
        have i1 : ¬ ((n + 1 : Nat) : Int) ≤ (n : Int) := by omega
        have hz0 : hn0 = 0 := by have := hR.out.1; omega
        subst hz0
        clear hi hlt hR
        go_wp2_with fail
        go_ret
        exact ⟨rfl, hBw.out.1⟩
end Ke
end Go.Proofs.YtkanoloddpigdaaDoor
