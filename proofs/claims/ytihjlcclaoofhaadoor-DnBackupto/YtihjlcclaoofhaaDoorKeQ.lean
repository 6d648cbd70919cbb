import Derived.Test.YtihjlcclaoofhaaDoorKeL
namespace Go.Proofs.YtihjlcclaoofhaaDoor
namespace Ke
open Go.RowKit Go.Lib
open TextMath (fold lo normal check)
open Du (PRow DRow PX sd sd_len drow_at pV pV_len prow_at)
set_option linter.unusedVariables false
set_option linter.unusedSimpArgs false
set_option maxRecDepth 100000

/-- The sizes of a name. -/
def Szs (L : List PX) : Prop := (∀ r ∈ L, ∀ p ∈ r.2.2, p.1.length + p.2.length ≤ 1073741824) ∧ (∀ r ∈ L, r.2.2.length ≤ 1073741824) ∧ L.length ≤ 1073741824

set_option maxHeartbeats 4000000 in
theorem sound_any (sa : Option Addr) (sc n : Nat) (L : List PX) (w : World) (hn : L.length = n) (hr : DRow w sa L) (hz : Szs L) :
    Calls Tryd.prog 4 #[.slice sa n sc] w fun e w' => SdQ w (OkD (sd L)) e w' := by
  have nb : (n : Int) ≤ 1073741824 := by have := hz.2.2; omega
  have hn' : Hid (L.length = n) := hn
  have hr' : Hid (DRow w sa L) := hr
  have hz' : Hid (Szs L) := hz
  by_cases h64 : 64 < n
  · have n1 : (64 : Int) < (n : Int) := by omega
    have hfin : Hid (SdQ w (OkD (sd L)) (.returned (.bool false)) w) := ⟨⟨false, rfl, fun h => (by cases h), fun h => (by have := h.1; rw [sd_len] at this; omega)⟩, Below.refl _ _⟩
    clear hn hr hz hr' hz' hn'
    go_enter Tryd.func4, Tryd.ntmps4
    go_wp2_with fail
    go_ret
    exact hfin.out
  · have n1 : ¬ (64 : Int) < (n : Int) := by omega
    have h64' : Hid (n ≤ 64) := by unfold Hid; omega
    clear hn hr hz h64
    go_enter Tryd.func4, Tryd.ntmps4
    go_wp2_with fail
    go_loopw [3] (fun iv wr => ∃ (k : Nat), k ≤ n ∧ iv = .int .i64 (k : Int) ∧ Hid ((∀ j (h : j < L.length), j < k → OkP L[j].2.2) ∧ Below w.heap.size w wr)) (fun iv _ => n - (intOf iv).toNat)
    case atStart => exact ⟨0, Nat.zero_le _, rfl, fun j _ hj => by omega, Below.refl _ _⟩
    case round =>
      obtain ⟨k, hk, rfl, hR⟩ := hrel
      have k0 : (0 : Int) ≤ (k : Int) := Int.natCast_nonneg _
      by_cases hlt : k < n
      · have k1 : (k : Int) < (n : Int) := Int.ofNat_lt.2 hlt
        have hkL : k < L.length := by rw [hn'.out]; exact hlt
        have hRw := hr'.out.below hR.out.2
        obtain ⟨b, off, rfl, c1⟩ := drow_at hRw k hkL
        have hT : Hid (Calls Tryd.prog 10 #[.slice L[k].1 L[k].2.2.length L[k].2.1] wr fun e w' => SdQ wr (OkP L[k].2.2) e w') := soundPart_any _ _ _ _ wr rfl (hRw.2 _ (List.getElem_mem hkL)).1 (hz'.out.1 _ (List.getElem_mem hkL)) (hz'.out.2.1 _ (List.getElem_mem hkL))
        have hbad : Hid (¬ OkP L[k].2.2 → ¬ OkD (sd L)) := fun h hD => h (hD.2 _ (by rw [← sd_at L k hkL]; exact List.getElem_mem _))
        have hok : Hid (OkP L[k].2.2 → ∀ j (h : j < L.length), j < k + 1 → OkP L[j].2.2) := fun h j hj hjk => by
          by_cases e : j = k
          · subst e; exact h
          · exact hR.out.1 j hj (by omega)
        have hlt' : Hid (k < n) := hlt
        generalize L[k] = r at *
        obtain ⟨pa, pc, ps⟩ := r
        dsimp only at c1 hT hbad hok
        generalize ps.length = m at *
        clear hk hlt hkL hRw
        go_wp2_with fail
        refine hT.out.mono ?_
        rintro e W1 ⟨⟨bb, rfl, hbb⟩, hb1⟩
        have hB1 : Hid (Below w.heap.size w W1) := hR.out.2.trans (hb1.mono hR.out.2.size)
        cases bb with
        | true =>
          have hfin : Hid ((∀ j (h : j < L.length), j < k + 1 → OkP L[j].2.2) ∧ Below w.heap.size w W1) := ⟨hok.out (hbb.1 rfl), hB1.out⟩
          clear hbb hb1 hB1 hok hbad hR hT
          go_wp2_with fail
          go_roundw
          case rel => exact ⟨k + 1, hlt'.out, by go_num, hfin⟩
          case measure => have := hlt'.out; simp [intOf]; omega
        | false =>
          have hfin : Hid (SdQ w (OkD (sd L)) (.returned (.bool false)) W1) := ⟨⟨false, rfl, fun h => (by cases h), fun h => (hbad.out (fun q => by have := hbb.2 q; cases this) h).elim⟩, hB1.out⟩
          clear hbb hb1 hB1 hok hbad hR hT
          go_wp2_with fail
          go_ret
          exact hfin.out
      · have e : n = k := by omega
        subst e
        have i1 : ¬ (n : Int) < (n : Int) := by omega
        have hfin : Hid (SdQ w (OkD (sd L)) (.returned (.bool true)) wr) := by
          refine ⟨⟨true, rfl, fun _ => ⟨by rw [sd_len, hn'.out]; exact h64'.out, fun r hr => ?_⟩, fun _ => rfl⟩, hR.out.2⟩
          obtain ⟨j, hj, rfl⟩ := List.getElem_of_mem hr
          rw [sd_len] at hj
          rw [sd_at L j hj]
          exact hR.out.1 j hj (by rw [← hn'.out]; exact hj)
        clear hR hk hlt
        go_wp2_with fail
        go_ret
        exact hfin.out
/-- Whether one of the first j pairs is found to be like it. -/
def Fnd (qs : List PR) (p : PR) (j : Nat) (fb : Bool) : Prop := fb = true ↔ ∃ i, ∃ h : i < qs.length, i < j ∧ cn qs[i] = cn p

end Ke
end Go.Proofs.YtihjlcclaoofhaaDoor
