import Derived.Test.YtdeeegocjgikoaaDoorEnSel
import Derived.Test.YtdeeegocjgikoaaDoorK10
import Derived.Test.YtdeeegocjgikoaaDoorK7
import Derived.Test.YtdeeegocjgikoaaDoorK5
namespace Go.Proofs.YtdeeegocjgikoaaDoor
open Go.RowKit
open TextMath (fold lo)
set_option linter.unusedVariables false

/-- Covers, of texts as they are written. -/
def cvB (t c : List UInt8) : Bool := covB (S (fold t)) (S (fold c))
/-- x is t's canonical form. -/
def cnR (t x : List UInt8) : Prop := (desc (S (fold t))).2.2 = true ∧ CanIs (S (fold t)) x
theorem cnR_all {t x : List UInt8} (h : cnR t x) : x.length ≤ t.length + 64 ∧ ∀ c, cvB x c = cvB t c := by
  obtain ⟨hok, hx⟩ := h
  have hf : fold (S (fold t)).data.toList = (S (fold t)).data.toList := by rw [S_l]; exact TextMath.fold_fold _
  obtain ⟨b1, L, l1, l2, b2, b3, b4⟩ := can_back _ x hok hf hx
  obtain ⟨i1, i2, i3, i4⟩ := desc_inv _ hok
  have hb := (fold_id_iff _).1 hf
  have hft : fold (typD (S (fold t))).data.toList = (typD (S (fold t))).data.toList := (fold_id_iff _).2 (fun b q => hb b (by rw [i1]; exact List.mem_append_left _ q))
  obtain ⟨t1, t2, t3, t4, t5⟩ := can_type (typD (S (fold t))) i2 hft
  constructor
  · have h1 := congrArg List.length i1
    rw [List.length_append, S_l] at h1
    have h0 : (fold t).length = t.length := by unfold fold; simp
    have h2 := semis_sub (srt L) (desc (S (fold t))).1 ((List.Nodup.perm l1) (srt_perm L).symm) (fun z hz => (l2 z).1 ((srt_mem L z).1 hz))
    have h3 : (canN (typD (S (fold t)))).data.toList.length ≤ (typD (S (fold t))).data.toList.length + 64 := by
      cases hr : rowOf (typD (S (fold t))) with
      | none => rw [(lin_none _ hr).2]; omega
      | some i =>
        rw [(lin_row _ i hr).2]
        have := nm_size i
        omega
    rw [b2, List.length_append]
    omega
  · intro c
    have hc : canN (typD (S (fold x))) = canN (typD (S (fold t))) := by rw [b1, b4, t3]
    have hm : ∀ z, z ∈ (desc (S (fold x))).1 ↔ z ∈ (desc (S (fold t))).1 := fun z => by rw [b1, b3]; show z ∈ srt L ↔ _; rw [srt_mem, l2]
    have hok2 : (desc (S (fold x))).2.2 = true := by rw [b1, b3]
    unfold cvB
    rw [Bool.eq_iff_iff, cov_iff, cov_iff, hc, hok, hok2]
    constructor
    · rintro ⟨a1, a2, a3, a4⟩
      exact ⟨rfl, a2, fun z hz => a3 z ((hm z).2 hz), a4⟩
    · rintro ⟨a1, a2, a3, a4⟩
      exact ⟨rfl, a2, fun z hz => a3 z ((hm z).1 hz), a4⟩
theorem cv_bad {t : List UInt8} (h : (desc (S (fold t))).2.2 = false) (c : List UInt8) : cvB t c = false := by
  unfold cvB covB
  rw [h]
  rfl

theorem Below.grown0 {w w' : World} (h : Below w.heap.size w w') : w.grownBy w' none := ⟨h.os, h.tape, h.output, h.size, fun k hk _ => h.block k hk⟩

set_option maxRecDepth 100000 in
set_option maxHeartbeats 2000000 in
theorem coversOne_any (mb n : Nat) (D : DataW Unit) (L : List (List UInt8)) (c : List UInt8) (w : World) (hM : w.ownsMap Tryd.prog 9 (unitElem (H := Unit)) mb n D) (hD : SetIs D L) (hz : ∀ x ∈ L, x.length ≤ 2097152) (hc : c.length ≤ 1048576) (hS : SupTab w) :
    Calls Tryd.prog 36 #[.map (some mb), .string (S c)] w fun e w' => e = .returned (.bool (L.any fun x => cvB x c)) ∧ Below w.heap.size w w' := by
  have hD' : Hid (SetIs D L ∧ (∀ x ∈ L, x.length ≤ 2097152) ∧ SupTab w ∧ mb < w.heap.size) := ⟨hD, hz, hS, hM.lt⟩
  have hcs : (S c).size = c.length := by rw [← size_l, S_l]
  clear hD hz hS
  go_enter Tryd.func36, Tryd.ntmps36
  go_wp2_with (at_range; refine wpList_range_own _ rfl _ 56 rfl 9 57 (Maps.string_keyed Tryd.underlying9) Tryd.underlying56 _ mb n _ rfl hM ?_; intro w0 hrg0 hg0 hs0)
  clear hM
  go_frame
  go_loopw [5] (fun _ wr => ∃ (left : Lit → Bool) (cnt : Nat), Hid (wr.ranges Tryd.prog 9 (unitElem (H := Unit)) mb w.heap.size n D left cnt) ∧ Hid ((∀ kl, left kl = true → Maps.has D kl = true) ∧ ∀ x ∈ L, left (.string x) = false → cvB x c = false) ∧ Hid (Below w.heap.size w wr)) (fun _ wr => wr.rangeLeft mb w.heap.size)
  case atStart =>
    refine ⟨_, _, hrg0, ⟨fun _ h => h, fun x hx h => ?_⟩, (Below.refl _ _).grown hg0 (Nat.le_refl _) (fun j hj => by cases hj)⟩
    rw [hD'.out.1.1 x] at h
    simp [hx] at h
  case round =>
    clear hrg0 hg0 hs0
    obtain ⟨left, cnt, hrg, hR, hB⟩ := hrel
    go_wp2_with (at_next; refine wpList_next_ranges _ rfl _ rfl 9 (Maps.string_keyed Tryd.underlying9) _ (fun m : List UInt8 => Value.string (S m)) (fun _ : Unit => Value.agg #[]) (fun _ _ hk => key_inv hk) (fun _ _ hv => ⟨(), (unitElem_inv hv).1⟩) mb w.heap.size n _ _ _ rfl hrg.out ?_ ?_)
    · intro hc0 hl0
      have hans : Hid ((L.any fun x => cvB x c) = false) := by
        unfold Hid
        rw [List.any_eq_false]
        intro x hx
        rw [hR.out.2 x hx (hl0 _)]
        simp
      clear hl0
      go_wp2_with fail
      go_ret
      exact ⟨by rw [hans.out]; rfl, hB.out⟩
    · intro m u kl y w2 cnt2 hkey hlk hv hat hrg1 hlt hg1 hs1 hen
      have hkl := key_lit hkey
      subst hkl
      have hmL : m ∈ L := by
        have h1 := hR.out.1 _ hlk
        rw [hD'.out.1.1 m] at h1
        simpa using h1
      have hb2 : Below w.heap.size w w2 := hB.out.grown hg1 hB.out.size (fun j hj => by cases hj; exact Nat.le_refl _)
      have hms : (S m).size = m.length := by rw [← size_l, S_l]
      have hK : Hid (Calls Tryd.prog 27 #[.string (S m), .string (S c)] w2 fun r w' => r = .returned (.bool (cvB m c)) ∧ Below w2.heap.size w2 w') := by
        have h := covers_any (S m) (S c) _ _ rfl rfl w2 (by have := hD'.out.2.1 m hmL; omega) (by omega) (hD'.out.2.2.1.below hb2)
        rw [S_l, S_l] at h
        exact h
      have H2 : Hid (w2.ranges Tryd.prog 9 (unitElem (H := Unit)) mb w.heap.size n D (fun z => left z && !z.sameKey (.string m)) cnt2 ∧ cnt2 < cnt ∧ Below w.heap.size w w2 ∧ m ∈ L) := ⟨hrg1, hlt, hb2, hmL⟩
      clear hrg1 hlt hb2 hmL hg1 hs1 hv hat hkey
      cases hq : cvB m c with
      | true =>
        rw [hq] at hK
        go_wp2_with (go_at_call 27; refine hK.out.mono ?_; rintro e w3 ⟨rfl, hb3⟩)
        go_ret
        refine ⟨?_, H2.out.2.2.1.trans (hb3.mono H2.out.2.2.1.size)⟩
        have : (L.any fun x => cvB x c) = true := List.any_eq_true.2 ⟨m, H2.out.2.2.2, hq⟩
        rw [this]
        rfl
      | false =>
        rw [hq] at hK
        go_wp2_with (go_at_call 27; refine hK.out.mono ?_; rintro e w3 ⟨rfl, hb3⟩)
        have hrg3 := H2.out.1.kept (Below.grown0 hb3) (by simp) (by simp)
        go_roundw
        case rel =>
          refine ⟨_, cnt2, hrg3, ⟨fun kl h => ?_, fun x hx h => ?_⟩, H2.out.2.2.1.trans (hb3.mono H2.out.2.2.1.size)⟩
          · rw [Bool.and_eq_true] at h
            exact hR.out.1 kl h.1
          · by_cases e : x = m
            · subst e; exact hq
            · refine hR.out.2 x hx ?_
              simpa [e, Lit.sameKey] using h
        case measure => rw [hrg3.left_eq, hrg.out.left_eq]; exact H2.out.2.1
end Go.Proofs.YtdeeegocjgikoaaDoor
