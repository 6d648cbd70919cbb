import Derived.Test.YtilglidhlcmfbaaDoorBbRef
import Derived.Test.YtilglidhlcmfbaaDoorUbLoop
namespace Go.Proofs.YtilglidhlcmfbaaDoor
open Go.RowKit
open TextMath (al grp b64 bo wv ch Gd gF dec unb preB thr gn)
set_option linter.unusedVariables false

/-- The four ends. -/
def endL (n : Nat) : Nat → List UInt8
  | 0 => []
  | 1 => [61]
  | 2 => [65, 65, 65].take (4 - n)
  | _ => [65, 65]
theorem front_or (l : List UInt8) (h1 : 1 ≤ l.length) (h4 : l.length ≤ 4) : Gd l = true ↔ ∃ i, i < 4 ∧ l.length + (endL l.length i).length = 4 ∧ Gd (l ++ endL l.length i) = true := by
  match l, h1, h4 with
  | [x], _, _ =>
    constructor
    · intro h
      exact ⟨2, by omega, rfl, by show Gd ([x] ++ [65, 65, 65]) = true; rw [TextMath.front1]; exact h⟩
    · rintro ⟨i, hi, hl, hg⟩
      have : i = 0 ∨ i = 1 ∨ i = 2 ∨ i = 3 := by omega
      rcases this with rfl | rfl | rfl | rfl
      · simp [endL] at hl
      · simp [endL] at hl
      · have hg' : Gd ([x] ++ [65, 65, 65]) = true := hg
        rw [TextMath.front1] at hg'; exact hg'
      · simp [endL] at hl
  | [x, y], _, _ =>
    constructor
    · intro h
      exact ⟨2, by omega, rfl, by show Gd ([x, y] ++ [65, 65]) = true; rw [TextMath.front2]; exact h⟩
    · rintro ⟨i, hi, hl, hg⟩
      have : i = 0 ∨ i = 1 ∨ i = 2 ∨ i = 3 := by omega
      rcases this with rfl | rfl | rfl | rfl
      · simp [endL] at hl
      · simp [endL] at hl
      · have hg' : Gd ([x, y] ++ [65, 65]) = true := hg
        rw [TextMath.front2] at hg'; exact hg'
      · have hg' : Gd ([x, y] ++ [65, 65]) = true := hg
        rw [TextMath.front2] at hg'; exact hg'
  | [x, y, z], _, _ =>
    have h3 := TextMath.front3 x y z
    constructor
    · intro h
      rw [h, Bool.or_eq_true] at h3
      rcases h3 with h3 | h3
      · exact ⟨1, by omega, rfl, h3⟩
      · exact ⟨2, by omega, rfl, h3⟩
    · rintro ⟨i, hi, hl, hg⟩
      have : i = 0 ∨ i = 1 ∨ i = 2 ∨ i = 3 := by omega
      rw [← h3, Bool.or_eq_true]
      rcases this with rfl | rfl | rfl | rfl
      · simp [endL] at hl
      · exact Or.inl hg
      · exact Or.inr hg
      · simp [endL] at hl
  | [x, y, z, t], _, _ =>
    constructor
    · intro h
      exact ⟨0, by omega, rfl, by show Gd ([x, y, z, t] ++ []) = true; rw [List.append_nil]; exact h⟩
    · rintro ⟨i, hi, hl, hg⟩
      have : i = 0 ∨ i = 1 ∨ i = 2 ∨ i = 3 := by omega
      rcases this with rfl | rfl | rfl | rfl
      · have hg' : Gd ([x, y, z, t] ++ []) = true := hg
        rw [List.append_nil] at hg'; exact hg'
      · simp [endL] at hl
      · have hg' : Gd ([x, y, z, t] ++ []) = true := hg
        rw [List.append_nil] at hg'; exact hg'
      · simp [endL] at hl
  | [], h, _ => simp at h
  | _ :: _ :: _ :: _ :: _ :: _, _, h => simp at h

set_option maxHeartbeats 2000000 in
theorem front_any (t : ByteArray) (w : World) (h1 : 1 ≤ t.size) (h4 : t.size ≤ 4) :
    Calls Tryd.prog 48 #[.string t] w fun e w' => e = .returned (.bool (Gd t.data.toList)) ∧ Below w.heap.size w w' := by
  have hL : Hid (t.data.toList.length = t.size) := size_l t
  have i0 : ((t.size : Int) == 0) = false := by rw [beq_eq_false_iff_ne]; omega
  have i4 : ¬ ((t.size : Int) > 4) := by omega
  obtain ⟨m, hm⟩ : ∃ m, m = 4 - t.size := ⟨_, rfl⟩
  have e4 : wrap64 (4 - (t.size : Int)) = (m : Int) := by rw [hm, IntWalk.wrap64_in] <;> omega
  have m0 : (0 : Int) ≤ (m : Int) := Int.natCast_nonneg _
  have m3 : m ≤ 3 := by omega
  have m3' : (m : Int) ≤ 3 := by omega
  have hm' : Hid (m = 4 - t.size) := hm
  clear hm
  go_enter Tryd.func48, Tryd.ntmps48
  go_wp2_with fail
  obtain ⟨W1, hW1⟩ : ∃ W1, w.alloc (.cells #[.string ⟨#[]⟩, .string ⟨#[61]⟩, .string ((⟨#[65, 65, 65]⟩ : ByteArray).extract 0 (4 - t.size)), .string ⟨#[65, 65]⟩] 65) = W1 := ⟨_, rfl⟩
  rw [hW1]
  have HB1 : Hid (Below w.heap.size w W1 ∧ w.heap.size < W1.heap.size) := by
    refine ⟨?_, ?_⟩
    · rw [← hW1]; exact (Below.refl _ _).alloc (Nat.le_refl _) _
    · rw [← hW1]; simp
  have hcell : Hid (∀ i, i < 4 → W1.cell? ⟨w.heap.size, i, none⟩ = some (.string (S (endL t.size i)))) := by
    intro i hi
    have : i = 0 ∨ i = 1 ∨ i = 2 ∨ i = 3 := by omega
    have e2 : (⟨#[65, 65, 65]⟩ : ByteArray).extract 0 (4 - t.size) = S ([65, 65, 65].take (4 - t.size)) := S_eq _ _ (take_l _ _)
    rw [← hW1, e2]
    rcases this with rfl | rfl | rfl | rfl <;> simp [go_sem, endL, S]
  clear hW1 e4 m0 m3 m3' hm'
  go_loopw [4] (fun iv wr => ∃ i : Nat, i ≤ 4 ∧ iv = .int .i64 (i : Int) ∧ Hid (Below (w.heap.size + 1) W1 wr) ∧ Hid (∀ j, j < i → t.data.toList.length + (endL t.data.toList.length j).length = 4 → Gd (t.data.toList ++ endL t.data.toList.length j) = false)) (fun iv _ => 4 - (intOf iv).toNat)
  case atStart => exact ⟨0, by omega, rfl, Below.refl _ _, fun j hj => by omega⟩
  case round =>
    obtain ⟨i, hi, rfl, hB, hno⟩ := hrel
    have HB : Hid (Below w.heap.size w wr) := HB1.out.1.trans (hB.out.mono (Nat.le_succ _))
    by_cases hlt : i < 4
    · have hc : wr.cell? ⟨w.heap.size, i, none⟩ = some (.string (S (endL t.size i))) := by
        rw [hB.out.cell (by simp)]
        exact hcell.out i hlt
      have k4 : (i : Int) < 4 := by omega
      have k0 : (0 : Int) ≤ (i : Int) := Int.natCast_nonneg _
      have hEl : (endL t.size i).length ≤ 3 := by
        have : i = 0 ∨ i = 1 ∨ i = 2 ∨ i = 3 := by omega
        rcases this with rfl | rfl | rfl | rfl <;> simp [endL]
        omega
      obtain ⟨E, hE⟩ : ∃ E, S (endL t.size i) = E := ⟨_, rfl⟩
      have hEz : E.size ≤ 3 := by rw [← hE, S_size]; exact hEl
      rw [hE] at hc
      obtain ⟨g, hgd⟩ : ∃ g, t ++ E = g := ⟨_, rfl⟩
      have hgl : Hid (g.data.toList = t.data.toList ++ endL t.data.toList.length i) := by
        unfold Hid
        rw [← hgd, app_l, ← hE, S_l, hL.out]
      have hgs : Hid (g.size = t.data.toList.length + (endL t.data.toList.length i).length) := by
        unfold Hid
        rw [← size_l, hgl.out, List.length_append]
      clear hE hEl
      by_cases hl4 : g.size = 4
      · have g4 : ((g.size : Int) == 4) = true := by rw [hl4]; rfl
        obtain ⟨x, y, z, u, hgx⟩ := four_l g hl4
        have hby := bytesOf_any g x y z u wr hgx
        rw [← hgx] at hby
        have hGd : Hid (Gd g.data.toList = Gd (t.data.toList ++ endL t.data.toList.length i)) := by unfold Hid; rw [hgl.out]
        have hl4' : Hid (g.size = 4) := hl4
        clear hgx hl4
        cases hq : Gd g.data.toList with
        | true =>
          have hyes : Hid (Gd t.data.toList = true) := (front_or t.data.toList (by rw [hL.out]; exact h1) (by rw [hL.out]; exact h4)).2 ⟨i, hlt, by rw [← hgs.out]; exact hl4'.out, by rw [← hGd.out]; exact hq⟩
          rw [hq] at hby
          clear hq hno
          go_wp2_with (go_at_call 33; refine hby.mono ?_; rintro e w2 ⟨rfl, hb2⟩)
          go_ret
          exact ⟨by rw [hyes.out]; rfl, HB.out.trans (hb2.mono HB.out.size)⟩
        | false =>
          have hno' : Hid (∀ j, j < i + 1 → t.data.toList.length + (endL t.data.toList.length j).length = 4 → Gd (t.data.toList ++ endL t.data.toList.length j) = false) := by
            intro j hj hl
            by_cases e : j = i
            · subst e; rw [← hGd.out]; exact hq
            · exact hno.out j (by omega) hl
          rw [hq] at hby
          clear hq hno
          go_wp2_with (go_at_call 33; refine hby.mono ?_; rintro e w2 ⟨rfl, hb2⟩)
          go_roundw
          case rel =>
            exact ⟨i + 1, by omega, by go_num, hB.out.trans (hb2.mono (Nat.le_trans HB1.out.2 hB.out.size)), hno'⟩
          case measure => simp [intOf]; omega
      · have g4 : ((g.size : Int) == 4) = false := by rw [beq_eq_false_iff_ne]; omega
        have hno' : Hid (∀ j, j < i + 1 → t.data.toList.length + (endL t.data.toList.length j).length = 4 → Gd (t.data.toList ++ endL t.data.toList.length j) = false) := by
          intro j hj hl
          by_cases e : j = i
          · subst e; exact absurd (by rw [hgs.out]; exact hl) hl4
          · exact hno.out j (by omega) hl
        clear hl4 hno
        go_wp2_with fail
        go_roundw
        case rel => exact ⟨i + 1, by omega, by go_num, hB, hno'⟩
        case measure => simp [intOf]; omega
    · have k4 : ¬ (i : Int) < 4 := by omega
      have hbad : Hid (Gd t.data.toList = false) := by
        unfold Hid
        cases hq : Gd t.data.toList with
        | false => rfl
        | true =>
          exfalso
          obtain ⟨j, hj, hl, hg⟩ := (front_or t.data.toList (by rw [hL.out]; exact h1) (by rw [hL.out]; exact h4)).1 hq
          rw [hno.out j (by omega) hl] at hg
          cases hg
      clear hno
      go_wp2_with fail
      go_ret
      exact ⟨by rw [hbad.out]; rfl, HB.out⟩

set_option maxHeartbeats 1000000 in
theorem short_any (t : ByteArray) (w : World) (h4 : t.size ≤ 4) :
    Calls Tryd.prog 32 #[.string t] w fun e w' => e = .returned (.int .i64 (gF t.data.toList : Int)) ∧ Below w.heap.size w w' := by
  have hL : Hid (t.data.toList.length = t.size) := size_l t
  go_enter Tryd.func32, Tryd.ntmps32
  go_wp2_with fail
  go_loopw [3, 4] (fun pv kv wr => ∃ p : Nat, p ≤ t.size ∧ pv = .int .i64 (p : Int) ∧ kv = .int .i64 ((p + 1 : Nat) : Int) ∧ Hid (Below w.heap.size w wr) ∧ Hid (∀ j, j ≤ p → Gd (t.data.toList.take j) = true)) (fun _ kv _ => 5 - (intOf kv).toNat)
  case atStart => exact ⟨0, by omega, rfl, rfl, Below.refl _ _, fun j hj => by have : j = 0 := by omega
                                                                               subst this; rfl⟩
  case round =>
    obtain ⟨p, hp, rfl, rfl, hB, hall⟩ := hrel
    by_cases hlt : p + 1 ≤ t.size
    · have k1 : ((p + 1 : Nat) : Int) ≤ (t.size : Int) := Int.ofNat_le.2 hlt
      have k0 : (0 : Int) ≤ ((p + 1 : Nat) : Int) := Int.natCast_nonneg _
      have hsz : (t.extract 0 (p + 1)).size = p + 1 := by rw [ByteArray.size_extract]; omega
      have hf := front_any (t.extract 0 (p + 1)) wr (by rw [hsz]; omega) (by rw [hsz]; omega)
      rw [take_l] at hf
      cases hq : Gd (t.data.toList.take (p + 1)) with
      | true =>
        have hall' : Hid (∀ j, j ≤ p + 1 → Gd (t.data.toList.take j) = true) := by
          intro j hj
          by_cases e : j = p + 1
          · subst e; exact hq
          · exact hall.out j (by omega)
        rw [hq] at hf
        clear hq hall hsz
        generalize hk : p + 1 = k at *
        go_wp2_with (go_at_call 48; refine hf.mono ?_; rintro e w2 ⟨rfl, hb2⟩)
        go_roundw
        case rel => exact ⟨k, hlt, rfl, by go_num, hB.out.trans (hb2.mono hB.out.size), hall'⟩
        case measure => simp [intOf]; omega
      | false =>
        have hgf : Hid (gF t.data.toList = p) := gF_stop t.data.toList p (by rw [hL.out]; exact h4) (by rw [hL.out]; exact hp) hall.out (Or.inr hq)
        rw [hq] at hf
        clear hq hall hsz
        generalize hk : p + 1 = k at *
        go_wp2_with (go_at_call 48; refine hf.mono ?_; rintro e w2 ⟨rfl, hb2⟩)
        go_ret
        exact ⟨by rw [hgf.out]; rfl, hB.out.trans (hb2.mono hB.out.size)⟩
    · have hgf : Hid (gF t.data.toList = p) := gF_stop t.data.toList p (by rw [hL.out]; exact h4) (by rw [hL.out]; exact hp) hall.out (Or.inl (by rw [hL.out]; omega))
      have k1 : ¬ ((p + 1 : Nat) : Int) ≤ (t.size : Int) := by omega
      clear hall
      generalize hk : p + 1 = k at *
      go_wp2_with fail
      go_ret
      exact ⟨by rw [hgf.out]; rfl, hB.out⟩
end Go.Proofs.YtilglidhlcmfbaaDoor
