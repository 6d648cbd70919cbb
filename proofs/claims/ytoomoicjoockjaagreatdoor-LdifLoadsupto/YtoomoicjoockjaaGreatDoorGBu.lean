import Derived.Test.YtoomoicjoockjaaGreatDoorGBb
import Derived.Test.YtoomoicjoockjaaGreatDoorUbLoop
namespace Go.Proofs.YtoomoicjoockjaaGreatDoor
open Go.RowKit
open TextMath (al grp b64 bo wv ch Gd gF dec unb preB thr gn)
set_option linter.unusedVariables false

/-- The four ends. -/
def endL (n : Nat) : Nat → List UInt8
  | 0 => []
  | 1 => [61]
  | 2 => [65, 65, 65].take (4 - n)
  | _ => [65, 65]
theorem front_or (l : List UInt8) (h1 : 1 ≤ l.length) (h4 : l.length ≤ 4) : Gd l = true ↔ ∃ i, i < 4 ∧ l.length + (endL l.length i).length = 4 ∧ Gd (l ++ endL l.length i) = true := by
  match l, h1, h4 with
  | [x], _, _ =>
    constructor
    · intro h
      exact ⟨2, by omega, rfl, by show Gd ([x] ++ [65, 65, 65]) = true; rw [TextMath.front1]; exact h⟩
    · rintro ⟨i, hi, hl, hg⟩
      have : i = 0 ∨ i = 1 ∨ i = 2 ∨ i = 3 := by omega
      rcases this with rfl | rfl | rfl | rfl
      · simp [endL] at hl
      · simp [endL] at hl
      · have hg' : Gd ([x] ++ [65, 65, 65]) = true := hg
        rw [TextMath.front1] at hg'; exact hg'
      · simp [endL] at hl
  | [x, y], _, _ =>
    constructor
    · intro h
      exact ⟨2, by omega, rfl, by show Gd ([x, y] ++ [65, 65]) = true; rw [TextMath.front2]; exact h⟩
    · rintro ⟨i, hi, hl, hg⟩
      have : i = 0 ∨ i = 1 ∨ i = 2 ∨ i = 3 := by omega
      rcases this with rfl | rfl | rfl | rfl
      · simp [endL] at hl
      · simp [endL] at hl
      · have hg' : Gd ([x, y] ++ [65, 65]) = true := hg
        rw [TextMath.front2] at hg'; exact hg'
      · have hg' : Gd ([x, y] ++ [65, 65]) = true := hg
        rw [TextMath.front2] at hg'; exact hg'
  | [x, y, z], _, _ =>
    have h3 := TextMath.front3 x y z
    constructor
    · intro h
      rw [h, Bool.or_eq_true] at h3
      rcases h3 with h3 | h3
      · exact ⟨1, by omega, rfl, h3⟩
      · exact ⟨2, by omega, rfl, h3⟩
    · rintro ⟨i, hi, hl, hg⟩
      have : i = 0 ∨ i = 1 ∨ i = 2 ∨ i = 3 := by omega
      rw [← h3, Bool.or_eq_true]
      rcases this with rfl | rfl | rfl | rfl
      · simp [endL] at hl
      · exact Or.inl hg
      · exact Or.inr hg
      · simp [endL] at hl
  | [x, y, z, t], _, _ =>
    constructor
    · intro h
      exact ⟨0, by omega, rfl, by show Gd ([x, y, z, t] ++ []) = true; rw [List.append_nil]; exact h⟩
    · rintro ⟨i, hi, hl, hg⟩
      have : i = 0 ∨ i = 1 ∨ i = 2 ∨ i = 3 := by omega
      rcases this with rfl | rfl | rfl | rfl
      · have hg' : Gd ([x, y, z, t] ++ []) = true := hg
        rw [List.append_nil] at hg'; exact hg'
      · simp [endL] at hl
      · have hg' : Gd ([x, y, z, t] ++ []) = true := hg
        rw [List.append_nil] at hg'; exact hg'
      · simp [endL] at hl
  | [], h, _ => simp at h
  | _ :: _ :: _ :: _ :: _ :: _, _, h => simp at h

set_option maxHeartbeats 2000000 in
theorem front_any (t : ByteArray) (w : World) (h1 : 1 ≤ t.size) (h4 : t.size ≤ 4) :
    Calls Tryz.prog 75 #[.string t] w fun e w' => e = .returned (.bool (Gd t.data.toList)) ∧ Below w.heap.size w w' := by
  have hL : Hid (t.data.toList.length = t.size) := size_l t
  have i0 : ((t.size : Int) == 0) = false := by rw [beq_eq_false_iff_ne]; omega
  have i4 : ¬ ((t.size : Int) > 4) := by omega
  obtain ⟨m, hm⟩ : ∃ m, m = 4 - t.size := ⟨_, rfl⟩
  have e4 : wrap64 (4 - (t.size : Int)) = (m : Int) := by rw [hm, IntWalk.wrap64_in] <;> omega
  have m0 : (0 : Int) ≤ (m : Int) := Int.natCast_nonneg _
  have m3 : m ≤ 3 := by omega
  have m3' : (m : Int) ≤ 3 := by omega
  have hm' : Hid (m = 4 - t.size) := hm
  clear hm
  go_enter Tryz.func75, Tryz.ntmps75
  go_wp2_with fail
  obtain ⟨W1, hW1⟩ : ∃ W1, w.alloc (.cells #[.string ⟨#[]⟩, .string ⟨#[61]⟩, .string ((⟨#[65, 65, 65]⟩ : ByteArray).extract 0 (4 - t.size)), .string ⟨#[65, 65]⟩] 139) = W1 := ⟨_, rfl⟩
  rw [hW1]
  have HB1 : Hid (Below w.heap.size w W1 ∧ w.heap.size < W1.heap.size) := by
    refine ⟨?_, ?_⟩
    · rw [← hW1]; exact (Below.refl _ _).alloc (Nat.le_refl _) _
    · rw [← hW1]; simp
  have hcell : Hid (∀ i, i < 4 → W1.cell? ⟨w.heap.size, i, none⟩ = some (.string (S (endL t.size i)))) := by
    intro i hi
    have : i = 0 ∨ i = 1 ∨ i = 2 ∨ i = 3 := by omega
    have e2 : (⟨#[65, 65, 65]⟩ : ByteArray).extract 0 (4 - t.size) = S ([65, 65, 65].take (4 - t.size)) := S_eq _ _ (take_l _ _)
    rw [← hW1, e2]
    rcases this with rfl | rfl | rfl | rfl <;> simp [go_sem, endL, S]
  clear hW1 e4 m0 m3 m3' hm'
  go_loopw [4] (fun iv wr => ∃ i : Nat, i ≤ 4 ∧ iv = .int .i64 (i : Int) ∧ Hid (Below (w.heap.size + 1) W1 wr) ∧ Hid (∀ j, j < i → t.data.toList.length + (endL t.data.toList.length j).length = 4 → Gd (t.data.toList ++ endL t.data.toList.length j) = false)) (fun iv _ => 4 - (intOf iv).toNat)
  case atStart => exact ⟨0, by omega, rfl, Below.refl _ _, fun j hj => by omega⟩
  case round =>
    obtain ⟨i, hi, rfl, hB, hno⟩ := hrel
    have HB : Hid (Below w.heap.size w wr) := HB1.out.1.trans (hB.out.mono (Nat.le_succ _))
    by_cases hlt : i < 4
    · have hc : wr.cell? ⟨w.heap.size, i, none⟩ = some (.string (S (endL t.size i))) := by
        rw [hB.out.cell (by simp)]
        exact hcell.out i hlt
      have k4 : (i : Int) < 4 := by omega
      have k0 : (0 : Int) ≤ (i : Int) := Int.natCast_nonneg _
      have hEl : (endL t.size i).length ≤ 3 := by
        have : i = 0 ∨ i = 1 ∨ i = 2 ∨ i = 3 := by omega
        rcases this with rfl | rfl | rfl | rfl <;> simp [endL]
        omega
      obtain ⟨E, hE⟩ : ∃ E, S (endL t.size i) = E := ⟨_, rfl⟩
      have hEz : E.size ≤ 3 := by rw [← hE, S_size]; exact hEl
      rw [hE] at hc
      obtain ⟨g, hgd⟩ : ∃ g, t ++ E = g := ⟨_, rfl⟩
      have hgl : Hid (g.data.toList = t.data.toList ++ endL t.data.toList.length i) := by
        unfold Hid
        rw [← hgd, app_l, ← hE, S_l, hL.out]
      have hgs : Hid (g.size = t.data.toList.length + (endL t.data.toList.length i).length) := by
        unfold Hid
        rw [← size_l, hgl.out, List.length_append]
      clear hE hEl
      by_cases hl4 : g.size = 4
      · have g4 : ((g.size : Int) == 4) = true := by rw [hl4]; rfl
        obtain ⟨x, y, z, u, hgx⟩ := four_l g hl4
        have hby := bytesOf_any g x y z u wr hgx
        rw [← hgx] at hby
        have hGd : Hid (Gd g.data.toList = Gd (t.data.toList ++ endL t.data.toList.length i)) := by unfold Hid; rw [hgl.out]
        have hl4' : Hid (g.size = 4) := hl4
        clear hgx hl4
        cases hq : Gd g.data.toList with
        | true =>
          have hyes : Hid (Gd t.data.toList = true) := (front_or t.data.toList (by rw [hL.out]; exact h1) (by rw [hL.out]; exact h4)).2 ⟨i, hlt, by rw [← hgs.out]; exact hl4'.out, by rw [← hGd.out]; exact hq⟩
          rw [hq] at hby
          clear hq hno
          go_wp2_with (go_at_call 57; refine hby.mono ?_; rintro e w2 ⟨rfl, hb2⟩)
          go_ret
          exact ⟨by rw [hyes.out]; rfl, HB.out.trans (hb2.mono HB.out.size)⟩
        | false =>
          have hno' : Hid (∀ j, j < i + 1 → t.data.toList.length + (endL t.data.toList.length j).length = 4 → Gd (t.data.toList ++ endL t.data.toList.length j) = false) := by
            intro j hj hl
            by_cases e : j = i
            · subst e; rw [← hGd.out]; exact hq
            · exact hno.out j (by omega) hl
          rw [hq] at hby
          clear hq hno
          go_wp2_with (go_at_call 57; refine hby.mono ?_; rintro e w2 ⟨rfl, hb2⟩)
          go_roundw
          case rel =>
            exact ⟨i + 1, by omega, by go_num, hB.out.trans (hb2.mono (Nat.le_trans HB1.out.2 hB.out.size)), hno'⟩
          case measure => simp [intOf]; omega
      · have g4 : ((g.size : Int) == 4) = false := by rw [beq_eq_false_iff_ne]; omega
        have hno' : Hid (∀ j, j < i + 1 → t.data.toList.length + (endL t.data.toList.length j).length = 4 → Gd (t.data.toList ++ endL t.data.toList.length j) = false) := by
          intro j hj hl
          by_cases e : j = i
          · subst e; exact absurd (by rw [hgs.out]; exact hl) hl4
          · exact hno.out j (by omega) hl
        clear hl4 hno
        go_wp2_with fail
        go_roundw
        case rel => exact ⟨i + 1, by omega, by go_num, hB, hno'⟩
        case measure => simp [intOf]; omega
    · have k4 : ¬ (i : Int) < 4 := by omega
      have hbad : Hid (Gd t.data.toList = false) := by
        unfold Hid
        cases hq : Gd t.data.toList with
        | false => rfl
        | true =>
          exfalso
          obtain ⟨j, hj, hl, hg⟩ := (front_or t.data.toList (by rw [hL.out]; exact h1) (by rw [hL.out]; exact h4)).1 hq
          rw [hno.out j (by omega) hl] at hg
          cases hg
      clear hno
      go_wp2_with fail
      go_ret
      exact ⟨by rw [hbad.out]; rfl, HB.out⟩

set_option maxHeartbeats 1000000 in
theorem short_any (t : ByteArray) (w : World) (h4 : t.size ≤ 4) :
    Calls Tryz.prog 56 #[.string t] w fun e w' => e = .returned (.int .i64 (gF t.data.toList : Int)) ∧ Below w.heap.size w w' := by
  have hL : Hid (t.data.toList.length = t.size) := size_l t
  go_enter Tryz.func56, Tryz.ntmps56
  go_wp2_with fail
  go_loopw [3, 4] (fun pv kv wr => ∃ p : Nat, p ≤ t.size ∧ pv = .int .i64 (p : Int) ∧ kv = .int .i64 ((p + 1 : Nat) : Int) ∧ Hid (Below w.heap.size w wr) ∧ Hid (∀ j, j ≤ p → Gd (t.data.toList.take j) = true)) (fun _ kv _ => 5 - (intOf kv).toNat)
  case atStart => exact ⟨0, by omega, rfl, rfl, Below.refl _ _, fun j hj => by have : j = 0 := by omega
                                                                               subst this; rfl⟩
  case round =>
    obtain ⟨p, hp, rfl, rfl, hB, hall⟩ := hrel
    by_cases hlt : p + 1 ≤ t.size
    · have k1 : ((p + 1 : Nat) : Int) ≤ (t.size : Int) := Int.ofNat_le.2 hlt
      have k0 : (0 : Int) ≤ ((p + 1 : Nat) : Int) := Int.natCast_nonneg _
      have hsz : (t.extract 0 (p + 1)).size = p + 1 := by rw [ByteArray.size_extract]; omega
      have hf := front_any (t.extract 0 (p + 1)) wr (by rw [hsz]; omega) (by rw [hsz]; omega)
      rw [take_l] at hf
      cases hq : Gd (t.data.toList.take (p + 1)) with
      | true =>
        have hall' : Hid (∀ j, j ≤ p + 1 → Gd (t.data.toList.take j) = true) := by
          intro j hj
          by_cases e : j = p + 1
          · subst e; exact hq
          · exact hall.out j (by omega)
        rw [hq] at hf
        clear hq hall hsz
        generalize hk : p + 1 = k at *
        go_wp2_with (go_at_call 75; refine hf.mono ?_; rintro e w2 ⟨rfl, hb2⟩)
        go_roundw
        case rel => exact ⟨k, hlt, rfl, by go_num, hB.out.trans (hb2.mono hB.out.size), hall'⟩
        case measure => simp [intOf]; omega
      | false =>
        have hgf : Hid (gF t.data.toList = p) := gF_stop t.data.toList p (by rw [hL.out]; exact h4) (by rw [hL.out]; exact hp) hall.out (Or.inr hq)
        rw [hq] at hf
        clear hq hall hsz
        generalize hk : p + 1 = k at *
        go_wp2_with (go_at_call 75; refine hf.mono ?_; rintro e w2 ⟨rfl, hb2⟩)
        go_ret
        exact ⟨by rw [hgf.out]; rfl, hB.out.trans (hb2.mono hB.out.size)⟩
    · have hgf : Hid (gF t.data.toList = p) := gF_stop t.data.toList p (by rw [hL.out]; exact h4) (by rw [hL.out]; exact hp) hall.out (Or.inl (by rw [hL.out]; omega))
      have k1 : ¬ ((p + 1 : Nat) : Int) ≤ (t.size : Int) := by omega
      clear hall
      generalize hk : p + 1 = k at *
      go_wp2_with fail
      go_ret
      exact ⟨by rw [hgf.out]; rfl, hB.out⟩
end Go.Proofs.YtoomoicjoockjaaGreatDoor

namespace Go.Proofs.YtoomoicjoockjaaGreatDoor
open Go.RowKit
open TextMath (al grp b64 bo wv ch Gd gF dec unb preB thr gn)
set_option linter.unusedVariables false

/-- How far Unbase64 has come: behind a group that isn't full nothing may stand. -/
def UbAt (l : List UInt8) (k : Nat) (o : List UInt8) : Prop :=
  ((0 < k ∧ l.getD (k - 1) 0 = 61 ∧ k < l.length) → unb l 0 = .error k) ∧ (¬ (0 < k ∧ l.getD (k - 1) 0 = 61 ∧ k < l.length) → unb l 0 = preB o (unb (l.drop k) k))
theorem ubAt_zero (l : List UInt8) : UbAt l 0 [] := ⟨fun h => absurd h.1 (by omega), fun _ => by rw [List.drop_zero, TextMath.preB_nil]⟩
theorem preB_err (o : List UInt8) (p : Nat) : preB o (.error p) = .error p := rfl
theorem ubAt_bad {l o : List UInt8} {k : Nat} (h : UbAt l k o) (hk : k < l.length) (hn : ¬ (0 < k ∧ l.getD (k - 1) 0 = 61)) (hg : gF ((l.drop k).take 4) < 4) : unb l 0 = .error (k + gF ((l.drop k).take 4)) := by
  rw [h.2 (fun q => hn ⟨q.1, q.2.1⟩), TextMath.unb_bad _ k (by rw [List.length_drop]; omega) hg, preB_err]
theorem ubAt_step {l o : List UInt8} {k : Nat} (h : UbAt l k o) (hk : k < l.length) (hn : ¬ (0 < k ∧ l.getD (k - 1) 0 = 61)) (hg : ¬ gF ((l.drop k).take 4) < 4) : UbAt l (k + 4) (o ++ dec ((l.drop k).take 4)) := by
  have h2 := h.2 (fun q => hn ⟨q.1, q.2.1⟩)
  have hlen : (l.drop k).length ≠ 0 := by rw [List.length_drop]; omega
  have hgd : (l.drop k).getD 3 0 = l.getD (k + 4 - 1) 0 := by
    simp [List.getD, List.getElem?_drop]
  constructor
  · rintro ⟨_, q1, q2⟩
    rw [h2, TextMath.unb_behind _ k hlen hg ⟨by rw [hgd]; exact q1, by rw [List.length_drop]; omega⟩, preB_err]
  · intro q
    rw [h2, TextMath.unb_step _ k hlen hg (fun z => q ⟨by omega, by rw [← hgd]; exact z.1, by have := z.2; rw [List.length_drop] at this; omega⟩), TextMath.preB_preB, List.drop_drop]
theorem ubAt_end {l o : List UInt8} {k : Nat} (h : UbAt l k o) (hk : l.length ≤ k) : unb l 0 = .ok o := by
  rw [h.2 (fun q => by omega), List.drop_eq_nil_of_le hk, TextMath.unb_nil]
  simp [preB]
theorem gF_lt_short (l : List UInt8) (h : l.length < 4) : gF l < 4 := by have := (TextMath.gF_le l).2; omega
theorem gF_not (x y z t : UInt8) (h : Gd [x, y, z, t] = false) : gF [x, y, z, t] < 4 := by
  have h1 := (TextMath.gF_le [x, y, z, t]).1
  rcases Nat.lt_or_ge (gF [x, y, z, t]) 4 with q | q
  · exact q
  · have e : gF [x, y, z, t] = 4 := by omega
    have := (TextMath.gF_four _ e).2
    simp at this
    rw [h] at this
    cases this
theorem gF_yes (x y z t : UInt8) (h : Gd [x, y, z, t] = true) : ¬ gF [x, y, z, t] < 4 := by rw [TextMath.gF_good x y z t [] h]; omega

set_option maxHeartbeats 2000000 in
theorem rUnbase64_any (s : ByteArray) (w : World) (hm : s.size ≤ 16777216) :
    Calls Tryz.prog 42 #[.string s] w fun e w' => e = .returned (ubV s.size (unb s.data.toList 0)) ∧ Below w.heap.size w w' := by
  have hL : Hid (s.data.toList.length = s.size) := size_l s
  obtain ⟨R, hR⟩ : ∃ R, unb s.data.toList 0 = R := ⟨_, rfl⟩
  have hR' : Hid (unb s.data.toList 0 = R) := hR
  rw [hR]
  clear hR
  go_enter Tryz.func42, Tryz.ntmps42
  go_wp2_with fail
  go_loopw [5, 6] (fun bv' iv wr => ∃ (k : Nat) (o : List UInt8), k ≤ s.size ∧ o.length ≤ k ∧ iv = .int .i64 (k : Int) ∧ Hid (OwnB wr w.heap.size bv' o) ∧ Hid (Below w.heap.size w wr) ∧ Hid (UbAt s.data.toList k o)) (fun _ iv _ => s.size - (intOf iv).toNat)
  case atStart => exact ⟨0, [], by omega, by simp, rfl, World.ownsRow_nil _ _ _ _, Below.refl _ _, ubAt_zero _⟩
  case round =>
    obtain ⟨k, o, hk, ho, rfl, hown, hB, hU⟩ := hrel
    obtain ⟨va, vn, vc, rfl⟩ := ownB_slice hown.out
    by_cases hlt : k < s.size
    · have k1 : (k : Int) < (s.size : Int) := Int.ofNat_lt.2 hlt
      have k0 : (0 : Int) ≤ (k : Int) := Int.natCast_nonneg _
      have hkl : Hid (k < s.data.toList.length) := by unfold Hid; rw [hL.out]; exact hlt
      by_cases hpad : 0 < k ∧ s.data.toList.getD (k - 1) 0 = 61
      · obtain ⟨hk0, hp⟩ := hpad
        have hres : Hid (ubV s.size R = .tuple #[.string ⟨#[]⟩, .int .i64 12, .int .i64 (k : Int)]) := by
          unfold Hid
          rw [← hR'.out, hU.out.1 ⟨hk0, hp, hkl.out⟩]
          rfl
        obtain ⟨k', hk'⟩ : ∃ k', k = k' + 1 := ⟨k - 1, by omega⟩
        have hks : k' < s.size := by omega
        have e1 : (k : Int) > 0 := by omega
        have e2 : wrap64 ((k : Int) - 1) = (k' : Int) := by rw [IntWalk.wrap64_in] <;> omega
        have e2' : (k : Int) - 1 = (k' : Int) := by omega
        have e3 : (0 : Int) ≤ (k' : Int) := Int.natCast_nonneg _
        have e4 : (k' : Int) < (s.size : Int) := Int.ofNat_lt.2 hks
        have hc : s[k'].toNat = 61 := by
          have : k - 1 = k' := by omega
          rw [this, getD_s s k' hks] at hp
          rw [hp]; rfl
        have hc' : (((s[k'].toNat : Nat) : Int) == 61) = true := by rw [hc]; rfl
        clear hp hc hk' hk0 hU hown
        go_wp2_with fail
        go_ret3
        exact ⟨by rw [hres.out]; rfl, hB.out⟩
      · have hguard : (((decide ((k : Int) > 0)) = false) ∨ (∃ k', k = k' + 1 ∧ k' < s.size ∧ ∀ h : k' < s.size, (((s[k']'h).toNat : Int) == 61) = false)) := by
          by_cases hk0 : 0 < k
          · refine Or.inr ⟨k - 1, by omega, by omega, fun h => ?_⟩
            rw [beq_eq_false_iff_ne]
            intro q
            refine hpad ⟨hk0, ?_⟩
            rw [getD_s s (k - 1) h]
            exact UInt8.toNat_inj.1 (by simpa using Int.ofNat.inj q)
          · exact Or.inl (by simp; omega)
        have hpad' : Hid (¬ (0 < k ∧ s.data.toList.getD (k - 1) 0 = 61)) := hpad
        clear hpad
        by_cases h4 : k + 4 ≤ s.size
        · have e4s : ¬ ((k : Int) + 4 > (s.size : Int)) := by omega
          have hsz : (s.extract k (k + 4)).size = 4 := by rw [ext_size _ _ _ (by omega) h4]; omega
          obtain ⟨x, y, z, u, hgx⟩ := four_l _ hsz
          have hl4 := ext_l s k
          rw [hgx] at hl4
          have hby := bytesOf_any (s.extract k (k + 4)) x y z u wr hgx
          have hsh : ∀ W, Hid (Calls Tryz.prog 56 #[.string (s.extract k (k + 4))] W fun e w' => e = .returned (.int .i64 (gF [x, y, z, u] : Int)) ∧ Below W.heap.size W w') := by
            intro W
            have h := short_any (s.extract k (k + 4)) W (by rw [hsz]; omega)
            rw [hgx] at h
            exact h
          clear hsz hgx
          cases hq : Gd [x, y, z, u] with
          | true =>
            have hstep : Hid (UbAt s.data.toList (k + 4) (o ++ bO [x, y, z, u])) := by
              have h := ubAt_step hU.out hkl.out hpad'.out (by rw [← hl4]; exact gF_yes x y z u hq)
              rw [← hl4] at h
              rw [bO_yes hq]
              exact h
            have hbl : Hid ((bO [x, y, z, u]).length ≤ 3) := by unfold Hid; rw [bO_yes hq]; exact (TextMath.good_grp x y z u hq).2.2.2.2
            rw [hq] at hby
            clear hl4 hq hsh hU
            generalize bO [x, y, z, u] = D at *
            rcases hguard with hg0 | ⟨k', hk', hks, hch⟩
            · have hg1 : ¬ 0 < k := by simpa using hg0
              go_wp2_with (first | (go_at_call 57; refine hby.mono ?_; rintro e w1 ⟨rfl, hb1⟩) | (at_builtin; refine push_strB _ rfl _ _ rfl w.heap.size _ o (S D) rfl rfl ?_ ?_ ?_ ?_; (exact ownB_below hown.out hb1); (exact Nat.le_trans hB.out.size hb1.size); (rw [S_size]; have := hbl.out; omega); intro v2 w2 ho2 hb2))
              go_roundw
              case rel =>
                refine ⟨k + 4, o ++ D, by omega, by rw [List.length_append]; have := hbl.out; omega, by go_num, ?_, ?_, hstep⟩
                · rw [S_l] at ho2; exact ho2
                · exact (hB.out.trans (hb1.mono hB.out.size)).trans hb2
              case measure => simp [intOf]; omega
            · have e1 : (k : Int) > 0 := by omega
              have e2 : wrap64 ((k : Int) - 1) = (k' : Int) := by rw [IntWalk.wrap64_in] <;> omega
              have e2' : (k : Int) - 1 = (k' : Int) := by omega
              have e3 : (0 : Int) ≤ (k' : Int) := Int.natCast_nonneg _
              have e4 : (k' : Int) < (s.size : Int) := Int.ofNat_lt.2 hks
              have hc' := hch hks
              clear hch hk'
              go_wp2_with (first | (go_at_call 57; refine hby.mono ?_; rintro e w1 ⟨rfl, hb1⟩) | (at_builtin; refine push_strB _ rfl _ _ rfl w.heap.size _ o (S D) rfl rfl ?_ ?_ ?_ ?_; (exact ownB_below hown.out hb1); (exact Nat.le_trans hB.out.size hb1.size); (rw [S_size]; have := hbl.out; omega); intro v2 w2 ho2 hb2))
              go_roundw
              case rel =>
                refine ⟨k + 4, o ++ D, by omega, by rw [List.length_append]; have := hbl.out; omega, by go_num, ?_, ?_, hstep⟩
                · rw [S_l] at ho2; exact ho2
                · exact (hB.out.trans (hb1.mono hB.out.size)).trans hb2
              case measure => simp [intOf]; omega
          | false =>
            have hgl := gF_not x y z u hq
            have hres : Hid (ubV s.size R = .tuple #[.string ⟨#[]⟩, .int .i64 12, .int .i64 ((k : Int) + (gF [x, y, z, u] : Int))]) := by
              unfold Hid
              rw [← hR'.out, ubAt_bad hU.out hkl.out hpad'.out (by rw [← hl4]; exact hgl), ← hl4]
              simp [ubV]
            rw [hq] at hby
            clear hl4 hq hU
            generalize gF [x, y, z, u] = F at *
            rcases hguard with hg0 | ⟨k', hk', hks, hch⟩
            · have hg1 : ¬ 0 < k := by simpa using hg0
              go_wp2_with (first | (go_at_call 57; refine hby.mono ?_; rintro e w1 ⟨rfl, hb1⟩) | (go_at_call 56; refine (hsh _).out.mono ?_; rintro e w2 ⟨rfl, hb2⟩))
              go_ret3
              exact ⟨by rw [hres.out]; rfl, (hB.out.trans (hb1.mono hB.out.size)).trans (hb2.mono (Nat.le_trans hB.out.size hb1.size))⟩
            · have e1 : (k : Int) > 0 := by omega
              have e2 : wrap64 ((k : Int) - 1) = (k' : Int) := by rw [IntWalk.wrap64_in] <;> omega
              have e2' : (k : Int) - 1 = (k' : Int) := by omega
              have e3 : (0 : Int) ≤ (k' : Int) := Int.natCast_nonneg _
              have e4 : (k' : Int) < (s.size : Int) := Int.ofNat_lt.2 hks
              have hc' := hch hks
              clear hch hk'
              go_wp2_with (first | (go_at_call 57; refine hby.mono ?_; rintro e w1 ⟨rfl, hb1⟩) | (go_at_call 56; refine (hsh _).out.mono ?_; rintro e w2 ⟨rfl, hb2⟩))
              go_ret3
              exact ⟨by rw [hres.out]; rfl, (hB.out.trans (hb1.mono hB.out.size)).trans (hb2.mono (Nat.le_trans hB.out.size hb1.size))⟩
        · have e4s : (k : Int) + 4 > (s.size : Int) := by omega
          have hsz : (s.extract k s.size).size = s.size - k := ext_size _ _ _ (by omega) (Nat.le_refl _)
          have hl4 := ext_s s k (by omega)
          have hsh := short_any (s.extract k s.size) wr (by rw [hsz]; omega)
          have hgl := gF_lt_short (s.extract k s.size).data.toList (by rw [size_l, hsz]; omega)
          have hres : Hid (ubV s.size R = .tuple #[.string ⟨#[]⟩, .int .i64 12, .int .i64 ((k : Int) + (gF (s.extract k s.size).data.toList : Int))]) := by
            unfold Hid
            rw [← hR'.out, ubAt_bad hU.out hkl.out hpad'.out (by rw [← hl4]; exact hgl), ← hl4]
            simp [ubV]
          clear hl4 hU hsz
          generalize gF (s.extract k s.size).data.toList = F at *
          rcases hguard with hg0 | ⟨k', hk', hks, hch⟩
          · have hg1 : ¬ 0 < k := by simpa using hg0
            go_wp2_with (go_at_call 56; refine hsh.mono ?_; rintro e w2 ⟨rfl, hb2⟩)
            go_ret3
            exact ⟨by rw [hres.out]; rfl, hB.out.trans (hb2.mono hB.out.size)⟩
          · have e1 : (k : Int) > 0 := by omega
            have e2 : wrap64 ((k : Int) - 1) = (k' : Int) := by rw [IntWalk.wrap64_in] <;> omega
            have e2' : (k : Int) - 1 = (k' : Int) := by omega
            have e3 : (0 : Int) ≤ (k' : Int) := Int.natCast_nonneg _
            have e4 : (k' : Int) < (s.size : Int) := Int.ofNat_lt.2 hks
            have hc' := hch hks
            clear hch hk'
            go_wp2_with (go_at_call 56; refine hsh.mono ?_; rintro e w2 ⟨rfl, hb2⟩)
            go_ret3
            exact ⟨by rw [hres.out]; rfl, hB.out.trans (hb2.mono hB.out.size)⟩
    · have hres : Hid (ubV s.size R = .tuple #[.string (S o), .int .i64 0, .int .i64 (s.size : Int)]) := by
        unfold Hid
        rw [← hR'.out, ubAt_end hU.out (by rw [hL.out]; omega)]
        rfl
      have hcv := ownB_conv hown.out
      have k1 : ¬ (k : Int) < (s.size : Int) := by omega
      clear hU hown
      go_wp2_with fail
      go_ret3
      exact ⟨by rw [hres.out]; rfl, hB.out⟩
end Go.Proofs.YtoomoicjoockjaaGreatDoor
