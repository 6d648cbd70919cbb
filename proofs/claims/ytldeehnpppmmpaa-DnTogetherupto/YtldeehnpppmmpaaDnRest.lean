import Derived.Test.YtldeehnpppmmpaaDnSame
import Derived.Lib.AppendZeros
namespace Go.Proofs.Ytldeehnpppmmpaa
open Go.RowKit
open DnMath (Tot lx tb tt ck tb_tot tt_tot ck_tot less_tt lx_front lx_between)
set_option linter.unusedVariables false

set_option maxHeartbeats 1000000 in
theorem refCompare_any (l k : List (List UInt8)) (a b : Option Addr) (c d : Nat) (w : World) (hl : l.length ≤ 9223372036854775807) (hk : k.length ≤ 9223372036854775807) (h1 : Row w a l) (h2 : Row w b k) :
    Calls Try.prog 12 #[.slice a l.length c, .slice b k.length d] w fun e w' => e = .returned (.int .i64 (ck l k)) ∧ ∃ q, w' = w.drewN q := by
  go_enter Try.func12, Try.ntmps12
  go_wp2_with fail
  go_loopw [5] (fun iv wr => ∃ i q : Nat, i ≤ l.length ∧ i ≤ k.length ∧ iv = .int .i64 (i : Int) ∧ Hid (ck (l.drop i) (k.drop i) = ck l k) ∧ Hid (wr = w.drewN q)) (fun iv _ => l.length - (intOf iv).toNat)
  case atStart => exact ⟨0, 0, Nat.zero_le _, Nat.zero_le _, rfl, rfl, rfl⟩
  case round =>
    obtain ⟨i, q, hi, hik, rfl, hck, hw⟩ := hrel
    by_cases hlt : i < l.length ∧ i < k.length
    · obtain ⟨hlt, hlk⟩ := hlt
      obtain ⟨b1, o1, rfl, c1⟩ := h1 i hlt
      obtain ⟨b2, o2, rfl, c2⟩ := h2 i hlk
      have hE : ∀ a, wr.cell? a = w.cell? a := fun a => by rw [hw.out]; rfl
      rw [← hE] at c1 c2
      have i0 : (0 : Int) ≤ (i : Int) := Int.natCast_nonneg _
      have i1 : (i : Int) < (l.length : Int) := Int.ofNat_lt.2 hlt
      have i2 : (i : Int) < (k.length : Int) := Int.ofNat_lt.2 hlk
      have hs := ck_step l k i hlt hlk
      rw [hck.out] at hs
      have hls : Op.bytesLess (S l[i]).toList (S k[i]).toList = decide (tt l[i] k[i] = -1) := by rw [toList_S, toList_S, less_tt]
      by_cases hx : l[i] = k[i]
      · rw [hx, tt_tot.self, if_pos rfl] at hs
        have hs' : Hid (ck l k = ck (l.drop (i + 1)) (k.drop (i + 1))) := hs
        rw [hx, tt_tot.self] at hls
        rw [hx] at c1
        have hls' : Op.bytesLess (S k[i]).toList (S k[i]).toList = false := hls
        clear hs hls hE hx h1 h2
        generalize S k[i] = X at *
        go_wp2_with fail
        go_quiet (fail)
        go_wp2_with fail
        go_quiet (fail)
        go_wp2_with fail
        go_roundw
        case rel => exact ⟨i + 1, _, hlt, hlk, by simp, hs'.out.symm, by unfold Hid; rw [hw.out]; first | (rw [World.drewN_drewN, World.drewN_drewN]) | (rw [World.drewN_drewN])⟩
        case measure => simp [intOf]; omega
      · have hne := str_ne hx
        have hn0 : ¬ tt l[i] k[i] = 0 := fun q => hx ((tt_tot.2.1 _ _).1 q)
        rw [if_neg hn0] at hs
        have hs' : Hid (ck l k = tt l[i] k[i]) := hs
        have hr := tt_tot.1 l[i] k[i]
        clear hs hE hx h1 h2
        generalize tt l[i] k[i] = t at *
        generalize S l[i] = X at *
        generalize S k[i] = Y at *
        rcases hr with rfl | rfl | rfl
        · have hls' : Op.bytesLess X.toList Y.toList = true := hls
          clear hls hn0
          go_wp2_with fail
          go_quiet (fail)
          go_wp2_with fail
          go_ret
          exact ⟨by rw [hs'.out]; rfl, _, by rw [hw.out, World.drewN_drewN]⟩
        · exact absurd rfl hn0
        · have hls' : Op.bytesLess X.toList Y.toList = false := hls
          clear hls hn0
          go_wp2_with fail
          go_quiet (fail)
          go_wp2_with fail
          go_quiet (fail)
          go_wp2_with fail
          go_ret
          exact ⟨by rw [hs'.out]; rfl, _, by rw [hw.out]; first | (rw [World.drewN_drewN, World.drewN_drewN]) | (rw [World.drewN_drewN])⟩
    · have hd : Hid (ck l k = if l.length < k.length then -1 else if k.length < l.length then 1 else 0) := by
        unfold Hid
        rw [← hck.out]
        rcases Nat.lt_or_ge l.length k.length with h | h
        · have e : i = l.length := by omega
          rw [if_pos h, e, List.drop_length, List.drop_eq_getElem_cons h]
          rfl
        · rw [if_neg (by omega)]
          have e : i = k.length := by omega
          by_cases h' : k.length < l.length
          · rw [if_pos h', e, List.drop_length, List.drop_eq_getElem_cons h']
            rfl
          · have e2 : k.length = l.length := by omega
            rw [if_neg h', e, List.drop_length, e2, List.drop_length]
            rfl
      have hgd : ((decide ((i : Int) < (l.length : Int))) = true → (i : Int) < (k.length : Int) → False) := fun x y => hlt ⟨by simpa using x, Int.ofNat_lt.1 y⟩
      clear hck h1 h2
      rcases Nat.lt_trichotomy l.length k.length with h | h | h
      · have e : i = l.length := by omega
        subst e
        have i2 : (l.length : Int) < (k.length : Int) := Int.ofNat_lt.2 h
        have hd' : Hid (ck l k = -1) := by have := hd.out; rw [if_pos h] at this; exact this
        clear hd hgd hlt
        go_wp2_with fail
        go_ret
        exact ⟨by rw [hd'.out]; rfl, q, hw.out⟩
      · have e : i = l.length := by omega
        have hd' : Hid (ck l k = 0) := by have := hd.out; rw [if_neg (by omega), if_neg (by omega)] at this; exact this
        have i2 : ¬ (l.length : Int) < (k.length : Int) := by omega
        have i3 : ¬ (k.length : Int) < (l.length : Int) := by omega
        subst e
        clear hd hgd hlt h
        go_wp2_with fail
        go_ret
        exact ⟨by rw [hd'.out]; rfl, q, hw.out⟩
      · have e : i = k.length := by omega
        subst e
        have i2 : (k.length : Int) < (l.length : Int) := Int.ofNat_lt.2 h
        have i3 : ¬ (l.length : Int) < (k.length : Int) := by omega
        have hd' : Hid (ck l k = 1) := by have := hd.out; rw [if_neg (by omega), if_pos h] at this; exact this
        clear hd hgd hlt
        go_wp2_with fail
        go_ret
        exact ⟨by rw [hd'.out]; rfl, q, hw.out⟩

set_option maxHeartbeats 400000 in
theorem dnWithin_any (l k : List (List UInt8)) (a b : Option Addr) (c d : Nat) (w : World) (hl : l.length ≤ 9223372036854775807) (hk : k.length ≤ 9223372036854775807) (hd : k.length ≤ d) (h1 : Row w a l) (h2 : Row w b k) :
    Calls Try.prog 14 #[.slice a l.length c, .slice b k.length d] w fun e w' => e = .returned (.bool (decide (l <+: k))) ∧ ∃ q, w' = w.drewN q := by
  by_cases hlen : l.length ≤ k.length
  · have hp : decide (l = k.take l.length) = decide (l <+: k) := decide_eq_decide.2 List.prefix_iff_eq_take.symm
    have hkl : (k.take l.length).length = l.length := by rw [List.length_take]; omega
    have hr : Row w b (k.take l.length) := Row.front (k := k.drop l.length) (by rw [List.take_append_drop]; exact h2)
    have hc := slicesEqual_any l (k.take l.length) a b c d w hl (by omega) h1 hr
    rw [hkl, hp] at hc
    have hb0 : (l.length : Int) ≤ (k.length : Int) := Int.ofNat_le.2 hlen
    have n0 : (0 : Int) ≤ (l.length : Int) := Int.natCast_nonneg _
    have n1 : l.length ≤ d := by omega
    clear hp hkl hr
    go_enter Try.func14, Try.ntmps14
    go_wp2_with (refine hc.mono ?_; rintro e w' ⟨rfl, q, rfl⟩)
    go_ret
    exact ⟨rfl, q, rfl⟩
  · have hno : Hid (¬ l <+: k) := fun q => hlen q.length_le
    have hb0 : ¬ (l.length : Int) ≤ (k.length : Int) := by omega
    clear hlen h1 h2
    go_enter Try.func14, Try.ntmps14
    go_wp2_with fail
    go_ret
    exact ⟨by rw [decide_eq_false hno.out]; rfl, 0, rfl⟩

/-- The mark behind a copy. -/
def spr : List UInt8 := [115, 112, 97, 114, 101, 32, 114, 111, 111, 109]
/-- A list that has just been laid, without a text in it. -/
theorem own_empty (w : World) : OwnS (w.alloc (.cells #[] 9)) w.heap.size (.slice (some ⟨w.heap.size, 0, none⟩) 0 0) [] :=
  ⟨rfl, Or.inr ⟨w.heap.size, 0, #[], rfl, Nat.le_refl _, heap_alloc_new w _, Nat.le_refl _, by unfold maxLen; omega, rfl, rfl⟩⟩

set_option maxHeartbeats 1000000 in
theorem copyTexts_any (l : List (List UInt8)) (a : Option Addr) (c : Nat) (w : World) (hl : (l.length + 1) * 16 ≤ 140737488355328) (h1 : Row w a l) :
    Calls Try.prog 10 #[.slice a l.length c] w fun e w' => ∃ g cap, e = .returned (.slice (some ⟨g, 0, none⟩) l.length cap) ∧ OwnS w' w.heap.size (.slice (some ⟨g, 0, none⟩) (l.length + 1) cap) (l ++ [spr]) ∧ l.length + 1 ≤ cap ∧ Below w.heap.size w w' := by
  obtain ⟨wE, hwE⟩ : ∃ wE, w.alloc (.cells #[] 9) = wE := ⟨_, rfl⟩
  have hbE : Below w.heap.size w wE := by rw [← hwE]; exact (Below.refl _ _).alloc (Nat.le_refl _) _
  have hoE : OwnS wE w.heap.size (.slice (some ⟨w.heap.size, 0, none⟩) 0 0) [] := by rw [← hwE]; exact own_empty w
  obtain ⟨v1, w1, hr1, ho1, hb1⟩ := append_row wE w.heap.size _ [] l a l.length c hoE (h1.below hbE) rfl hbE.size (by simp; omega)
  rw [List.nil_append] at ho1
  have hb1' : Below w.heap.size w w1 := hbE.trans hb1
  obtain ⟨wA, hwA⟩ : ∃ wA, w1.alloc (.cells #[.string ⟨#[115, 112, 97, 114, 101, 32, 114, 111, 111, 109]⟩] 9) = wA := ⟨_, rfl⟩
  have hbA : Below w.heap.size w wA := by rw [← hwA]; exact hb1'.alloc hb1'.size _
  have hoA : OwnS wA w.heap.size v1 l := by rw [← hwA]; exact World.ownsRow.alloc ho1 _
  have hsA : Row wA (some ⟨w1.heap.size, 0, none⟩) [spr] := by
    intro i hi
    simp at hi
    subst hi
    refine ⟨w1.heap.size, 0, rfl, ?_⟩
    rw [← hwA]
    simp [go_sem, S, spr]
  obtain ⟨v2, w2, hr2, ho2, hb2⟩ := append_row wA w.heap.size v1 l [spr] _ 1 1 hoA hsA rfl hbA.size (by simpa using hl)
  obtain ⟨g, cap, rfl, hcap⟩ : ∃ g cap, v2 = .slice (some ⟨g, 0, none⟩) (l.length + 1) cap ∧ l.length + 1 ≤ cap := by
    rcases ownS_form ho2 with ⟨_, h⟩ | ⟨g, cap, h, h', _⟩
    · simp at h
    · rw [List.length_append] at h h'
      exact ⟨g, cap, h, h'⟩
  have hfin : Hid (OwnS w2 w.heap.size (.slice (some ⟨g, 0, none⟩) (l.length + 1) cap) (l ++ [spr]) ∧ l.length + 1 ≤ cap ∧ Below w.heap.size w w2) := ⟨ho2, hcap, hbA.trans hb2⟩
  obtain ⟨va, vn, vc, rfl⟩ : ∃ va vn vc, v1 = .slice va vn vc := by
    rcases ownS_form ho1 with ⟨rfl, _⟩ | ⟨g, cap, rfl, _⟩
    · exact ⟨_, _, _, rfl⟩
    · exact ⟨_, _, _, rfl⟩
  have n0 : (0 : Int) ≤ (l.length : Int) := Int.natCast_nonneg _
  have n1 : l.length ≤ cap := by omega
  clear hbE hoE hb1 ho1 hb1' hbA hoA hsA ho2 hb2 hcap h1 hl
  go_enter Try.func10, Try.ntmps10
  go_wp2_with (first | (at_builtin; refine Lib.wpList_append_run _ rfl _ _ _ _ rfl _ _ rfl rfl _ _ hr1 ?_) | (at_builtin; refine Lib.wpList_append_run _ rfl _ _ _ _ rfl _ _ rfl rfl _ _ hr2 ?_))
  go_ret
  exact ⟨g, cap, rfl, hfin.out⟩
end Go.Proofs.Ytldeehnpppmmpaa
