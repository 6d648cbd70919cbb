import Derived.Test.YtoiilplnhecokaaDoorDnCmp
namespace Go.Proofs.YtoiilplnhecokaaDoor
open Go.RowKit
open DnMath (Tot lx tb tt ck tb_tot tt_tot ck_tot less_tt lx_front lx_between)
set_option linter.unusedVariables false

theorem take_step {l k : List (List UInt8)} {i : Nat} (h : l.take i = k.take i) (h1 : i < l.length) (h2 : i < k.length) (e : l[i] = k[i]) : l.take (i + 1) = k.take (i + 1) := by
  rw [List.take_succ_eq_append_getElem h1, List.take_succ_eq_append_getElem h2, h, e]
theorem ne_at {l k : List (List UInt8)} {i : Nat} (h1 : i < l.length) (h2 : i < k.length) (e : ¬ l[i] = k[i]) : ¬ l = k := by
  intro q; subst q; exact e rfl
theorem not_front {l k : List (List UInt8)} {i : Nat} (h1 : i < l.length) (h2 : i < k.length) (e : ¬ l[i] = k[i]) : ¬ l <+: k := by
  rintro ⟨r, rfl⟩
  exact e (by rw [List.getElem_append_left h1])
theorem whole_eq {l k : List (List UInt8)} (h : l.take l.length = k.take l.length) (e : l.length = k.length) : l = k := by
  rw [List.take_length, e, List.take_length] at h
  exact h
theorem whole_front {l k : List (List UInt8)} (h : l.take l.length = k.take l.length) : l <+: k := by
  rw [List.take_length] at h
  rw [h]
  exact List.take_prefix _ _
theorem str_ne {x y : List UInt8} (h : ¬ x = y) : ((S x).toList == (S y).toList) = false := by
  rw [toList_S, toList_S]
  simp [h]

set_option maxHeartbeats 1000000 in
theorem sameTexts_loop (l k : List (List UInt8)) (a b : Option Addr) (c d : Nat) (w : World) (hl : l.length ≤ 9223372036854775807) (hk : k.length ≤ 9223372036854775807) (hlen : l.length = k.length) (h1 : Row w a l) (h2 : Row w b k) :
    Calls Tryd.prog 11 #[.slice a l.length c, .slice b k.length d] w fun e w' => e = .returned (.bool (decide (l = k))) ∧ ∃ q, w' = w.drewN q := by
  have hlen' : Hid (l.length = k.length) := hlen
  have hb0 : ((l.length : Int) != (k.length : Int)) = false := by rw [hlen]; simp
  go_enter Tryd.func11, Tryd.ntmps11
  clear hlen
  go_wp2_with fail
  go_loopw [5] (fun iv wr => ∃ i q : Nat, i ≤ l.length ∧ iv = .int .i64 (i : Int) ∧ Hid (l.take i = k.take i) ∧ Hid (wr = w.drewN q)) (fun iv _ => l.length - (intOf iv).toNat)
  case atStart => exact ⟨0, 0, Nat.zero_le _, rfl, by unfold Hid; simp, rfl⟩
  case round =>
    obtain ⟨i, q, hi, rfl, htk, hw⟩ := hrel
    have hlen := hlen'.out
    by_cases hlt : i < l.length
    · have hlk : i < k.length := by omega
      obtain ⟨b1, o1, rfl, c1⟩ := h1 i hlt
      obtain ⟨b2, o2, rfl, c2⟩ := h2 i hlk
      have hE : ∀ a, wr.cell? a = w.cell? a := fun a => by rw [hw.out]; rfl
      rw [← hE] at c1 c2
      have i0 : (0 : Int) ≤ (i : Int) := Int.natCast_nonneg _
      have i1 : (i : Int) < (l.length : Int) := Int.ofNat_lt.2 hlt
      have i2 : (i : Int) < (k.length : Int) := Int.ofNat_lt.2 hlk
      by_cases hx : l[i] = k[i]
      · have htk' : Hid (l.take (i + 1) = k.take (i + 1)) := take_step htk.out hlt hlk hx
        rw [← hx] at c2
        generalize S l[i] = X at *
        clear hE hx hlen h1 h2
        go_wp2_with fail
        go_quiet (fail)
        go_wp2_with fail
        go_roundw
        case rel => exact ⟨i + 1, _, hlt, by simp, htk', by unfold Hid; rw [hw.out, World.drewN_drewN]⟩
        case measure => simp [intOf]; omega
      · have hne := str_ne hx
        have hno : Hid (¬ l = k) := ne_at hlt hlk hx
        generalize S l[i] = X at *
        generalize S k[i] = Y at *
        clear hE hx hlen h1 h2
        go_wp2_with fail
        go_quiet (fail)
        go_wp2_with fail
        go_ret
        exact ⟨by rw [decide_eq_false hno.out]; rfl, _, by rw [hw.out, World.drewN_drewN]⟩
    · have hle : i = l.length := by omega
      subst hle
      have hyes : Hid (l = k) := (whole_eq htk.out hlen)
      clear h1 h2 hlen
      go_wp2_with fail
      go_ret
      exact ⟨by rw [decide_eq_true hyes.out]; rfl, q, hw.out⟩

set_option maxHeartbeats 400000 in
theorem sameTexts_any (l k : List (List UInt8)) (a b : Option Addr) (c d : Nat) (w : World) (hl : l.length ≤ 9223372036854775807) (hk : k.length ≤ 9223372036854775807) (h1 : Row w a l) (h2 : Row w b k) :
    Calls Tryd.prog 11 #[.slice a l.length c, .slice b k.length d] w fun e w' => e = .returned (.bool (decide (l = k))) ∧ ∃ q, w' = w.drewN q := by
  by_cases hlen : l.length = k.length
  · exact sameTexts_loop l k a b c d w hl hk hlen h1 h2
  · have hno : Hid (¬ l = k) := fun q => hlen (by rw [q])
    have hb0 : ((l.length : Int) != (k.length : Int)) = true := by simp; omega
    clear hlen h1 h2
    go_enter Tryd.func11, Tryd.ntmps11
    go_wp2_with fail
    go_ret
    exact ⟨by rw [decide_eq_false hno.out]; rfl, 0, rfl⟩

end Go.Proofs.YtoiilplnhecokaaDoor
