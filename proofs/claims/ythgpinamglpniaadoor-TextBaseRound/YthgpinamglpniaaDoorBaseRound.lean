import Derived.Test.YthgpinamglpniaaDoorUbLoop
import Derived.ProofKit
import Derived.OpenShut
namespace Go.Proofs.YthgpinamglpniaaDoor
open Go.RowKit
open TextMath (al grp b64 bo wv ch Gd gF dec unb preB)

theorem unb_err : ∀ (f : Nat) (m : List UInt8) (k p : Nat), m.length ≤ f → unb m k = .error p → k ≤ p ∧ p ≤ k + m.length
  | 0, m, k, p, hf, h => by
    have : m = [] := List.eq_nil_of_length_eq_zero (by omega)
    subst this; rw [TextMath.unb_nil] at h; cases h
  | f + 1, m, k, p, hf, h => by
    by_cases h0 : m.length = 0
    · have : m = [] := List.eq_nil_of_length_eq_zero h0
      subst this; rw [TextMath.unb_nil] at h; cases h
    · have hle := TextMath.gF_le (m.take 4)
      rw [List.length_take] at hle
      by_cases hg : gF (m.take 4) < 4
      · rw [TextMath.unb_bad m k h0 hg] at h; injection h with h; omega
      · by_cases h2 : m.getD 3 0 = 61 ∧ 4 < m.length
        · rw [TextMath.unb_behind m k h0 hg h2] at h; injection h with h; omega
        · rw [TextMath.unb_step m k h0 hg h2] at h
          cases hr : unb (m.drop 4) (k + 4) with
          | ok q => rw [hr] at h; cases h
          | error q =>
            rw [hr] at h
            simp only [preB] at h
            injection h with h; subst h
            have := unb_err f (m.drop 4) (k + 4) q (by simp; omega) hr
            rw [List.length_drop] at this
            omega

set_option maxRecDepth 100000 in
set_option maxHeartbeats 2000000 in
theorem baseRound_walk (s : ByteArray) (i c : Int) (w : World) (hs : s.size ≤ 140737488351232) (hi : (Lit.int .i64 i).wf = true) (hc : (Lit.int .u8 c).wf = true) (hA : AlTab w) (hW : WTab w) :
    Calls Tryd.prog 6 #[.string s, .int .i64 i, .int .u8 c] w fun e w' => e = .returned (.bool true) ∧ Below w.heap.size w w' := by
  have HB := Below.refl w.heap.size w
  have hcr : 0 ≤ c ∧ c ≤ 255 := bounds_u8 hc
  obtain ⟨cb, hcb⟩ : ∃ cb : UInt8, c = (cb.toNat : Int) := ⟨UInt8.ofNat c.toNat, by rw [UInt8.toNat_ofNat']; omega⟩
  subst hcb
  clear hc hcr
  have hbl := TextMath.b64_len s.data.toList
  rw [size_l] at hbl
  have hrt := TextMath.unb_b64 s.data.toList 0
  have honly : Hid (∀ m t, unb m 0 = .ok t → b64 t = m) := fun m t h => TextMath.b64_unb m.length m 0 t (Nat.le_refl _) h
  have hcall : ∀ W, AlTab W → Hid (Calls Tryd.prog 11 #[.string s] W fun e w' => e = .returned (.string (S (b64 s.data.toList))) ∧ Below W.heap.size W w') := fun W h => base64_any s W (by omega) h
  have hb64 : Hid (∀ t, b64 t = b64 s.data.toList → unb (b64 t) 0 = .ok s.data.toList) := fun t h => by rw [h]; exact hrt
  generalize hB : b64 s.data.toList = B at *
  have HBl : Hid (b64 s.data.toList = B) := hB
  have hsz : (S B).size = (s.size + 2) / 3 * 4 := by rw [S_size]; exact hbl
  have hne : (((S B).size : Int) != ((s.size : Int) + 2) / 3 * 4) = false := by rw [hsz]; simp
  have hshb : (S B).size ≤ 281474976710656 := by omega
  have U1 : Hid (ubV (S B).size (unb (S B).data.toList 0) = .tuple #[.string s, .int .i64 0, .int .i64 ((S B).size : Nat)]) := by
    unfold Hid; rw [S_l, hrt]; show Value.tuple #[.string (S s.data.toList), _, _] = _; rw [S_of]
  have hcu : ∀ W, WTab W → Hid (Calls Tryd.prog 14 #[.string (S B)] W fun e w' => e = .returned (.tuple #[.string s, .int .i64 0, .int .i64 ((S B).size : Nat)]) ∧ Below W.heap.size W w') := fun W h => by
    have := unbase64_any (S B) W hshb h
    rw [U1.out] at this; exact this
  have hBL : Hid (B.length = (S B).size) := (S_size B).symm
  clear hsz hbl hB hrt
  by_cases hneg : i < 0
  · go_enter Tryd.func6, Tryd.ntmps6
    go_wp2_with (first
      | (go_at_call 11; refine (hcall _ hA).out.mono ?_; rintro e w1 ⟨rfl, hb1⟩; replace HB := HB.trans (hb1.mono HB.size); clear hb1)
      | (go_at_call 14; refine (hcu _ (hW.below HB)).out.mono ?_; rintro e w1 ⟨rfl, hb1⟩; replace HB := HB.trans (hb1.mono HB.size); clear hb1)
      | go_in)
    go_ret
    exact ⟨rfl, HB⟩
  · have dneg : decide (i < 0) = false := by simpa using hneg
    by_cases hbig : ((S B).size : Int) ≤ i
    · go_enter Tryd.func6, Tryd.ntmps6
      go_wp2_with (first
        | (go_at_call 11; refine (hcall _ hA).out.mono ?_; rintro e w1 ⟨rfl, hb1⟩; replace HB := HB.trans (hb1.mono HB.size); clear hb1)
        | (go_at_call 14; refine (hcu _ (hW.below HB)).out.mono ?_; rintro e w1 ⟨rfl, hb1⟩; replace HB := HB.trans (hb1.mono HB.size); clear hb1)
        | go_in)
      go_ret
      exact ⟨rfl, HB⟩
    · have dbig : decide (((S B).size : Int) ≤ i) = false := by simpa using hbig
      obtain ⟨k, rfl⟩ := Int.eq_ofNat_of_zero_le (Int.not_lt.1 hneg)
      have hk : k < (S B).size := by omega
      have hkB : k < B.length := by rw [hBL.out]; exact hk
      have hget : (S B)[k]'hk = B[k] := by rw [get_l (S B) B (S_l B) k hk]; simp [List.getD, hkB]
      by_cases hsame : B[k] = cb
      · have heq : ((((S B)[k]'hk).toNat : Int) == (cb.toNat : Int)) = true := by rw [hget, hsame]; simp
        clear hget hsame
        go_enter Tryd.func6, Tryd.ntmps6
        go_wp2_with (first
          | (go_at_call 11; refine (hcall _ hA).out.mono ?_; rintro e w1 ⟨rfl, hb1⟩; replace HB := HB.trans (hb1.mono HB.size); clear hb1)
          | (go_at_call 14; refine (hcu _ (hW.below HB)).out.mono ?_; rintro e w1 ⟨rfl, hb1⟩; replace HB := HB.trans (hb1.mono HB.size); clear hb1)
          | go_in)
        go_ret
        exact ⟨rfl, HB⟩
      · have hne2 : ((((S B)[k]'hk).toNat : Int) == (cb.toNat : Int)) = false := beq_eq_false_iff_ne.2 (fun hh => hsame (UInt8.toNat_inj.1 (by rw [hget] at hh; omega)))
        have hmne : B.set k cb ≠ B := fun hh => hsame (by have := congrArg (fun l => l[k]?) hh; simp [hkB] at this; exact this.symm)
        have hml : (B.set k cb).length = (S B).size := by rw [List.length_set]; exact hBL.out
        have hcu2 : ∀ W, WTab W → Hid (Calls Tryd.prog 14 #[.string (S (B.set k cb))] W fun e w' => e = .returned (ubV (S (B.set k cb)).size (unb (S (B.set k cb)).data.toList 0)) ∧ Below W.heap.size W w') := fun W h => unbase64_any _ W (by rw [S_size, hml]; exact hshb) h
        have t0 : True := trivial
        clear hget hsame
        cases hu : unb (B.set k cb) 0 with
        | ok t =>
          have hbt := honly.out _ _ hu
          have hts : S t ≠ s := fun hh => by
            have e1 : t = s.data.toList := by rw [← hh, S_l]
            rw [e1, HBl.out] at hbt
            exact hmne hbt.symm
          have hneq : ((S t).toList == s.toList) = false := by
            rw [beq_eq_false_iff_ne, Lib.toList_data, Lib.toList_data]
            intro hh; exact hts (by rw [← S_of (S t), hh, S_of])
          have U2 : Hid (ubV (S (B.set k cb)).size (unb (S (B.set k cb)).data.toList 0) = .tuple #[.string (S t), .int .i64 0, .int .i64 ((S B).size : Nat)]) := by
            unfold Hid; rw [S_l, hu, S_size, hml]; rfl
          clear hu hbt hts hmne
          go_enter Tryd.func6, Tryd.ntmps6
          go_wp2_with (first
            | (go_at_call 11; refine (hcall _ hA).out.mono ?_; rintro e w1 ⟨rfl, hb1⟩; replace HB := HB.trans (hb1.mono HB.size); clear hb1)
            | (go_at_call 14; have _t := t0; refine (hcu _ (hW.below HB)).out.mono ?_; clear t0; rintro e w2 ⟨rfl, hb1⟩; replace HB := HB.trans (hb1.mono HB.size); clear hb1; obtain ⟨W1, cap1, hconv, hbW, hzW, hrW⟩ := conv_bytes (P := Tryd.prog) w2 9 24 5 (S B) Tryd.underlying9 Tryd.underlying24 Tryd.underlying5; rw [S_l] at hrW; have hfz := (hrW k hkB).2; have hcl := (hrW k hkB).1; have hset := hrW.set k hkB cb; have hback := conv_back (P := Tryd.prog) _ 24 9 5 w2.heap.size (S B).size cap1 (B.set k cb) Tryd.underlying24 Tryd.underlying5 Tryd.underlying9 hml.symm hset; have HB2 : Below w.heap.size w (W1.setCell ⟨w2.heap.size, k, none⟩ (.int .u8 (cb.toNat : Int))) := (HB.trans (hbW.mono HB.size)).setCell HB.size _)
            | (go_at_call 14; refine (hcu2 _ (hW.below HB2)).out.mono ?_; rintro e w3 ⟨rfl, hb3⟩; rw [U2.out])
            | go_in)
          go_ret
          exact ⟨rfl, HB2.trans (hb3.mono HB2.size)⟩
        | error p =>
          have hle := (unb_err _ _ _ _ (Nat.le_refl _) hu).2
          rw [hml, Nat.zero_add] at hle
          have hp0 : decide ((0 : Int) ≤ (p : Int)) = true := by simp
          have hpl : (p : Int) ≤ ((S B).size : Int) := by omega
          have dpl : decide ((p : Int) ≤ ((S B).size : Int)) = true := by simpa using hpl
          have U2 : Hid (ubV (S (B.set k cb)).size (unb (S (B.set k cb)).data.toList 0) = .tuple #[.string ⟨#[]⟩, .int .i64 12, .int .i64 (p : Nat)]) := by
            unfold Hid; rw [S_l, hu]; rfl
          clear hu hmne
          go_enter Tryd.func6, Tryd.ntmps6
          go_wp2_with (first
            | (go_at_call 11; refine (hcall _ hA).out.mono ?_; rintro e w1 ⟨rfl, hb1⟩; replace HB := HB.trans (hb1.mono HB.size); clear hb1)
            | (go_at_call 14; have _t := t0; refine (hcu _ (hW.below HB)).out.mono ?_; clear t0; rintro e w2 ⟨rfl, hb1⟩; replace HB := HB.trans (hb1.mono HB.size); clear hb1; obtain ⟨W1, cap1, hconv, hbW, hzW, hrW⟩ := conv_bytes (P := Tryd.prog) w2 9 24 5 (S B) Tryd.underlying9 Tryd.underlying24 Tryd.underlying5; rw [S_l] at hrW; have hfz := (hrW k hkB).2; have hcl := (hrW k hkB).1; have hset := hrW.set k hkB cb; have hback := conv_back (P := Tryd.prog) _ 24 9 5 w2.heap.size (S B).size cap1 (B.set k cb) Tryd.underlying24 Tryd.underlying5 Tryd.underlying9 hml.symm hset; have HB2 : Below w.heap.size w (W1.setCell ⟨w2.heap.size, k, none⟩ (.int .u8 (cb.toNat : Int))) := (HB.trans (hbW.mono HB.size)).setCell HB.size _)
            | (go_at_call 14; refine (hcu2 _ (hW.below HB2)).out.mono ?_; rintro e w3 ⟨rfl, hb3⟩; rw [U2.out])
            | go_in)
          go_ret
          exact ⟨rfl, HB2.trans (hb3.mono HB2.size)⟩
end Go.Proofs.YthgpinamglpniaaDoor
