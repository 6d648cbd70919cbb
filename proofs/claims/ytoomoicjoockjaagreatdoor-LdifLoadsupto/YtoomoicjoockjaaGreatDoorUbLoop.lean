import Derived.Test.YtoomoicjoockjaaGreatDoorGUc
namespace Go.Proofs.YtoomoicjoockjaaGreatDoor
set_option maxRecDepth 100000
open Go.RowKit
open TextMath (al grp b64 bo wv ch Gd gF dec unb preB)

theorem four_l (g : ByteArray) (hs : g.size = 4) : ∃ x y z t, g.data.toList = [x, y, z, t] := by
  have h := size_l g
  rw [hs] at h
  match hd : g.data.toList, h with
  | [x, y, z, t], _ => exact ⟨x, y, z, t, rfl⟩

theorem dec_any (g : ByteArray) (w : World) (hs : g.size = 4) (hg : Gd g.data.toList = true)
    (base b n cap : Nat) (xs : List Value) (hown : w.ownsRow base 5 1 (.slice (some ⟨b, 0, none⟩) n cap) n xs) (hroom : n + 3 ≤ cap) (ht : WTab w) :
    Calls Tryz.prog 91 #[.slice (some ⟨b, 0, none⟩) n cap, .string g] w fun e w' => e = .returned (.slice (some ⟨b, 0, none⟩) (n + (dec g.data.toList).length) cap) ∧ w'.ownsRow base 5 1 (.slice (some ⟨b, 0, none⟩) (n + (dec g.data.toList).length) cap) (n + (dec g.data.toList).length) (xs ++ bv (dec g.data.toList)) ∧ w.grownBy w' (some b) := by
  obtain ⟨x, y, z, t, hd⟩ := four_l g hs
  rw [hd] at hg ⊢
  have hg' := hg
  simp only [Gd, Bool.and_eq_true, Bool.or_eq_true, beq_iff_eq] at hg'
  obtain ⟨⟨hx, hy⟩, hr⟩ := hg'
  rcases hr with ⟨hz, ht'⟩ | ⟨⟨hz, _⟩, ht'⟩
  · rcases ht' with ht' | ⟨ht', _⟩
    · have hl : (dec [x, y, z, t]).length = 3 := (TextMath.good_grp x y z t hg).2.2.1 (TextMath.ch_wv t ht').2.2.2
      rw [hl]
      exact dec4 g x y z t w hd hx hy hz ht' base b n cap xs hown hroom ht
    · subst ht'
      have hl : (dec [x, y, z, 61]).length = 2 := by simp only [dec]; rw [if_neg (by simp), if_pos (TextMath.ch_wv z hz).2.2.2]; rfl
      rw [hl]
      exact dec3 g x y z w hd hx hy hz base b n cap xs hown (by omega) ht
  · subst hz ht'
    have hl : (dec [x, y, 61, 61]).length = 1 := by simp only [dec]; rw [if_neg (by simp), if_neg (by simp)]; rfl
    rw [hl]
    exact dec2 g x y w hd hx hy base b n cap xs hown (by omega) ht

/-- What Unbase64 answers. -/
def ubV (n : Nat) : Except Nat (List UInt8) → Value
  | .ok t => .tuple #[.string (S t), .int .i64 0, .int .i64 (n : Int)]
  | .error p => .tuple #[.string ⟨#[]⟩, .int .i64 12, .int .i64 (p : Int)]
theorem ret_tupB {a b : Value} (h : a = b) : Ending.returned a = .returned b := by rw [h]

theorem ext_l (s : ByteArray) (k : Nat) : (s.extract k (k + 4)).data.toList = (s.data.toList.drop k).take 4 := by
  rw [Lib.extract_data]; congr 1; omega
theorem ext_s (s : ByteArray) (k : Nat) (h : s.size < k + 4) : (s.extract k s.size).data.toList = (s.data.toList.drop k).take 4 := by
  rw [drop_l, List.take_of_length_le (by rw [List.length_drop, size_l]; omega)]

set_option maxHeartbeats 2000000 in
theorem unbase64_any (s : ByteArray) (w : World) (hm : s.size ≤ 281474976710656) (ht : WTab w) :
    Calls Tryz.prog 68 #[.string s] w fun e w' => e = .returned (ubV s.size (unb s.data.toList 0)) ∧ Below w.heap.size w w' := by
  have hL : Hid (s.data.toList.length = s.size) := size_l s
  obtain ⟨i0, hi, hz0, hz1, hz2⟩ := info_parts info_u8
  obtain ⟨C, hC⟩ : ∃ C, C = s.size / 4 * 3 := ⟨_, rfl⟩
  have HC : Hid (C = s.size / 4 * 3) := hC
  have hCb : C ≤ 281474976710656 := by omega
  have hCe : (s.size : Int) / 4 * 3 = (C : Int) := by omega
  clear hC
  go_enter Tryz.func68, Tryz.ntmps68
  go_wp2_with (at_make; refine wpList_make_own _ rfl _ _ 51 rfl w.heap.size 5 i0 (.int .u8 0) 1 Tryz.underlying51 hi hz0 hz1 _ _ _ C rfl rfl rfl ?_ ?_ ?_ ?_; (rw [hz2]; omega); (unfold maxLen; omega); (exact Nat.le_refl _); intro w1 hown1 hgrow1)
  have hb1 : Below w.heap.size w w1 := (Below.refl _ _).grown hgrow1 (Nat.le_refl _) (fun k h => by cases h)
  go_loopw [5, 6] (fun out i wr => ∃ (k : Nat) (o : List UInt8), k ≤ s.size ∧ i = .int .i64 k ∧ out = .slice (some ⟨w.heap.size, 0, none⟩) o.length C ∧ Hid (4 * o.length ≤ 3 * k ∧ k % 4 = 0) ∧ Below w.heap.size w wr ∧ w.heap.size < wr.heap.size ∧ wr.ownsRow w.heap.size 5 1 (.slice (some ⟨w.heap.size, 0, none⟩) o.length C) o.length (bv o) ∧ Hid (unb s.data.toList 0 = preB o (unb (s.data.toList.drop k) k))) (fun _ i _ => s.size - (intOf i).toNat)
  case atStart => exact ⟨0, [], Nat.zero_le _, rfl, rfl, ⟨by simp, rfl⟩, hb1, (hown1.lt _ rfl).2, hown1, by unfold Hid; rw [List.drop_zero, TextMath.preB_nil]⟩
  case round =>
    clear hown1 hgrow1 hb1 hCe
    obtain ⟨k, o, hk, rfl, rfl, hko, hb, hgs, hown, hun⟩ := hrel
    have htr := ht.below hb
    by_cases hlt : k < s.size
    · have hne : (s.data.toList.drop k).length ≠ 0 := by rw [List.length_drop, hL.out]; omega
      by_cases h4 : k + 4 ≤ s.size
      · have hgl := ext_l s k
        have hgsz : (s.extract k (k + 4)).size = 4 := by simp; omega
        have c4 : ¬ ((s.size : Int) < (k : Int) + 4) := by omega
        have hcf : ∀ W, WTab W → Hid (Calls Tryz.prog 90 #[.string (s.extract k (k + 4))] W fun e w' => e = .returned (.int .i64 (gF ((s.data.toList.drop k).take 4) : Nat)) ∧ Below W.heap.size W w') := fun W hW => by
          have := groupFront_any (s.extract k (k + 4)) W (by omega) hW
          rw [hgl] at this; exact this
        by_cases hg4 : gF ((s.data.toList.drop k).take 4) < 4
        · have HR : Hid (unb s.data.toList 0 = .error (k + gF ((s.data.toList.drop k).take 4))) := by
            unfold Hid; rw [hun.out, TextMath.unb_bad _ k hne hg4]; rfl
          generalize gF ((s.data.toList.drop k).take 4) = m at *
          clear hun hown hgl hgsz hne
          go_wp2_with (go_at_call 90; refine (hcf _ htr).out.mono ?_; rintro e w2 ⟨rfl, hb2⟩)
          go_ret3
          exact ⟨ret_tupB (by rw [HR.out]; unfold ubV; simp), hb.trans (hb2.mono hb.size)⟩
        · have hle := TextMath.gF_le ((s.data.toList.drop k).take 4)
          have hgf : gF ((s.data.toList.drop k).take 4) = 4 := by omega
          have hgd := (TextMath.gF_four _ hgf).2
          rw [List.take_take] at hgd
          simp only [Nat.min_self] at hgd
          rw [hgf] at hcf
          have hgd' : Gd (s.extract k (k + 4)).data.toList = true := by rw [hgl]; exact hgd
          have h3i : 3 < (s.extract k (k + 4)).size := by omega
          have h3e : (s.extract k (k + 4))[3]'h3i = (s.data.toList.drop k).getD 3 0 := by
            rw [get_l _ _ hgl 3 h3i]
            simp [List.getD]
          by_cases hpad : (s.data.toList.drop k).getD 3 0 = 61 ∧ 4 < (s.data.toList.drop k).length
          · have HR : Hid (unb s.data.toList 0 = .error (k + 4)) := by
              unfold Hid; rw [hun.out, TextMath.unb_behind _ k hne hg4 hpad]; rfl
            have hb61 : ((((s.extract k (k + 4))[3]'h3i).toNat : Int) == 61) = true := by rw [h3e, hpad.1]; rfl
            have hlt4 : (k : Int) + 4 < (s.size : Int) := by have := hpad.2; rw [List.length_drop, hL.out] at this; omega
            clear hun hown hgl hne hpad h3e hgd hgd' hg4 hgf hle
            go_wp2_with fail
            refine (hcf _ htr).out.mono ?_
            rintro e w2 ⟨rfl, hb2⟩
            clear hcf
            generalize s.extract k (k + 4) = g at *
            have h3i' : (3 : Int) < g.size := by omega
            go_wp2
            go_ret3
            exact ⟨ret_tupB (by rw [HR.out]; unfold ubV; simp), hb.trans (hb2.mono hb.size)⟩
          · have HU : Hid (unb s.data.toList 0 = preB (o ++ dec (s.extract k (k + 4)).data.toList) (unb (s.data.toList.drop (k + 4)) (k + 4))) := by
              unfold Hid; rw [hun.out, TextMath.unb_step _ k hne hg4 hpad, TextMath.preB_preB, List.drop_drop, hgl]
            obtain ⟨x, y, z, t, hd4⟩ := four_l _ hgsz
            have hdl : (dec (s.extract k (k + 4)).data.toList).length ≤ 3 := by
              rw [hd4] at hgd' ⊢; exact (TextMath.good_grp x y z t hgd').2.2.2.2
            have hroom : o.length + 3 ≤ C := by have := hko.out; rw [HC.out]; omega
            have hko' : Hid (4 * (o ++ dec (s.extract k (k + 4)).data.toList).length ≤ 3 * (k + 4) ∧ (k + 4) % 4 = 0) := by
              have := hko.out
              unfold Hid; rw [List.length_append]; omega
            have hcd : ∀ W, WTab W → W.ownsRow w.heap.size 5 1 (.slice (some ⟨w.heap.size, 0, none⟩) o.length C) o.length (bv o) → Hid (Calls Tryz.prog 91 #[.slice (some ⟨w.heap.size, 0, none⟩) o.length C, .string (s.extract k (k + 4))] W fun e w' => e = .returned (.slice (some ⟨w.heap.size, 0, none⟩) (o ++ dec (s.extract k (k + 4)).data.toList).length C) ∧ w'.ownsRow w.heap.size 5 1 (.slice (some ⟨w.heap.size, 0, none⟩) (o ++ dec (s.extract k (k + 4)).data.toList).length C) (o ++ dec (s.extract k (k + 4)).data.toList).length (bv (o ++ dec (s.extract k (k + 4)).data.toList)) ∧ W.grownBy w' (some w.heap.size)) := fun W hW ho => by
              have := dec_any (s.extract k (k + 4)) W hgsz hgd' w.heap.size w.heap.size o.length C (bv o) ho hroom hW
              rw [← bv_app, ← List.length_append] at this
              exact this
            have h61 : (((((s.extract k (k + 4))[3]'h3i).toNat : Int) == 61) = false) ∨ ((((((s.extract k (k + 4))[3]'h3i).toNat : Int) == 61) = true) ∧ ¬ ((k : Int) + 4 < (s.size : Int))) := by
              by_cases hc : (s.data.toList.drop k).getD 3 0 = 61
              · right
                refine ⟨by rw [h3e, hc]; rfl, fun hh => hpad ⟨hc, by rw [List.length_drop, hL.out]; omega⟩⟩
              · left
                rw [h3e]
                exact beq_eq_false_iff_ne.2 (fun hh => hc (UInt8.toNat_inj.1 (by have : (61 : UInt8).toNat = 61 := rfl; omega)))
            clear hun hgl hne hpad h3e hgd hgd' hg4 hgf hle hd4 hdl hko
            go_wp2_with fail
            refine (hcf _ htr).out.mono ?_
            rintro e w2 ⟨rfl, hb2⟩
            have htr2 := htr.below hb2
            have hown2 := own_block hown (hb2.block _ hgs)
            have hs2 := hb2.size
            clear hcf hown
            generalize s.extract k (k + 4) = g at *
            have h3i' : (3 : Int) < g.size := by omega
            generalize o ++ dec g.data.toList = o2 at *
            rcases h61 with h61 | ⟨h61, hnl⟩
            all_goals
              go_wp2_with (go_at_call 91; refine (hcd _ htr2 hown2).out.mono ?_; rintro e w3 ⟨rfl, hown3, hgrow3⟩)
              go_roundw
              case rel => exact ⟨k + 4, o2, h4, by go_num, rfl, hko', (hb.trans (hb2.mono hb.size)).grown hgrow3 (by omega) (fun j h => by injection h with h; omega), by have := hgrow3.size; omega, hown3, HU⟩
              case measure => simp [intOf]; omega
      · have hgl := ext_s s k (by omega)
        have hgsz : (s.extract k s.size).size ≤ 3 := by simp; omega
        have c4 : (s.size : Int) < (k : Int) + 4 := by omega
        have hle := TextMath.gF_le ((s.data.toList.drop k).take 4)
        have hg4 : gF ((s.data.toList.drop k).take 4) < 4 := by
          rw [← hgl] at hle ⊢; rw [size_l] at hle; omega
        have hcf : ∀ W, WTab W → Hid (Calls Tryz.prog 90 #[.string (s.extract k s.size)] W fun e w' => e = .returned (.int .i64 (gF ((s.data.toList.drop k).take 4) : Nat)) ∧ Below W.heap.size W w') := fun W hW => by
          have := groupFront_any (s.extract k s.size) W (by omega) hW
          rw [hgl] at this; exact this
        have HR : Hid (unb s.data.toList 0 = .error (k + gF ((s.data.toList.drop k).take 4))) := by
          unfold Hid; rw [hun.out, TextMath.unb_bad _ k hne hg4]; rfl
        generalize gF ((s.data.toList.drop k).take 4) = m at *
        clear hun hown hgl hgsz hne hle
        go_wp2_with (go_at_call 90; refine (hcf _ htr).out.mono ?_; rintro e w2 ⟨rfl, hb2⟩)
        go_ret3
        exact ⟨ret_tupB (by rw [HR.out]; unfold ubV; simp), hb.trans (hb2.mono hb.size)⟩
    · have hdn : s.data.toList.drop k = [] := List.drop_eq_nil_of_le (by rw [hL.out]; omega)
      have HR : Hid (unb s.data.toList 0 = .ok o) := by
        unfold Hid; rw [hun.out, hdn, TextMath.unb_nil]; simp [preB]
      have hback := own_back (P := Tryz.prog) wr w.heap.size 51 9 5 w.heap.size _ _ _ Tryz.underlying51 Tryz.underlying5 Tryz.underlying9 hown
      clear hown hun hdn
      go_wp2
      go_ret3
      exact ⟨ret_tupB (by rw [HR.out]; rfl), hb⟩
end Go.Proofs.YtoomoicjoockjaaGreatDoor
