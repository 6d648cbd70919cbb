import Derived.Test.YtjklnmddoiilgaaUeU
import Derived.Test.YtjklnmddoiilgaaUeR
namespace Go.Proofs.Ytjklnmddoiilgaa
open Go.RowKit
open EscMath
open TextMath (wo pre)
attribute [local go_sem ↓] Go.wp_at_zero Go.wp_at_succ

theorem hw_ge (c : UInt8) : -1 ≤ hw c ∧ hw c < 16 := by
  unfold hw
  cases h : wo c with
  | none => exact ⟨Int.le_refl _, by decide⟩
  | some x => have := TextMath.wo_lt _ _ h; simp only; omega
theorem cod_at (l : List UInt8) (a b : UInt8) (r : List UInt8) (h : l = a :: b :: r) : cod l = if hw a < 0 ∨ hw b < 0 then none else some (UInt8.ofNat (16 * (hw a).toNat + (hw b).toNat)) := by
  subst h
  cases ha : wo a with
  | none => rw [hw_none a ha, if_pos (.inl (by decide))]; unfold cod; simp only [ha]
  | some x =>
    cases hb : wo b with
    | none => rw [hw_none b hb, if_pos (.inr (by decide))]; unfold cod; simp only [ha, hb]
    | some y => rw [hw_some a x ha, hw_some b y hb, if_neg (by omega)]; unfold cod; simp only [ha, hb, Int.toNat_natCast]
theorem cod_short (l : List UInt8) (h : l.length < 2) : cod l = none := by
  match l, h with
  | [], _ => rfl
  | [a], _ => rfl
set_option maxRecDepth 100000 in
set_option maxHeartbeats 1000000 in
theorem rUnescape_any (s : ByteArray) (w : World) (hs : s.size ≤ 4194304) :
    Calls Try.prog 9 #[.string s] w fun e w' => e = .returned (unV (une s.data.toList 0)) ∧ Below w.heap.size w w' := by
  have hL : Hid (s.data.toList.length = s.size) := size_l s
  obtain ⟨i0, hi, hz0, hz1, hz2⟩ := info_parts info_u8
  go_enter Try.func9, Try.ntmps9
  go_wp2_with fail
  go_loopw [5, 6] (fun out i wr => ∃ (k m : Nat) (o : List UInt8), k ≤ s.size ∧ m ≤ k ∧ i = .int .i64 k ∧ Hid (Below w.heap.size w wr) ∧ Hid (wr.ownsRow w.heap.size 5 1 out m (bv o))
      ∧ Hid (une s.data.toList 0 = pre o (une (s.data.toList.drop k) k))) (fun _ i _ => s.size - (intOf i).toNat)
  case atStart => exact ⟨0, 0, [], Nat.zero_le _, Nat.le_refl _, rfl, Below.refl _ _, World.ownsRow_nil _ _ _ _, by unfold Hid; simp [TextMath.pre_nil]⟩
  case round =>
    obtain ⟨k, m, o, hk, hm, rfl, hb, hown, hun⟩ := hrel
    have hgs : Hid (w.heap.size ≤ wr.heap.size) := hb.out.size
    by_cases hlt : k < s.size
    · have hdr : Hid (s.data.toList.drop k = s[k] :: s.data.toList.drop (k + 1)) := List.drop_eq_getElem_cons (by rw [hL.out]; exact hlt)
      obtain ⟨c, hc⟩ : ∃ c, s[k] = c := ⟨_, rfl⟩
      rw [hc] at hdr
      by_cases h37 : c = 37
      · subst h37
        have hco := une_cod (s.data.toList.drop (k + 1)) k
        rw [← hdr.out] at hco
        by_cases h2 : s.size ≤ k + 2
        · have HR : Hid (une s.data.toList 0 = .error k) := by
            unfold Hid
            rw [cod_short _ (by rw [List.length_drop, hL.out]; omega)] at hco
            rw [hun.out, hco]; rfl
          have h2' : ((s.size : Int) ≤ (k : Int) + 2) := by omega
          clear hun hco hdr hown
          go_wp2_with fail
          go_ret3
          exact ⟨ret_tup (by rw [HR.out]; rfl), hb.out⟩
        · have h2' : ¬ ((s.size : Int) ≤ (k : Int) + 2) := by omega
          have d2 : s.data.toList.drop (k + 1) = s[k + 1]'(by omega) :: s[k + 2]'(by omega) :: s.data.toList.drop (k + 3) := by
            rw [List.drop_eq_getElem_cons (by rw [hL.out]; omega), List.drop_eq_getElem_cons (i := k + 1 + 1) (by rw [hL.out]; omega)]
            rfl
          have hcd := cod_at _ _ _ _ d2
          clear d2
          obtain ⟨a, ha⟩ : ∃ a, s[k + 1]'(by omega) = a := ⟨_, rfl⟩
          obtain ⟨b, hbb⟩ : ∃ b, s[k + 2]'(by omega) = b := ⟨_, rfl⟩
          rw [ha, hbb] at hcd
          have hwa : Hid (∀ w, Calls Try.prog 17 #[.int .u8 (a.toNat : Int)] w fun e w' => e = .returned (.int .i64 (hw a)) ∧ w = w') := fun w => rWorth_any a w
          have hwb : Hid (∀ w, Calls Try.prog 17 #[.int .u8 (b.toNat : Int)] w fun e w' => e = .returned (.int .i64 (hw b)) ∧ w = w') := fun w => rWorth_any b w
          have ga := hw_ge a
          have gb := hw_ge b
          obtain ⟨x, hxa⟩ : ∃ x, hw a = x := ⟨_, rfl⟩
          obtain ⟨y, hyb⟩ : ∃ y, hw b = y := ⟨_, rfl⟩
          rw [hxa] at hwa ga hcd
          rw [hyb] at hwb gb hcd
          have hxa' : Hid (hw a = x) := hxa
          have hyb' : Hid (hw b = y) := hyb
          clear hxa hyb
          have k1 : (k : Int) + 1 < (s.size : Int) := by omega
          have k2 : (k : Int) + 2 < (s.size : Int) := by omega
          by_cases hx : x < 0
          · have HR : Hid (une s.data.toList 0 = .error k) := by
              unfold Hid
              rw [hcd, if_pos (.inl hx)] at hco
              rw [hun.out, hco]; rfl
            clear hun hco hdr hown hcd hwb hbb
            go_wp2_with (go_at_call 17; refine (hwa.out _).mono ?_; rintro e w2 ⟨rfl, rfl⟩)
            go_ret3
            exact ⟨ret_tup (by rw [HR.out]; rfl), hb.out⟩
          · by_cases hy : y < 0
            · have HR : Hid (une s.data.toList 0 = .error k) := by
                unfold Hid
                rw [hcd, if_pos (.inr hy)] at hco
                rw [hun.out, hco]; rfl
              clear hun hco hdr hown hcd
              have T1 : True := trivial
              go_wp2_with (first | (clear T1; go_at_call 17; refine (hwa.out _).mono ?_; rintro e w2 ⟨rfl, rfl⟩) | (go_at_call 17; refine (hwb.out _).mono ?_; rintro e w2 ⟨rfl, rfl⟩))
              go_ret3
              exact ⟨ret_tup (by rw [HR.out]; rfl), hb.out⟩
            · obtain ⟨X, rfl⟩ : ∃ X : Nat, x = (X : Int) := ⟨x.toNat, by omega⟩
              obtain ⟨Y, rfl⟩ : ∃ Y : Nat, y = (Y : Int) := ⟨y.toNat, by omega⟩
              obtain ⟨Z, hZ⟩ : ∃ Z, 16 * X + Y = Z := ⟨_, rfl⟩
              have hZ256 : Z < 256 := by omega
              rw [if_neg (by omega), Int.toNat_natCast, Int.toNat_natCast, hZ] at hcd
              rw [hcd] at hco
              have HU : Hid (une s.data.toList 0 = pre (o ++ [UInt8.ofNat Z]) (une (s.data.toList.drop (k + 3)) (k + 3))) := by
                unfold Hid
                rw [hun.out, hco]
                simp only [TextMath.pre_pre, List.drop_drop]
              have hnew : Hid (bv (o ++ [UInt8.ofNat Z]) = bv o ++ [.int .u8 (Z : Int)]) := by
                unfold Hid; rw [bv_app]; congr 1
                show [Value.int .u8 ((UInt8.ofNat Z).toNat : Int)] = _
                rw [UInt8.toNat_ofNat', Nat.mod_eq_of_lt (by omega)]
              have m1 : IntKind.i64.wrap (16 * (X : Int)) = 16 * (X : Int) := by rw [IntKind.wrap_i64]; omega
              have m2 : IntKind.i64.wrap (16 * (X : Int) + (Y : Int)) = (Z : Int) := by rw [IntKind.wrap_i64]; omega
              have m3 : IntKind.i64.wrap ((k : Int) + 1) = (k : Int) + 1 := by rw [IntKind.wrap_i64]; omega
              have m4 : IntKind.i64.wrap ((k : Int) + 2) = (k : Int) + 2 := by rw [IntKind.wrap_i64]; omega
              have m5 : IntKind.u8.wrap (Z : Int) = (Z : Int) := by
                have e : IntKind.u8.wrap (Z : Int) = (Z : Int) % 256 := rfl
                rw [e]; omega
              have k3 : Hid (k + 3 ≤ s.size) := by unfold Hid; omega
              clear hun hco hdr hcd ga gb hZ
              have hm' : m ≤ 4194304 := by omega
              have T1 : True := trivial
              go_wp2_with (first | (clear T1; go_at_call 17; refine (hwa.out _).mono ?_; rintro e w2 ⟨rfl, rfl⟩) | (go_at_call 17; refine (hwb.out _).mono ?_; rintro e w2 ⟨rfl, rfl⟩))
              have tk : ((k : Int) + 2).toNat = k + 2 := by omega
              have tb : ∀ h : ((k : Int) + 2).toNat < s.size, s[((k : Int) + 2).toNat]'h = b := fun h => by rw [← hbb]; congr 1
              have hxa := hxa'.out
              have hyb := hyb'.out
              clear hwa hwb
              go_region_held3 (fun w' => True) (trivial)
                (first
                  | (go_at_call 17; refine (rWorth_any _ _).mono ?_; rintro e w2 ⟨rfl, rfl⟩)
                  | (refine step_append_lies _ (by rfl) _ _ 30 (by rfl) w.heap.size 5 i0 (.int .u8 0) 1 1 Try.underlying30 hi hz0 hz1 hz2 rfl (by decide) _ m _ (by rfl) ((hown.out.alloc _).drew) ⟨wr.heap.size, 0, none⟩ 1 1 [.int .u8 (Z : Int)] (by rfl) (by rfl) (World.news_of_block (cs := #[.int .u8 (Z : Int)]) (t := 5) (fr := (0, 0)) (heap_alloc_new wr _)) (by intro u hu; simp at hu; rcases hu with rfl; rfl) (by decide) (by unfold maxLen; omega) (by omega) (by have := hgs.out; simp; omega) _ rfl ?_; intro g1' cap1 w1 hown1 hgrow1 _ _))
              all_goals
                have HB : Hid (Below w.heap.size w w1) := ((hb.out.alloc hgs.out _).drew).grown hgrow1 (by have := hgs.out; simp; omega) (fun j h => (hown.out.lt j h).1)
                have HO : Hid (w1.ownsRow w.heap.size 5 1 (.slice (some ⟨g1', 0, none⟩) (m + 1) cap1) (m + 1) (bv (o ++ [UInt8.ofNat Z]))) := by unfold Hid; rw [hnew.out]; exact hown1
                clear hown1 hgrow1
                go_wp2_with fail
                go_roundw
                case rel => exact ⟨k + 3, m + 1, o ++ [UInt8.ofNat Z], k3.out, by omega, by go_num, HB, HO, HU⟩
                case measure => simp [intOf]; omega
      · have hq : ((c.toNat : Int) == 37) = false := by
          rw [beq_eq_false_iff_ne]
          intro h
          exact h37 (UInt8.toNat_inj.1 (by have : c.toNat = 37 := by omega
                                           rw [this]; rfl))
        have hn37 : c.toNat ≠ 37 := fun h => h37 (UInt8.toNat_inj.1 (by rw [h]; rfl))
        have hc256 := c.toNat_lt
        have hpl : pl c = (decide (33 ≤ c.toNat) && decide (c.toNat ≤ 126)) := by
          unfold pl
          rw [decide_eq_true hn37, Bool.and_true]
        cases hp : pl c with
        | false =>
          have HR : Hid (une s.data.toList 0 = .error k) := by unfold Hid; rw [hun.out, hdr.out, une_not c _ k h37 hp]; rfl
          have hp2 : (c.toNat : Int) < 33 ∨ 126 < (c.toNat : Int) := by
            rw [hp] at hpl
            have := hpl.symm
            simp at this
            omega
          clear hp h37 hun hdr hown hpl hn37
          by_cases h33 : (c.toNat : Int) < 33
          · go_wp2_with fail
            go_ret3
            exact ⟨ret_tup (by rw [HR.out]; rfl), hb.out⟩
          · have h126 : (126 : Int) < (c.toNat : Int) := by omega
            go_wp2_with fail
            go_ret3
            exact ⟨ret_tup (by rw [HR.out]; rfl), hb.out⟩
        | true =>
          have HU : Hid (une s.data.toList 0 = pre (o ++ [c]) (une (s.data.toList.drop (k + 1)) (k + 1))) := by
            unfold Hid
            rw [hun.out, hdr.out, une_plain c _ k h37 hp, TextMath.pre_pre]
          have hnew : Hid (bv (o ++ [c]) = bv o ++ [.int .u8 (c.toNat : Int)]) := by unfold Hid; rw [bv_app]; rfl
          have hp2 : 33 ≤ c.toNat ∧ c.toNat ≤ 126 := by
            rw [hp] at hpl
            have := hpl.symm
            simp at this
            exact this
          have h33 : ¬ (c.toNat : Int) < 33 := by omega
          have h126 : ¬ (126 : Int) < (c.toNat : Int) := by omega
          clear hp h37 hun hdr hpl hn37 hp2
          go_wp2_with (at_builtin; refine wpList_append_own _ rfl _ _ 30 rfl w.heap.size 5 i0 (.int .u8 0) 1 1 Try.underlying30 hi hz0 hz1 hz2 rfl (by decide) _ _ _ rfl (hown.out.alloc _) ⟨wr.heap.size, 0, none⟩ 1 1 [.int .u8 (c.toNat : Int)] rfl rfl ?_ ?_ ?_ ?_ ?_ ?_; exact cell_one_new _ _ _; (intro u hu; simp at hu; subst hu; rfl); (unfold maxLen; omega); omega; (have := hgs.out; simp; omega); intro v1 w1 hown1 hgrow1 _)
          have HB : Hid (Below w.heap.size w w1) := (hb.out.alloc hgs.out _).grown hgrow1 (by have := hgs.out; simp; omega) (fun j h => (hown.out.lt j h).1)
          have HO : Hid (w1.ownsRow w.heap.size 5 1 v1 (m + 1) (bv (o ++ [c]))) := by unfold Hid; rw [hnew.out]; exact hown1
          clear hown1 hgrow1
          go_roundw
          case rel => exact ⟨k + 1, m + 1, o ++ [c], hlt, by omega, by go_num, HB, HO, HU⟩
          case measure => simp [intOf]; omega
    · have HR : Hid (une s.data.toList 0 = .ok o) := by
        unfold Hid
        rw [hun.out, List.drop_eq_nil_of_le (by rw [hL.out]; omega)]
        simp [une, pre]
      have hback := own_back_any (P := Try.prog) wr w.heap.size 30 9 5 _ _ _ Try.underlying30 Try.underlying5 Try.underlying9 hown.out
      clear hown hun
      go_wp2_with fail
      go_ret3
      exact ⟨ret_tup (by rw [HR.out]; rfl), hb.out⟩
end Go.Proofs.Ytjklnmddoiilgaa
