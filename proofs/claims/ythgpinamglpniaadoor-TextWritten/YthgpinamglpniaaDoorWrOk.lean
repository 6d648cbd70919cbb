import Derived.Test.YthgpinamglpniaaDoorWrMath
import Derived.Deep.RegionWith
import Derived.Deep.DeepCutAuto
namespace Go.Proofs.YthgpinamglpniaaDoor
open Go.RowKit
open TextMath (al grp b64 dg hex)
attribute [local go_sem ↓] Go.wp_at_zero Go.wp_at_succ

theorem brow_one (W : World) (e : TypeId) (cb : UInt8) : BRow (W.alloc (.cells #[.int .u8 (cb.toNat : Int)] e)).drew W.heap.size [cb] := by
  intro j hj
  have : j = 0 := by simp at hj; omega
  subst this
  rw [World.cell?_drew, World.frozen?_drew, World.cell?_alloc_mark, World.frozen?_alloc_mark]
  simp
theorem conv_one {P : Program} (W : World) (src dst e : TypeId) (cb : UInt8) (hs : P.underlying src = some (.slice e)) (he : P.underlying e = some (.int .u8)) (hd : P.underlying dst = some .string) :
    (convert src dst (.slice (some ⟨W.heap.size, 0, none⟩) 1 1)).run P (W.alloc (.cells #[.int .u8 (cb.toNat : Int)] e)).drew = .ok (.string (S [cb])) (W.alloc (.cells #[.int .u8 (cb.toNat : Int)] e)).drew :=
  conv_back _ src dst e W.heap.size 1 1 [cb] hs he hd rfl (brow_one W e cb)

set_option maxRecDepth 100000 in
set_option maxHeartbeats 4000000 in
theorem written_ok (s : ByteArray) (k : Nat) (cb : UInt8) (w : World) (hs : s.size ≤ 140737488351232) (hk : k ≤ s.size) (hA : AlTab w) (hT : HexTab w) (hok : okB cb = true) :
    Calls Tryd.prog 4 #[.string s, .int .i64 (k : Int), .int .u8 (cb.toNat : Int)] w fun e w' => e = .returned (.bool true) ∧ Below w.heap.size w w' := by
  have HB := Below.refl w.heap.size w
  have HSL : Hid (s.data.toList.length = s.size) := size_l s
  have hc64 : ∀ W, AlTab W → Hid (Calls Tryd.prog 11 #[.string s] W fun e w' => e = .returned (.string (S (b64 s.data.toList))) ∧ Below W.heap.size W w') := fun W h => base64_any s W (by omega) h
  have hchx : ∀ W, HexTab W → Hid (Calls Tryd.prog 7 #[.string s] W fun e w' => e = .returned (.string (S (hex s.data.toList))) ∧ Below W.heap.size W w') := fun W h => hex_any s W (by omega) h
  have P1 : Hid (plain (S (b64 s.data.toList)).data.toList = true) := by unfold Hid; rw [S_l]; exact plain_good _ (good_b64 _)
  have P2 : Hid (plain (S (hex s.data.toList)).data.toList = true) := by unfold Hid; rw [S_l]; exact plain_good _ (good_hex _)
  have P3 : Hid (plain ((⟨#[120]⟩ : ByteArray) ++ s ++ (⟨#[32]⟩ : ByteArray)).data.toList = false) := by unfold Hid; rw [app_l, app_l]; exact plain_x _
  have Z1 : Hid ((S (b64 s.data.toList)).size ≤ 9223372036854775807) := by unfold Hid; rw [S_size, TextMath.b64_len, HSL.out]; omega
  have Z2 : Hid ((S (hex s.data.toList)).size ≤ 9223372036854775807) := by
    unfold Hid; rw [S_size]
    have : ∀ l : List UInt8, (hex l).length = 2 * l.length := by
      intro l; induction l with
      | nil => rfl
      | cons a t ih => rw [show hex (a :: t) = [dg (a.toNat / 16), dg (a.toNat % 16)] ++ hex t from rfl, List.length_append, ih]; simp; omega
    rw [this, HSL.out]; omega
  have Z3 : Hid (((⟨#[120]⟩ : ByteArray) ++ s ++ (⟨#[32]⟩ : ByteArray)).size ≤ 9223372036854775807) := by
    unfold Hid; rw [ByteArray.size_append, ByteArray.size_append]; show 1 + s.size + 1 ≤ _; omega
  have Z0 : Hid (s.size ≤ 9223372036854775807) := by unfold Hid; omega
  obtain ⟨u, S1⟩ : ∃ u, Hid (safe ((⟨#[120]⟩ : ByteArray) ++ s ++ (⟨#[32]⟩ : ByteArray)).data.toList = u ∧ safe ((⟨#[120]⟩ : ByteArray) ++ s).data.toList = u) := ⟨s.data.toList.all okB, by
    unfold Hid; rw [app_l, app_l]; exact ⟨by rw [← all_x1]; exact safe_x _, safe_x _⟩⟩
  obtain ⟨a, p, hap, S2⟩ : ∃ a p, (p = true → a = true) ∧ Hid (safe s.data.toList = a ∧ plain s.data.toList = p) := ⟨_, _, fun h => by unfold plain at h; rw [Bool.and_eq_true] at h; exact h.1, rfl, rfl⟩
  have hsum1 : 1 + s.size ≤ 9223372036854775807 := by omega
  have hsum2 : 1 + s.size + 1 ≤ 9223372036854775807 := by omega
  have dneg : decide ((k : Int) < 0) = false := by simp
  have dbig : decide ((s.size : Int) < (k : Int)) = false := by simp; omega
  obtain ⟨t, T1, hat⟩ : ∃ t, Hid (safe (s.extract 0 k).data.toList = t) ∧ (a = true → t = true) := ⟨_, rfl, fun h => by rw [take_l]; exact safe_take _ _ (by rw [S2.out.1, h])⟩
  obtain ⟨v, T2, T3⟩ : ∃ v, Hid (safe ((⟨#[120]⟩ : ByteArray) ++ s.extract 0 k).data.toList = v) ∧ Hid (safe ((⟨#[120]⟩ : ByteArray) ++ s.extract 0 k ++ S [cb]).data.toList = (v && okB cb)) := ⟨((s.data.toList.take k).all okB), by
    unfold Hid; rw [app_l, take_l]; exact safe_x _, by
    unfold Hid; rw [app_l, app_l, take_l, S_l]; exact (safe_x (s.data.toList.take k ++ [cb])).trans (by simp)⟩
  have hxs : (s.extract 0 k).size = k := by simp; omega
  have hz1 : ((⟨#[120]⟩ : ByteArray)).size = 1 := rfl
  have hz2 : (S [cb]).size = 1 := rfl
  have hz3 : (s.extract k s.size).size = s.size - k := by simp
  have ha1 : ∀ W, (Op.stringOp .add (⟨#[120]⟩ : ByteArray) (s.extract 0 k)).run Tryd.prog W = .ok (.string ((⟨#[120]⟩ : ByteArray) ++ s.extract 0 k)) W := fun W => run_string_add_sum W _ _ (by rw [hz1, hxs]; omega)
  have ha2 : ∀ W, (Op.stringOp .add ((⟨#[120]⟩ : ByteArray) ++ s.extract 0 k) (S [cb])).run Tryd.prog W = .ok (.string ((⟨#[120]⟩ : ByteArray) ++ s.extract 0 k ++ S [cb])) W := fun W => run_string_add_sum W _ _ (by rw [ByteArray.size_append, hz1, hz2, hxs]; omega)
  have ha3 : ∀ W, (Op.stringOp .add (s.extract 0 k) (S [cb])).run Tryd.prog W = .ok (.string (s.extract 0 k ++ S [cb])) W := fun W => run_string_add_sum W _ _ (by rw [hz2, hxs]; omega)
  have ha4 : ∀ W, (Op.stringOp .add (s.extract 0 k ++ S [cb]) (s.extract k s.size)).run Tryd.prog W = .ok (.string (s.extract 0 k ++ S [cb] ++ s.extract k s.size)) W := fun W => run_string_add_sum W _ _ (by rw [ByteArray.size_append, hz2, hxs, hz3]; omega)
  clear hz1 hz2 hz3
  have hcv := fun W => conv_one (P := Tryd.prog) W 24 9 5 cb Tryd.underlying24 Tryd.underlying5 Tryd.underlying9
  clear hxs
  rw [hok, Bool.and_true] at T3
  have hcc : 1 ≤ cb.toNat ∧ cb.toNat ≤ 127 ∧ cb.toNat ≠ 10 ∧ cb.toNat ≠ 13 := by unfold okB at hok; simp at hok; omega
  have d1 : ((cb.toNat : Int) == 0) = false := by simp; omega
  have d2 : ((cb.toNat : Int) == 10) = false := by simp; omega
  have d3 : ((cb.toNat : Int) == 13) = false := by simp; omega
  have d4 : decide ((127 : Int) < (cb.toNat : Int)) = false := by simp; omega
  clear hcc hok
  go_enter Tryd.func4, Tryd.ntmps4
  go_upto_region 5 with (first
    | (go_at_call 11; refine (hc64 _ (hA.below HB)).out.mono ?_; rintro e w1 ⟨rfl, hb1⟩; replace HB := HB.trans (hb1.mono HB.size); clear hb1)
    | (go_at_call 7; refine (hchx _ (hT.below HB)).out.mono ?_; rintro e w1 ⟨rfl, hb1⟩; replace HB := HB.trans (hb1.mono HB.size); clear hb1)
    | (go_at_call 10; refine (plain_any _ _ ?_).mono ?_; (first | exact Z0.out | exact Z1.out | exact Z2.out | exact Z3.out); rintro e w1 ⟨he, hb1⟩; (first | rw [P1.out] at he | rw [P2.out] at he | rw [P3.out] at he | rw [S2.out.2] at he); subst he; replace HB := HB.trans (hb1.mono HB.size); clear hb1)
    | (go_at_call 12; refine (safe_any _ _).mono ?_; rintro e w1 ⟨he, hb1⟩; (first | rw [S1.out.1] at he | rw [S1.out.2] at he | rw [S2.out.1] at he | rw [T1.out] at he | rw [T2.out] at he | rw [T3.out] at he); subst he; replace HB := HB.trans (hb1.mono HB.size); clear hb1)
    | go_in)
  go_cut [29] (fun s29 wx => s29 = .bool false ∧ Below w.heap.size w wx)
  case first =>
    cases a <;> cases p
    all_goals first
      | (exfalso; revert hap; decide)
      | (go_wp2_with fail; go_meet; exact ⟨rfl, HB⟩)
  case rest =>
  obtain ⟨rfl, HB1⟩ := hcut
  replace HB := HB1
  clear HB1
  go_upto_region 11 with (first
    | (go_at_call 11; refine (hc64 _ (hA.below HB)).out.mono ?_; rintro e w1 ⟨rfl, hb1⟩; replace HB := HB.trans (hb1.mono HB.size); clear hb1)
    | (go_at_call 7; refine (hchx _ (hT.below HB)).out.mono ?_; rintro e w1 ⟨rfl, hb1⟩; replace HB := HB.trans (hb1.mono HB.size); clear hb1)
    | (go_at_call 10; refine (plain_any _ _ ?_).mono ?_; (first | exact Z0.out | exact Z1.out | exact Z2.out | exact Z3.out); rintro e w1 ⟨he, hb1⟩; (first | rw [P1.out] at he | rw [P2.out] at he | rw [P3.out] at he | rw [S2.out.2] at he); subst he; replace HB := HB.trans (hb1.mono HB.size); clear hb1)
    | (go_at_call 12; refine (safe_any _ _).mono ?_; rintro e w1 ⟨he, hb1⟩; (first | rw [S1.out.1] at he | rw [S1.out.2] at he | rw [S2.out.1] at he | rw [T1.out] at he | rw [T2.out] at he | rw [T3.out] at he); subst he; replace HB := HB.trans (hb1.mono HB.size); clear hb1)
    | go_in)
  go_cut [59] (fun s59 wx => s59 = .bool false ∧ Below w.heap.size w wx)
  case first =>
    cases a
    · go_wp2_with fail
      go_meet
      exact ⟨rfl, HB⟩
    · have ht : t = true := hat rfl
      subst ht
      go_wp2_with (first
    | (go_at_call 11; refine (hc64 _ (hA.below HB)).out.mono ?_; rintro e w1 ⟨rfl, hb1⟩; replace HB := HB.trans (hb1.mono HB.size); clear hb1)
    | (go_at_call 7; refine (hchx _ (hT.below HB)).out.mono ?_; rintro e w1 ⟨rfl, hb1⟩; replace HB := HB.trans (hb1.mono HB.size); clear hb1)
    | (go_at_call 10; refine (plain_any _ _ ?_).mono ?_; (first | exact Z0.out | exact Z1.out | exact Z2.out | exact Z3.out); rintro e w1 ⟨he, hb1⟩; (first | rw [P1.out] at he | rw [P2.out] at he | rw [P3.out] at he | rw [S2.out.2] at he); subst he; replace HB := HB.trans (hb1.mono HB.size); clear hb1)
    | (go_at_call 12; refine (safe_any _ _).mono ?_; rintro e w1 ⟨he, hb1⟩; (first | rw [S1.out.1] at he | rw [S1.out.2] at he | rw [S2.out.1] at he | rw [T1.out] at he | rw [T2.out] at he | rw [T3.out] at he); subst he; replace HB := HB.trans (hb1.mono HB.size); clear hb1)
    | go_in)
      go_meet
      exact ⟨rfl, HB⟩
  case rest =>
  obtain ⟨rfl, HB1⟩ := hcut
  replace HB := HB1
  clear HB1
  go_upto_region 13 with fail
  go_cut [9] (fun s9 wx => s9 = .bool false ∧ Below w.heap.size w wx)
  case first =>
    go_wp2_with fail; go_meet; exact ⟨rfl, HB⟩
  case rest =>
  obtain ⟨rfl, HB1⟩ := hcut
  replace HB := HB1
  clear HB1
  go_upto_region 14 with fail
  go_cut [10] (fun s10 wx => s10 = .bool v ∧ Below w.heap.size w wx)
  case first =>
    go_region_with (go_at_call 12; refine (safe_any _ _).mono ?_; rintro e w1 ⟨he, hb1⟩; rw [T3.out] at he; subst he; have HB2 := (HB.alloc HB.size (.cells #[.int .u8 (cb.toNat : Int)] 5)).drew; replace HB := HB2.trans (hb1.mono HB2.size); clear hb1 HB2)
    all_goals (go_wp2_with fail; go_meet; exact ⟨rfl, HB⟩)
  case rest =>
  obtain ⟨rfl, HB1⟩ := hcut
  replace HB := HB1
  clear HB1
  go_wp2_with (first
    | (go_at_call 11; refine (hc64 _ (hA.below HB)).out.mono ?_; rintro e w1 ⟨rfl, hb1⟩; replace HB := HB.trans (hb1.mono HB.size); clear hb1)
    | (go_at_call 7; refine (hchx _ (hT.below HB)).out.mono ?_; rintro e w1 ⟨rfl, hb1⟩; replace HB := HB.trans (hb1.mono HB.size); clear hb1)
    | (go_at_call 10; refine (plain_any _ _ ?_).mono ?_; (first | exact Z0.out | exact Z1.out | exact Z2.out | exact Z3.out); rintro e w1 ⟨he, hb1⟩; (first | rw [P1.out] at he | rw [P2.out] at he | rw [P3.out] at he | rw [S2.out.2] at he); subst he; replace HB := HB.trans (hb1.mono HB.size); clear hb1)
    | (go_at_call 12; refine (safe_any _ _).mono ?_; rintro e w1 ⟨he, hb1⟩; (first | rw [S1.out.1] at he | rw [S1.out.2] at he | rw [S2.out.1] at he | rw [T1.out] at he | rw [T2.out] at he | rw [T3.out] at he); subst he; replace HB := HB.trans (hb1.mono HB.size); clear hb1)
    | go_in)
  go_ret
  exact ⟨ret_bool (by simp), HB⟩
end Go.Proofs.YthgpinamglpniaaDoor
