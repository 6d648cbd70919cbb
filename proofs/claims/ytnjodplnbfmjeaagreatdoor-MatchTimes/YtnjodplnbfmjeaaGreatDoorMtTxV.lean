import Derived.Test.YtnjodplnbfmjeaaGreatDoorMtTxA
namespace Go.Proofs.YtnjodplnbfmjeaaGreatDoor
open Go.RowKit
set_option linter.unusedVariables false
set_option linter.unusedSimpArgs false
namespace Tc
open Mt

/-- How things stand: the two minutes as they lie. -/
def LwS (w : World) (y mo d m : Int) (z : Int) (y2 mo2 d2 m2 : Int) (z2 : Int) (W : World) : Prop := WhV W w.heap.size y mo d m z ∧ WhV W (w.heap.size + 1) y2 mo2 d2 m2 z2 ∧ Below w.heap.size w W
theorem LwS.below {w W W' : World} {y mo d m z y2 mo2 d2 m2 z2 : Int} (h : LwS w y mo d m z y2 mo2 d2 m2 z2 W) (hb : Below W.heap.size W W') : LwS w y mo d m z y2 mo2 d2 m2 z2 W' :=
  ⟨h.1.below hb h.1.lt, h.2.1.below hb h.2.1.lt, h.2.2.trans (hb.mono h.2.2.size)⟩
theorem truth_any (b : Bool) (w : World) : Calls Tryz.prog 8 #[.bool b] w fun e w' => e = .returned (.int .i64 (if b then 2 else 0)) ∧ w' = w := by
  cases b
  · go_enter Tryz.func8, Tryz.ntmps8
    go_wp2_with fail
    go_ret
    exact ⟨rfl, rfl⟩
  · go_enter Tryz.func8, Tryz.ntmps8
    go_wp2_with fail
    go_ret
    exact ⟨rfl, rfl⟩
theorem sg_zero {a b : Nat} : sg a b = 0 ↔ a = b := by
  rcases Nat.lt_trichotomy a b with h | h | h
  · rw [sg_lt h]; exact ⟨fun e => absurd e (by decide), fun e => by omega⟩
  · exact ⟨fun _ => h, fun e => sg_eq e⟩
  · rw [sg_gt h]; exact ⟨fun e => absurd e (by decide), fun e => by omega⟩
theorem sg_ge {a b : Nat} : (0 : Int) ≤ sg a b ↔ b ≤ a := by
  rcases Nat.lt_trichotomy a b with h | h | h
  · rw [sg_lt h]; exact ⟨fun e => absurd e (by decide), fun e => by omega⟩
  · rw [sg_eq h]; exact ⟨fun _ => by omega, fun _ => by decide⟩
  · rw [sg_gt h]; exact ⟨fun _ => by omega, fun _ => by decide⟩
theorem sg_le {a b : Nat} : (0 : Int) ≥ sg a b ↔ a ≤ b := by
  rcases Nat.lt_trichotomy a b with h | h | h
  · rw [sg_lt h]; exact ⟨fun _ => by omega, fun _ => by decide⟩
  · rw [sg_eq h]; exact ⟨fun _ => by omega, fun _ => by decide⟩
  · rw [sg_gt h]; exact ⟨fun e => absurd e (by decide), fun e => by omega⟩
/-- The two minutes held against one another. -/
theorem pair_pack {a b c e a2 b2 c2 e2 : Nat} {q q2 : Int} (h : WhB a b c e q) (h2 : WhB a2 b2 c2 e2 q2) {la lb : List UInt8} (ga : Is la (nV a b c e)) (gb : Is lb (nV a2 b2 c2 e2)) (X Y : Int) (hX : X = (key a b c e : Int)) (hY : Y = (key a2 b2 c2 e2 : Int)) (w : World) (ht : TbW w) : ∃ (bE bL bM : Bool) (tE tL tM : Int),
    (X == Y) = bE ∧ decide (Y ≤ X) = bL ∧ decide (X ≤ Y) = bM ∧
    (∀ W, Hid (Calls Tryz.prog 8 #[.bool bE] W fun e w' => e = .returned (.int .i64 tE) ∧ w' = W)) ∧ (∀ W, Hid (Calls Tryz.prog 8 #[.bool bL] W fun e w' => e = .returned (.int .i64 tL) ∧ w' = W)) ∧ (∀ W, Hid (Calls Tryz.prog 8 #[.bool bM] W fun e w' => e = .returned (.int .i64 tM) ∧ w' = W)) ∧
    (∀ W, Below w.heap.size w W → Hid (Calls Tryz.prog 6 #[.int .i64 12, .string (S la), .string (S lb)] W fun e w' => e = .returned (.int .i64 tE) ∧ Below W.heap.size W w')) ∧
    (∀ W, Below w.heap.size w W → Hid (Calls Tryz.prog 9 #[.int .i64 12, .string (S la), .string (S lb)] W fun e w' => e = .returned (.int .i64 tL) ∧ Below W.heap.size W w')) ∧
    (∀ W, Below w.heap.size w W → Hid (Calls Tryz.prog 10 #[.int .i64 12, .string (S la), .string (S lb)] W fun e w' => e = .returned (.int .i64 tM) ∧ Below W.heap.size W w')) := by
  have hc := nV_cmp h h2
  refine ⟨_, _, _, if (X == Y) then 2 else 0, if decide (Y ≤ X) then 2 else 0, if decide (X ≤ Y) then 2 else 0, rfl, rfl, rfl, fun W => truth_any _ W, fun W => truth_any _ W, fun W => truth_any _ W, fun W hb => ga.eq gb ?_ W (ht.below hb), fun W hb => ga.least gb ?_ W (ht.below hb), fun W hb => ga.most gb ?_ W (ht.below hb)⟩
  · by_cases k : nV a b c e = nV a2 b2 c2 e2
    · have : Lib.compareBytes (nV a b c e) (nV a2 b2 c2 e2) = 0 := by rw [k]; exact cmp_self _
      rw [hc, sg_zero] at this
      rw [if_pos k, hX, hY, this]; simp
    · have : ¬ key a b c e = key a2 b2 c2 e2 := fun h => k (cmp_eq _ _ (by rw [hc]; exact sg_zero.2 h))
      rw [if_neg k, if_neg (by rw [hX, hY, beq_iff_eq]; omega)]
  · rw [hc]
    by_cases k : key a2 b2 c2 e2 ≤ key a b c e
    · rw [if_pos (sg_ge.2 k), if_pos (decide_eq_true (by omega))]
    · rw [if_neg (fun h => k (sg_ge.1 h)), if_neg (by rw [decide_eq_true_eq]; omega)]
  · rw [hc]
    by_cases k : key a b c e ≤ key a2 b2 c2 e2
    · rw [if_pos (sg_le.2 k), if_pos (decide_eq_true (by omega))]
    · rw [if_neg (fun h => k (sg_le.1 h)), if_neg (by rw [decide_eq_true_eq]; omega)]
/-- The seconds of a minute. -/
theorem sec_pack {a b c e : Nat} {q : Int} (h : WhB a b c e q) (w : World) (ht : TbW w) : ∃ (U X1 X2 X3 X4 X5 X6 X7 X8 X9 X10 : ByteArray), S (hdT a b c (e / 60) (e % 60) []) = U ∧ S (hdT a b c (e / 60) (e % 60) [90]) = X2 ∧ (S (hdT a b c (e / 60) (e % 60) [90])).extract 0 12 = U ∧ (12 : Int) ≤ ((S (hdT a b c (e / 60) (e % 60) [90])).size : Int) ∧ U.size = 12 ∧
    U ++ (⟨#[48, 48, 46, 48, 90]⟩ : ByteArray) = X1 ∧ U ++ (⟨#[90]⟩ : ByteArray) = X2 ∧ U ++ (⟨#[48, 48, 44, 53, 48, 48, 90]⟩ : ByteArray) = X3 ∧ U ++ (⟨#[48, 48, 46, 53, 90]⟩ : ByteArray) = X4 ∧ U ++ (⟨#[48, 48, 46, 48, 53, 90]⟩ : ByteArray) = X5 ∧ U ++ (⟨#[48, 48, 46, 48, 48, 49, 90]⟩ : ByteArray) = X6 ∧ U ++ (⟨#[53, 57, 46, 57, 57, 57, 90]⟩ : ByteArray) = X7 ∧ U ++ (⟨#[53, 56, 46, 57, 90]⟩ : ByteArray) = X8 ∧ U ++ (⟨#[54, 48, 90]⟩ : ByteArray) = X9 ∧ U ++ (⟨#[53, 57, 90]⟩ : ByteArray) = X10 ∧
    (∀ W, Below w.heap.size w W → Hid (Calls Tryz.prog 6 #[.int .i64 12, .string X1, .string X2] W fun e w' => e = .returned (.int .i64 2) ∧ Below W.heap.size W w')) ∧
    (∀ W, Below w.heap.size w W → Hid (Calls Tryz.prog 6 #[.int .i64 12, .string X3, .string X4] W fun e w' => e = .returned (.int .i64 2) ∧ Below W.heap.size W w')) ∧
    (∀ W, Below w.heap.size w W → Hid (Calls Tryz.prog 9 #[.int .i64 12, .string X5, .string X4] W fun e w' => e = .returned (.int .i64 0) ∧ Below W.heap.size W w')) ∧
    (∀ W, Below w.heap.size w W → Hid (Calls Tryz.prog 11 #[.int .i64 18, .int .i64 12, .string X2, .string X6] W fun e w' => e = .returned (.int .i64 2) ∧ Below W.heap.size W w')) ∧
    (∀ W, Below w.heap.size w W → Hid (Calls Tryz.prog 10 #[.int .i64 12, .string X7, .string X8] W fun e w' => e = .returned (.int .i64 0) ∧ Below W.heap.size W w')) ∧
    (∀ W, Below w.heap.size w W → Hid (Calls Tryz.prog 6 #[.int .i64 12, .string X9, .string X10] W fun e w' => e = .returned (.int .i64 0) ∧ Below W.heap.size W w')) := by
  have iX1 : Is (hdT a b c (e / 60) (e % 60) [48, 48, 46, 48, 90]) (stampL a b c (e / 60) (e % 60) 0 [48]) := is_sec h 0 [48] [48, 48, 46, 48, 90] (by decide) (fun _ _ _ _ _ => rfl)
  have iX2 : Is (hdT a b c (e / 60) (e % 60) [90]) (stampL a b c (e / 60) (e % 60) 0 []) := is_sec h 0 [] [90] (by decide) (fun _ _ _ _ _ => rfl)
  have iX3 : Is (hdT a b c (e / 60) (e % 60) [48, 48, 44, 53, 48, 48, 90]) (stampL a b c (e / 60) (e % 60) 0 [53, 48, 48]) := is_sec h 0 [53, 48, 48] [48, 48, 44, 53, 48, 48, 90] (by decide) (fun _ _ _ _ _ => rfl)
  have iX4 : Is (hdT a b c (e / 60) (e % 60) [48, 48, 46, 53, 90]) (stampL a b c (e / 60) (e % 60) 0 [53]) := is_sec h 0 [53] [48, 48, 46, 53, 90] (by decide) (fun _ _ _ _ _ => rfl)
  have iX5 : Is (hdT a b c (e / 60) (e % 60) [48, 48, 46, 48, 53, 90]) (stampL a b c (e / 60) (e % 60) 0 [48, 53]) := is_sec h 0 [48, 53] [48, 48, 46, 48, 53, 90] (by decide) (fun _ _ _ _ _ => rfl)
  have iX6 : Is (hdT a b c (e / 60) (e % 60) [48, 48, 46, 48, 48, 49, 90]) (stampL a b c (e / 60) (e % 60) 0 [48, 48, 49]) := is_sec h 0 [48, 48, 49] [48, 48, 46, 48, 48, 49, 90] (by decide) (fun _ _ _ _ _ => rfl)
  have iX7 : Is (hdT a b c (e / 60) (e % 60) [53, 57, 46, 57, 57, 57, 90]) (stampL a b c (e / 60) (e % 60) 59 [57, 57, 57]) := is_sec h 59 [57, 57, 57] [53, 57, 46, 57, 57, 57, 90] (by decide) (fun _ _ _ _ _ => rfl)
  have iX8 : Is (hdT a b c (e / 60) (e % 60) [53, 56, 46, 57, 90]) (stampL a b c (e / 60) (e % 60) 58 [57]) := is_sec h 58 [57] [53, 56, 46, 57, 90] (by decide) (fun _ _ _ _ _ => rfl)
  have iX10 : Is (hdT a b c (e / 60) (e % 60) [53, 57, 90]) (stampL a b c (e / 60) (e % 60) 59 []) := is_sec h 59 [] [53, 57, 90] (by decide) (fun _ _ _ _ _ => rfl)
  have hlen : (hdT a b c (e / 60) (e % 60) []).length = 12 := hdT_len h.1 (by have := h.2.1; omega) (by have := h.2.2.1; omega) (by have := h.2.2.2.1; omega) (by omega)
  have b9 : timB (rdT (hdT a b c (e / 60) (e % 60) [54, 48, 90])) = false := by
    obtain ⟨hy, hmo, hd, hm, hz⟩ := h
    rw [rd_head (y := a) (mo := b) (d := c) (h := e / 60) (mi := e % 60) [54, 48, 90] hy hmo ⟨by omega, by omega⟩ (by omega) (by omega)]
    rfl
  have l9 : (hdT a b c (e / 60) (e % 60) [54, 48, 90]).length ≤ 4194304 := by rw [hdT_app, List.length_append, hlen]; decide
  refine ⟨S (hdT a b c (e / 60) (e % 60) []), S (hdT a b c (e / 60) (e % 60) [48, 48, 46, 48, 90]), S (hdT a b c (e / 60) (e % 60) [90]), S (hdT a b c (e / 60) (e % 60) [48, 48, 44, 53, 48, 48, 90]), S (hdT a b c (e / 60) (e % 60) [48, 48, 46, 53, 90]), S (hdT a b c (e / 60) (e % 60) [48, 48, 46, 48, 53, 90]), S (hdT a b c (e / 60) (e % 60) [48, 48, 46, 48, 48, 49, 90]), S (hdT a b c (e / 60) (e % 60) [53, 57, 46, 57, 57, 57, 90]), S (hdT a b c (e / 60) (e % 60) [53, 56, 46, 57, 90]), S (hdT a b c (e / 60) (e % 60) [54, 48, 90]), S (hdT a b c (e / 60) (e % 60) [53, 57, 90]), rfl, rfl, S_eq _ _ ?_, ?_, by rw [S_size, hlen], ?_, ?_, ?_, ?_, ?_, ?_, ?_, ?_, ?_, ?_, ?_, ?_, ?_, ?_, ?_, ?_⟩
  · rw [take_l, S_l, hdT_app, ← hlen]; exact List.take_left
  · rw [S_size, hdT_app, List.length_append, hlen]; decide
  · rw [hdT_app _ _ _ _ _ [48, 48, 46, 48, 90], ← S_app3]; rfl
  · rw [hdT_app _ _ _ _ _ [90], ← S_app3]; rfl
  · rw [hdT_app _ _ _ _ _ [48, 48, 44, 53, 48, 48, 90], ← S_app3]; rfl
  · rw [hdT_app _ _ _ _ _ [48, 48, 46, 53, 90], ← S_app3]; rfl
  · rw [hdT_app _ _ _ _ _ [48, 48, 46, 48, 53, 90], ← S_app3]; rfl
  · rw [hdT_app _ _ _ _ _ [48, 48, 46, 48, 48, 49, 90], ← S_app3]; rfl
  · rw [hdT_app _ _ _ _ _ [53, 57, 46, 57, 57, 57, 90], ← S_app3]; rfl
  · rw [hdT_app _ _ _ _ _ [53, 56, 46, 57, 90], ← S_app3]; rfl
  · rw [hdT_app _ _ _ _ _ [54, 48, 90], ← S_app3]; rfl
  · rw [hdT_app _ _ _ _ _ [53, 57, 90], ← S_app3]; rfl
  · exact fun W hb => iX1.eq iX2 (by rw [if_pos]; rw [st_parts, st_parts, show frac [48] = frac [] from rfl]) W (ht.below hb)
  · exact fun W hb => iX3.eq iX4 (by rw [if_pos]; rw [st_parts, st_parts, show frac [53, 48, 48] = frac [53] from rfl]) W (ht.below hb)
  · exact fun W hb => iX5.least iX4 (by rw [st_same (by decide) (by decide)]; rfl) W (ht.below hb)
  · exact fun W hb => iX2.rule iX6 (by rw [st_same (by decide) (by decide)]; rfl) W (ht.below hb)
  · exact fun W hb => iX7.most iX8 (by rw [st_same (by decide) (by decide)]; rfl) W (ht.below hb)
  · exact fun W hb => no_eq l9 b9 iX10 W (ht.below hb)
end Tc
end Go.Proofs.YtnjodplnbfmjeaaGreatDoor
