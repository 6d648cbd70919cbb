import Derived.Test.YthgpinamglpniabDoorUbLoop
import Derived.Test.YthgpinamglpniabDoorBoMath
namespace Go.Proofs.YthgpinamglpniabDoor
open Go.RowKit
open TextMath (b64 unb isOk ENDS G)

def ES : List ByteArray := [⟨#[]⟩, ⟨#[61]⟩, ⟨#[65]⟩, ⟨#[65, 65]⟩, ⟨#[65, 65, 65]⟩]
def Es (k : Nat) : ByteArray := ES.getD k ⟨#[]⟩
theorem Es_l (k : Nat) : (Es k).data.toList = ENDS.getD k [] := by
  match k with
  | 0 => rfl
  | 1 => rfl
  | 2 => rfl
  | 3 => rfl
  | 4 => rfl
  | k + 5 => rfl
theorem Es_small (k : Nat) : (Es k).size ≤ 3 := by
  match k with
  | 0 => decide
  | 1 => decide
  | 2 => decide
  | 3 => decide
  | 4 => decide
  | k + 5 => exact Nat.zero_le _
theorem G_yes (l : List UInt8) (k : Nat) (hk : k < 5) (h : isOk (unb (l ++ (Es k).data.toList) 0) = true) : G l = true := by
  rw [Es_l] at h
  refine List.any_eq_true.2 ⟨ENDS.getD k [], ?_, h⟩
  have hl : k < ENDS.length := hk
  simp [List.getD, hl]
theorem G_no (l : List UInt8) (h : ∀ j, j < 5 → isOk (unb (l ++ (Es j).data.toList) 0) = false) : G l = false := by
  have h0 := h 0 (by omega)
  have h1 := h 1 (by omega)
  have h2 := h 2 (by omega)
  have h3 := h 3 (by omega)
  have h4 := h 4 (by omega)
  rw [Es_l] at h0 h1 h2 h3 h4
  have e0 : ENDS.getD 0 [] = [] := rfl
  have e1 : ENDS.getD 1 [] = [61] := rfl
  have e2 : ENDS.getD 2 [] = [65] := rfl
  have e3 : ENDS.getD 3 [] = [65, 65] := rfl
  have e4 : ENDS.getD 4 [] = [65, 65, 65] := rfl
  rw [e0] at h0
  rw [e1] at h1
  rw [e2] at h2
  rw [e3] at h3
  rw [e4] at h4
  simp only [G, ENDS, List.any_cons, List.any_nil, h0, h1, h2, h3, h4, Bool.or_false]

set_option maxHeartbeats 1000000 in
theorem goes_any (s : ByteArray) (w : World) (hm : s.size ≤ 281474976710000) (ht : WTab w) :
    Calls Tryd.prog 6 #[.string s] w fun e w' => e = .returned (.bool (G s.data.toList)) ∧ Below w.heap.size w w' := by
  go_enter Tryd.func6, Tryd.ntmps6
  go_wp2
  go_loopw [4] (fun t wr => ∃ k : Nat, k ≤ 5 ∧ t = .int .i64 k ∧ Below w.heap.size w wr ∧ w.heap.size < wr.heap.size ∧ (∀ j, j < 5 → wr.cell? ⟨w.heap.size, j, none⟩ = some (.string (Es j))) ∧ Hid (∀ j, j < k → isOk (unb (s.data.toList ++ (Es j).data.toList) 0) = false)) (fun t _ => 5 - (intOf t).toNat)
  case atStart =>
    refine ⟨0, Nat.zero_le _, rfl, (Below.refl _ _).alloc (Nat.le_refl _) _, by simp, fun j hj => ?_, fun _ h => by omega⟩
    match j, hj with
    | 0, _ => simp; rfl
    | 1, _ => simp; rfl
    | 2, _ => simp; rfl
    | 3, _ => simp; rfl
    | 4, _ => simp; rfl
  case round =>
    obtain ⟨k, hk, rfl, hb, hgs, hcells, hall⟩ := hrel
    by_cases hlt : k < 5
    · have hc := hcells k hlt
      have hk' : (k : Int) < 5 := by omega
      have hE := Es_small k
      have hal : (s ++ Es k).data.toList = s.data.toList ++ (Es k).data.toList := app_l _ _
      have hsz : (s ++ Es k).size ≤ 281474976710656 := by rw [ByteArray.size_append]; omega
      have hcall : ∀ W, WTab W → Hid (Calls Tryd.prog 7 #[.string (s ++ Es k)] W fun e w' => e = .returned (ubV (s ++ Es k).size (unb (s.data.toList ++ (Es k).data.toList) 0)) ∧ Below W.heap.size W w') := fun W h => by
        have := unbase64_any (s ++ Es k) W hsz h
        rw [hal] at this; exact this
      have hHC : Hid (∀ j, j < 5 → wr.cell? ⟨w.heap.size, j, none⟩ = some (.string (Es j))) := hcells
      have HG := G_yes s.data.toList k hlt
      have htr := ht.below hb
      clear hal hsz hcells
      cases hu : unb (s.data.toList ++ (Es k).data.toList) 0 with
      | ok t =>
        rw [hu] at hcall HG
        have hG : G s.data.toList = true := HG rfl
        have HG' : Hid (G s.data.toList = true) := hG
        have hv : ∀ n, ubV n (.ok t) = .tuple #[.string (S t), .int .i64 0, .int .i64 (n : Int)] := fun n => rfl
        rw [hv] at hcall
        clear hu HG hG hall hHC hv
        generalize Es k = E at *
        go_wp2_with (first | (go_at_call 7; refine (hcall _ htr).out.mono ?_; rintro e w2 ⟨rfl, hb2⟩) | go_in)
        go_ret
        exact ⟨ret_bool HG'.out.symm, hb.trans (hb2.mono hb.size)⟩
      | error p =>
        have hA : Hid (∀ j, j < k + 1 → isOk (unb (s.data.toList ++ (Es j).data.toList) 0) = false) := fun j hj => by
          by_cases e : j = k
          · subst e; rw [hu]; rfl
          · exact hall.out j (by omega)
        rw [hu] at hcall
        have hv : ∀ n, ubV n (.error p) = .tuple #[.string ⟨#[]⟩, .int .i64 12, .int .i64 (p : Int)] := fun n => rfl
        rw [hv] at hcall
        clear hu HG hall hv
        generalize Es k = E at *
        go_wp2_with (first | (go_at_call 7; refine (hcall _ htr).out.mono ?_; rintro e w2 ⟨rfl, hb2⟩) | go_in)
        go_roundw
        case rel => exact ⟨k + 1, by omega, by go_num, hb.trans (hb2.mono hb.size), by have := hb2.size; omega, fun j hj => by rw [hb2.cell (p := ⟨w.heap.size, j, none⟩) hgs]; exact hHC.out j hj, hA⟩
        case measure => simp [intOf]; omega
    · have HG' : Hid (G s.data.toList = false) := G_no _ fun j hj => hall.out j (by omega)
      clear hall hcells
      go_wp2
      go_ret
      exact ⟨ret_bool HG'.out.symm, hb⟩

set_option maxHeartbeats 1000000 in
theorem baseOnly_walk (s : ByteArray) (w : World) (hs : s.size ≤ 140737488351232) (hA : AlTab w) (hW : WTab w) :
    Calls Tryd.prog 3 #[.string s] w fun e w' => e = .returned (.bool true) ∧ Below w.heap.size w w' := by
  have HB := Below.refl w.heap.size w
  have hz : ∀ W, WTab W → Hid (Calls Tryd.prog 6 #[.string ⟨#[90, 109, 57, 118]⟩] W fun e w' => e = .returned (.bool true) ∧ Below W.heap.size W w') := fun W h => by
    have := goes_any ⟨#[90, 109, 57, 118]⟩ W (by decide) h
    have e : G (⟨#[90, 109, 57, 118]⟩ : ByteArray).data.toList = true := TextMath.goes_Zm9v
    rw [e] at this; exact this
  have hcu : ∀ W, WTab W → Hid (Calls Tryd.prog 7 #[.string s] W fun e w' => e = .returned (ubV s.size (unb s.data.toList 0)) ∧ Below W.heap.size W w') := fun W h => unbase64_any s W (by omega) h
  cases hu : unb s.data.toList 0 with
  | ok t =>
    have hbt := TextMath.b64_unb _ _ _ _ (Nat.le_refl _) hu
    have hlt : t.length ≤ s.size := by
      have h1 := TextMath.b64_len t
      rw [hbt, size_l] at h1; omega
    have hzt : (S t).size ≤ 140737488355328 := by rw [S_size]; omega
    have hcb : ∀ W, AlTab W → Hid (Calls Tryd.prog 9 #[.string (S t)] W fun e w' => e = .returned (.string s) ∧ Below W.heap.size W w') := fun W h => by
      have := base64_any (S t) W hzt h
      rw [S_l, hbt, S_of] at this; exact this
    have hv : ubV s.size (.ok t) = .tuple #[.string (S t), .int .i64 0, .int .i64 (s.size : Int)] := rfl
    rw [hu, hv] at hcu
    clear hu hbt hlt hzt hv
    go_enter Tryd.func3, Tryd.ntmps3
    go_wp2_with (first
      | (go_at_call 6; refine (hz _ (hW.below HB)).out.mono ?_; rintro e w1 ⟨rfl, hb1⟩; replace HB := HB.trans (hb1.mono HB.size); clear hb1)
      | (go_at_call 7; refine (hcu _ (hW.below HB)).out.mono ?_; rintro e w1 ⟨rfl, hb1⟩; replace HB := HB.trans (hb1.mono HB.size); clear hb1)
      | (go_at_call 9; refine (hcb _ (hA.below HB)).out.mono ?_; rintro e w1 ⟨rfl, hb1⟩; replace HB := HB.trans (hb1.mono HB.size); clear hb1)
      | go_in)
    go_ret
    exact ⟨rfl, HB⟩
  | error p =>
    obtain ⟨h1, h2, h3⟩ := TextMath.place_goes _ p hu
    rw [size_l] at h1 h3
    have hv : ubV s.size (.error p) = .tuple #[.string ⟨#[]⟩, .int .i64 12, .int .i64 (p : Int)] := rfl
    rw [hu, hv] at hcu
    have hg1 : ∀ W, WTab W → Hid (Calls Tryd.prog 6 #[.string (s.extract 0 p)] W fun e w' => e = .returned (.bool true) ∧ Below W.heap.size W w') := fun W h => by
      have := goes_any (s.extract 0 p) W (by simp; omega) h
      rw [take_l, h2] at this; exact this
    have t1 : True := trivial
    have t2 : True := trivial
    by_cases hp : p < s.size
    · have hg2 : ∀ W, WTab W → Hid (Calls Tryd.prog 6 #[.string (s.extract 0 (p + 1))] W fun e w' => e = .returned (.bool false) ∧ Below W.heap.size W w') := fun W h => by
        have := goes_any (s.extract 0 (p + 1)) W (by simp; omega) h
        rw [take_l, h3 hp] at this; exact this
      have hne : (((p : Nat) : Int) == (s.size : Int)) = false := by simp; omega
      clear hu h2 h3 hv
      go_enter Tryd.func3, Tryd.ntmps3
      go_wp2_with (first
        | (go_at_call 6; have _t := t1; refine (hz _ (hW.below HB)).out.mono ?_; clear t1; rintro e w1 ⟨rfl, hb1⟩; replace HB := HB.trans (hb1.mono HB.size); clear hb1)
        | (go_at_call 7; refine (hcu _ (hW.below HB)).out.mono ?_; rintro e w1 ⟨rfl, hb1⟩; replace HB := HB.trans (hb1.mono HB.size); clear hb1)
        | (go_at_call 6; have _t := t2; refine (hg1 _ (hW.below HB)).out.mono ?_; clear t2; rintro e w1 ⟨rfl, hb1⟩; replace HB := HB.trans (hb1.mono HB.size); clear hb1)
        | (go_at_call 6; refine (hg2 _ (hW.below HB)).out.mono ?_; rintro e w1 ⟨rfl, hb1⟩; replace HB := HB.trans (hb1.mono HB.size); clear hb1)
        | go_in)
      go_ret
      exact ⟨rfl, HB⟩
    · have hpe : p = s.size := by omega
      have heq : (((p : Nat) : Int) == (s.size : Int)) = true := by simp; omega
      clear hu h2 h3 hv hpe
      go_enter Tryd.func3, Tryd.ntmps3
      go_wp2_with (first
        | (go_at_call 6; have _t := t1; refine (hz _ (hW.below HB)).out.mono ?_; clear t1; rintro e w1 ⟨rfl, hb1⟩; replace HB := HB.trans (hb1.mono HB.size); clear hb1)
        | (go_at_call 7; refine (hcu _ (hW.below HB)).out.mono ?_; rintro e w1 ⟨rfl, hb1⟩; replace HB := HB.trans (hb1.mono HB.size); clear hb1)
        | (go_at_call 6; refine (hg1 _ (hW.below HB)).out.mono ?_; rintro e w1 ⟨rfl, hb1⟩; replace HB := HB.trans (hb1.mono HB.size); clear hb1)
        | go_in)
      go_ret
      exact ⟨rfl, HB⟩
end Go.Proofs.YthgpinamglpniabDoor
