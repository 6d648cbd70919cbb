import Derived.Test.YtkknenmpdimdbaaGreatDoorQE
import Derived.Test.YtkknenmpdimdbaaGreatDoorAtShelf
import Derived.Shelf.Abstract
namespace Go.Proofs.YtkknenmpdimdbaaGreatDoor
namespace Pa
open Go.RowKit
open TextMath (fold lo normal check wo)
set_option linter.unusedVariables false
set_option linter.unusedSimpArgs false
set_option maxRecDepth 100000

/-- How far the reader has read, read off the world. -/
def plc (b : Nat) (W : World) : Nat := match W.cell? ⟨b, 1, none⟩ with
  | some (.int _ i) => i.toNat
  | _ => 0
theorem plc_eq {b p : Nat} {s : ByteArray} {W : World} (h : Rd W b s p) : plc b W = p := by
  unfold plc
  rw [h.cells.2.1]
  simp
theorem tw_cons (P : UInt8 → Bool) {s : ByteArray} {k : Nat} (h : k < s.size) (hp : P s[k] = true) : (lf s k).takeWhile P = s[k] :: (lf s (k + 1)).takeWhile P := by rw [lf_cons h, List.takeWhile_cons, hp]; rfl
theorem tw_stop (P : UInt8 → Bool) {s : ByteArray} {k : Nat} (h : k < s.size) (hp : P s[k] = false) : (lf s k).takeWhile P = [] := by rw [lf_cons h, List.takeWhile_cons, hp]; rfl
theorem tw_end (P : UInt8 → Bool) {s : ByteArray} {k : Nat} (h : s.size ≤ k) : (lf s k).takeWhile P = [] := by rw [lf_nil h]; rfl
theorem ext_lf (s : ByteArray) (p k : Nat) : (s.extract p k).data.toList = (lf s p).take (k - p) := by
  unfold lf
  simp
/-- What row answers. -/
def RwQ (P : UInt8 → Bool) (s : ByteArray) (p b : Nat) (w : World) (e : Ending) (w' : World) : Prop :=
  e = .returned (.string (S ((lf s p).takeWhile P))) ∧ Rd w' b s (p + ((lf s p).takeWhile P).length) ∧ p + ((lf s p).takeWhile P).length ≤ s.size ∧ Wb b w w'
theorem RwQ.drew {P : UInt8 → Bool} {s : ByteArray} {p b : Nat} {w : World} {e : Ending} {w' : World} (h : RwQ P s p b w e w') (n : Nat) : RwQ P s p b w e (w'.drewN n) := ⟨h.1, h.2.1, h.2.2.1, h.2.2.2.trans wb_drew⟩
set_option maxHeartbeats 2000000 in
theorem row_any (P : UInt8 → Bool) (q : FuncId) (hent : ∀ args W, (callFunc q args).run Tryz.prog W = .ok (.enter q args) W)
    (hq : ∀ (c : UInt8) (w : World), Calls Tryz.prog q #[.int .u8 (c.toNat : Int)] w fun e w' => e = .returned (.bool (P c)) ∧ w' = w)
    (s : ByteArray) (p b : Nat) (w : World) (h : Rd w b s p) (hp : p ≤ s.size) (hs : s.size ≤ 4096) :
    Calls Tryz.prog 117 #[.pointer (some ⟨b, 0, none⟩), .func (.func q) #[] #[]] w fun e w' => RwQ P s p b w e w' := by
  have hq' : ∀ c w, Hid (Calls Tryz.prog q #[.int .u8 (UInt8.toNat c : Int)] w fun e w' => e = .returned (.bool (P c)) ∧ w' = w) := hq
  obtain ⟨c0, c1, z1⟩ := h.cells
  have h' : Hid (Rd w b s p) := h
  have p0 : (0 : Int) ≤ (p : Int) := Int.natCast_nonneg _
  have pb : (p : Int) ≤ 4096 := by omega
  have hs' : Hid (s.size ≤ 4096 ∧ p ≤ s.size) := ⟨hs, hp⟩
  clear h hq
  go_enter Tryz.func117, Tryz.ntmps117
  go_wp2_with fail
  go_loopw [10] (fun _ wr => ∃ k : Nat, Hid (k ≤ s.size ∧ p ≤ k ∧ Rd wr b s k ∧ Wb b w wr ∧ (lf s p).takeWhile P = (s.extract p k).data.toList ++ (lf s k).takeWhile P)) (fun _ wr => s.size - plc b wr)
  case atStart => exact ⟨p, hs'.out.2, Nat.le_refl _, h'.out, Wb.refl _ _, by rw [ext_lf]; simp⟩
  case round =>
    obtain ⟨k, hQ⟩ := hrel
    clear c0 c1 z1
    obtain ⟨c0, c1, z1⟩ := hQ.out.2.2.1.cells
    have k0 : (0 : Int) ≤ (k : Int) := Int.natCast_nonneg _
    have kb : (k : Int) ≤ 4096 := by have := hs'.out.1; have := hQ.out.1; omega
    have pk : p ≤ k := hQ.out.2.1
    have pk' : (p : Int) ≤ (k : Int) := by omega
    have ks : (k : Int) ≤ (s.size : Int) := by have := hQ.out.1; omega
    by_cases hlt : k < s.size
    · have k1 : (k : Int) < (s.size : Int) := Int.ofNat_lt.2 hlt
      have hcons := tw_cons P hlt
      have hstop := tw_stop P hlt
      have hc := hq' s[k]
      have hsn : Hid ((s.extract p (k + 1)).data.toList = (s.extract p k).data.toList ++ [s[k]]) := by
        unfold Hid
        rw [ext_lf, ext_lf, show k + 1 - p = (k - p) + 1 from by omega, List.take_succ_eq_append_getElem (by rw [lf_len]; omega)]
        congr 2
        unfold lf
        rw [List.getElem_drop]
        have e : p + (k - p) = k := by omega
        simp only [e]
        rfl
      have hcons' : Hid (P s[k] = true → (lf s k).takeWhile P = s[k] :: (lf s (k + 1)).takeWhile P) := hcons
      have hstop' : Hid (P s[k] = false → (lf s k).takeWhile P = []) := hstop
      clear hcons hstop
      obtain ⟨x, hx⟩ : ∃ x, s[k] = x := ⟨_, rfl⟩
      rw [hx] at hc hsn hcons' hstop'
      have hlt' : Hid (k < s.size) := hlt
      obtain ⟨y, hy⟩ : ∃ y, P x = y := ⟨_, rfl⟩
      rw [hy] at hcons' hstop'
      simp only [hy] at hc
      clear hy
      go_upto_region 2 with fail
      go_quiet ((exact Calls.quiet_of_same (hc _).out))
      rename_i nq
      have hR : Hid (Rd (wr.drewN nq) b s k ∧ Wb b w (wr.drewN nq)) := ⟨hQ.out.2.2.1, hQ.out.2.2.2.1.trans wb_drew⟩
      obtain ⟨W2, hW2⟩ : ∃ W, wr.drewN nq = W := ⟨_, rfl⟩
      rw [hW2] at hR ⊢
      clear c0 c1 z1 hW2 hc
      obtain ⟨c0, c1, z1⟩ := hR.out.1.cells
      cases y with
      | true =>
        have hfin : Hid (k + 1 ≤ s.size ∧ p ≤ k + 1 ∧ Rd (W2.setCell ⟨b, 1, none⟩ (.int .i64 ((k + 1 : Nat) : Int))) b s (k + 1) ∧ Wb b w (W2.setCell ⟨b, 1, none⟩ (.int .i64 ((k + 1 : Nat) : Int))) ∧ (lf s p).takeWhile P = (s.extract p (k + 1)).data.toList ++ (lf s (k + 1)).takeWhile P) :=
          ⟨hlt'.out, by omega, hR.out.1.set (k + 1), hR.out.2.set 1 _, by rw [hQ.out.2.2.2.2, hsn.out, hcons'.out rfl]; simp⟩
        have hms : Hid (s.size - plc b (W2.setCell ⟨b, 1, none⟩ (.int .i64 ((k + 1 : Nat) : Int))) < s.size - plc b wr) := by
          have := plc_eq hfin.out.2.2.1
          have := plc_eq hQ.out.2.2.1
          have := hlt'.out
          unfold Hid
          omega
        clear hQ hR hsn hcons' hstop'
        go_wp2_with fail
        go_roundw
        case rel => exact ⟨k + 1, hfin⟩
        case measure => exact hms.out
      | false =>
        have he : Hid ((lf s p).takeWhile P = (s.extract p k).data.toList) := by unfold Hid; rw [hQ.out.2.2.2.2, hstop'.out rfl, List.append_nil]
        have hex : S ((lf s p).takeWhile P) = s.extract p k := by rw [he.out]; rfl
        have hfin : Hid (RwQ P s p b w (.returned (.string (s.extract p k))) W2) := by
          have hlen : ((lf s p).takeWhile P).length = k - p := by rw [he.out, ext_lf, List.length_take, lf_len]; have := hlt'.out; omega
          refine ⟨by rw [hex], ?_, ?_, hR.out.2⟩
          · rw [hlen, show p + (k - p) = k from by omega]; exact hR.out.1
          · rw [hlen]; have := hlt'.out; omega
        clear he hex hQ hsn hcons' hstop'
        have p0' : (0 : Int) ≤ (p : Int) := Int.natCast_nonneg _
        have hexs : ¬ (k : Int) < (p : Int) := by omega
        go_wp2_with fail
        go_quiet (fail)
        rename_i nq2
        clear c0 c1 z1 hR
        go_wp2_with fail
        go_ret
        exact hfin.out.drew _
    · have hke : k = s.size := by omega
      have hkn : ¬ (k : Int) < (s.size : Int) := by omega
      have he : (lf s p).takeWhile P = (s.extract p k).data.toList := by rw [hQ.out.2.2.2.2, tw_end P (by omega), List.append_nil]
      have hex : S ((lf s p).takeWhile P) = s.extract p k := by rw [he]; rfl
      have hR : Hid (Rd wr b s k ∧ Wb b w wr) := ⟨hQ.out.2.2.1, hQ.out.2.2.2.1⟩
      have hfin : Hid (RwQ P s p b w (.returned (.string (s.extract p k))) wr) := by
        have hlen : ((lf s p).takeWhile P).length = k - p := by rw [he, ext_lf, List.length_take, lf_len]; omega
        refine ⟨by rw [hex], ?_, ?_, hR.out.2⟩
        · rw [hlen, show p + (k - p) = k from by omega]; exact hR.out.1
        · rw [hlen]; omega
      have hkd : decide ((k : Int) < (s.size : Int)) = false := by simp; omega
      clear he hex hQ hke hlt
      go_upto_region 2 with fail
      go_quiet (fail)
      rename_i nq
      have hfd : Hid (RwQ P s p b w (.returned (.string (s.extract p k))) (wr.drewN nq)) := hfin.out.drew nq
      obtain ⟨W2, hW2⟩ : ∃ W, wr.drewN nq = W := ⟨_, rfl⟩
      have hc2 : W2.cell? ⟨b, 0, none⟩ = some (.string s) ∧ W2.cell? ⟨b, 1, none⟩ = some (.int .i64 (k : Int)) := by rw [← hW2]; exact ⟨c0, c1⟩
      obtain ⟨d0, d1⟩ := hc2
      rw [hW2] at hfd ⊢
      clear hW2 c0 c1 z1 hR
      go_wp2_with fail
      go_quiet (fail)
      rename_i nq2
      clear d0 d1
      go_wp2_with fail
      go_ret
      exact hfd.out.drew _
/-- A row of spaces is taken. -/
def SkQ (s : ByteArray) (p b : Nat) (w : World) (w' : World) : Prop := ∃ p', lf s p' = sp (lf s p) ∧ p ≤ p' ∧ p' ≤ s.size ∧ Rd w' b s p' ∧ Wb b w w'
theorem tw_sp (s : ByteArray) (p : Nat) : lf s (p + ((lf s p).takeWhile (· == 32)).length) = sp (lf s p) := by
  unfold sp
  rw [← lf_drop]
  generalize lf s p = l
  induction l with
  | nil => rfl
  | cons c l ih =>
    rw [List.takeWhile_cons, List.dropWhile_cons]
    split
    · simpa using ih
    · rfl
set_option maxHeartbeats 1000000 in
theorem space_any (c : UInt8) (w : World) : Calls Tryz.prog 118 #[.int .u8 (c.toNat : Int)] w fun e w' => e = .returned (.bool (c == 32)) ∧ w' = w := by
  have h : (c == 32) = ((c.toNat : Int) == 32) := by
    rw [Bool.eq_iff_iff, beq_iff_eq, beq_iff_eq]
    constructor
    · rintro rfl; rfl
    · intro h; exact UInt8.toNat_inj.1 (by have : (32 : UInt8).toNat = 32 := rfl; omega)
  rw [h]
  clear h
  go_enter Tryz.func118, Tryz.ntmps118
  go_wp2_with fail
  go_ret
  exact ⟨rfl, rfl⟩
set_option maxHeartbeats 1000000 in
theorem skip_any (s : ByteArray) (p b : Nat) (w : World) (h : Rd w b s p) (hp : p ≤ s.size) (hs : s.size ≤ 4096) :
    Calls Tryz.prog 87 #[.pointer (some ⟨b, 0, none⟩)] w fun e w' => e = .returned (.tuple #[]) ∧ SkQ s p b w w' := by
  have hR : Hid (Calls Tryz.prog 117 #[.pointer (some ⟨b, 0, none⟩), .func (.func 118) #[] #[]] w fun e w' => RwQ (· == 32) s p b w e w') := row_any (· == 32) _ (enters_of Tryz.func118 (by kernel_rfl) rfl) space_any s p b w h hp hs
  clear h
  go_enter Tryz.func87, Tryz.ntmps87
  go_wp2_with fail
  refine hR.out.mono ?_
  rintro e W1 ⟨rfl, h1, h2, h3⟩
  have hfin : Hid (SkQ s p b w W1) := ⟨_, tw_sp s p, Nat.le_add_right _ _, h2, h1, h3⟩
  clear h1 h2 h3 hR
  generalize S ((lf s p).takeWhile (· == 32)) = X at *
  go_wp2_with fail
  go_end0
  exact ⟨rfl, hfin.out⟩
set_option maxHeartbeats 1000000 in
theorem rest_any (s : ByteArray) (p b : Nat) (w : World) (h : Rd w b s p) (hp : p ≤ s.size) (hs : s.size ≤ 4096) :
    Calls Tryz.prog 150 #[.pointer (some ⟨b, 0, none⟩)] w fun e w' => e = .returned (.string (S (lf s p))) ∧ ∃ n, w' = w.drewN n := by
  obtain ⟨c0, c1, z1⟩ := h.cells
  have e : S (lf s p) = s.extract p s.size := by
    have := ext_lf s p s.size
    rw [List.take_of_length_le (by rw [lf_len]; exact Nat.le_refl _)] at this
    rw [← this]
    rfl
  rw [e]
  have p0 : (0 : Int) ≤ (p : Int) := Int.natCast_nonneg _
  have pb : (p : Int) ≤ (s.size : Int) := by omega
  have sb : (s.size : Int) ≤ 4096 := by omega
  clear h e
  go_enter Tryz.func150, Tryz.ntmps150
  go_wp2_with fail
  go_quiet (fail)
  go_wp2_with fail
  go_ret
  exact ⟨rfl, _, rfl⟩
end Pa
end Go.Proofs.YtkknenmpdimdbaaGreatDoor

namespace Go.Proofs.YtkknenmpdimdbaaGreatDoor
namespace Pa
open Go.RowKit
open TextMath (fold lo normal check wo)
set_option linter.unusedVariables false
set_option linter.unusedSimpArgs false
set_option maxRecDepth 100000

theorem idx_es : ∀ c : UInt8, decide (0 ≤ Lib.indexByte esL c) = es c := fun c => by
  have key : ∀ n : Fin 256, decide (0 ≤ Lib.indexByte esL (UInt8.ofNat n.val)) = es (UInt8.ofNat n.val) := by decide +kernel
  have := key ⟨c.toNat, c.toNat_lt⟩
  rw [UInt8.ofNat_toNat] at this
  exact this
def esA : ByteArray := { data := #[92, 34, 43, 44, 59, 60, 62, 35, 61, 32] }
theorem ib_any (c : UInt8) (w : World) : Calls Tryz.prog 170 #[.string esA, .int .u8 (c.toNat : Int)] w fun e w' => (∃ z : Int, e = .returned (.int .i64 z) ∧ (0 ≤ z ↔ es c = true)) ∧ w' = w := by
  refine (Tryz.strings_IndexByte esA (c.toNat : Int) w).mono ?_
  rintro e w' ⟨rfl, rfl⟩
  refine ⟨⟨_, rfl, ?_⟩, rfl⟩
  have h : ((c.toNat : Int).toNat.toUInt8) = c := by simp
  rw [h, ← idx_es c, decide_eq_true_iff]
  rfl
set_option maxHeartbeats 2000000 in
theorem kindBehind_any (s : ByteArray) (w : World) (hs : s.size ≤ 4096) :
    Calls Tryz.prog 163 #[.string s] w fun e w' => e = .returned (.int .i64 (kB s.data.toList : Int)) ∧ ∃ n, w' = w.drewN n := by
  have hL : s.data.toList.length = s.size := size_l s
  by_cases h0 : s.size = 0
  · have hz : s = ⟨#[]⟩ := by
      apply ByteArray.ext
      apply Array.eq_empty_of_size_eq_zero
      exact h0
    subst hz
    clear hL h0
    go_enter Tryz.func163, Tryz.ntmps163
    go_wp2_with fail
    go_ret
    exact ⟨rfl, 0, rfl⟩
  · obtain ⟨a, l, hl⟩ : ∃ a l, s.data.toList = a :: l := by
      cases h : s.data.toList with
      | nil => rw [h] at hL; simp at hL; omega
      | cons a l => exact ⟨a, l, rfl⟩
    have h00 : 0 < s.size := by omega
    have ha : s[0] = a := by
      have : s.data.toList[0]'(by rw [hL]; exact h00) = a := by simp [hl]
      exact this
    have hne : (s.toList == []) = false := by rw [Lib.toList_data, hl]; rfl
    have h0i : (0 : Int) < (s.size : Int) := by omega
    have hib : Hid (∀ W, Calls Tryz.prog 170 #[.string esA, .int .u8 (a.toNat : Int)] W fun e w' => (∃ z : Int, e = .returned (.int .i64 z) ∧ (0 ≤ z ↔ es a = true)) ∧ w' = W) := fun W => ib_any a W
    have hE : esA = { data := #[92, 34, 43, 44, 59, 60, 62, 35, 61, 32] } := rfl
    rw [hE] at hib
    rw [hl]
    by_cases hes : es a = true
    · have hk : kB (a :: l) = 4 := by simp [kB, hes]
      rw [hk]
      clear hE hl hL hk
      go_enter Tryz.func163, Tryz.ntmps163
      go_wp2_with (go_at_call 170; refine (hib.out _).mono ?_; rintro e w' ⟨⟨z, rfl, hz⟩, rfl⟩; have hz0 : 0 ≤ z := hz.2 hes)
      go_ret
      exact ⟨rfl, 0, rfl⟩
    · cases l with
      | nil =>
        have hk : kB [a] = 1 := by simp [kB, hes]
        have hs1 : s.size = 1 := by rw [hl] at hL; simpa using hL.symm
        have h2 : ¬ (2 : Int) ≤ (s.size : Int) := by omega
        rw [hk]
        clear hE hl hL hk hs1
        go_enter Tryz.func163, Tryz.ntmps163
        go_wp2_with (go_at_call 170; refine (hib.out _).mono ?_; rintro e w' ⟨⟨z, rfl, hz⟩, rfl⟩; have hz0 : ¬ 0 ≤ z := fun h => hes (hz.1 h))
        go_ret
        exact ⟨rfl, 0, rfl⟩
      | cons b r =>
        have h1s : 1 < s.size := by rw [hl] at hL; simp at hL; omega
        have h2 : (2 : Int) ≤ (s.size : Int) := by omega
        have h1i : (1 : Int) < (s.size : Int) := by omega
        have hb : s[1] = b := by
          have : s.data.toList[1]'(by rw [hL]; exact h1s) = b := by simp [hl]
          exact this
        by_cases hda : hd a = true
        · by_cases hdb : hd b = true
          · have hk : kB (a :: b :: r) = 3 := by simp [kB, hes, hda, hdb]
            rw [hk]
            clear hE hl hL hk
            go_enter Tryz.func163, Tryz.ntmps163
            go_wp2_with (first
              | (go_at_call 170; refine (hib.out _).mono ?_; rintro e w' ⟨⟨z, rfl, hz⟩, rfl⟩; have hz0 : ¬ 0 ≤ z := fun h => hes (hz.1 h); have T1 : True := trivial)
              | (clear T1; go_at_call 153; refine (hexDigit_any a _).mono ?_; rintro e w' ⟨rfl, rfl⟩; rw [hda]; have T2 : True := trivial)
              | (clear T2; go_at_call 153; refine (hexDigit_any b _).mono ?_; rintro e w' ⟨rfl, rfl⟩; rw [hdb]))
            go_ret
            exact ⟨rfl, 0, rfl⟩
          · have hdb' : hd b = false := by simpa using hdb
            have hk : kB (a :: b :: r) = 1 := by simp [kB, hes, hda, hdb']
            rw [hk]
            clear hE hl hL hk hdb
            go_enter Tryz.func163, Tryz.ntmps163
            go_wp2_with (first
              | (go_at_call 170; refine (hib.out _).mono ?_; rintro e w' ⟨⟨z, rfl, hz⟩, rfl⟩; have hz0 : ¬ 0 ≤ z := fun h => hes (hz.1 h); have T1 : True := trivial)
              | (clear T1; go_at_call 153; refine (hexDigit_any a _).mono ?_; rintro e w' ⟨rfl, rfl⟩; rw [hda]; have T2 : True := trivial)
              | (clear T2; go_at_call 153; refine (hexDigit_any b _).mono ?_; rintro e w' ⟨rfl, rfl⟩; rw [hdb']))
            go_ret
            exact ⟨rfl, 0, rfl⟩
        · have hda' : hd a = false := by simpa using hda
          have hk : kB (a :: b :: r) = 1 := by simp [kB, hes, hda']
          rw [hk]
          clear hE hl hL hk hda
          go_enter Tryz.func163, Tryz.ntmps163
          go_wp2_with (first
            | (go_at_call 170; refine (hib.out _).mono ?_; rintro e w' ⟨⟨z, rfl, hz⟩, rfl⟩; have hz0 : ¬ 0 ≤ z := fun h => hes (hz.1 h); have T1 : True := trivial)
            | (clear T1; go_at_call 153; refine (hexDigit_any a _).mono ?_; rintro e w' ⟨rfl, rfl⟩; rw [hda']))
          go_ret
          exact ⟨rfl, 0, rfl⟩
/-- The kind of a byte that is none of the five. -/
def plainC (c : UInt8) : Bool := c != 44 && c != 43 && c != 92 && !bar c && c != 32
set_option maxHeartbeats 4000000 in
theorem kindOf_any (s : ByteArray) (w : World) (hs : s.size ≤ 4096) :
    Calls Tryz.prog 149 #[.string s] w fun e w' => e = .returned (.int .i64 (kO s.data.toList : Int)) ∧ ∃ n, w' = w.drewN n := by
  have hL : s.data.toList.length = s.size := size_l s
  by_cases h0 : s.size = 0
  · have hz : s = ⟨#[]⟩ := by
      apply ByteArray.ext
      apply Array.eq_empty_of_size_eq_zero
      exact h0
    subst hz
    clear hL h0
    go_enter Tryz.func149, Tryz.ntmps149
    go_wp2_with fail
    go_ret
    exact ⟨rfl, 0, rfl⟩
  · obtain ⟨a, l, hl⟩ : ∃ a l, s.data.toList = a :: l := by
      cases h : s.data.toList with
      | nil => rw [h] at hL; simp at hL; omega
      | cons a l => exact ⟨a, l, rfl⟩
    have h00 : 0 < s.size := by omega
    have ha : s[0] = a := by
      have : s.data.toList[0]'(by rw [hL]; exact h00) = a := by simp [hl]
      exact this
    have hne : (s.toList == []) = false := by rw [Lib.toList_data, hl]; rfl
    have h0i : (0 : Int) < (s.size : Int) := by omega
    have heq : ∀ (n : Nat), n < 256 → ∀ x : Bool, decide (a = UInt8.ofNat n) = x → ((a.toNat : Int) == (n : Int)) = x := fun n hn x hx => by
      rw [← hx, Bool.eq_iff_iff, beq_iff_eq, decide_eq_true_iff]
      constructor
      · intro h; exact UInt8.toNat_inj.1 (by rw [UInt8.toNat_ofNat']; omega)
      · rintro rfl; rw [UInt8.toNat_ofNat']; omega
    rw [hl]
    have hB : Hid (a = 92 → ∀ W, Calls Tryz.prog 163 #[.string (s.extract 1 s.size)] W fun e w' => e = .returned (.int .i64 (kB l : Int)) ∧ ∃ n, w' = W.drewN n) := fun _ W => by
      have h := kindBehind_any (s.extract 1 s.size) W (by rw [ByteArray.size_extract]; omega)
      have e : (s.extract 1 s.size).data.toList = l := by
        have := ext_lf s 1 s.size
        rw [this]
        unfold lf
        rw [hl]
        show (List.drop 1 (a :: l)).take _ = l
        rw [List.drop_one, List.tail_cons, List.take_of_length_le (by rw [hl] at hL; simp at hL; omega)]
      rw [e] at h
      exact h
    by_cases ha44 : a = 44
    · skip
      have f44 : ((a.toNat : Int) == 44) = true := heq 44 (by decide) _ (by subst ha44; decide)
      have f43 : ((a.toNat : Int) == 43) = false := heq 43 (by decide) _ (by subst ha44; decide)
      have f92 : ((a.toNat : Int) == 92) = false := heq 92 (by decide) _ (by subst ha44; decide)
      have f0 : ((a.toNat : Int) == 0) = false := heq 0 (by decide) _ (by subst ha44; decide)
      have f34 : ((a.toNat : Int) == 34) = false := heq 34 (by decide) _ (by subst ha44; decide)
      have f59 : ((a.toNat : Int) == 59) = false := heq 59 (by decide) _ (by subst ha44; decide)
      have f60 : ((a.toNat : Int) == 60) = false := heq 60 (by decide) _ (by subst ha44; decide)
      have f62 : ((a.toNat : Int) == 62) = false := heq 62 (by decide) _ (by subst ha44; decide)
      have f32 : ((a.toNat : Int) == 32) = false := heq 32 (by decide) _ (by subst ha44; decide)
      have hk : kO (a :: l) = 0 := by subst ha44; rfl
      rw [hk]
      clear heq hl hL h0 hB hk
      clear ha44
      go_enter Tryz.func149, Tryz.ntmps149
      go_wp2_with fail
      go_ret
      exact ⟨rfl, 0, rfl⟩
    by_cases ha43 : a = 43
    · skip
      have f44 : ((a.toNat : Int) == 44) = false := heq 44 (by decide) _ (by subst ha43; decide)
      have f43 : ((a.toNat : Int) == 43) = true := heq 43 (by decide) _ (by subst ha43; decide)
      have f92 : ((a.toNat : Int) == 92) = false := heq 92 (by decide) _ (by subst ha43; decide)
      have f0 : ((a.toNat : Int) == 0) = false := heq 0 (by decide) _ (by subst ha43; decide)
      have f34 : ((a.toNat : Int) == 34) = false := heq 34 (by decide) _ (by subst ha43; decide)
      have f59 : ((a.toNat : Int) == 59) = false := heq 59 (by decide) _ (by subst ha43; decide)
      have f60 : ((a.toNat : Int) == 60) = false := heq 60 (by decide) _ (by subst ha43; decide)
      have f62 : ((a.toNat : Int) == 62) = false := heq 62 (by decide) _ (by subst ha43; decide)
      have f32 : ((a.toNat : Int) == 32) = false := heq 32 (by decide) _ (by subst ha43; decide)
      have hk : kO (a :: l) = 0 := by subst ha43; rfl
      rw [hk]
      clear heq hl hL h0 hB hk
      clear ha43
      go_enter Tryz.func149, Tryz.ntmps149
      go_wp2_with fail
      go_ret
      exact ⟨rfl, 0, rfl⟩
    by_cases ha92 : a = 92
    · skip
      have f44 : ((a.toNat : Int) == 44) = false := heq 44 (by decide) _ (by subst ha92; decide)
      have f43 : ((a.toNat : Int) == 43) = false := heq 43 (by decide) _ (by subst ha92; decide)
      have f92 : ((a.toNat : Int) == 92) = true := heq 92 (by decide) _ (by subst ha92; decide)
      have f0 : ((a.toNat : Int) == 0) = false := heq 0 (by decide) _ (by subst ha92; decide)
      have f34 : ((a.toNat : Int) == 34) = false := heq 34 (by decide) _ (by subst ha92; decide)
      have f59 : ((a.toNat : Int) == 59) = false := heq 59 (by decide) _ (by subst ha92; decide)
      have f60 : ((a.toNat : Int) == 60) = false := heq 60 (by decide) _ (by subst ha92; decide)
      have f62 : ((a.toNat : Int) == 62) = false := heq 62 (by decide) _ (by subst ha92; decide)
      have f32 : ((a.toNat : Int) == 32) = false := heq 32 (by decide) _ (by subst ha92; decide)
      have hB' : Hid (∀ W, Calls Tryz.prog 163 #[.string (s.extract 1 s.size)] W fun e w' => e = .returned (.int .i64 (kB l : Int)) ∧ ∃ n, w' = W.drewN n) := fun W => hB.out ha92 W
      have hk : kO (a :: l) = kB l := by subst ha92; rfl
      rw [hk]
      clear heq hl hL h0 hB hk ha92 ha44 ha43
      generalize kB l = kk at *
      go_enter Tryz.func149, Tryz.ntmps149
      go_wp2_with fail
      refine (hB'.out _).mono ?_
      rintro e w' ⟨rfl, n, rfl⟩
      go_wp2_with fail
      go_ret
      exact ⟨rfl, n, rfl⟩
    by_cases ha0 : a = 0
    · skip
      have f44 : ((a.toNat : Int) == 44) = false := heq 44 (by decide) _ (by subst ha0; decide)
      have f43 : ((a.toNat : Int) == 43) = false := heq 43 (by decide) _ (by subst ha0; decide)
      have f92 : ((a.toNat : Int) == 92) = false := heq 92 (by decide) _ (by subst ha0; decide)
      have f0 : ((a.toNat : Int) == 0) = true := heq 0 (by decide) _ (by subst ha0; decide)
      have f34 : ((a.toNat : Int) == 34) = false := heq 34 (by decide) _ (by subst ha0; decide)
      have f59 : ((a.toNat : Int) == 59) = false := heq 59 (by decide) _ (by subst ha0; decide)
      have f60 : ((a.toNat : Int) == 60) = false := heq 60 (by decide) _ (by subst ha0; decide)
      have f62 : ((a.toNat : Int) == 62) = false := heq 62 (by decide) _ (by subst ha0; decide)
      have f32 : ((a.toNat : Int) == 32) = false := heq 32 (by decide) _ (by subst ha0; decide)
      have hk : kO (a :: l) = 2 := by subst ha0; rfl
      rw [hk]
      clear heq hl hL h0 hB hk
      clear ha0
      go_enter Tryz.func149, Tryz.ntmps149
      go_wp2_with fail
      go_ret
      exact ⟨rfl, 0, rfl⟩
    by_cases ha34 : a = 34
    · skip
      have f44 : ((a.toNat : Int) == 44) = false := heq 44 (by decide) _ (by subst ha34; decide)
      have f43 : ((a.toNat : Int) == 43) = false := heq 43 (by decide) _ (by subst ha34; decide)
      have f92 : ((a.toNat : Int) == 92) = false := heq 92 (by decide) _ (by subst ha34; decide)
      have f0 : ((a.toNat : Int) == 0) = false := heq 0 (by decide) _ (by subst ha34; decide)
      have f34 : ((a.toNat : Int) == 34) = true := heq 34 (by decide) _ (by subst ha34; decide)
      have f59 : ((a.toNat : Int) == 59) = false := heq 59 (by decide) _ (by subst ha34; decide)
      have f60 : ((a.toNat : Int) == 60) = false := heq 60 (by decide) _ (by subst ha34; decide)
      have f62 : ((a.toNat : Int) == 62) = false := heq 62 (by decide) _ (by subst ha34; decide)
      have f32 : ((a.toNat : Int) == 32) = false := heq 32 (by decide) _ (by subst ha34; decide)
      have hk : kO (a :: l) = 2 := by subst ha34; rfl
      rw [hk]
      clear heq hl hL h0 hB hk
      clear ha34
      go_enter Tryz.func149, Tryz.ntmps149
      go_wp2_with fail
      go_ret
      exact ⟨rfl, 0, rfl⟩
    by_cases ha59 : a = 59
    · skip
      have f44 : ((a.toNat : Int) == 44) = false := heq 44 (by decide) _ (by subst ha59; decide)
      have f43 : ((a.toNat : Int) == 43) = false := heq 43 (by decide) _ (by subst ha59; decide)
      have f92 : ((a.toNat : Int) == 92) = false := heq 92 (by decide) _ (by subst ha59; decide)
      have f0 : ((a.toNat : Int) == 0) = false := heq 0 (by decide) _ (by subst ha59; decide)
      have f34 : ((a.toNat : Int) == 34) = false := heq 34 (by decide) _ (by subst ha59; decide)
      have f59 : ((a.toNat : Int) == 59) = true := heq 59 (by decide) _ (by subst ha59; decide)
      have f60 : ((a.toNat : Int) == 60) = false := heq 60 (by decide) _ (by subst ha59; decide)
      have f62 : ((a.toNat : Int) == 62) = false := heq 62 (by decide) _ (by subst ha59; decide)
      have f32 : ((a.toNat : Int) == 32) = false := heq 32 (by decide) _ (by subst ha59; decide)
      have hk : kO (a :: l) = 2 := by subst ha59; rfl
      rw [hk]
      clear heq hl hL h0 hB hk
      clear ha59
      go_enter Tryz.func149, Tryz.ntmps149
      go_wp2_with fail
      go_ret
      exact ⟨rfl, 0, rfl⟩
    by_cases ha60 : a = 60
    · skip
      have f44 : ((a.toNat : Int) == 44) = false := heq 44 (by decide) _ (by subst ha60; decide)
      have f43 : ((a.toNat : Int) == 43) = false := heq 43 (by decide) _ (by subst ha60; decide)
      have f92 : ((a.toNat : Int) == 92) = false := heq 92 (by decide) _ (by subst ha60; decide)
      have f0 : ((a.toNat : Int) == 0) = false := heq 0 (by decide) _ (by subst ha60; decide)
      have f34 : ((a.toNat : Int) == 34) = false := heq 34 (by decide) _ (by subst ha60; decide)
      have f59 : ((a.toNat : Int) == 59) = false := heq 59 (by decide) _ (by subst ha60; decide)
      have f60 : ((a.toNat : Int) == 60) = true := heq 60 (by decide) _ (by subst ha60; decide)
      have f62 : ((a.toNat : Int) == 62) = false := heq 62 (by decide) _ (by subst ha60; decide)
      have f32 : ((a.toNat : Int) == 32) = false := heq 32 (by decide) _ (by subst ha60; decide)
      have hk : kO (a :: l) = 2 := by subst ha60; rfl
      rw [hk]
      clear heq hl hL h0 hB hk
      clear ha60
      go_enter Tryz.func149, Tryz.ntmps149
      go_wp2_with fail
      go_ret
      exact ⟨rfl, 0, rfl⟩
    by_cases ha62 : a = 62
    · skip
      have f44 : ((a.toNat : Int) == 44) = false := heq 44 (by decide) _ (by subst ha62; decide)
      have f43 : ((a.toNat : Int) == 43) = false := heq 43 (by decide) _ (by subst ha62; decide)
      have f92 : ((a.toNat : Int) == 92) = false := heq 92 (by decide) _ (by subst ha62; decide)
      have f0 : ((a.toNat : Int) == 0) = false := heq 0 (by decide) _ (by subst ha62; decide)
      have f34 : ((a.toNat : Int) == 34) = false := heq 34 (by decide) _ (by subst ha62; decide)
      have f59 : ((a.toNat : Int) == 59) = false := heq 59 (by decide) _ (by subst ha62; decide)
      have f60 : ((a.toNat : Int) == 60) = false := heq 60 (by decide) _ (by subst ha62; decide)
      have f62 : ((a.toNat : Int) == 62) = true := heq 62 (by decide) _ (by subst ha62; decide)
      have f32 : ((a.toNat : Int) == 32) = false := heq 32 (by decide) _ (by subst ha62; decide)
      have hk : kO (a :: l) = 2 := by subst ha62; rfl
      rw [hk]
      clear heq hl hL h0 hB hk
      clear ha62
      go_enter Tryz.func149, Tryz.ntmps149
      go_wp2_with fail
      go_ret
      exact ⟨rfl, 0, rfl⟩
    by_cases ha32 : a = 32
    · skip
      have f44 : ((a.toNat : Int) == 44) = false := heq 44 (by decide) _ (by subst ha32; decide)
      have f43 : ((a.toNat : Int) == 43) = false := heq 43 (by decide) _ (by subst ha32; decide)
      have f92 : ((a.toNat : Int) == 92) = false := heq 92 (by decide) _ (by subst ha32; decide)
      have f0 : ((a.toNat : Int) == 0) = false := heq 0 (by decide) _ (by subst ha32; decide)
      have f34 : ((a.toNat : Int) == 34) = false := heq 34 (by decide) _ (by subst ha32; decide)
      have f59 : ((a.toNat : Int) == 59) = false := heq 59 (by decide) _ (by subst ha32; decide)
      have f60 : ((a.toNat : Int) == 60) = false := heq 60 (by decide) _ (by subst ha32; decide)
      have f62 : ((a.toNat : Int) == 62) = false := heq 62 (by decide) _ (by subst ha32; decide)
      have f32 : ((a.toNat : Int) == 32) = true := heq 32 (by decide) _ (by subst ha32; decide)
      have hk : kO (a :: l) = 6 := by subst ha32; rfl
      rw [hk]
      clear heq hl hL h0 hB hk
      clear ha32
      go_enter Tryz.func149, Tryz.ntmps149
      go_wp2_with fail
      go_ret
      exact ⟨rfl, 0, rfl⟩
    have f44 : ((a.toNat : Int) == 44) = false := heq 44 (by decide) _ (by rw [decide_eq_false_iff_not]; exact ha44)
    have f43 : ((a.toNat : Int) == 43) = false := heq 43 (by decide) _ (by rw [decide_eq_false_iff_not]; exact ha43)
    have f92 : ((a.toNat : Int) == 92) = false := heq 92 (by decide) _ (by rw [decide_eq_false_iff_not]; exact ha92)
    have f0 : ((a.toNat : Int) == 0) = false := heq 0 (by decide) _ (by rw [decide_eq_false_iff_not]; exact ha0)
    have f34 : ((a.toNat : Int) == 34) = false := heq 34 (by decide) _ (by rw [decide_eq_false_iff_not]; exact ha34)
    have f59 : ((a.toNat : Int) == 59) = false := heq 59 (by decide) _ (by rw [decide_eq_false_iff_not]; exact ha59)
    have f60 : ((a.toNat : Int) == 60) = false := heq 60 (by decide) _ (by rw [decide_eq_false_iff_not]; exact ha60)
    have f62 : ((a.toNat : Int) == 62) = false := heq 62 (by decide) _ (by rw [decide_eq_false_iff_not]; exact ha62)
    have f32 : ((a.toNat : Int) == 32) = false := heq 32 (by decide) _ (by rw [decide_eq_false_iff_not]; exact ha32)
    have hk : kO (a :: l) = 5 := by
      have hbar : bar a = false := by unfold bar; simp [ha0, ha34, ha59, ha60, ha62]
      unfold kO
      simp [ha44, ha43, ha92, ha32, hbar]
    rw [hk]
    clear heq hl hL h0 hB hk
    go_enter Tryz.func149, Tryz.ntmps149
    go_wp2_with fail
    go_ret
    exact ⟨rfl, 0, rfl⟩
end Pa
end Go.Proofs.YtkknenmpdimdbaaGreatDoor
