import Derived.Test.YtkknenmpdimdbaaGreatDoorQI
import Derived.Test.YtkknenmpdimdbaaGreatDoorQG
import Derived.Test.YtkknenmpdimdbaaGreatDoorQV
import Derived.Test.YtkknenmpdimdbaaGreatDoorQT
import Derived.Test.YtkknenmpdimdbaaGreatDoorQU
import Derived.Test.YtkknenmpdimdbaaGreatDoorQM
namespace Go.Proofs.YtkknenmpdimdbaaGreatDoor
namespace Ke
open Go.RowKit Go.Lib
open TextMath (fold lo normal check)
open Du (PRow DRow PX sd sd_len drow_at pV pV_len prow_at)
set_option linter.unusedVariables false
set_option linter.unusedSimpArgs false
set_option maxRecDepth 100000

theorem str_dec (x y : List UInt8) : ((S x).toList == (S y).toList) = decide (x = y) := by
  rw [Lib.toList_data, Lib.toList_data, S_l, S_l]
  by_cases h : x = y
  · subst h; simp
  · simp [h]
/-- What a test of the law's own answers. -/
def SdQ (w : World) (P : Prop) (e : Ending) (w' : World) : Prop := (∃ b : Bool, e = .returned (.bool b) ∧ (b = true ↔ P)) ∧ Below w.heap.size w w'

set_option maxHeartbeats 4000000 in
theorem soundPart_any (a : Option Addr) (c n : Nat) (ps : List PR) (w : World) (hn : ps.length = n) (hr : PRow w a ps) (hz : ∀ p ∈ ps, p.1.length + p.2.length ≤ 1073741824) (hnb : n ≤ 1073741824) :
    Calls Tryz.prog 26 #[.slice a n c] w fun e w' => SdQ w (OkP ps) e w' := by
  have nb : (n : Int) ≤ 1073741824 := by omega
  have hn' : Hid (ps.length = n) := hn
  have hr' : Hid (PRow w a ps) := hr
  have hz' : Hid (∀ p ∈ ps, p.1.length + p.2.length ≤ 1073741824) := hz
  by_cases hlen : 1 ≤ n ∧ n ≤ 8
  · have n1 : ¬ (n : Int) < 1 := by omega
    have n8 : ¬ (8 : Int) < (n : Int) := by omega
    have hlo : Hid (1 ≤ n ∧ n ≤ 8) := hlen
    clear hn hr hz hnb hlen
    go_enter Tryz.func26, Tryz.ntmps26
    go_wp2_with fail
    go_loopw [3] (fun iv wr => ∃ (k : Nat), k ≤ n ∧ iv = .int .i64 (k : Int) ∧ Hid ((∀ j, j < k → OkI ps j) ∧ Below w.heap.size w wr)) (fun iv _ => n - (intOf iv).toNat)
    case atStart => exact ⟨0, Nat.zero_le _, rfl, fun j hj => by omega, Below.refl _ _⟩
    case round =>
      obtain ⟨k, hk, rfl, hR⟩ := hrel
      have k0 : (0 : Int) ≤ (k : Int) := Int.natCast_nonneg _
      by_cases hlt : k < n
      · have k1 : (k : Int) < (n : Int) := Int.ofNat_lt.2 hlt
        have hkP : k < ps.length := by rw [hn'.out]; exact hlt
        obtain ⟨pb, po, rfl, c3, c4⟩ := prow_at (hr'.out.below pV_len hR.out.2) k hkP
        have hzk := hz'.out _ (List.getElem_mem hkP)
        have hIk : Hid (tyOk ps[k].1 = true → tyC ps[k].1 ∉ (ps.take k).map (fun p => tyC p.1) → utf ps[k].2 = true → OkI ps k) := fun h1 h2 h3 => ⟨hkP, h1, h2, h3⟩
        have hIn : Hid (OkP ps → tyOk ps[k].1 = true ∧ tyC ps[k].1 ∉ (ps.take k).map (fun p => tyC p.1) ∧ utf ps[k].2 = true) := fun h => by obtain ⟨_, h1, h2, h3⟩ := h.2.2 k hkP; exact ⟨h1, h2, h3⟩
        have hmem : Hid (∀ j (h : j < ps.length), j < k → tyC ps[j].1 ∈ (ps.take k).map (fun p => tyC p.1)) := fun j h hj => List.mem_map.2 ⟨ps[j], by rw [List.mem_take_iff_getElem]; exact ⟨j, by omega, rfl⟩, rfl⟩
        have hall : Hid (∀ x, (∀ j (h : j < ps.length), j < k → tyC ps[j].1 ≠ x) → x ∉ (ps.take k).map (fun p => tyC p.1)) := fun x h hx => by
          obtain ⟨p, hp, rfl⟩ := List.mem_map.1 hx
          rw [List.mem_take_iff_getElem] at hp
          obtain ⟨j, hj, rfl⟩ := hp
          exact h j (by omega) (by omega) rfl
        generalize ps[k] = p at *
        obtain ⟨t, v⟩ := p
        dsimp only at c3 c4 hzk hIk hIn
        have hP : Hid (Calls Tryz.prog 51 #[.string (S t)] wr fun e w' => (∃ m : Nat, e = .returned (.tuple #[.string (S (tyC t)), .int .i64 (if tyOk t = true then 0 else 40), .int .i64 (m : Int)])) ∧ Below wr.heap.size wr w') := parse_ty t wr (by omega)
        have hK : Hid (∀ W, Calls Tryz.prog 29 #[.string (S v)] W fun e w' => (∃ m : Nat, e = .returned (.tuple #[.int .i64 (if utf v = true then 0 else 10), .int .i64 (m : Int)])) ∧ w' = W) := fun W => check_ty v W (by omega)
        have hlt' : Hid (k < n) := hlt
        generalize S t = st at *
        generalize S v = sv' at *
        clear hzk hlt hk
        go_wp2_with fail
        refine hP.out.mono ?_
        rintro e W2 ⟨⟨m2, rfl⟩, hb2⟩
        have hBw : Hid (Below w.heap.size w W2) := hR.out.2.trans (hb2.mono hR.out.2.size)
        have d4 : W2.cell? ⟨pb, po + k * 2 + 1, none⟩ = some (.string sv') := (hb2.cell (World.block_lt_of_cell? _ _ c4)).trans c4
        clear hb2 hP c3 c4
        by_cases hty : tyOk t = true
        · rw [if_pos hty]
          have hty' : Hid (tyOk t = true) := hty
          clear hty
          go_wp2_with fail
          go_loopw [7] (fun jv w3 => ∃ (j : Nat), j ≤ k ∧ jv = .int .i64 (j : Int) ∧ Hid ((∀ i (h : i < ps.length), i < j → tyC ps[i].1 ≠ tyC t) ∧ Below W2.heap.size W2 w3)) (fun jv _ => k - (intOf jv).toNat)
          case atStart => exact ⟨0, Nat.zero_le _, rfl, fun i _ hi => by omega, Below.refl _ _⟩
          case round =>
            obtain ⟨j, hj, rfl, hQ⟩ := hrel
            have j0 : (0 : Int) ≤ (j : Int) := Int.natCast_nonneg _
            by_cases hjk : j < k
            · have j1 : (j : Int) < (k : Int) := Int.ofNat_lt.2 hjk
              have j2 : (j : Int) < (n : Int) := by omega
              have hjP : j < ps.length := by omega
              obtain ⟨pb', po', e', c5, c6⟩ := prow_at ((hr'.out.below pV_len hBw.out).below pV_len hQ.out.2) j hjP
              injection e' with e'
              injection e' with e1 e2
              subst e1 e2
              have hzj := hz'.out _ (List.getElem_mem hjP)
              have hP2 : Hid (Calls Tryz.prog 51 #[.string (S ps[j].1)] wr fun e w' => (∃ m : Nat, e = .returned (.tuple #[.string (S (tyC ps[j].1)), .int .i64 (if tyOk ps[j].1 = true then 0 else 40), .int .i64 (m : Int)])) ∧ Below wr.heap.size wr w') := parse_ty _ wr (by omega)
              have hhit : Hid (tyC ps[j].1 = tyC t → ¬ OkP ps) := fun h hok => (hIn.out hok).2.1 (by rw [← h]; exact hmem.out j hjP hjk)
              have hstep : Hid (tyC ps[j].1 ≠ tyC t → ∀ i (h : i < ps.length), i < j + 1 → tyC ps[i].1 ≠ tyC t) := fun h i hi hij => by
                by_cases e : i = j
                · subst e; exact h
                · exact hQ.out.1 i hi (by omega)
              have hjk' : Hid (j < k) := hjk
              have hsd := str_dec (tyC ps[j].1) (tyC t)
              generalize tyC ps[j].1 = cj at *
              generalize S ps[j].1 = sj at *
              generalize (if tyOk ps[j].1 = true then (0 : Int) else 40) = ej at *
              clear hzj hjk hjP hj c6
              go_wp2_with fail
              refine hP2.out.mono ?_
              rintro e W3 ⟨⟨m3, rfl⟩, hb3⟩
              have hB3 : Hid (Below W2.heap.size W2 W3) := hQ.out.2.trans (hb3.mono hQ.out.2.size)
              by_cases hc : cj = tyC t
              · have hfin : Hid (SdQ w (OkP ps) (.returned (.bool false)) W3) := ⟨⟨false, rfl, fun h => (by cases h), fun h => (hhit.out hc h).elim⟩, hBw.out.trans (hB3.out.mono hBw.out.size)⟩
                rw [decide_eq_true hc] at hsd
                clear hb3 hB3 hhit hstep hQ hP2 hc
                go_wp2_with fail
                go_ret
                exact hfin.out
              · have hfin : Hid ((∀ i (h : i < ps.length), i < j + 1 → tyC ps[i].1 ≠ tyC t) ∧ Below W2.heap.size W2 W3) := ⟨hstep.out hc, hB3.out⟩
                rw [decide_eq_false hc] at hsd
                clear hb3 hB3 hhit hstep hQ hP2 hc
                go_wp2_with fail
                go_roundw
                case rel => exact ⟨j + 1, hjk'.out, by go_num, hfin⟩
                case measure => have := hjk'.out; simp [intOf]; omega
            · have e : k = j := by omega
              subst e
              have j1 : ¬ (k : Int) < (k : Int) := by omega
              have hnot : Hid (tyC t ∉ (ps.take k).map (fun p => tyC p.1)) := hall.out _ (fun i hi hik => hQ.out.1 i hi hik)
              have d5 : wr.cell? ⟨pb, po + k * 2 + 1, none⟩ = some (.string sv') := (hQ.out.2.cell (World.block_lt_of_cell? _ _ d4)).trans d4
              have hB3 : Hid (Below w.heap.size w wr) := hBw.out.trans (hQ.out.2.mono hBw.out.size)
              have hK2 : Hid (Calls Tryz.prog 29 #[.string sv'] wr fun e w' => (∃ m : Nat, e = .returned (.tuple #[.int .i64 (if utf v = true then 0 else 10), .int .i64 (m : Int)])) ∧ w' = wr) := hK.out wr
              clear hQ hj hjk hall hmem d4
              by_cases hut : utf v = true
              · rw [if_pos hut] at hK2
                have hfin : Hid ((∀ j, j < k + 1 → OkI ps j) ∧ Below w.heap.size w wr) := by
                  refine ⟨fun j hj => ?_, hB3.out⟩
                  by_cases e : j = k
                  · rw [e]; exact hIk.out hty'.out hnot.out hut
                  · exact hR.out.1 j (by omega)
                clear hIk hIn hnot hB3 hR hut hK
                go_wp2_with (go_at_call 29; refine hK2.out.mono ?_; rintro e w' ⟨⟨m3, rfl⟩, rfl⟩)
                go_roundw
                case rel => exact ⟨k + 1, hlt'.out, by go_num, hfin⟩
                case measure => have := hlt'.out; simp [intOf]; omega
              · rw [if_neg hut] at hK2
                have hfin : Hid (SdQ w (OkP ps) (.returned (.bool false)) wr) := ⟨⟨false, rfl, fun h => (by cases h), fun h => (hut (hIn.out h).2.2).elim⟩, hB3.out⟩
                clear hIk hIn hnot hB3 hR hut hK
                go_wp2_with (go_at_call 29; refine hK2.out.mono ?_; rintro e w' ⟨⟨m3, rfl⟩, rfl⟩)
                go_ret
                exact hfin.out
        · rw [if_neg hty]
          have hfin : Hid (SdQ w (OkP ps) (.returned (.bool false)) W2) := ⟨⟨false, rfl, fun h => (by cases h), fun h => (hty (hIn.out h).1).elim⟩, hBw.out⟩
          clear hIk hIn hR hty hK hall hmem hBw
          go_wp2_with fail
          go_ret
          exact hfin.out
      · have e : n = k := by omega
        subst e
        have i1 : ¬ (n : Int) < (n : Int) := by omega
        have hfin : Hid (SdQ w (OkP ps) (.returned (.bool true)) wr) := ⟨⟨true, rfl, fun _ => ⟨by rw [hn'.out]; exact hlo.out.1, by rw [hn'.out]; exact hlo.out.2, fun i hi => hR.out.1 i (by rw [← hn'.out]; exact hi)⟩, fun _ => rfl⟩, hR.out.2⟩
        clear hR hk hlt
        go_wp2_with fail
        go_ret
        exact hfin.out
  · have hfin : Hid (SdQ w (OkP ps) (.returned (.bool false)) w) := ⟨⟨false, rfl, fun h => (by cases h), fun h => (hlen ⟨by rw [← hn]; exact h.1, by rw [← hn]; exact h.2.1⟩).elim⟩, Below.refl _ _⟩
    by_cases h1 : n < 1
    · have n1 : (n : Int) < 1 := by omega
      clear hn hr hz hnb hlen hr' hz' hn'
      go_enter Tryz.func26, Tryz.ntmps26
      go_wp2_with fail
      go_ret
      exact hfin.out
    · have n1 : ¬ (n : Int) < 1 := by omega
      have n8 : (8 : Int) < (n : Int) := by omega
      clear hn hr hz hnb hlen hr' hz' hn'
      go_enter Tryz.func26, Tryz.ntmps26
      go_wp2_with fail
      go_ret
      exact hfin.out
end Ke
end Go.Proofs.YtkknenmpdimdbaaGreatDoor

namespace Go.Proofs.YtkknenmpdimdbaaGreatDoor
namespace Ke
open Go.RowKit Go.Lib
open TextMath (fold lo normal check)
open Du (PRow DRow PX sd sd_len drow_at pV pV_len prow_at)
set_option linter.unusedVariables false
set_option linter.unusedSimpArgs false
set_option maxRecDepth 100000

/-- The sizes of a name. -/
def Szs (L : List PX) : Prop := (∀ r ∈ L, ∀ p ∈ r.2.2, p.1.length + p.2.length ≤ 1073741824) ∧ (∀ r ∈ L, r.2.2.length ≤ 1073741824) ∧ L.length ≤ 1073741824

set_option maxHeartbeats 4000000 in
theorem sound_any (sa : Option Addr) (sc n : Nat) (L : List PX) (w : World) (hn : L.length = n) (hr : DRow w sa L) (hz : Szs L) :
    Calls Tryz.prog 8 #[.slice sa n sc] w fun e w' => SdQ w (OkD (sd L)) e w' := by
  have nb : (n : Int) ≤ 1073741824 := by have := hz.2.2; omega
  have hn' : Hid (L.length = n) := hn
  have hr' : Hid (DRow w sa L) := hr
  have hz' : Hid (Szs L) := hz
  by_cases h64 : 64 < n
  · have n1 : (64 : Int) < (n : Int) := by omega
    have hfin : Hid (SdQ w (OkD (sd L)) (.returned (.bool false)) w) := ⟨⟨false, rfl, fun h => (by cases h), fun h => (by have := h.1; rw [sd_len] at this; omega)⟩, Below.refl _ _⟩
    clear hn hr hz hr' hz' hn'
    go_enter Tryz.func8, Tryz.ntmps8
    go_wp2_with fail
    go_ret
    exact hfin.out
  · have n1 : ¬ (64 : Int) < (n : Int) := by omega
    have h64' : Hid (n ≤ 64) := by unfold Hid; omega
    clear hn hr hz h64
    go_enter Tryz.func8, Tryz.ntmps8
    go_wp2_with fail
    go_loopw [3] (fun iv wr => ∃ (k : Nat), k ≤ n ∧ iv = .int .i64 (k : Int) ∧ Hid ((∀ j (h : j < L.length), j < k → OkP L[j].2.2) ∧ Below w.heap.size w wr)) (fun iv _ => n - (intOf iv).toNat)
    case atStart => exact ⟨0, Nat.zero_le _, rfl, fun j _ hj => by omega, Below.refl _ _⟩
    case round =>
      obtain ⟨k, hk, rfl, hR⟩ := hrel
      have k0 : (0 : Int) ≤ (k : Int) := Int.natCast_nonneg _
      by_cases hlt : k < n
      · have k1 : (k : Int) < (n : Int) := Int.ofNat_lt.2 hlt
        have hkL : k < L.length := by rw [hn'.out]; exact hlt
        have hRw := hr'.out.below hR.out.2
        obtain ⟨b, off, rfl, c1⟩ := drow_at hRw k hkL
        have hT : Hid (Calls Tryz.prog 26 #[.slice L[k].1 L[k].2.2.length L[k].2.1] wr fun e w' => SdQ wr (OkP L[k].2.2) e w') := soundPart_any _ _ _ _ wr rfl (hRw.2 _ (List.getElem_mem hkL)).1 (hz'.out.1 _ (List.getElem_mem hkL)) (hz'.out.2.1 _ (List.getElem_mem hkL))
        have hbad : Hid (¬ OkP L[k].2.2 → ¬ OkD (sd L)) := fun h hD => h (hD.2 _ (by rw [← sd_at L k hkL]; exact List.getElem_mem _))
        have hok : Hid (OkP L[k].2.2 → ∀ j (h : j < L.length), j < k + 1 → OkP L[j].2.2) := fun h j hj hjk => by
          by_cases e : j = k
          · subst e; exact h
          · exact hR.out.1 j hj (by omega)
        have hlt' : Hid (k < n) := hlt
        generalize L[k] = r at *
        obtain ⟨pa, pc, ps⟩ := r
        dsimp only at c1 hT hbad hok
        generalize ps.length = m at *
        clear hk hlt hkL hRw
        go_wp2_with fail
        refine hT.out.mono ?_
        rintro e W1 ⟨⟨bb, rfl, hbb⟩, hb1⟩
        have hB1 : Hid (Below w.heap.size w W1) := hR.out.2.trans (hb1.mono hR.out.2.size)
        cases bb with
        | true =>
          have hfin : Hid ((∀ j (h : j < L.length), j < k + 1 → OkP L[j].2.2) ∧ Below w.heap.size w W1) := ⟨hok.out (hbb.1 rfl), hB1.out⟩
          clear hbb hb1 hB1 hok hbad hR hT
          go_wp2_with fail
          go_roundw
          case rel => exact ⟨k + 1, hlt'.out, by go_num, hfin⟩
          case measure => have := hlt'.out; simp [intOf]; omega
        | false =>
          have hfin : Hid (SdQ w (OkD (sd L)) (.returned (.bool false)) W1) := ⟨⟨false, rfl, fun h => (by cases h), fun h => (hbad.out (fun q => by have := hbb.2 q; cases this) h).elim⟩, hB1.out⟩
          clear hbb hb1 hB1 hok hbad hR hT
          go_wp2_with fail
          go_ret
          exact hfin.out
      · have e : n = k := by omega
        subst e
        have i1 : ¬ (n : Int) < (n : Int) := by omega
        have hfin : Hid (SdQ w (OkD (sd L)) (.returned (.bool true)) wr) := by
          refine ⟨⟨true, rfl, fun _ => ⟨by rw [sd_len, hn'.out]; exact h64'.out, fun r hr => ?_⟩, fun _ => rfl⟩, hR.out.2⟩
          obtain ⟨j, hj, rfl⟩ := List.getElem_of_mem hr
          rw [sd_len] at hj
          rw [sd_at L j hj]
          exact hR.out.1 j hj (by rw [← hn'.out]; exact hj)
        clear hR hk hlt
        go_wp2_with fail
        go_ret
        exact hfin.out
theorem normal_ty (v : List UInt8) (w : World) (ht : v.length ≤ 1073741824) : Calls Tryz.prog 59 #[.string (S v)] w fun e w' => e = .returned (.string (S (normal v))) ∧ Below w.heap.size w w' := by
  have := normal_any (S v) w (by rw [S_size]; omega)
  rw [S_l] at this
  exact this

/-- Whether one of the first j pairs is found to be like it. -/
def Fnd (qs : List PR) (p : PR) (j : Nat) (fb : Bool) : Prop := fb = true ↔ ∃ i, ∃ h : i < qs.length, i < j ∧ cn qs[i] = cn p

end Ke
end Go.Proofs.YtkknenmpdimdbaaGreatDoor

namespace Go.Proofs.YtkknenmpdimdbaaGreatDoor
namespace Pa
open Go.RowKit
open TextMath (fold lo normal check wo unhex)
open Ke (refV tyOk tyC utf PR OkD OkP KeyQ keys ErrsG)
open Du (PX DRow PRow GRow sd sd_len pV xV pV_len xV_len sameDN_any)
set_option linter.unusedVariables false
set_option linter.unusedSimpArgs false
set_option maxRecDepth 100000

/-- What Parse answers of any text. -/
theorem parse_all (ev : Nat → TypeId × Value) (t : List UInt8) (w : World) (R : DRs) (hs : t.length ≤ 1073741824) (hE : EvA ev w) (hR : prs hxO t = some R) :
    Calls Tryz.prog 10 #[.string (S t)] w fun e w' => PsQ ev t.length w R e w' := by
  by_cases hl : 4096 < t.length
  · refine parse_any (fun _ => none) ev t w R hs hE (fun b r R' p W h => by cases h) ?_
    unfold prs at hR ⊢
    rw [if_pos hl] at hR ⊢
    exact hR
  · exact parse_any hxO ev t w R hs hE (fun b => hexValue_any ev (S t) b (by rw [S_size]; omega)) hR
theorem evG {ev : Nat → TypeId × Value} {W : World} (h : EvA ev W) : ErrsG W :=
  ⟨_, _, _, _, _, _, _, _, h (58, 8) (by decide), h (59, 9) (by decide), h (57, 7) (by decide), h (51, 1) (by decide)⟩
/-- A name is small enough for what is asked of its parts. -/
def SmD (D : List (List PR)) : Prop := (∀ r ∈ D, ∀ p ∈ r, p.1.length + p.2.length ≤ 1073741824) ∧ (∀ r ∈ D, r.length ≤ 1073741824) ∧ D.length ≤ 1073741824
/-- What KeyOf answers. -/
def KoQ (ev : Nat → TypeId × Value) (n : Nat) (w : World) (R : DRs) (e : Ending) (w' : World) : Prop :=
  Below w.heap.size w w' ∧ ((∃ D, R = .ok D ∧ ∃ w1, Below w.heap.size w w1 ∧ KeyQ w1 D D.length e w') ∨ (∃ k m, R = .error (k, m) ∧ e = .returned (.tuple #[.slice none 0 0, refV ev k ((n - m : Nat) : Int)])))
set_option maxHeartbeats 4000000 in
theorem keyOf_any (ev : Nat → TypeId × Value) (t : List UInt8) (w : World) (R : DRs) (hs : t.length ≤ 1073741824) (hE : EvA ev w) (hR : prs hxO t = some R) (hz : ∀ D, R = .ok D → SmD D) :
    Calls Tryz.prog 12 #[.string (S t)] w fun e w' => KoQ ev t.length w R e w' := by
  have hP : Hid (Calls Tryz.prog 10 #[.string (S t)] w fun e w' => PsQ ev t.length w R e w') := parse_all ev t w R hs hE hR
  have h' : Hid (EvA ev w ∧ ∀ D, R = .ok D → SmD D) := ⟨hE, hz⟩
  generalize S t = st at *
  generalize t.length = tl at *
  clear hs hE hR hz
  go_enter Tryz.func12, Tryz.ntmps12
  go_wp2_with fail
  refine hP.out.mono ?_
  rintro e w1 ⟨hb, ⟨D, va, c, Ls, h1, rfl, hd, hsd⟩ | ⟨k, m, h1, rfl⟩⟩
  · have hz1 := h'.out.2 D h1
    have hK : Hid (Calls Tryz.prog 13 #[.slice va D.length c] w1 fun e w' => KeyQ w1 D D.length e w') := by
      have h := Ke.key_any va c D.length Ls w1 ((evG h'.out.1).below hb) (by rw [← hsd, sd_len]) hd (fun r hr p hp => hz1.1 r.2.2 (by rw [← hsd]; exact List.mem_map.2 ⟨r, hr, rfl⟩) p hp) (fun r hr => hz1.2.1 r.2.2 (by rw [← hsd]; exact List.mem_map.2 ⟨r, hr, rfl⟩)) hz1.2.2
      rw [hsd] at h
      exact h
    have hb' : Hid (Below w.heap.size w w1) := hb
    have h1' : Hid (R = .ok D) := h1
    obtain ⟨n, hn⟩ : ∃ n, D.length = n := ⟨_, rfl⟩
    have hn' : Hid (D.length = n) := hn
    rw [hn] at hK ⊢
    clear hP hb hd hsd h1 hz1 hn
    go_wp2_with fail
    refine hK.out.mono ?_
    rintro e w2 hq
    have hfin : Hid (KoQ ev tl w R e w2) := ⟨hb'.out.trans (hq.1.mono hb'.out.size), Or.inl ⟨D, h1'.out, w1, hb'.out, by rw [hn'.out]; exact hq⟩⟩
    rcases hq.2 with ⟨_, ka, kc, rfl, _⟩ | ⟨_, t, u, rfl⟩
    · clear hK hq
      go_wp2_with fail
      go_ret2
      exact hfin.out
    · clear hK hq
      go_wp2_with fail
      go_ret2
      exact hfin.out
  · have hfin : Hid (KoQ ev tl w R (.returned (.tuple #[.slice none 0 0, refV ev k ((tl - m : Nat) : Int)])) w1) := ⟨hb, Or.inr ⟨k, m, h1, rfl⟩⟩
    obtain ⟨tt, u, hrv⟩ : ∃ t u, refV ev k ((tl - m : Nat) : Int) = .iface t u := ⟨_, _, rfl⟩
    rw [hrv] at hfin ⊢
    clear hP hb h1 hrv
    go_wp2_with fail
    go_ret2
    exact hfin.out
/-- The name of works. -/
def wkD : List (List PR) := [[([67, 78], [65, 110, 110, 32, 76, 101, 101])], [([111], [65, 99, 109, 101])]]
def wkT : List UInt8 := [67, 78, 61, 65, 110, 110, 32, 76, 101, 101, 44, 111, 61, 65, 99, 109, 101]
theorem wk_ok : OkD wkD := by
  have t1 : tyOk [67, 78] = true := by decide +kernel
  have t2 : tyOk [111] = true := by decide +kernel
  have u1 : utf [65, 110, 110, 32, 76, 101, 101] = true := by decide +kernel
  have u2 : utf [65, 99, 109, 101] = true := by decide +kernel
  refine ⟨by decide, fun r hr => ?_⟩
  have hr2 : r = [([67, 78], [65, 110, 110, 32, 76, 101, 101])] ∨ r = [([111], [65, 99, 109, 101])] := by simpa [wkD] using hr
  rcases hr2 with rfl | rfl
  · refine ⟨by simp, by simp, fun i hi => ?_⟩
    have hi0 : i = 0 := by simp at hi; omega
    subst hi0
    exact ⟨by simp, t1, by simp, u1⟩
  · refine ⟨by simp, by simp, fun i hi => ?_⟩
    have hi0 : i = 0 := by simp at hi; omega
    subst hi0
    exact ⟨by simp, t2, by simp, u2⟩
theorem wk_text : dX wkD = wkT := by decide +kernel
theorem wk_prs : prs hxO wkT = some (.ok wkD) := by
  rw [← wk_text]
  exact prs_print hxO wkD wk_ok (by rw [wk_text]; decide)
/-- The name that works lays. -/
abbrev wkL (g : Nat) : List PX := [(some ⟨g, 0, none⟩, 1, [([67, 78], [65, 110, 110, 32, 76, 101, 101])]), (some ⟨g + 1, 0, none⟩, 1, [([111], [65, 99, 109, 101])])]
theorem wk_row (w : World) :
    DRow (((w.alloc (.cells #[.string (S [67, 78]), .string (S [65, 110, 110, 32, 76, 101, 101])] 64)).alloc (.cells #[.string (S [111]), .string (S [65, 99, 109, 101])] 64)).alloc (.cells #[.slice (some ⟨w.heap.size, 0, none⟩) 1 1, .slice (some ⟨w.heap.size + 1, 0, none⟩) 1 1] 57)) (some ⟨w.heap.size + 2, 0, none⟩) (wkL w.heap.size) := by
  obtain ⟨w1, h1⟩ : ∃ w1, w.alloc (.cells #[.string (S [67, 78]), .string (S [65, 110, 110, 32, 76, 101, 101])] 64) = w1 := ⟨_, rfl⟩
  obtain ⟨w2, h2⟩ : ∃ w2, w1.alloc (.cells #[.string (S [111]), .string (S [65, 99, 109, 101])] 64) = w2 := ⟨_, rfl⟩
  obtain ⟨w3, h3⟩ : ∃ w3, w2.alloc (.cells #[.slice (some ⟨w.heap.size, 0, none⟩) 1 1, .slice (some ⟨w.heap.size + 1, 0, none⟩) 1 1] 57) = w3 := ⟨_, rfl⟩
  rw [h1, h2, h3]
  have s1 : w1.heap.size = w.heap.size + 1 := by rw [← h1]; simp
  have s2 : w2.heap.size = w.heap.size + 2 := by rw [← h2]; simp [s1]
  have b2 : Below w1.heap.size w1 w2 := by rw [← h2]; exact (Below.refl _ _).alloc (Nat.le_refl _) _
  have b3 : Below w2.heap.size w2 w3 := by rw [← h3]; exact (Below.refl _ _).alloc (Nat.le_refl _) _
  have r1 : PRow w1 (some ⟨w.heap.size, 0, none⟩) [([67, 78], [65, 110, 110, 32, 76, 101, 101])] := by rw [← h1]; exact GRow.one pV w 64 ([67, 78], [65, 110, 110, 32, 76, 101, 101])
  have r2 : PRow w2 (some ⟨w.heap.size + 1, 0, none⟩) [([111], [65, 99, 109, 101])] := by rw [← s1, ← h2]; exact GRow.one pV w1 64 ([111], [65, 99, 109, 101])
  refine ⟨fun i hi => ?_, fun r hr => ?_⟩
  · have hc : w3.heap[w.heap.size + 2]? = some (.cells #[.slice (some ⟨w.heap.size, 0, none⟩) 1 1, .slice (some ⟨w.heap.size + 1, 0, none⟩) 1 1] 57 (0, 0)) := by rw [← s2, ← h3]; exact heap_alloc_last w2 _
    refine ⟨_, _, rfl, fun j hj => ?_⟩
    have hj0 : j = 0 := by omega
    subst hj0
    have hi2 : i = 0 ∨ i = 1 := by simp at hi; omega
    rcases hi2 with rfl | rfl
    · simp [World.cell?, hc, xV]
    · simp [World.cell?, hc, xV]
  · have hr2 : r = (some ⟨w.heap.size, 0, none⟩, 1, [([67, 78], [65, 110, 110, 32, 76, 101, 101])]) ∨ r = (some ⟨w.heap.size + 1, 0, none⟩, 1, [([111], [65, 99, 109, 101])]) := by simpa using hr
    rcases hr2 with rfl | rfl
    · exact ⟨(r1.below pV_len b2).below pV_len b3, by simp, by simp [maxLen]⟩
    · exact ⟨r2.below pV_len b3, by simp, by simp [maxLen]⟩
set_option maxHeartbeats 4000000 in
theorem works_any (ev : Nat → TypeId × Value) (w : World) (hE : EvA ev w) :
    Calls Tryz.prog 7 #[] w fun e w' => e = .returned (.bool true) ∧ Below w.heap.size w w' := by
  have hP : Hid (Calls Tryz.prog 10 #[.string ⟨#[67, 78, 61, 65, 110, 110, 32, 76, 101, 101, 44, 111, 61, 65, 99, 109, 101]⟩] w fun e w' => PsQ ev 17 w (.ok wkD) e w') := parse_all ev wkT w (.ok wkD) (by decide) hE wk_prs
  clear hE
  go_enter Tryz.func7, Tryz.ntmps7
  go_wp2_with fail
  refine hP.out.mono ?_
  rintro e w1 ⟨hb, ⟨D, va, c, Ls, h1, rfl, hd, hsd⟩ | ⟨k, m, h1, rfl⟩⟩
  · injection h1 with h1
    subst h1
    have hrow := wk_row w1
    obtain ⟨w2, hw2⟩ : ∃ w2, ((w1.alloc (.cells #[.string (S [67, 78]), .string (S [65, 110, 110, 32, 76, 101, 101])] 64)).alloc (.cells #[.string (S [111]), .string (S [65, 99, 109, 101])] 64)).alloc (.cells #[.slice (some ⟨w1.heap.size, 0, none⟩) 1 1, .slice (some ⟨w1.heap.size + 1, 0, none⟩) 1 1] 57) = w2 := ⟨_, rfl⟩
    rw [hw2] at hrow
    have hb2 : Below w1.heap.size w1 w2 := by
      rw [← hw2]
      exact (((Below.refl _ _).alloc (Nat.le_refl _) _).alloc (by simp) _).alloc (by simp; omega) _
    have hB : Hid (Below w.heap.size w w2) := hb.trans (hb2.mono hb.size)
    have hS : Hid (Calls Tryz.prog 11 #[.slice va 2 c, .slice (some ⟨w1.heap.size + 2, 0, none⟩) 2 2] w2 fun e w' => e = .returned (.bool true) ∧ ∃ q, w' = w2.drewN q) :=
      sameDN_any va (some ⟨w1.heap.size + 2, 0, none⟩) c 2 Ls (wkL w1.heap.size) 2 w2 (by rw [← sd_len, hsd]; rfl) rfl (by decide) (hd.below hb2) hrow (by rw [hsd]; rfl) (fun r hr => by
        have h1 : r.2.2 ∈ sd Ls := List.mem_map.2 ⟨r, hr, rfl⟩
        rw [hsd] at h1
        have h2 : r.2.2 = [([67, 78], [65, 110, 110, 32, 76, 101, 101])] ∨ r.2.2 = [([111], [65, 99, 109, 101])] := by simpa [wkD] using h1
        rcases h2 with h2 | h2 <;> rw [h2] <;> decide)
    have e1 : S [67, 78] = ⟨#[67, 78]⟩ := rfl
    have e2 : S [65, 110, 110, 32, 76, 101, 101] = ⟨#[65, 110, 110, 32, 76, 101, 101]⟩ := rfl
    have e3 : S [111] = ⟨#[111]⟩ := rfl
    have e4 : S [65, 99, 109, 101] = ⟨#[65, 99, 109, 101]⟩ := rfl
    rw [e1, e2, e3, e4] at hw2
    have hdl : Hid (wkD.length = 2) := rfl
    rw [hdl.out]
    clear hP hb hd hsd hrow hb2 e1 e2 e3 e4 hdl
    go_wp2_with fail
    refine hS.out.mono ?_
    rintro e w3 ⟨rfl, q, rfl⟩
    clear hS
    go_wp2_with fail
    go_ret
    exact ⟨rfl, hB.out.trans (Du.drewN_below _ _ _)⟩
  · cases h1
end Pa
end Go.Proofs.YtkknenmpdimdbaaGreatDoor
