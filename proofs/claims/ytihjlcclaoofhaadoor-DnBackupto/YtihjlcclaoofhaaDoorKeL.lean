import Derived.Test.YtihjlcclaoofhaaDoorKeC
import Derived.Test.YtihjlcclaoofhaaDoorDuOwn
namespace Go.Proofs.YtihjlcclaoofhaaDoor
namespace Ke
open Go.RowKit Go.Lib
open TextMath (fold lo normal check)
open Du (PRow DRow PX sd sd_len drow_at pV pV_len prow_at)
set_option linter.unusedVariables false
set_option linter.unusedSimpArgs false
set_option maxRecDepth 100000

theorem sd_at (L : List PX) (j : Nat) (h : j < L.length) : (sd L)[j]'(by rw [sd_len]; exact h) = L[j].2.2 := by simp [sd]
theorem str_dec (x y : List UInt8) : ((S x).toList == (S y).toList) = decide (x = y) := by
  rw [Lib.toList_data, Lib.toList_data, S_l, S_l]
  by_cases h : x = y
  · subst h; simp
  · simp [h]
/-- What a test of the law's own answers. -/
def SdQ (w : World) (P : Prop) (e : Ending) (w' : World) : Prop := (∃ b : Bool, e = .returned (.bool b) ∧ (b = true ↔ P)) ∧ Below w.heap.size w w'

set_option maxHeartbeats 4000000 in
theorem soundPart_any (a : Option Addr) (c n : Nat) (ps : List PR) (w : World) (hn : ps.length = n) (hr : PRow w a ps) (hz : ∀ p ∈ ps, p.1.length + p.2.length ≤ 1073741824) (hnb : n ≤ 1073741824) :
    Calls Tryd.prog 10 #[.slice a n c] w fun e w' => SdQ w (OkP ps) e w' := by
  have nb : (n : Int) ≤ 1073741824 := by omega
  have hn' : Hid (ps.length = n) := hn
  have hr' : Hid (PRow w a ps) := hr
  have hz' : Hid (∀ p ∈ ps, p.1.length + p.2.length ≤ 1073741824) := hz
  by_cases hlen : 1 ≤ n ∧ n ≤ 8
  · have n1 : ¬ (n : Int) < 1 := by omega
    have n8 : ¬ (8 : Int) < (n : Int) := by omega
    have hlo : Hid (1 ≤ n ∧ n ≤ 8) := hlen
    clear hn hr hz hnb hlen
    go_enter Tryd.func10, Tryd.ntmps10
    go_wp2_with fail
    go_loopw [3] (fun iv wr => ∃ (k : Nat), k ≤ n ∧ iv = .int .i64 (k : Int) ∧ Hid ((∀ j, j < k → OkI ps j) ∧ Below w.heap.size w wr)) (fun iv _ => n - (intOf iv).toNat)
    case atStart => exact ⟨0, Nat.zero_le _, rfl, fun j hj => by omega, Below.refl _ _⟩
    case round =>
      obtain ⟨k, hk, rfl, hR⟩ := hrel
      have k0 : (0 : Int) ≤ (k : Int) := Int.natCast_nonneg _
      by_cases hlt : k < n
      · have k1 : (k : Int) < (n : Int) := Int.ofNat_lt.2 hlt
        have hkP : k < ps.length := by rw [hn'.out]; exact hlt
        obtain ⟨pb, po, rfl, c3, c4⟩ := prow_at (hr'.out.below pV_len hR.out.2) k hkP
        have hzk := hz'.out _ (List.getElem_mem hkP)
        have hIk : Hid (tyOk ps[k].1 = true → tyC ps[k].1 ∉ (ps.take k).map (fun p => tyC p.1) → utf ps[k].2 = true → OkI ps k) := fun h1 h2 h3 => ⟨hkP, h1, h2, h3⟩
        have hIn : Hid (OkP ps → tyOk ps[k].1 = true ∧ tyC ps[k].1 ∉ (ps.take k).map (fun p => tyC p.1) ∧ utf ps[k].2 = true) := fun h => by obtain ⟨_, h1, h2, h3⟩ := h.2.2 k hkP; exact ⟨h1, h2, h3⟩
        have hmem : Hid (∀ j (h : j < ps.length), j < k → tyC ps[j].1 ∈ (ps.take k).map (fun p => tyC p.1)) := fun j h hj => List.mem_map.2 ⟨ps[j], by rw [List.mem_take_iff_getElem]; exact ⟨j, by omega, rfl⟩, rfl⟩
        have hall : Hid (∀ x, (∀ j (h : j < ps.length), j < k → tyC ps[j].1 ≠ x) → x ∉ (ps.take k).map (fun p => tyC p.1)) := fun x h hx => by
          obtain ⟨p, hp, rfl⟩ := List.mem_map.1 hx
          rw [List.mem_take_iff_getElem] at hp
          obtain ⟨j, hj, rfl⟩ := hp
          exact h j (by omega) (by omega) rfl
        generalize ps[k] = p at *
        obtain ⟨t, v⟩ := p
        dsimp only at c3 c4 hzk hIk hIn
        have hP : Hid (Calls Tryd.prog 20 #[.string (S t)] wr fun e w' => (∃ m : Nat, e = .returned (.tuple #[.string (S (tyC t)), .int .i64 (if tyOk t = true then 0 else 40), .int .i64 (m : Int)])) ∧ Below wr.heap.size wr w') := parse_ty t wr (by omega)
        have hK : Hid (∀ W, Calls Tryd.prog 17 #[.string (S v)] W fun e w' => (∃ m : Nat, e = .returned (.tuple #[.int .i64 (if utf v = true then 0 else 10), .int .i64 (m : Int)])) ∧ w' = W) := fun W => check_ty v W (by omega)
        have hlt' : Hid (k < n) := hlt
        generalize S t = st at *
        generalize S v = sv' at *
        clear hzk hlt hk
        go_wp2_with fail
        refine hP.out.mono ?_
        rintro e W2 ⟨⟨m2, rfl⟩, hb2⟩
        have hBw : Hid (Below w.heap.size w W2) := hR.out.2.trans (hb2.mono hR.out.2.size)
        have d4 : W2.cell? ⟨pb, po + k * 2 + 1, none⟩ = some (.string sv') := (hb2.cell (World.block_lt_of_cell? _ _ c4)).trans c4
        clear hb2 hP c3 c4
        by_cases hty : tyOk t = true
        · rw [if_pos hty]
          have hty' : Hid (tyOk t = true) := hty
          clear hty
          go_wp2_with fail
          go_loopw [7] (fun jv w3 => ∃ (j : Nat), j ≤ k ∧ jv = .int .i64 (j : Int) ∧ Hid ((∀ i (h : i < ps.length), i < j → tyC ps[i].1 ≠ tyC t) ∧ Below W2.heap.size W2 w3)) (fun jv _ => k - (intOf jv).toNat)
          case atStart => exact ⟨0, Nat.zero_le _, rfl, fun i _ hi => by omega, Below.refl _ _⟩
          case round =>
            obtain ⟨j, hj, rfl, hQ⟩ := hrel
            have j0 : (0 : Int) ≤ (j : Int) := Int.natCast_nonneg _
            by_cases hjk : j < k
            · have j1 : (j : Int) < (k : Int) := Int.ofNat_lt.2 hjk
              have j2 : (j : Int) < (n : Int) := by omega
              have hjP : j < ps.length := by omega
              obtain ⟨pb', po', e', c5, c6⟩ := prow_at ((hr'.out.below pV_len hBw.out).below pV_len hQ.out.2) j hjP
              injection e' with e'
              injection e' with e1 e2
              subst e1 e2
              have hzj := hz'.out _ (List.getElem_mem hjP)
              have hP2 : Hid (Calls Tryd.prog 20 #[.string (S ps[j].1)] wr fun e w' => (∃ m : Nat, e = .returned (.tuple #[.string (S (tyC ps[j].1)), .int .i64 (if tyOk ps[j].1 = true then 0 else 40), .int .i64 (m : Int)])) ∧ Below wr.heap.size wr w') := parse_ty _ wr (by omega)
              have hhit : Hid (tyC ps[j].1 = tyC t → ¬ OkP ps) := fun h hok => (hIn.out hok).2.1 (by rw [← h]; exact hmem.out j hjP hjk)
              have hstep : Hid (tyC ps[j].1 ≠ tyC t → ∀ i (h : i < ps.length), i < j + 1 → tyC ps[i].1 ≠ tyC t) := fun h i hi hij => by
                by_cases e : i = j
                · subst e; exact h
                · exact hQ.out.1 i hi (by omega)
              have hjk' : Hid (j < k) := hjk
              have hsd := str_dec (tyC ps[j].1) (tyC t)
              generalize tyC ps[j].1 = cj at *
              generalize S ps[j].1 = sj at *
              generalize (if tyOk ps[j].1 = true then (0 : Int) else 40) = ej at *
              clear hzj hjk hjP hj c6
              go_wp2_with fail
              refine hP2.out.mono ?_
              rintro e W3 ⟨⟨m3, rfl⟩, hb3⟩
              have hB3 : Hid (Below W2.heap.size W2 W3) := hQ.out.2.trans (hb3.mono hQ.out.2.size)
              by_cases hc : cj = tyC t
              · have hfin : Hid (SdQ w (OkP ps) (.returned (.bool false)) W3) := ⟨⟨false, rfl, fun h => (by cases h), fun h => (hhit.out hc h).elim⟩, hBw.out.trans (hB3.out.mono hBw.out.size)⟩
                rw [decide_eq_true hc] at hsd
                clear hb3 hB3 hhit hstep hQ hP2 hc
                go_wp2_with fail
                go_ret
                exact hfin.out
              · have hfin : Hid ((∀ i (h : i < ps.length), i < j + 1 → tyC ps[i].1 ≠ tyC t) ∧ Below W2.heap.size W2 W3) := ⟨hstep.out hc, hB3.out⟩
                rw [decide_eq_false hc] at hsd
                clear hb3 hB3 hhit hstep hQ hP2 hc
                go_wp2_with fail
                go_roundw
                case rel => exact ⟨j + 1, hjk'.out, by go_num, hfin⟩
                case measure => have := hjk'.out; simp [intOf]; omega
            · have e : k = j := by omega
              subst e
              have j1 : ¬ (k : Int) < (k : Int) := by omega
              have hnot : Hid (tyC t ∉ (ps.take k).map (fun p => tyC p.1)) := hall.out _ (fun i hi hik => hQ.out.1 i hi hik)
              have d5 : wr.cell? ⟨pb, po + k * 2 + 1, none⟩ = some (.string sv') := (hQ.out.2.cell (World.block_lt_of_cell? _ _ d4)).trans d4
              have hB3 : Hid (Below w.heap.size w wr) := hBw.out.trans (hQ.out.2.mono hBw.out.size)
              have hK2 : Hid (Calls Tryd.prog 17 #[.string sv'] wr fun e w' => (∃ m : Nat, e = .returned (.tuple #[.int .i64 (if utf v = true then 0 else 10), .int .i64 (m : Int)])) ∧ w' = wr) := hK.out wr
              clear hQ hj hjk hall hmem d4
              by_cases hut : utf v = true
              · rw [if_pos hut] at hK2
                have hfin : Hid ((∀ j, j < k + 1 → OkI ps j) ∧ Below w.heap.size w wr) := by
                  refine ⟨fun j hj => ?_, hB3.out⟩
                  by_cases e : j = k
                  · rw [e]; exact hIk.out hty'.out hnot.out hut
                  · exact hR.out.1 j (by omega)
                clear hIk hIn hnot hB3 hR hut hK
                go_wp2_with (go_at_call 17; refine hK2.out.mono ?_; rintro e w' ⟨⟨m3, rfl⟩, rfl⟩)
                go_roundw
                case rel => exact ⟨k + 1, hlt'.out, by go_num, hfin⟩
                case measure => have := hlt'.out; simp [intOf]; omega
              · rw [if_neg hut] at hK2
                have hfin : Hid (SdQ w (OkP ps) (.returned (.bool false)) wr) := ⟨⟨false, rfl, fun h => (by cases h), fun h => (hut (hIn.out h).2.2).elim⟩, hB3.out⟩
                clear hIk hIn hnot hB3 hR hut hK
                go_wp2_with (go_at_call 17; refine hK2.out.mono ?_; rintro e w' ⟨⟨m3, rfl⟩, rfl⟩)
                go_ret
                exact hfin.out
        · rw [if_neg hty]
          have hfin : Hid (SdQ w (OkP ps) (.returned (.bool false)) W2) := ⟨⟨false, rfl, fun h => (by cases h), fun h => (hty (hIn.out h).1).elim⟩, hBw.out⟩
          clear hIk hIn hR hty hK hall hmem hBw
          go_wp2_with fail
          go_ret
          exact hfin.out
      · have e : n = k := by omega
        subst e
        have i1 : ¬ (n : Int) < (n : Int) := by omega
        have hfin : Hid (SdQ w (OkP ps) (.returned (.bool true)) wr) := ⟨⟨true, rfl, fun _ => ⟨by rw [hn'.out]; exact hlo.out.1, by rw [hn'.out]; exact hlo.out.2, fun i hi => hR.out.1 i (by rw [← hn'.out]; exact hi)⟩, fun _ => rfl⟩, hR.out.2⟩
        clear hR hk hlt
        go_wp2_with fail
        go_ret
        exact hfin.out
  · have hfin : Hid (SdQ w (OkP ps) (.returned (.bool false)) w) := ⟨⟨false, rfl, fun h => (by cases h), fun h => (hlen ⟨by rw [← hn]; exact h.1, by rw [← hn]; exact h.2.1⟩).elim⟩, Below.refl _ _⟩
    by_cases h1 : n < 1
    · have n1 : (n : Int) < 1 := by omega
      clear hn hr hz hnb hlen hr' hz' hn'
      go_enter Tryd.func10, Tryd.ntmps10
      go_wp2_with fail
      go_ret
      exact hfin.out
    · have n1 : ¬ (n : Int) < 1 := by omega
      have n8 : (8 : Int) < (n : Int) := by omega
      clear hn hr hz hnb hlen hr' hz' hn'
      go_enter Tryd.func10, Tryd.ntmps10
      go_wp2_with fail
      go_ret
      exact hfin.out
end Ke
end Go.Proofs.YtihjlcclaoofhaaDoor
