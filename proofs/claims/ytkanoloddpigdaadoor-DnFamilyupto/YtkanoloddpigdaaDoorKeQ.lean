import Derived.Test.YtkanoloddpigdaaDoorKeL
namespace Go.Proofs.YtkanoloddpigdaaDoor
namespace Ke
open Go.RowKit Go.Lib
open TextMath (fold lo normal check)
open Du (PRow DRow PX sd sd_len drow_at pV pV_len prow_at)
set_option linter.unusedVariables false
set_option linter.unusedSimpArgs false
set_option maxRecDepth 100000

/-- The sizes of a name. -/
def Szs (L : List PX) : Prop := (∀ r ∈ L, ∀ p ∈ r.2.2, p.1.length + p.2.length ≤ 1073741824) ∧ (∀ r ∈ L, r.2.2.length ≤ 1073741824) ∧ L.length ≤ 1073741824

set_option maxHeartbeats 4000000 in
theorem sound_any (sa : Option Addr) (sc n : Nat) (L : List PX) (w : World) (hn : L.length = n) (hr : DRow w sa L) (hz : Szs L) :
    Calls Tryd.prog 5 #[.slice sa n sc] w fun e w' => SdQ w (OkD (sd L)) e w' := by
  have nb : (n : Int) ≤ 1073741824 := by have := hz.2.2; omega
  have hn' : Hid (L.length = n) := hn
  have hr' : Hid (DRow w sa L) := hr
  have hz' : Hid (Szs L) := hz
  by_cases h64 : 64 < n
  · have n1 : (64 : Int) < (n : Int) := by omega
    have hfin : Hid (SdQ w (OkD (sd L)) (.returned (.bool false)) w) := ⟨⟨false, rfl, fun h => (by cases h), fun h => (by have := h.1; rw [sd_len] at this; omega)⟩, Below.refl _ _⟩
    clear hn hr hz hr' hz' hn'
    go_enter Tryd.func5, Tryd.ntmps5
    go_wp2_with fail
    go_ret
    exact hfin.out
  · have n1 : ¬ (64 : Int) < (n : Int) := by omega
    have h64' : Hid (n ≤ 64) := by unfold Hid; omega
    clear hn hr hz h64
    go_enter Tryd.func5, Tryd.ntmps5
    go_wp2_with fail
    go_loopw [3] (fun iv wr => ∃ (k : Nat), k ≤ n ∧ iv = .int .i64 (k : Int) ∧ Hid ((∀ j (h : j < L.length), j < k → OkP L[j].2.2) ∧ Below w.heap.size w wr)) (fun iv _ => n - (intOf iv).toNat)
    case atStart => exact ⟨0, Nat.zero_le _, rfl, fun j _ hj => by omega, Below.refl _ _⟩
    case round =>
      obtain ⟨k, hk, rfl, hR⟩ := hrel
      have k0 : (0 : Int) ≤ (k : Int) := Int.natCast_nonneg _
      by_cases hlt : k < n
      · have k1 : (k : Int) < (n : Int) := Int.ofNat_lt.2 hlt
        have hkL : k < L.length := by rw [hn'.out]; exact hlt
        have hRw := hr'.out.below hR.out.2
        obtain ⟨b, off, rfl, c1⟩ := drow_at hRw k hkL
        have hT : Hid (Calls Tryd.prog 12 #[.slice L[k].1 L[k].2.2.length L[k].2.1] wr fun e w' => SdQ wr (OkP L[k].2.2) e w') := soundPart_any _ _ _ _ wr rfl (hRw.2 _ (List.getElem_mem hkL)).1 (hz'.out.1 _ (List.getElem_mem hkL)) (hz'.out.2.1 _ (List.getElem_mem hkL))
        have hbad : Hid (¬ OkP L[k].2.2 → ¬ OkD (sd L)) := fun h hD => h (hD.2 _ (by rw [← sd_at L k hkL]; exact List.getElem_mem _))
        have hok : Hid (OkP L[k].2.2 → ∀ j (h : j < L.length), j < k + 1 → OkP L[j].2.2) := fun h j hj hjk => by
          by_cases e : j = k
          · subst e; exact h
          · exact hR.out.1 j hj (by omega)
        have hlt' : Hid (k < n) := hlt
        generalize L[k] = r at *
        obtain ⟨pa, pc, ps⟩ := r
        dsimp only at c1 hT hbad hok
        generalize ps.length = m at *
        clear hk hlt hkL hRw
        go_wp2_with fail
        refine hT.out.mono ?_
        rintro e W1 ⟨⟨bb, rfl, hbb⟩, hb1⟩
        have hB1 : Hid (Below w.heap.size w W1) := hR.out.2.trans (hb1.mono hR.out.2.size)
        cases bb with
        | true =>
          have hfin : Hid ((∀ j (h : j < L.length), j < k + 1 → OkP L[j].2.2) ∧ Below w.heap.size w W1) := ⟨hok.out (hbb.1 rfl), hB1.out⟩
          clear hbb hb1 hB1 hok hbad hR hT
          go_wp2_with fail
          go_roundw
          case rel => exact ⟨k + 1, hlt'.out, by go_num, hfin⟩
          case measure => have := hlt'.out; simp [intOf]; omega
        | false =>
          have hfin : Hid (SdQ w (OkD (sd L)) (.returned (.bool false)) W1) := ⟨⟨false, rfl, fun h => (by cases h), fun h => (hbad.out (fun q => by have := hbb.2 q; cases this) h).elim⟩, hB1.out⟩
          clear hbb hb1 hB1 hok hbad hR hT
          go_wp2_with fail
          go_ret
          exact hfin.out
      · have e : n = k := by omega
        subst e
        have i1 : ¬ (n : Int) < (n : Int) := by omega
        have hfin : Hid (SdQ w (OkD (sd L)) (.returned (.bool true)) wr) := by
          refine ⟨⟨true, rfl, fun _ => ⟨by rw [sd_len, hn'.out]; exact h64'.out, fun r hr => ?_⟩, fun _ => rfl⟩, hR.out.2⟩
          obtain ⟨j, hj, rfl⟩ := List.getElem_of_mem hr
          rw [sd_len] at hj
          rw [sd_at L j hj]
          exact hR.out.1 j hj (by rw [← hn'.out]; exact hj)
        clear hR hk hlt
        go_wp2_with fail
        go_ret
        exact hfin.out
theorem normal_ty (v : List UInt8) (w : World) (ht : v.length ≤ 1073741824) : Calls Tryd.prog 16 #[.string (S v)] w fun e w' => e = .returned (.string (S (normal v))) ∧ Below w.heap.size w w' := by
  have := normal_any (S v) w (by rw [S_size]; omega)
  rw [S_l] at this
  exact this

/-- Whether one of the first j pairs is found to be like it. -/
def Fnd (qs : List PR) (p : PR) (j : Nat) (fb : Bool) : Prop := fb = true ↔ ∃ i, ∃ h : i < qs.length, i < j ∧ cn qs[i] = cn p

set_option maxHeartbeats 4000000 in
theorem same_any (a b : Option Addr) (c d n m : Nat) (ps qs : List PR) (w : World) (hn : ps.length = n) (hm : qs.length = m) (hr : PRow w a ps) (hs : PRow w b qs) (hz : ∀ p ∈ ps, p.1.length + p.2.length ≤ 1073741824) (hy : ∀ p ∈ qs, p.1.length + p.2.length ≤ 1073741824) (hnb : n ≤ 1073741824) (hmb : m ≤ 1073741824) :
    Calls Tryd.prog 8 #[.slice a n c, .slice b m d] w fun e w' => SdQ w (Alike ps qs) e w' := by
  have nb : (n : Int) ≤ 1073741824 := by omega
  have mb : (m : Int) ≤ 1073741824 := by omega
  have hn' : Hid (ps.length = n) := hn
  have hm' : Hid (qs.length = m) := hm
  have hr' : Hid (PRow w a ps) := hr
  have hs' : Hid (PRow w b qs) := hs
  have hz' : Hid (∀ p ∈ ps, p.1.length + p.2.length ≤ 1073741824) := hz
  have hy' : Hid (∀ p ∈ qs, p.1.length + p.2.length ≤ 1073741824) := hy
  by_cases hnm : n = m
  · subst hnm
    clear hn hm hr hs hz hy hnb hmb mb
    go_enter Tryd.func8, Tryd.ntmps8
    go_wp2_with fail
    go_loopw [5] (fun iv wr => ∃ (k : Nat), k ≤ n ∧ iv = .int .i64 (k : Int) ∧ Hid ((∀ j (h : j < ps.length), j < k → ∃ q ∈ qs, cn q = cn ps[j]) ∧ Below w.heap.size w wr)) (fun iv _ => n - (intOf iv).toNat)
    case atStart => exact ⟨0, Nat.zero_le _, rfl, fun j _ hj => by omega, Below.refl _ _⟩
    case round =>
      obtain ⟨k, hk, rfl, hR⟩ := hrel
      have k0 : (0 : Int) ≤ (k : Int) := Int.natCast_nonneg _
      by_cases hlt : k < n
      · have k1 : (k : Int) < (n : Int) := Int.ofNat_lt.2 hlt
        have hkP : k < ps.length := by rw [hn'.out]; exact hlt
        obtain ⟨pb, po, rfl, c3, c4⟩ := prow_at (hr'.out.below pV_len hR.out.2) k hkP
        have hzk := hz'.out _ (List.getElem_mem hkP)
        have hnx : Hid ((∃ q ∈ qs, cn q = cn ps[k]) → ∀ j (h : j < ps.length), j < k + 1 → ∃ q ∈ qs, cn q = cn ps[j]) := fun h j hj hjk => by
          by_cases e : j = k
          · subst e; exact h
          · exact hR.out.1 j hj (by omega)
        have hno : Hid (Alike ps qs → ∃ q ∈ qs, cn q = cn ps[k]) := fun h => h.2 _ (List.getElem_mem hkP)
        generalize ps[k] = p at *
        obtain ⟨t, v⟩ := p
        dsimp only at c3 c4 hzk
        have hP : Hid (Calls Tryd.prog 15 #[.string (S t)] wr fun e w' => (∃ m : Nat, e = .returned (.tuple #[.string (S (tyC t)), .int .i64 (if tyOk t = true then 0 else 40), .int .i64 (m : Int)])) ∧ Below wr.heap.size wr w') := parse_ty t wr (by omega)
        have hN : Hid (∀ W, Calls Tryd.prog 16 #[.string (S v)] W fun e w' => e = .returned (.string (S (normal v))) ∧ Below W.heap.size W w') := fun W => normal_ty v W (by omega)
        have hlt' : Hid (k < n) := hlt
        generalize S t = st at *
        generalize S v = sv' at *
        generalize (if tyOk t = true then (0 : Int) else 40) = et at *
        clear hzk hlt hk hkP
        go_wp2_with fail
        refine hP.out.mono ?_
        rintro e W2 ⟨⟨m2, rfl⟩, hb2⟩
        have hBw : Hid (Below w.heap.size w W2) := hR.out.2.trans (hb2.mono hR.out.2.size)
        have d4 : W2.cell? ⟨pb, po + k * 2 + 1, none⟩ = some (.string sv') := (hb2.cell (World.block_lt_of_cell? _ _ c4)).trans c4
        have hN2 : Hid (Calls Tryd.prog 16 #[.string sv'] W2 fun e w' => e = .returned (.string (S (normal v))) ∧ Below W2.heap.size W2 w') := hN.out W2
        clear hb2 hP c3 c4 hN
        go_wp2_with fail
        refine hN2.out.mono ?_
        rintro e W3 ⟨rfl, hb3⟩
        have hB3 : Hid (Below w.heap.size w W3) := hBw.out.trans (hb3.mono hBw.out.size)
        clear hb3 hBw hN2 d4
        go_wp2_with fail
        go_loopw [10, 11] (fun fv jv wr => ∃ (j : Nat) (fb : Bool), j ≤ n ∧ jv = .int .i64 (j : Int) ∧ fv = .bool fb ∧ Hid (Fnd qs (t, v) j fb ∧ Below W3.heap.size W3 wr)) (fun _ jv _ => n - (intOf jv).toNat)
        case atStart => exact ⟨0, false, Nat.zero_le _, rfl, rfl, ⟨fun h => (by cases h), fun ⟨i, _, hi, _⟩ => by omega⟩, Below.refl _ _⟩
        case round =>
          obtain ⟨j, fb, hj, rfl, rfl, hQ⟩ := hrel
          have j0 : (0 : Int) ≤ (j : Int) := Int.natCast_nonneg _
          by_cases hjn : j < n
          · have j1 : (j : Int) < (n : Int) := Int.ofNat_lt.2 hjn
            have hjQ : j < qs.length := by rw [hm'.out]; exact hjn
            obtain ⟨qb, qo, rfl, c5, c6⟩ := prow_at ((hs'.out.below pV_len hB3.out).below pV_len hQ.out.2) j hjQ
            have hyj := hy'.out _ (List.getElem_mem hjQ)
            have hstep : Hid (∀ fb' : Bool, (fb' = true ↔ (fb = true ∨ cn qs[j] = cn (t, v))) → Fnd qs (t, v) (j + 1) fb') := fun fb' h => by
              unfold Fnd
              have hq := hQ.out.1
              unfold Fnd at hq
              rw [h, hq]
              constructor
              · rintro (⟨i, h1, h2, h3⟩ | h1)
                · exact ⟨i, h1, by omega, h3⟩
                · exact ⟨j, hjQ, by omega, h1⟩
              · rintro ⟨i, h1, h2, h3⟩
                by_cases e : i = j
                · subst e; exact Or.inr h3
                · exact Or.inl ⟨i, h1, by omega, h3⟩
            have hjn' : Hid (j < n) := hjn
            generalize qs[j] = q at *
            obtain ⟨t', v'⟩ := q
            dsimp only at c5 c6 hyj
            have hP : Hid (Calls Tryd.prog 15 #[.string (S t')] wr fun e w' => (∃ m : Nat, e = .returned (.tuple #[.string (S (tyC t')), .int .i64 (if tyOk t' = true then 0 else 40), .int .i64 (m : Int)])) ∧ Below wr.heap.size wr w') := parse_ty t' wr (by omega)
            have hN : Hid (∀ W, Calls Tryd.prog 16 #[.string (S v')] W fun e w' => e = .returned (.string (S (normal v'))) ∧ Below W.heap.size W w') := fun W => normal_ty v' W (by omega)
            have hce : Hid (cn (t', v') = cn (t, v) ↔ tyC t' = tyC t ∧ normal v' = normal v) := by unfold Hid cn; simp
            have s1 := str_dec (tyC t') (tyC t)
            have s2 := str_dec (normal v') (normal v)
            generalize S t' = st2 at *
            generalize S v' = sv2 at *
            generalize (if tyOk t' = true then (0 : Int) else 40) = et2 at *
            clear hyj hjn hj hjQ
            go_wp2_with fail
            refine hP.out.mono ?_
            rintro e W4 ⟨⟨m4, rfl⟩, hb4⟩
            have hB4 : Hid (Below W3.heap.size W3 W4) := hQ.out.2.trans (hb4.mono hQ.out.2.size)
            have d6 : W4.cell? ⟨qb, qo + j * 2 + 1, none⟩ = some (.string sv2) := (hb4.cell (World.block_lt_of_cell? _ _ c6)).trans c6
            have hN2 : Hid (Calls Tryd.prog 16 #[.string sv2] W4 fun e w' => e = .returned (.string (S (normal v'))) ∧ Below W4.heap.size W4 w') := hN.out W4
            clear hb4 hP c5 c6 hN
            go_wp2_with fail
            refine hN2.out.mono ?_
            rintro e W5 ⟨rfl, hb5⟩
            have hB5 : Hid (Below W3.heap.size W3 W5) := hB4.out.trans (hb5.mono hB4.out.size)
            clear hb5 hB4 hN2 d6 hQ
            cases fb with
            | true =>
              have hfin : Hid (Fnd qs (t, v) (j + 1) true ∧ Below W3.heap.size W3 W5) := ⟨hstep.out true (by simp), hB5.out⟩
              clear hstep hB5 hce s1 s2
              go_wp2_with fail
              go_roundw
              case rel => exact ⟨j + 1, true, hjn'.out, by go_num, rfl, hfin⟩
              case measure => have := hjn'.out; simp [intOf]; omega
            | false =>
              by_cases e1 : tyC t' = tyC t
              · rw [decide_eq_true e1] at s1
                by_cases e2 : normal v' = normal v
                · rw [decide_eq_true e2] at s2
                  have hfin : Hid (Fnd qs (t, v) (j + 1) true ∧ Below W3.heap.size W3 W5) := ⟨hstep.out true ⟨fun _ => Or.inr (hce.out.2 ⟨e1, e2⟩), fun _ => rfl⟩, hB5.out⟩
                  clear hstep hB5 hce e1 e2
                  go_wp2_with fail
                  go_roundw
                  case rel => exact ⟨j + 1, true, hjn'.out, by go_num, rfl, hfin⟩
                  case measure => have := hjn'.out; simp [intOf]; omega
                · rw [decide_eq_false e2] at s2
                  have hfin : Hid (Fnd qs (t, v) (j + 1) false ∧ Below W3.heap.size W3 W5) := ⟨hstep.out false ⟨fun h => (by cases h), fun h => (h.elim (fun h => (by cases h)) (fun h => (e2 (hce.out.1 h).2).elim))⟩, hB5.out⟩
                  clear hstep hB5 hce e1 e2
                  go_wp2_with fail
                  go_roundw
                  case rel => exact ⟨j + 1, false, hjn'.out, by go_num, rfl, hfin⟩
                  case measure => have := hjn'.out; simp [intOf]; omega
              · rw [decide_eq_false e1] at s1
                have hfin : Hid (Fnd qs (t, v) (j + 1) false ∧ Below W3.heap.size W3 W5) := ⟨hstep.out false ⟨fun h => (by cases h), fun h => (h.elim (fun h => (by cases h)) (fun h => (e1 (hce.out.1 h).1).elim))⟩, hB5.out⟩
                clear hstep hB5 hce e1 s2
                go_wp2_with fail
                go_roundw
                case rel => exact ⟨j + 1, false, hjn'.out, by go_num, rfl, hfin⟩
                case measure => have := hjn'.out; simp [intOf]; omega
          · have e : n = j := by omega
            subst e
            have j1 : ¬ (n : Int) < (n : Int) := by omega
            have hB5 : Hid (Below w.heap.size w wr) := hB3.out.trans (hQ.out.2.mono hB3.out.size)
            have hex : Hid (fb = true ↔ ∃ q ∈ qs, cn q = cn (t, v)) := by
              unfold Hid
              have hq := hQ.out.1
              unfold Fnd at hq
              rw [hq]
              constructor
              · rintro ⟨i, h1, h2, h3⟩; exact ⟨_, List.getElem_mem h1, h3⟩
              · rintro ⟨q, hq, h3⟩
                obtain ⟨i, hi, rfl⟩ := List.getElem_of_mem hq
                exact ⟨i, hi, by rw [← hm'.out]; exact hi, h3⟩
            clear hQ hj hjn
            cases fb with
            | true =>
              have hfin : Hid ((∀ j (h : j < ps.length), j < k + 1 → ∃ q ∈ qs, cn q = cn ps[j]) ∧ Below w.heap.size w wr) := ⟨hnx.out (hex.out.1 rfl), hB5.out⟩
              clear hex hB5 hnx hno hR hB3
              go_wp2_with fail
              go_roundw
              case rel => exact ⟨k + 1, hlt'.out, by go_num, hfin⟩
              case measure => have := hlt'.out; simp [intOf]; omega
            | false =>
              have hfin : Hid (SdQ w (Alike ps qs) (.returned (.bool false)) wr) := ⟨⟨false, rfl, fun h => (by cases h), fun h => (by have := hex.out.2 (hno.out h); cases this)⟩, hB5.out⟩
              clear hex hB5 hnx hno hR hB3
              go_wp2_with fail
              go_ret
              exact hfin.out
      · have e : n = k := by omega
        subst e
        have i1 : ¬ (n : Int) < (n : Int) := by omega
        have hfin : Hid (SdQ w (Alike ps qs) (.returned (.bool true)) wr) := by
          refine ⟨⟨true, rfl, fun _ => ⟨by rw [hn'.out, hm'.out], fun p hp => ?_⟩, fun _ => rfl⟩, hR.out.2⟩
          obtain ⟨j, hj, rfl⟩ := List.getElem_of_mem hp
          exact hR.out.1 j hj (by rw [← hn'.out]; exact hj)
        clear hR hk hlt
        go_wp2_with fail
        go_ret
        exact hfin.out
  · have hfin : Hid (SdQ w (Alike ps qs) (.returned (.bool false)) w) := ⟨⟨false, rfl, fun h => (by cases h), fun h => (hnm (by rw [← hn, ← hm]; exact h.1)).elim⟩, Below.refl _ _⟩
    have h1 : ¬ ((n : Int) = (m : Int)) := by omega
    have h2 : ((n : Int) == (m : Int)) = false := by simpa using h1
    clear hn hm hr hs hz hy hr' hs' hz' hy' hn' hm' hnm
    go_enter Tryd.func8, Tryd.ntmps8
    go_wp2_with fail
    go_ret
    exact hfin.out
end Ke
end Go.Proofs.YtkanoloddpigdaaDoor
