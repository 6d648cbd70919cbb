import Derived.Test.YtkknenmpdimdbaaGreatDoorQW
import Derived.Test.YtkknenmpdimdbaaGreatDoorQZ
import Derived.Test.YtkknenmpdimdbaaGreatDoorPbK
import Derived.Test.YtkknenmpdimdbaaGreatDoorQH
namespace Go.Proofs.YtkknenmpdimdbaaGreatDoor
namespace Pa
open Go.RowKit
open Ke (refV tyOk tyC utf PR OkD OkP KeyQ keys Szs szs_of SdQ sound_any cp_row dW ptW rW)
open Du (PX DRow PRow GRow sd sd_len sameDN_any CpQ copyDN_any)
open Bl (NRw)
set_option linter.unusedVariables false
set_option linter.unusedSimpArgs false
set_option maxRecDepth 100000

/-- What the walk asks of the name. -/
def Sz7 (L : List PX) : Prop := Szs L ∧ dW (sd L) ≤ 3145728 ∧ (∀ r ∈ L, ∀ p ∈ r.2.2, p.2.length ≤ 1048576) ∧ L.length ≤ 1048576
theorem small_of {L : List PX} (h : Szs L) : SmD (sd L) := by
  refine ⟨fun r hr => ?_, fun r hr => ?_, by rw [sd_len]; exact h.2.2⟩
  · obtain ⟨x, hx, rfl⟩ := List.mem_map.1 hr
    exact h.1 x hx
  · obtain ⟨x, hx, rfl⟩ := List.mem_map.1 hr
    exact h.2.1 x hx
theorem long_prs {t : List UInt8} (h : 4096 < t.length) : prs hxO t = some (.error (50, t.length - 4096)) := by
  unfold prs
  rw [if_pos h]
set_option maxHeartbeats 8000000 in
theorem dnSpelt_walk (ev : Nat → TypeId × Value) (sa : Option Addr) (sc n : Nat) (L : List PX) (ha : Option Addr) (hk hc : Nat) (w : World) (hE : EvA ev w) (hn : L.length = n) (hr : DRow w sa L) (hz : Sz7 L) (hnr : NRw w ha hk) (hnb : hk ≤ 1073741824) :
    Calls Tryz.prog 3 #[.slice sa n sc, .slice ha hk hc] w fun e w' => e = .returned (.bool true) ∧ Below w.heap.size w w' := by
  have nb : (n : Int) ≤ 1073741824 := by have := hz.1.2.2; omega
  have hW : Hid (Calls Tryz.prog 7 #[] w fun e w' => e = .returned (.bool true) ∧ Below w.heap.size w w') := works_any ev w hE
  have h' : Hid (L.length = n ∧ DRow w sa L ∧ EvA ev w ∧ Sz7 L ∧ NRw w ha hk ∧ hk ≤ 1073741824) := ⟨hn, hr, hE, hz, hnr, hnb⟩
  clear hE hn hr hz hnr hnb
  go_enter Tryz.func3, Tryz.ntmps3
  go_wp2_with fail
  refine hW.out.mono ?_
  rintro e W0 ⟨rfl, hb0⟩
  have hSd : Hid (Calls Tryz.prog 8 #[.slice sa n sc] W0 fun e w' => SdQ W0 (OkD (sd L)) e w') := sound_any sa sc n L W0 h'.out.1 (h'.out.2.1.below hb0) h'.out.2.2.2.1.1
  have hb0' : Hid (Below w.heap.size w W0) := hb0
  clear hW hb0
  go_wp2_with fail
  refine hSd.out.mono ?_
  rintro e W1 ⟨⟨g, rfl, hg⟩, hb1⟩
  have hb1' : Hid (Below w.heap.size w W1) := hb0'.out.trans (hb1.mono hb0'.out.size)
  have hg' : Hid (g = true ↔ OkD (sd L)) := hg
  clear hSd hg hb1 hb0'
  cases g with
  | false =>
    have hfin : Hid (Below w.heap.size w W1) := hb1'.out
    clear hg' hb1'
    go_wp2_with fail
    go_ret
    exact ⟨rfl, hfin.out⟩
  | true =>
    by_cases hn0 : n = 0
    · have hfin : Hid (Below w.heap.size w W1) := hb1'.out
      have gn : ((n : Int) == 0) = true := by rw [hn0]; rfl
      clear hg' hb1' hn0
      go_wp2_with fail
      go_ret
      exact ⟨rfl, hfin.out⟩
    · have gn : ((n : Int) == 0) = false := by rw [beq_eq_false_iff_ne]; omega
      have hok : Hid (OkD (sd L) ∧ sd L ≠ []) := ⟨hg'.out.1 rfl, fun e => hn0 (by have := h'.out.1; rw [← this, ← sd_len L, e]; rfl)⟩
      obtain ⟨W2, hW2⟩ : ∃ W2, W1.alloc (.cells #[.slice ha hk hc, .int .i64 0] 29) = W2 := ⟨_, rfl⟩
      have hPk : PkN W1 ha hk hc 0 W2 := ⟨by rw [← hW2]; exact (Below.refl _ _).alloc (Nat.le_refl _) _, by rw [← hW2]; exact heap_alloc_last W1 _⟩
      have hSl : Hid (Calls Tryz.prog 9 #[.pointer (some ⟨W1.heap.size, 0, none⟩), .slice sa n sc] W2 fun e w' => SlQ W1 ha hk hc (sd L) e w') :=
        spelt_any sa sc n L hPk (nrw_below h'.out.2.2.2.2.1 hb1'.out) h'.out.2.2.2.2.2 h'.out.1 (h'.out.2.1.below hb1'.out) h'.out.2.2.2.1.2.1 (by have := h'.out.2.2.2.1.2.2.2; have := h'.out.1; omega) hok.out.1 h'.out.2.2.2.1.2.2.1
      clear hPk hn0 hg'
      go_wp2_with fail
      refine hSl.out.mono ?_
      rintro e W3 ⟨TT, J, rfl, hsp, hxl, hP3⟩
      have hb3 : Hid (Below w.heap.size w W3) := hb1'.out.trans (hP3.1.mono hb1'.out.size)
      have hsp' : Hid (SpD (sd L) TT) := hsp
      obtain ⟨t, ht⟩ : ∃ t, nameT TT = t := ⟨_, rfl⟩
      have ht' : Hid (nameT TT = t) := ht
      rw [ht] at hxl ⊢
      have htb : t.length ≤ 1073741824 := by have := h'.out.2.2.2.1.2.1; omega
      have hXs : (S t).size = t.length := S_size t
      have hX0 : (0 : Int) ≤ ((S t).size : Int) := Int.natCast_nonneg _
      have hXb : ((S t).size : Int) ≤ 1073741824 := by omega
      clear hSl hsp hxl hP3 hb1' ht hW2
      by_cases hlong : 4096 < t.length
      · have hl1 : (4096 : Int) < ((S t).size : Int) := by omega
        have hP : Hid (Calls Tryz.prog 10 #[.string (S t)] W3 fun e w' => PsQ ev t.length W3 (.error (50, t.length - 4096)) e w') := parse_all ev t W3 _ htb (h'.out.2.2.1.below hb3.out) (long_prs hlong)
        generalize S t = X at *
        generalize t.length = tl at *
        clear hXs htb hlong
        go_wp2_with fail
        refine hP.out.mono ?_
        rintro e W4 ⟨hb4, ⟨D, va, c, Ls, h1, _⟩ | ⟨k, m, h1, rfl⟩⟩
        · cases h1
        · have hfin : Hid (Below w.heap.size w W4) := hb3.out.trans (hb4.mono hb3.out.size)
          obtain ⟨tt, u, hrv⟩ : ∃ t u, refV ev k ((tl - m : Nat) : Int) = .iface t u := ⟨_, _, rfl⟩
          rw [hrv]
          clear hP hb4 h1 hrv hb3
          go_wp2_with fail
          go_ret
          exact ⟨rfl, hfin.out⟩
      · have hl1 : ¬ (4096 : Int) < ((S t).size : Int) := by omega
        have hpr : prs hxO t = some (.ok (sd L)) := by
          rw [← ht'.out]
          exact prs_spelt (sd L) TT hok.out.1 hok.out.2 hsp'.out (by rw [ht'.out]; omega)
        have hP : Hid (∀ W, Below w.heap.size w W → Calls Tryz.prog 10 #[.string (S t)] W fun e w' => PsQ ev t.length W (.ok (sd L)) e w') := fun W hb => parse_all ev t W _ htb (h'.out.2.2.1.below hb) hpr
        have hK : Hid (∀ W, Below w.heap.size w W → Calls Tryz.prog 12 #[.string (S t)] W fun e w' => KoQ ev t.length W (.ok (sd L)) e w') := fun W hb => keyOf_any ev t W _ htb (h'.out.2.2.1.below hb) hpr (fun D h => by injection h with h; subst h; exact small_of h'.out.2.2.2.1.1)
        have hln : Hid ((sd L).length = n) := by unfold Hid; rw [sd_len]; exact h'.out.1
        have hP3 : Hid (Calls Tryz.prog 10 #[.string (S t)] W3 fun e w' => PsQ ev t.length W3 (.ok (sd L)) e w') := hP.out W3 hb3.out
        generalize S t = X at *
        generalize t.length = tl at *
        clear hXs htb hlong hpr hP ht' hsp'
        go_wp2_with fail
        refine hP3.out.mono ?_
        rintro e W4 ⟨hb4, ⟨D, va, c, Ls, h1, rfl, hd4, hsd4⟩ | ⟨k, m, h1, _⟩⟩
        · injection h1 with h1
          subst h1
          have hb4' : Hid (Below w.heap.size w W4) := hb3.out.trans (hb4.mono hb3.out.size)
          have hS : Hid (Calls Tryz.prog 11 #[.slice va n c, .slice sa n sc] W4 fun e w' => e = .returned (.bool true) ∧ ∃ q, w' = W4.drewN q) :=
            sameDN_any va sa c sc Ls L n W4 (by rw [← sd_len, hsd4]; exact hln.out) h'.out.1 (by have := h'.out.2.2.2.1.2.2.2; have := h'.out.1; omega) hd4 (h'.out.2.1.below hb4'.out) hsd4 (fun r hr => by have := (szs_of h'.out.2.2.2.1.1 hsd4).2.1 r hr; omega)
          rw [hln.out]
          clear hP3 hb4 hd4 hsd4 hb3
          go_wp2_with fail
          refine hS.out.mono ?_
          rintro e W5 ⟨rfl, q, hq⟩
          have hb5 : Hid (Below w.heap.size w W5) := by unfold Hid; rw [hq]; exact hb4'.out.trans (Du.drewN_below _ _ _)
          have hK5 : Hid (Calls Tryz.prog 12 #[.string X] W5 fun e w' => KoQ ev tl W5 (.ok (sd L)) e w') := hK.out W5 hb5.out
          clear hS hq hb4' hK
          go_wp2_with fail
          refine hK5.out.mono ?_
          rintro e W6 ⟨hb6, ⟨D, h1, w1, hbw, hkq⟩ | ⟨k, m, h1, _⟩⟩
          · injection h1 with h1
            subst h1
            have hb6' : Hid (Below w.heap.size w W6) := hb5.out.trans (hb6.mono hb5.out.size)
            rcases hkq.2 with ⟨_, ka, kc, rfl, hok6⟩ | ⟨hno, _⟩
            · have hrk : Hid (Row W6 ka (keys (sd L))) := (ownS_row hok6).1
              have hCp : Hid (Calls Tryz.prog 14 #[.slice sa n sc] W6 fun e w1 => ∃ a c Os, e = .returned (.slice a n c) ∧ CpQ W6 L n a c Os w1) := (copyDN_any sa sc L n W6 h'.out.1 (h'.out.2.1.below hb6'.out) (fun r hr => by have := h'.out.2.2.2.1.1.2.1 r hr; omega) (by have := h'.out.2.2.2.1.2.2.2; have := h'.out.1; omega)).mono (fun e w' h => by obtain ⟨a, c, Os, h1, h2⟩ := h; exact ⟨a, c, Os, h1, h2⟩)
              rw [hln.out]
              clear hK5 hb6 hkq hok6 hbw hb5
              go_wp2_with fail
              refine hCp.out.mono ?_
              rintro e W7 ⟨a, c7, Os, rfl, hQ⟩
              have hcp := cp_row hQ h'.out.1
              have hb7 : Hid (Below W6.heap.size W6 W7 ∧ Below w.heap.size w W7) := ⟨hcp.2.2.2, hb6'.out.trans (hcp.2.2.2.mono hb6'.out.size)⟩
              have hKy : Hid (Calls Tryz.prog 13 #[.slice a n c7] W7 fun e w' => KeyQ W7 (sd L) n e w') := by
                have hz := szs_of h'.out.2.2.2.1.1 hcp.2.1
                have h := Ke.key_any a c7 n Os W7 ((evG h'.out.2.2.1).below hb7.out.2) hcp.2.2.1 hcp.1 hz.1 hz.2.1 (by have := h'.out.2.2.2.1.2.2.2; have := h'.out.1; omega)
                rw [hcp.2.1] at h
                exact h
              clear hCp hQ hcp
              go_wp2_with fail
              refine hKy.out.mono ?_
              rintro e W8 ⟨hb8, hk8⟩
              have hb8' : Hid (Below w.heap.size w W8) := hb7.out.2.trans (hb8.mono hb7.out.2.size)
              rcases hk8 with ⟨_, la, lc, rfl, hlo⟩ | ⟨hno, _⟩
              · have hkl : (keys (sd L)).length = n := by unfold keys; rw [List.length_reverse, List.length_map]; exact hln.out
                have hT : Hid (Calls Tryz.prog 15 #[.slice ka n kc, .slice la n lc] W8 fun e w' => e = .returned (.bool true) ∧ ∃ q, w' = W8.drewN q) := by
                  have h := sameTexts_any (keys (sd L)) (keys (sd L)) ka la kc lc W8 (by omega) (by omega) ((hrk.out.below hb7.out.1).below hb8) (ownS_row hlo).1
                  rw [hkl, decide_eq_true rfl] at h
                  exact h
                clear hKy hb8 hlo hkl hb7 hb6' hrk
                go_wp2_with fail
                refine hT.out.mono ?_
                rintro e W9 ⟨rfl, q, rfl⟩
                clear hT
                go_wp2_with fail
                go_ret
                exact ⟨rfl, hb8'.out.trans (Du.drewN_below _ _ _)⟩
              · exact (hno hok.out.1).elim
            · exact (hno hok.out.1).elim
          · cases h1
        · cases h1
end Pa
end Go.Proofs.YtkknenmpdimdbaaGreatDoor
