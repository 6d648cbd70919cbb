import Derived.Test.YtkknenmpdimdbaaGreatDoorFZ14
import Derived.Test.YtkknenmpdimdbaaGreatDoorFZ13
import Derived.Test.YtkknenmpdimdbaaGreatDoorFZ48
import Derived.Test.YtkknenmpdimdbaaGreatDoorFZ33
import Derived.Test.YtkknenmpdimdbaaGreatDoorFZ46
import Derived.Test.YtkknenmpdimdbaaGreatDoorFZ49
import Derived.Test.YtkknenmpdimdbaaGreatDoorFZ26
import Derived.Test.YtkknenmpdimdbaaGreatDoorPdJ
import Derived.Test.YtkknenmpdimdbaaGreatDoorPeN
namespace Go.Proofs.YtkknenmpdimdbaaGreatDoor
namespace Ke
open Go.RowKit Go.Lib
open TextMath (fold lo normal check)
open Du (PRow DRow PX sd sd_len drow_at pV pV_len prow_at)
set_option linter.unusedVariables false
set_option linter.unusedSimpArgs false
set_option maxRecDepth 100000

end Ke
end Go.Proofs.YtkknenmpdimdbaaGreatDoor

namespace Go.Proofs.YtkknenmpdimdbaaGreatDoor
namespace Ke
open Go.RowKit Go.Lib
open TextMath (fold lo normal check)
open Du (PRow DRow PX sd sd_len drow_at pV pV_len prow_at)
set_option linter.unusedVariables false
set_option linter.unusedSimpArgs false
set_option maxRecDepth 100000

end Ke
end Go.Proofs.YtkknenmpdimdbaaGreatDoor

namespace Go.Proofs.YtkknenmpdimdbaaGreatDoor
namespace Pa
open Go.RowKit
open TextMath (fold lo normal check wo unhex)
open Ke (refV tyOk tyC utf PR OkD OkP KeyQ keys ErrsG)
open Du (PX DRow PRow GRow sd sd_len pV xV pV_len xV_len sameDN_any)
set_option linter.unusedVariables false
set_option linter.unusedSimpArgs false
set_option maxRecDepth 100000

/-- What Parse answers of any text. -/
theorem parse_all (ev : Nat → TypeId × Value) (t : List UInt8) (w : World) (R : DRs) (hs : t.length ≤ 140737488355328) (hE : EvA ev w) (hR : prs hxO t = some R) :
    Calls Tryz.prog 10 #[.string (S t)] w fun e w' => PsQ ev t.length w R e w' := by
  by_cases hl : 4096 < t.length
  · refine parse_any (fun _ => none) ev t w R hs hE (fun b r R' p W h => by cases h) ?_
    unfold prs at hR ⊢
    rw [if_pos hl] at hR ⊢
    exact hR
  · exact parse_any hxO ev t w R hs hE (fun b => hexValue_any ev (S t) b (by rw [S_size]; omega)) hR
end Pa
end Go.Proofs.YtkknenmpdimdbaaGreatDoor

namespace Go.Proofs.YtkknenmpdimdbaaGreatDoor
namespace Pa
open Go.RowKit
open TextMath (fold lo normal check wo unhex)
open Ke (refV tyOk tyC utf PR Sen ErrT lfault_all lfault_none)
open Du (PX DRow PRow GRow sd sd_len pV xV pV_len xV_len sameDN_any)
set_option linter.unusedVariables false
set_option linter.unusedSimpArgs false
set_option maxRecDepth 100000

/-- The reasons by the addresses that their variables hold. -/
def evP (ad : Nat → Addr) (k : Nat) : TypeId × Value := (256, .pointer (some (ad k)))
theorem evP_ok {ad : Nat → Addr} {W : World} (h : Sen ad W) : EvA (evP ad) W := fun x hx => (h.1 x hx).1
theorem errT_below {W W' : World} (h : ErrT W) (hb : Below W.heap.size W W') : ErrT W' := (hb.cell (World.block_lt_of_cell? _ _ h)).trans h
theorem same_nil (w : World) : Calls Tryz.prog 11 #[.slice none 0 0, .slice none 0 0] w fun e w' => e = .returned (.bool true) ∧ ∃ q, w' = w.drewN q :=
  sameDN_any none none 0 0 [] [] 0 w rfl rfl (by decide) ⟨GRow.nil _ _ _ _, fun r hr => by cases hr⟩ ⟨GRow.nil _ _ _ _, fun r hr => by cases hr⟩ rfl (fun r hr => by cases hr)
set_option maxHeartbeats 8000000 in
theorem dnParse_walk (ad : Nat → Addr) (t : List UInt8) (w : World) (ht : t.length ≤ 140737488355328) (hS : Sen ad w) (hE : ErrT w) (hG : RowTab w) :
    Calls Tryz.prog 4 #[.string (S t)] w fun e w' => e = .returned (.bool true) ∧ Below w.heap.size w w' := by
  obtain ⟨R, hR⟩ := prs_total t
  have hR' : Hid (prs hxO t = some R) := hR
  have hP : Hid (Calls Tryz.prog 10 #[.string (S t)] w fun e w' => PsQ (evP ad) t.length w R e w') := parse_all (evP ad) t w R ht (evP_ok hS) hR
  have hQ : ∀ W, Below w.heap.size w W → Hid (Calls Tryz.prog 16 #[.string (S t)] W fun e w' => PrQ5 t.length W R e w') := fun W hb => rparse_any t W R ht (rowTab_below hG hb) hR
  have hS' : Hid (Sen ad w ∧ ErrT w) := ⟨hS, hE⟩
  generalize S t = st at *
  obtain ⟨n, hn⟩ : ∃ n, t.length = n := ⟨_, rfl⟩
  rw [hn] at hP hQ
  clear ht hS hE hG hR hn
  go_enter Tryz.func4, Tryz.ntmps4
  go_wp2_with fail
  refine hP.out.mono ?_
  rintro e w1 ⟨hb1, h1⟩
  have hQ1 := hQ w1 hb1
  have hb1' : Hid (Below w.heap.size w w1) := hb1
  rcases h1 with ⟨D, va, c, Ls, h1, rfl, hd, hsd⟩ | ⟨k, m, h1, rfl⟩
  · have h1' : Hid (R = .ok D ∧ DRow w1 va Ls ∧ sd Ls = D) := ⟨h1, hd, hsd⟩
    obtain ⟨l, hl⟩ : ∃ l, D.length = l := ⟨_, rfl⟩
    have hl' : Hid (D.length = l) := hl
    rw [hl]
    clear hP hQ hb1 h1 hd hsd hl
    go_wp2_with fail
    refine hQ1.out.mono ?_
    rintro e w2 ⟨hb2, ⟨D2, va2, c2, L2, h2, rfl, hd2, hsd2, h64, hz⟩ | ⟨k, m, h2, rfl⟩⟩
    · obtain ⟨q1, q2, q3⟩ := h1'.out
      have hD : D2 = D := by rw [h2] at q1; injection q1
      subst hD
      have hll := hl'.out
      have hSm : Hid (Calls Tryz.prog 11 #[.slice va l c, .slice va2 l c2] w2 fun e w' => e = .returned (.bool true) ∧ ∃ q, w' = w2.drewN q) :=
        sameDN_any va va2 c c2 Ls L2 l w2 (by rw [← sd_len, q3, hll]) (by rw [← sd_len, hsd2, hll]) (by omega) (q2.below hb2) hd2 (by rw [q3, hsd2]) (fun r hr => by
          have := (hz r.2.2 (by rw [← q3]; exact List.mem_map.2 ⟨r, hr, rfl⟩)).1
          omega)
      have hb2' : Hid (Below w.heap.size w w2) := hb1'.out.trans (hb2.mono hb1'.out.size)
      rw [hll]
      clear hQ1 hb2 h2 hd2 hsd2 h64 hz q1 q2 q3 hll hl' h1' hb1'
      go_wp2_with fail
      refine hSm.out.mono ?_
      rintro e w3 ⟨rfl, q, rfl⟩
      have hF : Hid (Calls Tryz.prog 17 #[.nilIface, .int .i64 0, .int .i64 0] (w2.drewN q) fun e w' => e = .returned (.bool true) ∧ Below (w2.drewN q).heap.size (w2.drewN q) w') := lfault_none _
      clear hSm
      go_wp2_with fail
      refine hF.out.mono ?_
      rintro e w4 ⟨rfl, hb4⟩
      have hfin : Hid (Below w.heap.size w w4) := (hb2'.out.trans (Du.drewN_below _ _ _)).trans (hb4.mono hb2'.out.size)
      clear hF hb4
      go_wp2_with fail
      go_ret
      exact ⟨rfl, hfin.out⟩
    · have := h1'.out.1
      rw [h2] at this
      cases this
  · have h1' : Hid (R = .error (k, m)) := h1
    obtain ⟨x, hx⟩ : ∃ x, refV (evP ad) k ((n - m : Nat) : Int) = x := ⟨_, rfl⟩
    have hx' : Hid (refV (evP ad) k ((n - m : Nat) : Int) = x) := hx
    rw [hx]
    clear hP hQ hb1 h1 hx
    go_wp2_with fail
    refine hQ1.out.mono ?_
    rintro e w2 ⟨hb2, ⟨D2, va2, c2, L2, h2, rfl, hd2, hsd2, h64, hz⟩ | ⟨k2, m2, h2, rfl⟩⟩
    · have := h1'.out
      rw [h2] at this
      cases this
    · have q1 := h1'.out
      rw [h2] at q1
      injection q1 with q1
      injection q1 with q1 q2
      subst q1 q2
      have hcd : 50 ≤ k2 ∧ k2 ≤ 59 := by
        have := prs_code (by rw [hR'.out, h2])
        omega
      have hSm : Hid (Calls Tryz.prog 11 #[.slice none 0 0, .slice none 0 0] w2 fun e w' => e = .returned (.bool true) ∧ ∃ q, w' = w2.drewN q) := same_nil w2
      have hb2' : Hid (Below w.heap.size w w2) := hb1'.out.trans (hb2.mono hb1'.out.size)
      have hF : ∀ q, Hid (Calls Tryz.prog 17 #[x, .int .i64 (k2 : Int), .int .i64 ((n - m2 : Nat) : Int)] (w2.drewN q) fun e w' => e = .returned (.bool true) ∧ Below (w2.drewN q).heap.size (w2.drewN q) w') := fun q => by
        have hbq := hb2'.out.trans (Du.drewN_below w2 w.heap.size q)
        have := lfault_all ad k2 ((n - m2 : Nat) : Int) (w2.drewN q) (hS'.out.1.below hbq) (errT_below hS'.out.2 hbq) hcd
        rw [← hx'.out]
        exact this
      generalize ((n - m2 : Nat) : Int) = pl at *
      generalize (k2 : Int) = kk at *
      clear hQ1 hb2 h2 hcd hb1' h1'
      go_wp2_with fail
      refine hSm.out.mono ?_
      rintro e w3 ⟨rfl, q, rfl⟩
      have hFq := hF q
      clear hSm hF
      go_wp2_with fail
      refine hFq.out.mono ?_
      rintro e w4 ⟨rfl, hb4⟩
      have hfin : Hid (Below w.heap.size w w4) := (hb2'.out.trans (Du.drewN_below _ _ _)).trans (hb4.mono hb2'.out.size)
      clear hFq hb4
      go_wp2_with fail
      go_ret
      exact ⟨rfl, hfin.out⟩
end Pa
end Go.Proofs.YtkknenmpdimdbaaGreatDoor
