import Derived.Test.YtkknenmpdimdbaaGreatDoorFW12
import Derived.Test.YtkknenmpdimdbaaGreatDoorFW10
import Derived.Test.YtkknenmpdimdbaaGreatDoorFW43
import Derived.Test.YtkknenmpdimdbaaGreatDoorFW31
import Derived.Test.YtkknenmpdimdbaaGreatDoorFW41
import Derived.Test.YtkknenmpdimdbaaGreatDoorKeY
import Derived.Test.YtkknenmpdimdbaaGreatDoorFW24
import Derived.Test.YtkknenmpdimdbaaGreatDoorFW25
import Derived.Test.YtkknenmpdimdbaaGreatDoorPdJ
import Derived.Test.YtkknenmpdimdbaaGreatDoorFW4
import Derived.Test.YtkknenmpdimdbaaGreatDoorFW19
import Derived.Test.YtkknenmpdimdbaaGreatDoorFW15
namespace Go.Proofs.YtkknenmpdimdbaaGreatDoor
namespace Ke
open Go.RowKit Go.Lib
open TextMath (fold lo normal check)
open Du (PRow DRow PX sd sd_len drow_at pV pV_len prow_at)
set_option linter.unusedVariables false
set_option linter.unusedSimpArgs false
set_option maxRecDepth 100000
end Ke
end Go.Proofs.YtkknenmpdimdbaaGreatDoor

namespace Go.Proofs.YtkknenmpdimdbaaGreatDoor
namespace Ke
open Go.RowKit Go.Lib
open TextMath (fold lo normal check)
open Du (PRow DRow PX sd sd_len drow_at pV pV_len prow_at)
set_option linter.unusedVariables false
set_option linter.unusedSimpArgs false
set_option maxRecDepth 100000
end Ke
end Go.Proofs.YtkknenmpdimdbaaGreatDoor

namespace Go.Proofs.YtkknenmpdimdbaaGreatDoor
namespace Pa
open Go.RowKit
open TextMath (fold lo normal check wo unhex)
open Ke (refV tyOk tyC utf PR OkD OkP KeyQ keys ErrsG)
open Du (PX DRow PRow GRow sd sd_len pV xV pV_len xV_len sameDN_any)
set_option linter.unusedVariables false
set_option linter.unusedSimpArgs false
set_option maxRecDepth 100000
theorem parse_all (ev : Nat → TypeId × Value) (t : List UInt8) (w : World) (R : DRs) (hs : t.length ≤ 140737488355328) (hE : EvA ev w) (hR : prs hxO t = some R) :
  Calls Tryz.prog 10 #[.string (S t)] w fun e w' => PsQ ev t.length w R e w' := by
 by_cases hl : 4096 < t.length
 ·refine parse_any (fun _ => none) ev t w R hs hE (fun b r R' p W h => by cases h) ?_
  unfold prs at hR ⊢
  rw [if_pos hl] at hR ⊢
  exact hR
 ·exact parse_any hxO ev t w R hs hE (fun b => hexValue_any ev (S t) b (by rw [S_size]; omega)) hR
end Pa
end Go.Proofs.YtkknenmpdimdbaaGreatDoor

namespace Go.Proofs.YtkknenmpdimdbaaGreatDoor
namespace Pa
open Go.RowKit
open TextMath (fold lo normal check wo unhex)
open Ke (refV tyOk tyC utf PR Sen ErrT lfault_all lfault_none)
open Du (PX DRow PRow GRow sd sd_len pV xV pV_len xV_len sameDN_any)
set_option linter.unusedVariables false
set_option linter.unusedSimpArgs false
set_option maxRecDepth 100000
def evP (ad : Nat → Addr) (k : Nat) : TypeId × Value := (256, .pointer (some (ad k)))
theorem evP_ok {ad : Nat → Addr} {W : World} (h : Sen ad W) : EvA (evP ad) W := fun x hx => (h.1 x hx).1
theorem errT_below {W W' : World} (h : ErrT W) (hb : Below W.heap.size W W') : ErrT W' := (hb.cell (World.block_lt_of_cell? _ _ h)).trans h
end Pa
end Go.Proofs.YtkknenmpdimdbaaGreatDoor

namespace Go.Proofs.YtkknenmpdimdbaaGreatDoor
namespace Ke
open Go.RowKit
set_option linter.unusedVariables false
set_option linter.unusedSimpArgs false
set_option maxRecDepth 100000
theorem eql_nil (v : Value) (w : World) : (binOp BinOp.eql 32 .nilIface (.iface 256 v)).run Tryz.prog w = .ok (.bool false) w := by kernel_rfl
theorem is_nil (a : Addr) (w : World) : Calls Tryz.prog 38 #[.nilIface, .iface 256 (.pointer (some a))] w fun e w' => e = .returned (.bool false) ∧ Below w.heap.size w w' := by
 have hq := fun w => eql_nil (.pointer (some a)) w
 go_enter Tryz.func38, Tryz.ntmps38
 go_wp2_with fail
 go_ret
 exact ⟨rfl, Below.refl _ _⟩
def RsS (ad : Nat → Addr) (w : World) (w' : World) : Prop := Sen ad w' ∧ Below w.heap.size w w'
theorem RsS.below {ad : Nat → Addr} {w W W' : World} (h : RsS ad w W) (hb : Below W.heap.size W W') : RsS ad w W' := ⟨h.1.below hb, h.2.trans (hb.mono h.2.size)⟩
theorem bools_at {W : World} {g : Nat} {t : TypeId} {b : Nat → Bool} (h : W.heap[g]? = some (.cells #[.bool (b 0), .bool (b 1), .bool (b 2), .bool (b 3), .bool (b 4), .bool (b 5), .bool (b 6), .bool (b 7), .bool (b 8), .bool (b 9)] t (0, 0))) : ∀ i, i < 10 → W.cell? ⟨g, i, none⟩ = some (.bool (b i)) := fun i hi => by
 rw [cell_of_row _ _ _ _ _ _ h]
 match i, hi with
 | 0, _ => rfl
 | 1, _ => rfl
 | 2, _ => rfl
 | 3, _ => rfl
 | 4, _ => rfl
 | 5, _ => rfl
 | 6, _ => rfl
 | 7, _ => rfl
 | 8, _ => rfl
 | 9, _ => rfl
set_option maxHeartbeats 16000000 in
theorem reasons_any (ad : Nat → Addr) (x : Value) (f : Int) (bb : Nat → Bool) (z : Bool) (w : World) (h : Sen ad w)
  (hIs : ∀ (W : World) (j : Nat), j < 10 → Sen ad W → Hid (Calls Tryz.prog 38 #[x, .iface 256 (.pointer (some (ad (50 + j))))] W fun e w' => e = .returned (.bool (bb j)) ∧ Below W.heap.size W w'))
  (hg : ∀ W, (eqGuard BinOp.eql 32 (Operand.tmp 53) (Operand.const .nilIface) x .nilIface).run Tryz.prog W = .ok () W) (hz : ∀ W, (binOp BinOp.eql 32 x .nilIface).run Tryz.prog W = .ok (.bool z) W) (hf : (f == 0) = z) (hb : ∀ i : Nat, i < 10 → (f == 50 + (i : Int)) = bb i) :
  Calls Tryz.prog 19 #[x, .int .i64 f] w fun e w' => e = .returned (.bool true) ∧ Below w.heap.size w w' := by
 have hS0 : RsS ad w w.drew := ⟨h.below (Du.drewN_below w _ 1), Du.drewN_below w _ 1⟩
 have hb' : Hid (∀ i : Nat, i < 10 → (f == 50 + (i : Int)) = bb i) := hb
 have hzz : (z == z) = true := beq_self_eq_true z
 clear h hb
 go_enter Tryz.func19, Tryz.ntmps19
 go_upto_region 1 with fail
 refine Du.regionP (fun _ => true) (fun w' => RsS ad w w') (by kernel_rfl) ?_
 refine RgN.n_takel 0 ?vr1 (by rfl) (by kernel_rfl) (by kernel_rfl) (by kernel_rfl) (RgN.safe_all _ _ _) (by rfl) hS0 ?yr1 ?rr1
 case yr1 =>
  intro w' hS
  clear hS
  go_simp
  try with_reducible rfl
 case rr1 =>
 simp only [Act.put, List.setIfInBounds_toArray, List.set_cons_zero, List.set_cons_succ]
 refine RgN.n_takel 3 ?vr2 (by rfl) (by kernel_rfl) (by kernel_rfl) (by kernel_rfl) (RgN.safe_all _ _ _) (by rfl) hS0 ?yr2 ?rr2
 case yr2 =>
  intro w' hS
  clear hS
  go_simp
  try with_reducible rfl
 case rr2 =>
 simp only [Act.put, List.setIfInBounds_toArray, List.set_cons_zero, List.set_cons_succ]
 refine RgN.n_takel 6 ?vr3 (by rfl) (by kernel_rfl) (by kernel_rfl) (by kernel_rfl) (RgN.safe_all _ _ _) (by rfl) hS0 ?yr3 ?rr3
 case yr3 =>
  intro w' hS
  clear hS
  go_simp
  try with_reducible rfl
 case rr3 =>
 simp only [Act.put, List.setIfInBounds_toArray, List.set_cons_zero, List.set_cons_succ]
 refine RgN.n_takel 9 ?vr4 (by rfl) (by kernel_rfl) (by kernel_rfl) (by kernel_rfl) (RgN.safe_all _ _ _) (by rfl) hS0 ?yr4 ?rr4
 case yr4 =>
  intro w' hS
  clear hS
  go_simp
  try with_reducible rfl
 case rr4 =>
 simp only [Act.put, List.setIfInBounds_toArray, List.set_cons_zero, List.set_cons_succ]
 refine RgN.n_takel 12 ?vr5 (by rfl) (by kernel_rfl) (by kernel_rfl) (by kernel_rfl) (RgN.safe_all _ _ _) (by rfl) hS0 ?yr5 ?rr5
 case yr5 =>
  intro w' hS
  clear hS
  go_simp
  try with_reducible rfl
 case rr5 =>
 simp only [Act.put, List.setIfInBounds_toArray, List.set_cons_zero, List.set_cons_succ]
 refine RgN.n_takel 15 ?vr6 (by rfl) (by kernel_rfl) (by kernel_rfl) (by kernel_rfl) (RgN.safe_all _ _ _) (by rfl) hS0 ?yr6 ?rr6
 case yr6 =>
  intro w' hS
  clear hS
  go_simp
  try with_reducible rfl
 case rr6 =>
 simp only [Act.put, List.setIfInBounds_toArray, List.set_cons_zero, List.set_cons_succ]
 refine RgN.n_takel 18 ?vr7 (by rfl) (by kernel_rfl) (by kernel_rfl) (by kernel_rfl) (RgN.safe_all _ _ _) (by rfl) hS0 ?yr7 ?rr7
 case yr7 =>
  intro w' hS
  clear hS
  go_simp
  try with_reducible rfl
 case rr7 =>
 simp only [Act.put, List.setIfInBounds_toArray, List.set_cons_zero, List.set_cons_succ]
 refine RgN.n_takel 21 ?vr8 (by rfl) (by kernel_rfl) (by kernel_rfl) (by kernel_rfl) (RgN.safe_all _ _ _) (by rfl) hS0 ?yr8 ?rr8
 case yr8 =>
  intro w' hS
  clear hS
  go_simp
  try with_reducible rfl
 case rr8 =>
 simp only [Act.put, List.setIfInBounds_toArray, List.set_cons_zero, List.set_cons_succ]
 refine RgN.n_takel 24 ?vr9 (by rfl) (by kernel_rfl) (by kernel_rfl) (by kernel_rfl) (RgN.safe_all _ _ _) (by rfl) hS0 ?yr9 ?rr9
 case yr9 =>
  intro w' hS
  clear hS
  go_simp
  try with_reducible rfl
 case rr9 =>
 simp only [Act.put, List.setIfInBounds_toArray, List.set_cons_zero, List.set_cons_succ]
 refine RgN.n_takel 27 ?vr10 (by rfl) (by kernel_rfl) (by kernel_rfl) (by kernel_rfl) (RgN.safe_all _ _ _) (by rfl) hS0 ?yr10 ?rr10
 case yr10 =>
  intro w' hS
  clear hS
  go_simp
  try with_reducible rfl
 case rr10 =>
 simp only [Act.put, List.setIfInBounds_toArray, List.set_cons_zero, List.set_cons_succ]
 refine RgN.n_takel 1 ?vr11 (by rfl) (by kernel_rfl) (by kernel_rfl) (by kernel_rfl) (RgN.safe_all _ _ _) (by rfl) hS0 ?yr11 ?rr11
 case yr11 =>
  intro w' hS
  have q0 : w'.cell? ⟨0, 0, none⟩ = some (.iface 256 (.pointer (some (ad 50)))) := (hS.1.1 (50, 0) (by decide)).1
  clear hS
  go_simp
  try with_reducible rfl
 case rr11 =>
 simp only [Act.put, List.setIfInBounds_toArray, List.set_cons_zero, List.set_cons_succ]
 refine RgN.n_takel 4 ?vr12 (by rfl) (by kernel_rfl) (by kernel_rfl) (by kernel_rfl) (RgN.safe_all _ _ _) (by rfl) hS0 ?yr12 ?rr12
 case yr12 =>
  intro w' hS
  have q0 : w'.cell? ⟨1, 0, none⟩ = some (.iface 256 (.pointer (some (ad 51)))) := (hS.1.1 (51, 1) (by decide)).1
  clear hS
  go_simp
  try with_reducible rfl
 case rr12 =>
 simp only [Act.put, List.setIfInBounds_toArray, List.set_cons_zero, List.set_cons_succ]
 refine RgN.n_takel 7 ?vr13 (by rfl) (by kernel_rfl) (by kernel_rfl) (by kernel_rfl) (RgN.safe_all _ _ _) (by rfl) hS0 ?yr13 ?rr13
 case yr13 =>
  intro w' hS
  have q0 : w'.cell? ⟨2, 0, none⟩ = some (.iface 256 (.pointer (some (ad 52)))) := (hS.1.1 (52, 2) (by decide)).1
  clear hS
  go_simp
  try with_reducible rfl
 case rr13 =>
 simp only [Act.put, List.setIfInBounds_toArray, List.set_cons_zero, List.set_cons_succ]
 refine RgN.n_takel 10 ?vr14 (by rfl) (by kernel_rfl) (by kernel_rfl) (by kernel_rfl) (RgN.safe_all _ _ _) (by rfl) hS0 ?yr14 ?rr14
 case yr14 =>
  intro w' hS
  have q0 : w'.cell? ⟨3, 0, none⟩ = some (.iface 256 (.pointer (some (ad 53)))) := (hS.1.1 (53, 3) (by decide)).1
  clear hS
  go_simp
  try with_reducible rfl
 case rr14 =>
 simp only [Act.put, List.setIfInBounds_toArray, List.set_cons_zero, List.set_cons_succ]
 refine RgN.n_takel 13 ?vr15 (by rfl) (by kernel_rfl) (by kernel_rfl) (by kernel_rfl) (RgN.safe_all _ _ _) (by rfl) hS0 ?yr15 ?rr15
 case yr15 =>
  intro w' hS
  have q0 : w'.cell? ⟨4, 0, none⟩ = some (.iface 256 (.pointer (some (ad 54)))) := (hS.1.1 (54, 4) (by decide)).1
  clear hS
  go_simp
  try with_reducible rfl
 case rr15 =>
 simp only [Act.put, List.setIfInBounds_toArray, List.set_cons_zero, List.set_cons_succ]
 refine RgN.n_takel 16 ?vr16 (by rfl) (by kernel_rfl) (by kernel_rfl) (by kernel_rfl) (RgN.safe_all _ _ _) (by rfl) hS0 ?yr16 ?rr16
 case yr16 =>
  intro w' hS
  have q0 : w'.cell? ⟨5, 0, none⟩ = some (.iface 256 (.pointer (some (ad 55)))) := (hS.1.1 (55, 5) (by decide)).1
  clear hS
  go_simp
  try with_reducible rfl
 case rr16 =>
 simp only [Act.put, List.setIfInBounds_toArray, List.set_cons_zero, List.set_cons_succ]
 refine RgN.n_takel 19 ?vr17 (by rfl) (by kernel_rfl) (by kernel_rfl) (by kernel_rfl) (RgN.safe_all _ _ _) (by rfl) hS0 ?yr17 ?rr17
 case yr17 =>
  intro w' hS
  have q0 : w'.cell? ⟨6, 0, none⟩ = some (.iface 256 (.pointer (some (ad 56)))) := (hS.1.1 (56, 6) (by decide)).1
  clear hS
  go_simp
  try with_reducible rfl
 case rr17 =>
 simp only [Act.put, List.setIfInBounds_toArray, List.set_cons_zero, List.set_cons_succ]
 refine RgN.n_takel 22 ?vr18 (by rfl) (by kernel_rfl) (by kernel_rfl) (by kernel_rfl) (RgN.safe_all _ _ _) (by rfl) hS0 ?yr18 ?rr18
 case yr18 =>
  intro w' hS
  have q0 : w'.cell? ⟨7, 0, none⟩ = some (.iface 256 (.pointer (some (ad 57)))) := (hS.1.1 (57, 7) (by decide)).1
  clear hS
  go_simp
  try with_reducible rfl
 case rr18 =>
 simp only [Act.put, List.setIfInBounds_toArray, List.set_cons_zero, List.set_cons_succ]
 refine RgN.n_takel 25 ?vr19 (by rfl) (by kernel_rfl) (by kernel_rfl) (by kernel_rfl) (RgN.safe_all _ _ _) (by rfl) hS0 ?yr19 ?rr19
 case yr19 =>
  intro w' hS
  have q0 : w'.cell? ⟨8, 0, none⟩ = some (.iface 256 (.pointer (some (ad 58)))) := (hS.1.1 (58, 8) (by decide)).1
  clear hS
  go_simp
  try with_reducible rfl
 case rr19 =>
 simp only [Act.put, List.setIfInBounds_toArray, List.set_cons_zero, List.set_cons_succ]
 refine RgN.n_takel 28 ?vr20 (by rfl) (by kernel_rfl) (by kernel_rfl) (by kernel_rfl) (RgN.safe_all _ _ _) (by rfl) hS0 ?yr20 ?rr20
 case yr20 =>
  intro w' hS
  have q0 : w'.cell? ⟨9, 0, none⟩ = some (.iface 256 (.pointer (some (ad 59)))) := (hS.1.1 (59, 9) (by decide)).1
  clear hS
  go_simp
  try with_reducible rfl
 case rr20 =>
 simp only [Act.put, List.setIfInBounds_toArray, List.set_cons_zero, List.set_cons_succ]
 refine RgN.n_onel 2 (by kernel_rfl) (by rfl) (fun K hK => ?_)
 go_simp
 refine (hIs _ 0 (by decide) hS0.1).out.mono ?_
 rintro e W1 ⟨rfl, hb⟩
 have hS1 : RsS ad w W1 := hS0.below hb
 clear hb
 go_simp
 refine hK.out _ _ (fun _ => hS1) ?_
 clear hK K
 try simp only [Act.put, List.setIfInBounds_toArray, List.set_cons_zero, List.set_cons_succ]
 refine RgN.n_onel 5 (by kernel_rfl) (by rfl) (fun K hK => ?_)
 go_simp
 refine (hIs _ 1 (by decide) hS1.1).out.mono ?_
 rintro e W2 ⟨rfl, hb⟩
 have hS2 : RsS ad w W2 := hS1.below hb
 clear hb
 go_simp
 refine hK.out _ _ (fun _ => hS2) ?_
 clear hK K
 try simp only [Act.put, List.setIfInBounds_toArray, List.set_cons_zero, List.set_cons_succ]
 refine RgN.n_onel 8 (by kernel_rfl) (by rfl) (fun K hK => ?_)
 go_simp
 refine (hIs _ 2 (by decide) hS2.1).out.mono ?_
 rintro e W3 ⟨rfl, hb⟩
 have hS3 : RsS ad w W3 := hS2.below hb
 clear hb
 go_simp
 refine hK.out _ _ (fun _ => hS3) ?_
 clear hK K
 try simp only [Act.put, List.setIfInBounds_toArray, List.set_cons_zero, List.set_cons_succ]
 refine RgN.n_onel 11 (by kernel_rfl) (by rfl) (fun K hK => ?_)
 go_simp
 refine (hIs _ 3 (by decide) hS3.1).out.mono ?_
 rintro e W4 ⟨rfl, hb⟩
 have hS4 : RsS ad w W4 := hS3.below hb
 clear hb
 go_simp
 refine hK.out _ _ (fun _ => hS4) ?_
 clear hK K
 try simp only [Act.put, List.setIfInBounds_toArray, List.set_cons_zero, List.set_cons_succ]
 refine RgN.n_onel 14 (by kernel_rfl) (by rfl) (fun K hK => ?_)
 go_simp
 refine (hIs _ 4 (by decide) hS4.1).out.mono ?_
 rintro e W5 ⟨rfl, hb⟩
 have hS5 : RsS ad w W5 := hS4.below hb
 clear hb
 go_simp
 refine hK.out _ _ (fun _ => hS5) ?_
 clear hK K
 try simp only [Act.put, List.setIfInBounds_toArray, List.set_cons_zero, List.set_cons_succ]
 refine RgN.n_onel 17 (by kernel_rfl) (by rfl) (fun K hK => ?_)
 go_simp
 refine (hIs _ 5 (by decide) hS5.1).out.mono ?_
 rintro e W6 ⟨rfl, hb⟩
 have hS6 : RsS ad w W6 := hS5.below hb
 clear hb
 go_simp
 refine hK.out _ _ (fun _ => hS6) ?_
 clear hK K
 try simp only [Act.put, List.setIfInBounds_toArray, List.set_cons_zero, List.set_cons_succ]
 refine RgN.n_onel 20 (by kernel_rfl) (by rfl) (fun K hK => ?_)
 go_simp
 refine (hIs _ 6 (by decide) hS6.1).out.mono ?_
 rintro e W7 ⟨rfl, hb⟩
 have hS7 : RsS ad w W7 := hS6.below hb
 clear hb
 go_simp
 refine hK.out _ _ (fun _ => hS7) ?_
 clear hK K
 try simp only [Act.put, List.setIfInBounds_toArray, List.set_cons_zero, List.set_cons_succ]
 refine RgN.n_onel 23 (by kernel_rfl) (by rfl) (fun K hK => ?_)
 go_simp
 refine (hIs _ 7 (by decide) hS7.1).out.mono ?_
 rintro e W8 ⟨rfl, hb⟩
 have hS8 : RsS ad w W8 := hS7.below hb
 clear hb
 go_simp
 refine hK.out _ _ (fun _ => hS8) ?_
 clear hK K
 try simp only [Act.put, List.setIfInBounds_toArray, List.set_cons_zero, List.set_cons_succ]
 refine RgN.n_onel 26 (by kernel_rfl) (by rfl) (fun K hK => ?_)
 go_simp
 refine (hIs _ 8 (by decide) hS8.1).out.mono ?_
 rintro e W9 ⟨rfl, hb⟩
 have hS9 : RsS ad w W9 := hS8.below hb
 clear hb
 go_simp
 refine hK.out _ _ (fun _ => hS9) ?_
 clear hK K
 try simp only [Act.put, List.setIfInBounds_toArray, List.set_cons_zero, List.set_cons_succ]
 refine RgN.n_onel 29 (by kernel_rfl) (by rfl) (fun K hK => ?_)
 go_simp
 refine (hIs _ 9 (by decide) hS9.1).out.mono ?_
 rintro e W10 ⟨rfl, hb⟩
 have hS10 : RsS ad w W10 := hS9.below hb
 clear hb
 go_simp
 refine hK.out _ _ (fun _ => hS10) ?_
 clear hK K
 try simp only [Act.put, List.setIfInBounds_toArray, List.set_cons_zero, List.set_cons_succ]
 refine RgN.n_onel 30 (by kernel_rfl) (by rfl) (fun K hK => ?_)
 obtain ⟨W11, hW11⟩ : ∃ W11, W10.alloc (.cells #[.bool (bb 0), .bool (bb 1), .bool (bb 2), .bool (bb 3), .bool (bb 4), .bool (bb 5), .bool (bb 6), .bool (bb 7), .bool (bb 8), .bool (bb 9)] 4) = W11 := ⟨_, rfl⟩
 have hb11 : Below W10.heap.size W10 W11 := by rw [← hW11]; exact (Below.refl _ _).alloc (Nat.le_refl _) _
 have hx11 := heap_alloc_new W10 (.cells #[.bool (bb 0), .bool (bb 1), .bool (bb 2), .bool (bb 3), .bool (bb 4), .bool (bb 5), .bool (bb 6), .bool (bb 7), .bool (bb 8), .bool (bb 9)] 4)
 rw [hW11] at hx11
 have hS11 : RsS ad w W11 := hS10.below hb11
 have hcl := bools_at hx11
 go_simp
 refine hK.out _ _ (fun _ => hS11) ?_
 clear hK K
 try simp only [Act.put, List.setIfInBounds_toArray, List.set_cons_zero, List.set_cons_succ]
 refine RgN.n_onel 31 (by kernel_rfl) (by rfl) (fun K hK => ?_)
 go_simp
 refine hK.out _ _ (fun _ => hS11) ?_
 clear hK K
 try simp only [Act.put, List.setIfInBounds_toArray, List.set_cons_zero, List.set_cons_succ]
 refine RgN.n_done (by kernel_rfl) ?_ _
 have hfin : Hid (Below w.heap.size w W11) := hS11.2
 clear hS0 hS1 hS2 hS3 hS4 hS5 hS6 hS7 hS8 hS9 hS10 hS11 hb11 hx11 hIs hW11
 go_wp2_with fail
 go_loopw [6] (fun iv wr => ∃ i : Nat, iv = .int .i64 (i : Int) ∧ Hid (i ≤ 10 ∧ wr = W11)) (fun iv _ => 10 - (intOf iv).toNat)
 case atStart => exact ⟨0, rfl, by decide, rfl⟩
 case round =>
  obtain ⟨i, rfl, hQ⟩ := hrel
  obtain ⟨hi, hw⟩ := hQ.out
  subst hw
  have i0 : (0 : Int) ≤ (i : Int) := Int.natCast_nonneg _
  by_cases hlt : i < 10
  ·have i1 : (i : Int) < 10 := by omega
   have c0 := hcl i hlt
   have hlt' : Hid (i < 10) := hlt
   have hne := hb'.out i hlt
   generalize bb i = bi at *
   clear hcl hQ
   cases bi <;>
   ·go_wp2_with fail
    refine ⟨⟨i + 1, by go_num, ?_⟩, ?_⟩
    ·have := hlt'.out
     exact ⟨by omega, trivial⟩
    ·have := hlt'.out
     simp [intOf]
     omega
  ·have i1 : ¬ (i : Int) < 10 := by omega
   have hz1 := hz wr
   have hg1 := hg wr
   clear hcl hQ hz hzz hg
   cases z <;>
   ·go_wp2_with fail
    go_ret
    exact ⟨rfl, hfin.out⟩
theorem reasons_nil (ad : Nat → Addr) (w : World) (h : Sen ad w) : Calls Tryz.prog 19 #[.nilIface, .int .i64 0] w fun e w' => e = .returned (.bool true) ∧ Below w.heap.size w w' :=
 reasons_any ad .nilIface 0 (fun _ => false) true w h (fun W j _ _ => is_nil _ W) (fun W => by kernel_rfl) (fun W => by kernel_rfl) rfl (fun i hi => by rw [beq_eq_false_iff_ne]; omega)
theorem reasons_ref (ad : Nat → Addr) (k : Nat) (num : Int) (hk : 50 ≤ k ∧ k ≤ 59) (w : World) (h : Sen ad w) : Calls Tryz.prog 19 #[refV (Pa.evP ad) k num, .int .i64 (k : Int)] w fun e w' => e = .returned (.bool true) ∧ Below w.heap.size w w' :=
 reasons_any ad (refV (Pa.evP ad) k num) (k : Int) (fun j => decide (k = 50 + j)) false w h (fun W j hj hS => by
  obtain ⟨q1, hq1⟩ := sen_mem (50 + j) (by omega)
  obtain ⟨q2, hq2⟩ := sen_mem k hk
  exact is_any hS (k, q2) (50 + j, q1) hq2 hq1 num) (fun W => by kernel_rfl) (fun W => by kernel_rfl) (by rw [beq_eq_false_iff_ne]; omega) (fun i hi => by
  by_cases e : k = 50 + i
  ·rw [decide_eq_true e, beq_iff_eq]
   omega
  ·rw [decide_eq_false e, beq_eq_false_iff_ne]
   omega)
end Ke
end Go.Proofs.YtkknenmpdimdbaaGreatDoor

namespace Go.Proofs.YtkknenmpdimdbaaGreatDoor
namespace Ke
open TextMath (fold lo normal check)
set_option linter.unusedVariables false
theorem nm_pos : ∀ i : Fin 62, (rowL i).1.data.toList ≠ [] := by decide +kernel
theorem tyC_ne (s : List UInt8) (h : tyOk s = true) : tyC s ≠ [] := by
 unfold tyOk at h
 have h := of_decide_eq_true h
 unfold tyC tyR parsT at *
 split at h
 ·rename_i hc
  rw [if_pos hc]
  show (canN (S (fold s))).data.toList ≠ []
  unfold canN
  split
  ·intro he
   have h1 := hc.1
   rw [he] at h1
   revert h1
   decide
  ·rename_i i _
   exact nm_pos i
 ·simp at h
theorem srt_lt {ps : List PR} (h : OkP ps) : (srtP (ps.map cn)).Pairwise fun x y => x.1 < y.1 := by
 obtain ⟨h1, _, h2⟩ := srt_holds (ps.map cn)
 have hnd := (h1.map Prod.fst).nodup_iff.2 (okP_nodup h)
 unfold List.Nodup at hnd
 rw [List.pairwise_map] at hnd
 refine (h2.and hnd).imp ?_
 rintro x y ⟨q1, q2⟩
 rcases Classical.em (x.1 < y.1) with q | q
 ·exact q
 ·exact absurd (List.le_antisymm q1 q) q2
def lastT (ps : List PR) : Nat → List UInt8
 | 0 => []
 | n + 1 => ((srtP (ps.map cn)).getD n ([], [])).1
def Sel (last : List UInt8) (l : List PR) (least value : List UInt8) : Prop :=
 (least = [] ∧ ∀ p ∈ l, ¬ last < tyC p.1) ∨ (∃ p ∈ l, tyC p.1 = least ∧ p.2 = value ∧ last < least ∧ ∀ q ∈ l, last < tyC q.1 → least ≤ tyC q.1)
theorem Sel.zero (last : List UInt8) (v : List UInt8) : Sel last [] [] v := Or.inl ⟨rfl, fun p hp => by simp at hp⟩
theorem Sel.take {last : List UInt8} {l : List PR} {least value : List UInt8} (h : Sel last l least value) (p : PR) (h1 : last < tyC p.1) (h2 : least = [] ∨ tyC p.1 < least) : Sel last (l ++ [p]) (tyC p.1) p.2 := by
 refine Or.inr ⟨p, by simp, rfl, rfl, h1, fun q hq hlt => ?_⟩
 rcases List.mem_append.1 hq with hq | hq
 ·rcases h with ⟨_, h⟩ | ⟨r, hr, e1, e2, h3, h4⟩
  ·exact absurd hlt (h q hq)
  ·rcases h2 with e | e
   ·rw [e] at h3
    exact absurd h3 (List.not_lt_nil _)
   ·exact List.le_trans (List.le_of_lt e) (h4 q hq hlt)
 ·rw [List.mem_singleton.1 hq]
  exact List.le_refl _
theorem Sel.skip {last : List UInt8} {l : List PR} {least value : List UInt8} (h : Sel last l least value) (p : PR) (hn : ¬ (last < tyC p.1 ∧ (least = [] ∨ tyC p.1 < least))) : Sel last (l ++ [p]) least value := by
 rcases h with ⟨e, h⟩ | ⟨r, hr, e1, e2, h3, h4⟩
 ·refine Or.inl ⟨e, fun q hq => ?_⟩
  rcases List.mem_append.1 hq with hq | hq
  ·exact h q hq
  ·rw [List.mem_singleton.1 hq]
   exact fun hl => hn ⟨hl, Or.inl e⟩
 ·refine Or.inr ⟨r, by simp [hr], e1, e2, h3, fun q hq hlt => ?_⟩
  rcases List.mem_append.1 hq with hq | hq
  ·exact h4 q hq hlt
  ·rw [List.mem_singleton.1 hq] at hlt ⊢
   exact fun hl => hn ⟨hlt, Or.inr hl⟩
theorem Sel.next {ps : List PR} (h : OkP ps) (n : Nat) (hn : n < ps.length) {least value : List UInt8} (hs : Sel (lastT ps n) ps least value) : (srtP (ps.map cn))[n]? = some (least, normal value) ∧ least ≠ [] ∧ lastT ps (n + 1) = least := by
 have hl : (srtP (ps.map cn)).length = ps.length := by rw [(srt_holds (ps.map cn)).2.1, List.length_map]
 have hP := (srt_holds (ps.map cn)).1
 have hlt := srt_lt h
 rw [List.pairwise_iff_getElem] at hlt
 have hn' : n < (srtP (ps.map cn)).length := by omega
 obtain ⟨x, hx⟩ : ∃ x, (srtP (ps.map cn))[n] = x := ⟨_, rfl⟩
 have hxm : x ∈ ps.map cn := hP.subset (by rw [← hx]; exact List.getElem_mem _)
 obtain ⟨p0, hp0, e0⟩ := List.mem_map.1 hxm
 have hne : ∀ p ∈ ps, tyC p.1 ≠ [] := fun p hp => by
  obtain ⟨i, hi, rfl⟩ := List.getElem_of_mem hp
  obtain ⟨_, q, _⟩ := h.2.2 i hi
  exact tyC_ne _ q
 have habove : lastT ps n < x.1 := by
  cases n with
  | zero =>
   show ([] : List UInt8) < x.1
   rw [← e0]
   have := hne p0 hp0
   show ([] : List UInt8) < tyC p0.1
   cases ht : tyC p0.1 with
   | nil => exact absurd ht this
   | cons a t => exact List.nil_lt_cons a t
  | succ n =>
   show ((srtP (ps.map cn)).getD n ([], [])).1 < x.1
   rw [List.getD_eq_getElem?_getD, List.getElem?_eq_getElem (by omega), ← hx]
   exact hlt n (n + 1) (by omega) hn' (by omega)
 have hbelow : ∀ y ∈ ps.map cn, lastT ps n < y.1 → x.1 ≤ y.1 := fun y hy hl' => by
  obtain ⟨j, hj, rfl⟩ := List.getElem_of_mem (hP.symm.subset hy)
  rcases Nat.lt_trichotomy j n with q | q | q
  ·exfalso
   cases n with
   | zero => omega
   | succ n =>
    have hl2 : ((srtP (ps.map cn)).getD n ([], [])).1 < ((srtP (ps.map cn))[j]).1 := hl'
    rw [List.getD_eq_getElem?_getD, List.getElem?_eq_getElem (by omega)] at hl2
    by_cases e : j = n
    ·subst e
     exact List.lt_irrefl _ hl2
    ·exact List.lt_asymm hl2 (hlt j n hj (by omega) (by omega))
  ·subst q
   rw [hx]
   exact List.le_refl _
  ·rw [← hx]
   exact List.le_of_lt (hlt n j hn' hj q)
 have hx1 : x.1 = tyC p0.1 := by rw [← e0]; rfl
 rcases hs with ⟨_, hs⟩ | ⟨p, hp, e1, e2, h3, h4⟩
 ·exact absurd (by rw [← hx1]; exact habove) (hs p0 hp0)
 ·have hle1 : least ≤ x.1 := by rw [hx1]; exact h4 p0 hp0 (by rw [← hx1]; exact habove)
  have hle2 : x.1 ≤ least := by
   rw [← e1]
   exact hbelow (cn p) (List.mem_map_of_mem hp) (by show lastT ps n < tyC p.1; rw [e1]; exact h3)
  have hex : x.1 = least := List.le_antisymm hle2 hle1
  have hcp : cn p = x := by
   have hnd := okP_nodup h
   unfold List.Nodup at hnd
   rw [List.pairwise_map, List.pairwise_iff_getElem] at hnd
   obtain ⟨i, hi, ei⟩ := List.getElem_of_mem (List.mem_map_of_mem (f := cn) hp)
   obtain ⟨j, hj, ej⟩ := List.getElem_of_mem hxm
   have hij : i = j := by
    rcases Nat.lt_trichotomy i j with q | q | q
    ·exact absurd (by rw [ei, ej, hex, ← e1]; rfl) (hnd i j hi hj q)
    ·exact q
    ·exact absurd (by rw [ei, ej, hex, ← e1]; rfl) (hnd j i hj hi q)
   subst hij
   rw [← ei, ej]
  refine ⟨?_, by rw [← e1]; exact hne p hp, ?_⟩
  ·rw [List.getElem?_eq_getElem hn', hx, ← hcp]
   unfold cn
   rw [e1, e2]
  ·show ((srtP (ps.map cn)).getD n ([], [])).1 = least
   rw [List.getD_eq_getElem?_getD, List.getElem?_eq_getElem hn', hx]
   exact hex
end Ke
end Go.Proofs.YtkknenmpdimdbaaGreatDoor

namespace Go.Proofs.YtkknenmpdimdbaaGreatDoor
open Go.RowKit
open TextMath (fold lo col bl trimP trimS squeeze normal)
set_option maxRecDepth 100000
theorem bl_eq2 (c : UInt8) : bl c = (((c.toNat : Int) == 32) || decide ((9 : Int) ≤ c.toNat) && decide ((c.toNat : Int) ≤ 13)) := by
 rw [bl_eq, Bool.or_comm]
set_option maxHeartbeats 400000 in
theorem rBlank_any (c : UInt8) (w : World) :
  Calls Tryz.prog 140 #[.int .u8 (c.toNat : Int)] w fun e w' => e = .returned (.bool (bl c)) ∧ w = w' := by
 have hc256 : c.toNat < 256 := c.toNat_lt
 rw [bl_eq2]
 generalize c.toNat = n at *
 by_cases h0 : ((n : Int) == 32) = true
 ·go_enter Tryz.func140, Tryz.ntmps140
  go_wp2
  go_ret
  exact ⟨ret_bool (by simp [h0]), rfl⟩
 ·have h0' : ((n : Int) == 32) = false := by simpa using h0
  clear h0
  by_cases h1 : (9 : Int) ≤ n
  ·by_cases h2 : (n : Int) ≤ 13
   ·go_enter Tryz.func140, Tryz.ntmps140
    go_wp2
    go_ret
    exact ⟨ret_bool (by simp [h1, h2]), rfl⟩
   ·have d2 : decide ((n : Int) ≤ 13) = false := by simpa using h2
    go_enter Tryz.func140, Tryz.ntmps140
    go_wp2
    go_ret
    exact ⟨ret_bool (by simp), rfl⟩
  ·have d1 : decide ((9 : Int) ≤ n) = false := by simpa using h1
   go_enter Tryz.func140, Tryz.ntmps140
   go_wp2
   go_ret
   exact ⟨ret_bool (by simp), rfl⟩
def ran (l : List UInt8) (k : Nat) : Bool := decide (0 < k) && bl (l.getD (k - 1) 0)
theorem ran_zero (l : List UInt8) : ran l 0 = false := rfl
theorem ran_succ (l : List UInt8) (k : Nat) (h : k < l.length) : ran l (k + 1) = bl l[k] := by
 unfold ran; simp [List.getD, List.getElem?_eq_getElem h]
theorem ran_pos (s : ByteArray) (k : Nat) (h : k - 1 < s.size) (hp : 0 < k) : ran s.data.toList k = bl s[k - 1] := by
 unfold ran; rw [getD_s s (k - 1) h]; simp [hp]
set_option maxHeartbeats 1000000 in
theorem rCollapse_any (s : ByteArray) (w : World) (hm : s.size ≤ 140737488355328) :
  Calls Tryz.prog 107 #[.string s] w fun e w' => e = .returned (.string (S (col false s.data.toList))) ∧ Below w.heap.size w w' := by
 have hL : Hid (s.data.toList.length = s.size) := size_l s
 obtain ⟨i0, hi, hz0, hz1, hz2⟩ := info_parts info_u8
 go_enter Tryz.func107, Tryz.ntmps107
 go_wp2
 go_loopw [3, 4] (fun out i wr => ∃ (k : Nat) (o : List UInt8), k ≤ s.size ∧ i = .int .i64 k ∧ o.length ≤ k ∧ Below w.heap.size w wr ∧ wr.ownsRow w.heap.size 5 1 out o.length (bv o) ∧ Hid (col false s.data.toList = o ++ col (ran s.data.toList k) (s.data.toList.drop k))) (fun _ i _ => s.size - (intOf i).toNat)
 case atStart => exact ⟨0, [], Nat.zero_le _, rfl, Nat.zero_le _, Below.refl _ _, World.ownsRow_nil _ _ _ _, by unfold Hid; simp [ran_zero]⟩
 case round =>
  obtain ⟨k, o, hk, rfl, ho, hb, hown, hcol⟩ := hrel
  have hgs' := hb.size
  by_cases hlt : k < s.size
  ·have hkl : k < s.data.toList.length := by rw [hL.out]; exact hlt
   have hget : s.data.toList[k] = s[k] := rfl
   have e32 : Hid (bv (o ++ [32]) = bv o ++ [.int .u8 32]) := by unfold Hid; rw [bv_app]; rfl
   have ec : Hid (bv (o ++ [s[k]]) = bv o ++ [.int .u8 (s[k].toNat : Int)]) := by unfold Hid; rw [bv_app]; rfl
   have hlen : ∀ c : UInt8, (o ++ [c]).length = o.length + 1 := by intro c; simp
   have hrs := ran_succ _ k hkl
   rw [hget] at hrs
   by_cases hbl : bl s[k] = true
   ·rw [hbl] at hrs
    cases hr : ran s.data.toList k
    ·rw [hr] at hcol
     have HC := col_space _ o k hkl hcol.out hbl
     rw [← hrs] at HC
     have HC' : Hid (_ = _) := HC
     clear HC hcol hrs
     by_cases hk0 : k = 0
     ·subst hk0
      clear hr
      go_wp2_with (first | (go_at_call 140; refine (rBlank_any _ _).mono ?_; rintro e w' ⟨rfl, rfl⟩; rw [hbl]) | (at_builtin; refine wpList_append_own _ rfl _ _ 87 rfl w.heap.size 5 i0 (.int .u8 0) 1 1 Tryz.underlying87 hi hz0 hz1 hz2 rfl (by decide) _ _ _ rfl (hown.alloc _) ⟨wr.heap.size, 0, none⟩ 1 1 [.int .u8 32] rfl rfl ?_ ?_ ?_ ?_ ?_ ?_; exact cell_one_new _ _ _; (intro u hu; simp at hu; subst hu; rfl); (unfold maxLen; omega); omega; (simp; omega); intro v1 w1 hown1 hgrow1 _))
      go_roundw
      case rel =>
       refine ⟨0 + 1, o ++ [32], by omega, by go_num, by rw [hlen]; omega, ?_, ?_, HC'.out⟩
       ·exact (hb.alloc hgs' _).grown hgrow1 (by simp; omega) (fun j h => (hown.lt j h).1)
       ·rw [hlen, e32.out]; exact hown1
      case measure => simp [intOf]; omega
     ·have hz : (((k : Nat) : Int) == 0) = false := by simp; omega
      have hp : (0 : Int) < k := by omega
      have hprev : bl s[k - 1] = false := by rw [← ran_pos s k (by omega) (by omega)]; exact hr
      have hidx : ((k : Int) - 1).toNat = k - 1 := by omega
      clear hr
      go_wp2_with (first | (go_at_call 140; refine (rBlank_any _ _).mono ?_; rintro e w' ⟨rfl, rfl⟩; first | rw [hbl] | rw [hprev]) | (at_builtin; refine wpList_append_own _ rfl _ _ 87 rfl w.heap.size 5 i0 (.int .u8 0) 1 1 Tryz.underlying87 hi hz0 hz1 hz2 rfl (by decide) _ _ _ rfl (hown.alloc _) ⟨wr.heap.size, 0, none⟩ 1 1 [.int .u8 32] rfl rfl ?_ ?_ ?_ ?_ ?_ ?_; exact cell_one_new _ _ _; (intro u hu; simp at hu; subst hu; rfl); (unfold maxLen; omega); omega; (simp; omega); intro v1 w1 hown1 hgrow1 _))
      go_roundw
      case rel =>
       refine ⟨k + 1, o ++ [32], by omega, by go_num, by rw [hlen]; omega, ?_, ?_, HC'.out⟩
       ·exact (hb.alloc hgs' _).grown hgrow1 (by simp; omega) (fun j h => (hown.lt j h).1)
       ·rw [hlen, e32.out]; exact hown1
      case measure => simp [intOf]; omega
    ·rw [hr] at hcol
     have HC := col_skip _ o k hkl hcol.out hbl
     rw [← hrs] at HC
     have HC' : Hid (_ = _) := HC
     clear HC hcol hrs
     have hk0 : 0 < k := by
      by_cases h : k = 0
      ·subst h; rw [ran_zero] at hr; cases hr
      ·omega
     have hz : (((k : Nat) : Int) == 0) = false := by simp; omega
     have hp : (0 : Int) < k := by omega
     have hprev : bl s[k - 1] = true := by rw [← ran_pos s k (by omega) (by omega)]; exact hr
     have hidx : ((k : Int) - 1).toNat = k - 1 := by omega
     clear hr
     go_wp2_with (go_at_call 140; refine (rBlank_any _ _).mono ?_; rintro e w' ⟨rfl, rfl⟩; first | rw [hbl] | rw [hprev])
     go_roundw
     case rel => exact ⟨k + 1, o, by omega, by go_num, by omega, hb, hown, HC'.out⟩
     case measure => simp [intOf]; omega
   ·have hbl' : bl s[k] = false := by simpa using hbl
    rw [hbl'] at hrs
    have HC : col false s.data.toList = (o ++ [s[k]]) ++ col (ran s.data.toList (k + 1)) (s.data.toList.drop (k + 1)) := by rw [hrs]; exact col_keep _ o k hkl _ hcol.out hbl'
    have HC' : Hid (_ = _) := HC
    clear HC hcol hbl hrs
    go_wp2_with (first | (go_at_call 140; refine (rBlank_any _ _).mono ?_; rintro e w' ⟨rfl, rfl⟩; rw [hbl']) | (at_builtin; refine wpList_append_own _ rfl _ _ 87 rfl w.heap.size 5 i0 (.int .u8 0) 1 1 Tryz.underlying87 hi hz0 hz1 hz2 rfl (by decide) _ _ _ rfl (hown.alloc _) ⟨wr.heap.size, 0, none⟩ 1 1 [.int .u8 (s[k].toNat : Int)] rfl rfl ?_ ?_ ?_ ?_ ?_ ?_; exact cell_one_new _ _ _; (intro u hu; simp at hu; subst hu; rfl); (unfold maxLen; omega); omega; (simp; omega); intro v1 w1 hown1 hgrow1 _))
    go_roundw
    case rel =>
     refine ⟨k + 1, o ++ [s[k]], by omega, by go_num, by rw [hlen]; omega, ?_, ?_, HC'.out⟩
     ·exact (hb.alloc hgs' _).grown hgrow1 (by simp; omega) (fun j h => (hown.lt j h).1)
     ·rw [hlen, ec.out]; exact hown1
    case measure => simp [intOf]; omega
  ·have hc := hcol.out
   rw [List.drop_eq_nil_of_le (by rw [hL.out]; omega)] at hc
   have hc2 : col false s.data.toList = o := by rw [hc]; simp [col]
   have hback := own_back_any (P := Tryz.prog) wr w.heap.size 87 9 5 _ _ _ Tryz.underlying87 Tryz.underlying5 Tryz.underlying9 hown
   have HC2 : Hid (_ = _) := hc2
   clear hc hc2 hcol hown
   go_wp2
   go_ret
   exact ⟨ret_str (by rw [HC2.out]), hb⟩
end Go.Proofs.YtkknenmpdimdbaaGreatDoor
