import Derived.Test.YtgdinncdhjeokaaGreatDoorRdJ
namespace Go.Proofs.YtgdinncdhjeokaaGreatDoor
namespace Rd
open Go.RowKit
open LdMath
open Lr (PR RC pf chg okD dnB ChgTab GOwn GRow pV pV_len Kd PX RX rV rV_len append_gen RRow PRow said rrow_at prow_at drewN_below)
set_option linter.unusedVariables false
set_option maxRecDepth 100000

def fixB : List UInt8 := [118, 101, 114, 115, 105, 111, 110, 58, 32, 49, 10, 100, 110, 58, 32, 111, 61, 120, 10, 111, 58, 32, 120, 10]
theorem fix_rdT : rdT fixB = ([(2, [111, 61, 120], [([111], [120])])], 0, 0) := by kernel_rfl
set_option maxHeartbeats 2000000 in
theorem fixed_any (w : World) (hWt : WTab w) (hCt : ChgTab w) :
    Calls Tryz.prog 12 #[] w fun e w' => e = .returned (.bool true) ∧ Below w.heap.size w w' := by
  have hr : ldR fixB = [(2, [111, 61, 120], [([111], [120])])] := by unfold ldR; rw [fix_rdT]; rfl
  have hL := loads_any (S fixB) (by rw [S_size]; decide) w hWt hCt 1 (by rw [S_l, hr]; rfl)
  rw [S_l, fix_rdT, hr] at hL
  have hL' : Hid (Calls Tryz.prog 8 #[.string { data := #[118, 101, 114, 115, 105, 111, 110, 58, 32, 49, 10, 100, 110, 58, 32, 111, 61, 120, 10, 111, 58, 32, 120, 10] }] w fun e w' => ∃ b o c pb po pc, e = .returned (.tuple #[.slice (some ⟨b, o, none⟩) 1 c, .int .i64 0, .int .i64 0]) ∧ (w'.cell? ⟨b, o, none⟩ = some (.int .i64 2) ∧ w'.cell? ⟨b, o + 1, none⟩ = some (.string { data := #[111, 61, 120] }) ∧ w'.cell? ⟨b, o + 2, none⟩ = some (.slice (some ⟨pb, po, none⟩) 1 pc) ∧ w'.cell? ⟨pb, po + 1, none⟩ = some (.string { data := #[120] })) ∧ Below w.heap.size w w') := by
    refine Calls.mono hL ?_
    rintro e w' ⟨a, c, Rs, rfl, ⟨h1, h2, h3⟩, hb⟩
    have hl : 0 < Rs.length := by rw [h2]; decide
    obtain ⟨b, o, rfl, c0, c1, c2⟩ := rrow_at h1 0 hl
    obtain ⟨e1, e2⟩ := h3 0 hl (by decide)
    have r1 := (h1.2 _ (List.getElem_mem hl)).1
    generalize hx : Rs[0] = x at *
    obtain ⟨ln, nm, pa, pc, ps⟩ := x
    dsimp only [said] at c0 c1 c2 e1 e2 r1
    injection e2 with e2 e3
    have e4 : ps = [([111], [120])] := e3
    have e5 : nm = [111, 61, 120] := e2
    subst e4 e5
    have e6 : ln = 2 := e1
    subst e6
    obtain ⟨pb, po, rfl, d0, d1⟩ := prow_at r1 0 (by decide)
    refine ⟨b, o, c, pb, po, pc, rfl, ⟨?_, ?_, ?_, ?_⟩, hb⟩
    · simpa using c0
    · exact c1
    · simpa using c2
    · exact d1
  clear hL
  go_enter Tryz.func12, Tryz.ntmps12
  go_wp2_with (first
    | (go_at_call 8; refine hL'.out.mono ?_; rintro e w1 ⟨b, o, c, pb, po, pc, rfl, ⟨c0, c1, c2, c3⟩, hb⟩)
    | (go_at_call 10; refine (num_any _ _).mono ?_; rintro e w9 ⟨rfl, rfl⟩))
  go_ret
  exact ⟨rfl, hb⟩
end Rd
end Go.Proofs.YtgdinncdhjeokaaGreatDoor

namespace Go.Proofs.YtgdinncdhjeokaaGreatDoor
namespace Rd
open Go.RowKit
open LdMath
open Lr (PR RC pf chg okD dnB ChgTab GOwn GRow pV pV_len Kd PX RX rV rV_len append_gen RRow PRow said rrow_at prow_at drewN_below)
set_option linter.unusedVariables false
set_option maxRecDepth 100000

def bV (b : UInt8) : List Value := [.int .u8 (b.toNat : Int)]
theorem bV_flat (l : List UInt8) : l.flatMap bV = bv l := by
  induction l with
  | nil => rfl
  | cons x l ih => rw [List.flatMap_cons, ih]; rfl
theorem KDb : Kd 5 43 1 1 bV := by
  obtain ⟨i0, hi, hz0, hz1, hz2⟩ := info_parts info_u8
  exact ⟨Tryz.underlying43, ⟨i0, _, hi, hz0, hz1, hz2, rfl⟩, by decide, by decide, fun _ => rfl, fun x u hu => by simp [bV] at hu; subst hu; rfl⟩
theorem own_g {W : World} {B : Nat} {v : Value} {l : List UInt8} : Own W B v l ↔ GOwn 5 1 bV W B v l := by unfold Own GOwn; rw [bV_flat]
/-- A byte appended. -/
theorem app_byte (w : World) (B : Nat) (v : Value) (l : List UInt8) (c : UInt8) (h : Own w B v l) (hB : B ≤ w.heap.size) (hl : l.length ≤ 1099511627776) :
    ∃ g cap w', (Builtin.append_ #[43, 43] 43 #[v, .slice (some ⟨w.heap.size, 0, none⟩) 1 1]).run Tryz.prog (w.alloc (.cells #[.int .u8 (c.toNat : Int)] 5)) = .ok (.slice (some ⟨g, 0, none⟩) (l.length + 1) cap) w' ∧ Own w' B (.slice (some ⟨g, 0, none⟩) (l.length + 1) cap) (l ++ [c]) ∧ Below B w w' := by
  have ba : Below w.heap.size w (w.alloc (.cells #[.int .u8 (c.toNat : Int)] 5)) := (Below.refl _ _).alloc (Nat.le_refl _) _
  obtain ⟨v', w', e, o, g, b⟩ := append_gen KDb (w.alloc (.cells #[.int .u8 (c.toNat : Int)] 5)) B v l [c] (some ⟨w.heap.size, 0, none⟩) 1 1 ((own_g.1 h).below ba) (GRow.one bV w 5 c) rfl (Nat.le_trans hB ba.size) (by simp; omega)
  rcases Lr.owns_form o with ⟨_, h0⟩ | ⟨g', cap, rfl, _⟩
  · simp at h0
  · have hl1 : (l ++ [c]).length = l.length + 1 := by simp
    rw [hl1] at e o
    exact ⟨g', cap, w', e, own_g.2 o, (ba.mono hB).trans b⟩
end Rd
end Go.Proofs.YtgdinncdhjeokaaGreatDoor
