import Derived.Test.YtkiidlnimjjnlaaDoorBWhole
import Derived.Deep.RegionWith
namespace Go.Proofs.YtkiidlnimjjnlaaDoor
open Go.RowKit
open BerMath (Hd HR num hAt wAt)

/-- An element that was read. -/
abbrev elmV (h : Hd) (d : Int) : Value := .agg #[.int .i64 (h.cls : Int), .bool h.made, .int .i64 (h.tag : Int), .int .i64 (h.len : Int), .int .i64 (h.size : Int), .int .i64 d]
abbrev elmO (h : Hd) (d : Int) : Obj := .cells #[.int .i64 (h.cls : Int), .bool h.made, .int .i64 (h.tag : Int), .int .i64 (h.len : Int), .int .i64 (h.size : Int), .int .i64 d] 99

theorem end_any (h : Hd) (d : Int) (p : Nat) (w : World) (hp : p ≤ 281474976710656) (h1 : h.size ≤ 6) (h2 : h.len < 4294967296) :
    Calls Tryd.prog 57 #[elmV h d, .int .i64 (p : Int)] w fun r w' => r = .returned (.int .i64 ((p + h.size + h.len : Nat) : Int)) ∧ w' = w.alloc (elmO h d) := by
  have e1 : wrap64 ((p : Int) + (h.size : Int)) = ((p + h.size : Nat) : Int) := by unfold wrap64; omega
  have e2 : wrap64 (((p + h.size : Nat) : Int) + (h.len : Int)) = ((p + h.size + h.len : Nat) : Int) := by unfold wrap64; omega
  obtain ⟨A, hA⟩ : ∃ A : Int, ((p + h.size : Nat) : Int) = A := ⟨_, rfl⟩
  obtain ⟨E, hE⟩ : ∃ E : Int, ((p + h.size + h.len : Nat) : Int) = E := ⟨_, rfl⟩
  rw [hA] at e1
  rw [hA, hE] at e2
  rw [hE]
  have e2' : Hid (wrap64 (A + (h.len : Int)) = E) := e2
  clear hA hE hp h1 h2
  go_enter Tryd.func57, Tryd.ntmps57
  go_wp2
  go_ret
  exact ⟨by rw [← e2'.out]; rfl, rfl⟩

set_option maxHeartbeats 1000000 in
theorem content_any (s : ByteArray) (h : Hd) (d : Int) (p : Nat) (w : World) (hp : p ≤ 281474976710656) (h1 : h.size ≤ 6) (h2 : h.len < 4294967296) (h3 : p + h.size + h.len ≤ s.size) :
    Calls Tryd.prog 72 #[elmV h d, .string s, .int .i64 (p : Int)] w fun r w' => r = .returned (.string (s.extract (p + h.size) (p + h.size + h.len))) ∧ Below w.heap.size w w' := by
  have hEnd : ∀ W, Hid (Calls Tryd.prog 57 #[elmV h d, .int .i64 (p : Int)] W fun r w' => r = .returned (.int .i64 ((p + h.size + h.len : Nat) : Int)) ∧ w' = W.alloc (elmO h d)) := fun W => end_any h d p W hp h1 h2
  have e1 : wrap64 ((p : Int) + (h.size : Int)) = ((p + h.size : Nat) : Int) := by unfold wrap64; omega
  have e1' : IntKind.i64.wrap ((p : Int) + (h.size : Int)) = ((p + h.size : Nat) : Int) := by rw [IntKind.wrap_i64]; omega
  have hAE : p + h.size ≤ p + h.size + h.len := Nat.le_add_right _ _
  generalize p + h.size + h.len = E at *
  generalize p + h.size = A at *
  have a0 : (0 : Int) ≤ (A : Int) := Int.natCast_nonneg _
  have a1 : (A : Int) ≤ (E : Int) := Int.ofNat_le.2 hAE
  have a2 : (E : Int) ≤ (s.size : Int) := Int.ofNat_le.2 h3
  clear hp h1 h2
  go_enter Tryd.func72, Tryd.ntmps72
  go_wp2_with fail
  go_region_with (go_at_call 57; refine (hEnd _).out.mono ?_; rintro r w1 ⟨rfl, rfl⟩)
  all_goals
    go_wp2_with fail
    go_ret
    refine ⟨rfl, ?_⟩
    repeat' first | exact Below.refl _ _ | refine Below.drew ?_ | refine Below.alloc ?_ (by simp) _ | refine Below.alloc ?_ (by simp; omega) _
end Go.Proofs.YtkiidlnimjjnlaaDoor
