import Derived.Test.YtkcncepfncdbhaaDoorAtLin
import Derived.Test.YtkcncepfncdbhaaDoorAtPType
import Derived.Test.YtkcncepfncdbhaaDoorAtSet
import Derived.Test.YtkcncepfncdbhaaDoorAtDesc
namespace Go.Proofs.YtkcncepfncdbhaaDoor
open Go.RowKit
open TextMath (fold lo)
set_option linter.unusedVariables false

theorem ext_full (s : ByteArray) : s.extract 0 s.size = s := by
  have h : (s.extract 0 s.size).data.toList = s.data.toList := by
    rw [Lib.extract_data]
    simp
    rw [List.take_of_length_le]
    rw [size_l]
    exact Nat.le_refl _
  rw [← S_of (s.extract 0 s.size), h, S_of]
theorem ownS_base {w : World} {B B' : Nat} {v : Value} {l : List (List UInt8)} (h : OwnS w B v l) (hB : B' ≤ B) : OwnS w B' v l := by
  rcases h with ⟨h1, ⟨rfl, h2⟩ | ⟨g, cap, cur, rfl, h3, h4⟩⟩
  · exact ⟨h1, Or.inl ⟨rfl, h2⟩⟩
  · exact ⟨h1, Or.inr ⟨g, cap, cur, rfl, Nat.le_trans hB h3, h4⟩⟩
/-- A text that is a type and nothing else. -/
def Typ (f : ByteArray) : Prop := (typE f.data.toList).1 = f.size ∧ (typE f.data.toList).2 = true

set_option maxRecDepth 100000 in
set_option maxHeartbeats 1000000 in
theorem readType_any (f : ByteArray) (w : World) (hs : f.size ≤ 140737488355328) (hT : Typ f) :
    Calls Tryd.prog 39 #[.string f] w fun e w' => e = .returned (.tuple #[.string f, .slice none 0 0, .int .i64 (f.size : Int), .bool true]) ∧ w' = w := by
  have hc := typeEnd_any f w hs
  rw [hT.1, hT.2] at hc
  have n0 : (0 : Int) ≤ (f.size : Int) := Int.natCast_nonneg _
  clear hT
  go_enter Tryd.func39, Tryd.ntmps39
  go_wp2_with (go_at_call 46; refine hc.mono ?_; rintro e w' ⟨rfl, rfl⟩)
  refine wp_loop_rounds 1 ?_
  rw [rounds_succ]
  go_wp2_with fail
  exact bodyPost_ret (results_tmp4 rfl _ _ _) rfl ⟨rfl, rfl⟩

/-- The book of one asked text, laid down: what the calls over it may lean on. -/
theorem fold_size (s : ByteArray) : (S (fold s.data.toList)).size = s.size := by
  rw [S_size]
  unfold fold
  rw [List.length_map, size_l]

/-- The syntax of a type. -/
def synN (f : ByteArray) : Int := match rowOf f with
  | none => 0
  | some i => SYN.getD i.1 0
theorem field_book (B : Nat) (W : World) : (Instr.field 73 (.agg (bkC B (upF 62))) 1).run Tryd.prog W = .ok (.map (some B)) W := by kernel_rfl

end Go.Proofs.YtkcncepfncdbhaaDoor
