import Derived.Test.YtddkefjcpgdomaaFrJoinM
import Derived.Test.YtddkefjcpgdomaaFrKeep1
namespace Go.Proofs.Ytddkefjcpgdomaa
open Go.RowKit
open FrMath (Hdr lb bd within Out ends cut Cut)

/-- A stream that ends with whole messages. -/
def allCut (L : Int) (b : List UInt8) : Prop := (Cut L b).er = 0 ∧ (Cut L b).at_ = b.length
theorem allCut_nil (L : Int) : allCut L [] := by
  unfold allCut
  rw [Cut_nil]
  exact ⟨rfl, rfl⟩
theorem cut_two (L : Int) (b m1 m2 : List UInt8) (h : allCut L b) (h1 : isMsg m1 ∧ (m1.length : Int) ≤ L) (h2 : isMsg m2 ∧ (m2.length : Int) ≤ L) :
    (Cut L (b ++ (m1 ++ m2))).ms = (Cut L b).ms ++ [m1, m2] ∧ allCut L (b ++ (m1 ++ m2)) := by
  have hj := cut_joined L [m1, m2] (fun m hm => by
    simp at hm
    rcases hm with rfl | rfl
    · exact h1
    · exact h2)
  have ef : [m1, m2].flatten = m1 ++ m2 := by simp
  rw [ef] at hj
  have ha := Cut_ok_app L b (m1 ++ m2) h.1
  rw [h.2, List.drop_length, List.nil_append, hj] at ha
  unfold allCut
  rw [ha]
  refine ⟨rfl, rfl, ?_⟩
  show b.length + (m1 ++ m2).length = _
  simp
/-- What a body makes: two messages. -/
theorem two_msgs (f : Int) (t : ByteArray) (ht : t.size ≤ 1000) :
    ∃ M1 M2 : ByteArray, (∀ W, Calls Try.prog 13 #[.int .i64 f, .string t] W fun r w' => r = .returned (.string M1) ∧ Below W.heap.size W w') ∧ (∀ W, Calls Try.prog 13 #[.int .i64 0, .string t] W fun r w' => r = .returned (.string M2) ∧ Below W.heap.size W w') ∧ isMsg M1.data.toList ∧ isMsg M2.data.toList ∧ M1.size ≤ t.size + 6 ∧ M2.size ≤ t.size + 6 := by
  obtain ⟨k, hk, HW⟩ := wrap_any f t (by omega)
  obtain ⟨k', hk', HW'⟩ := wrap_any 0 t (by omega)
  refine ⟨_, _, HW, HW', ⟨k, t.size, t.data.toList, hk, size_l t, by rw [app_l, S_l]⟩, ⟨k', t.size, t.data.toList, hk', size_l t, by rw [app_l, S_l]⟩, ?_, ?_⟩
  · rw [ByteArray.size_append, S_size, hd_len]
    have := hk.1
    omega
  · rw [ByteArray.size_append, S_size, hd_len]
    have := hk'.1
    omega
end Go.Proofs.Ytddkefjcpgdomaa
