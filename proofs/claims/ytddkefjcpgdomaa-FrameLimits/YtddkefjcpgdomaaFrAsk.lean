import Derived.Test.YtddkefjcpgdomaaFrSplit
import Derived.BigQuiet
namespace Go.Proofs.Ytddkefjcpgdomaa
open Go.RowKit
open FrMath (Hdr lb bd within Out ends cut Cut)

theorem enough_none (lim : Int) (b t : List UInt8) (he : (FrMath.look lim b).er = 0) (hlt : (b ++ t).length < (FrMath.look lim b).sz) : (Cut lim (b ++ t)).ms = [] := by
  have hE : ends lim (b ++ t) := by
    by_cases h' : (FrMath.look lim (b ++ t)).er = 0
    · exact Or.inr (Nat.lt_of_lt_of_le hlt (FrMath.look_mono lim b t he h'))
    · exact Or.inl h'
  rw [FrMath.Cut_end lim _ hE]
theorem Cut_nil (lim : Int) : Cut lim [] = ⟨[], 0, 0⟩ := FrMath.Cut_end lim [] (Or.inr (by simp [FrMath.look_nil]))
theorem enough_one (lim : Int) (b t : List UInt8) (he : (FrMath.look lim b).er = 0) (hm : (FrMath.look lim b).mi = 0) (hl : (b ++ t).length = (FrMath.look lim b).sz) : Cut lim (b ++ t) = ⟨[b ++ t], (FrMath.look lim b).sz, 0⟩ := by
  have hw := FrMath.look_whole lim b t hm
  have hE : ¬ ends lim (b ++ t) := by
    unfold FrMath.ends
    rw [hw, he, hl]
    simp
  rw [FrMath.Cut_on lim _ hE, hw, ← hl, List.take_length, List.drop_length, Cut_nil]
  rfl
theorem whole_mi (lim : Int) (b : List UInt8) (he : (FrMath.look lim b).er = 0) (h : 6 < b.length ∨ (1 < b.length ∧ lb b 1 < 128)) : (FrMath.look lim b).mi = 0 := by
  rcases h with h | ⟨h1, h2⟩
  · by_cases hz : (FrMath.look lim b).mi = 0
    · exact hz
    · have := ((FrMath.look_ok lim b he).2.2.2.1 hz).2
      omega
  · rcases FrMath.look_ways lim b with ⟨h0, e⟩ | ⟨_, _, e⟩ | ⟨h0, _, e⟩ | ⟨_, _, _, e⟩ | ⟨_, _, h4, e⟩ | ⟨_, _, h4, e⟩ | ⟨_, _, k, _, _, h4, e⟩
    · omega
    · rw [e] at he; cases he
    · omega
    · rw [e] at he ⊢; exact (FrMath.within_z _ _ _ he).1
    · omega
    · omega
    · omega
theorem ownS_len {w : World} {B : Nat} {v : Value} {l : List (List UInt8)} (h : OwnS w B v l) : ∃ a c, v = .slice a l.length c := by
  rcases ownS_form h with ⟨rfl, rfl⟩ | ⟨g, cap, rfl⟩
  · exact ⟨_, _, rfl⟩
  · exact ⟨_, _, rfl⟩

theorem ownS_one {w : World} {B g cap : Nat} {m : List UInt8} {l : List (List UInt8)} {Y : ByteArray} (h : OwnS w B (.slice (some ⟨g, 0, none⟩) (m :: l).length cap) (m :: l)) (hY : S m = Y) : w.cell? ⟨g, 0, none⟩ = some (.string Y) := by
  rw [ownS_cell h 0 (by simp), ← hY]
  rfl

theorem field_ms (a : Option Addr) (n c : Nat) (x y : Int) (W : World) : (Instr.field 26 (.agg #[.slice a n c, .int .i64 x, .int .i64 y]) 0).run Try.prog W = .ok (.slice a n c) W := by kernel_rfl

/-- A Split that is asked. -/
def asks (lim : Int) (s : ByteArray) (o : Out) : Prop := ∀ W, Calls Try.prog 10 #[.int .i64 lim, .string s] W fun r w' => cutQ o W.heap.size r w' ∧ Below W.heap.size W w'
theorem asks_of (lim : Int) (s : ByteArray) (o : Out) (hm : s.size ≤ 4194304) (h : Cut lim s.data.toList = o) : asks lim s o := fun W => by
  rw [← h]
  exact frameSplit_any lim s W hm

end Go.Proofs.Ytddkefjcpgdomaa
