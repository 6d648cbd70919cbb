import Derived.Test.YtoomoicjoockjaaGreatDoorInfo
import Derived.Test.YtoomoicjoockjaaGreatDoorBytes
import Derived.Test.YtoomoicjoockjaaGreatDoorBaseMath
import Derived.Lib.QuoteBits
import Derived.Deep.AppendLies
namespace Go.Proofs.YtoomoicjoockjaaGreatDoor
open Go.RowKit
open TextMath (al grp b64)

theorem blockA_lt {w : World} {a : Addr} {v : Value} (h : w.cell? a = some v) : a.block < w.heap.size := by
  rcases Nat.lt_or_ge a.block w.heap.size with h' | h'
  · exact h'
  · unfold World.cell? at h
    rw [Array.getElem?_eq_none h'] at h
    cases h
theorem i64_and (n m : Nat) (hn : n < 9223372036854775808) (hm : m < 9223372036854775808) : bits .and .i64 (n : Int) (m : Int) = ((n &&& m : Nat) : Int) := by
  show IntKind.i64.wrap ((BitVec.ofInt 64 (n : Int) &&& BitVec.ofInt 64 (m : Int)).toNat : Int) = _
  rw [BitVec.toNat_and, ofInt_u64 n (by omega), ofInt_u64 m (by omega)]
  exact Lib.wrap_i64_small _ (Nat.lt_of_le_of_lt Nat.and_le_left hn)
theorem i64_or (n m : Nat) (hn : n < 4611686018427387904) (hm : m < 4611686018427387904) : bits .or .i64 (n : Int) (m : Int) = ((n ||| m : Nat) : Int) := by
  show IntKind.i64.wrap ((BitVec.ofInt 64 (n : Int) ||| BitVec.ofInt 64 (m : Int)).toNat : Int) = _
  rw [BitVec.toNat_or, ofInt_u64 n (by omega), ofInt_u64 m (by omega)]
  have : n ||| m < 2 ^ 62 := Nat.or_lt_two_pow (by omega) (by omega)
  exact Lib.wrap_i64_small _ (by omega)
/-- 'x & 63', as the walk spells it. -/
theorem and63 (x : Int) (n m : Nat) (hx : x = n) (hn : n < 9223372036854775808) (hm : m = n % 64) : bits .and .i64 x 63 = (m : Int) := by
  subst hx hm
  have e := i64_and n 63 hn (by omega)
  rw [show (63 : Int) = ((63 : Nat) : Int) from rfl, e]
  congr 1
  have := Nat.and_two_pow_sub_one_eq_mod n 6
  simpa using this
/-- 'x | y', y's bits above x's. -/
theorem orHigh (i : Nat) (x y : Int) (n m v : Nat) (hx : x = n) (hy : y = m) (hn : n < 2 ^ i) (hm : m % 2 ^ i = 0) (h1 : n < 4611686018427387904) (h2 : m < 4611686018427387904) (hv : v = n + m) : bits .or .i64 x y = (v : Int) := by
  subst hx hy hv
  rw [i64_or n m h1 h2, Nat.or_comm, nat_join i m n hm hn]
  congr 1; omega

end Go.Proofs.YtoomoicjoockjaaGreatDoor

namespace Go.Proofs.YtoomoicjoockjaaGreatDoor
open Go.RowKit
open TextMath (al grp b64)

/-- A group's four characters. -/
theorem get_l (s : ByteArray) (l : List UInt8) (h : s.data.toList = l) (i : Nat) (hi : i < s.size) : (s[i]'hi) = l.getD i 0 := by rw [← h, getD_s s i hi]
end Go.Proofs.YtoomoicjoockjaaGreatDoor

namespace Go.Proofs.YtoomoicjoockjaaGreatDoor
open Go.RowKit
open TextMath (al grp b64)

theorem own_block {w w' : World} {base e size g n cap : Nat} {xs : List Value} (h : w.ownsRow base e size (.slice (some ⟨g, 0, none⟩) n cap) n xs) (hb : w'.heap[g]? = w.heap[g]?) : w'.ownsRow base e size (.slice (some ⟨g, 0, none⟩) n cap) n xs := by
  refine ⟨h.1, ?_⟩
  rcases h.2 with ⟨h1, _⟩ | ⟨g', cap', cur, h1, h2, h3, h4⟩
  · cases h1
  · injection h1 with h1 _ h5
    injection h1 with h1
    injection h1 with h1 _ _
    subst h1 h5
    exact Or.inr ⟨g, cap, cur, rfl, h2, by rw [hb]; exact h3, h4⟩

theorem four_new (w : World) (O : Obj) (a b c d : Value) (e : TypeId) : ∀ j u, [a, b, c, d][j]? = some u → ((w.alloc O).alloc (.cells #[a, b, c, d] e)).cell? ((⟨w.heap.size + 1, 0, none⟩ : Addr).add j) = some u := by
  have hb : ((w.alloc O).alloc (.cells #[a, b, c, d] e)).heap[w.heap.size + 1]? = some (.cells #[a, b, c, d] e (0, 0)) := by
    have h := heap_alloc_new (w.alloc O) (.cells #[a, b, c, d] e)
    simpa using h
  exact World.news_of_block hb

/-- How long the text in a slot is. -/
def szOf : Value → Nat
  | .string t => t.size
  | _ => 0

theorem b64_go (l o : List UInt8) (t : ByteArray) (m : Nat) (p q r x : UInt8) (h : b64 l = o ++ b64 t.data.toList) (h0 : 1 ≤ t.size) (hm : m = min 3 t.size) (hg : grp (t.extract 0 m).data.toList = [p, q, r, x]) :
    b64 l = (o ++ [p, q, r, x]) ++ b64 (t.extract m t.size).data.toList := by
  have hne : t.data.toList ≠ [] := fun e => by have := size_l t; rw [e] at this; simp at this; omega
  have e1 : t.data.toList.take m = t.data.toList.take 3 := by
    by_cases h3 : 3 ≤ t.size
    · rw [hm, Nat.min_eq_left h3]
    · rw [hm, Nat.min_eq_right (by omega), List.take_of_length_le (by rw [size_l]; omega), List.take_of_length_le (by rw [size_l]; omega)]
  have e2 : t.data.toList.drop m = t.data.toList.drop 3 := by
    by_cases h3 : 3 ≤ t.size
    · rw [hm, Nat.min_eq_left h3]
    · rw [hm, Nat.min_eq_right (by omega), List.drop_eq_nil_of_le (by rw [size_l]; omega), List.drop_eq_nil_of_le (by rw [size_l]; omega)]
  rw [take_l, e1] at hg
  rw [h, TextMath.b64_step _ hne, hg, drop_l, e2]; simp

end Go.Proofs.YtoomoicjoockjaaGreatDoor
