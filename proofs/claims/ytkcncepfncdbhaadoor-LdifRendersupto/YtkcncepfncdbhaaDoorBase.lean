import Derived.Test.YtkcncepfncdbhaaDoorInfo
import Derived.Test.YtkcncepfncdbhaaDoorBytes
import Derived.Test.YtkcncepfncdbhaaDoorBaseMath
import Derived.Lib.QuoteBits
namespace Go.Proofs.YtkcncepfncdbhaaDoor
open Go.RowKit
open TextMath (al grp b64)

def AlTab (w : World) : Prop := ∀ i, i < 64 → w.cell? ⟨1, i, none⟩ = some (.int .u8 ((al i).toNat : Int))
theorem blockA_lt {w : World} {a : Addr} {v : Value} (h : w.cell? a = some v) : a.block < w.heap.size := by
  rcases Nat.lt_or_ge a.block w.heap.size with h' | h'
  · exact h'
  · unfold World.cell? at h
    rw [Array.getElem?_eq_none h'] at h
    cases h
theorem AlTab.below {w w' : World} (h : AlTab w) (hb : Below w.heap.size w w') : AlTab w' := fun i hi => by
  rw [hb.cell (blockA_lt (h i hi))]; exact h i hi

theorem i64_and (n m : Nat) (hn : n < 9223372036854775808) (hm : m < 9223372036854775808) : bits .and .i64 (n : Int) (m : Int) = ((n &&& m : Nat) : Int) := by
  show IntKind.i64.wrap ((BitVec.ofInt 64 (n : Int) &&& BitVec.ofInt 64 (m : Int)).toNat : Int) = _
  rw [BitVec.toNat_and, ofInt_u64 n (by omega), ofInt_u64 m (by omega)]
  exact Lib.wrap_i64_small _ (Nat.lt_of_le_of_lt Nat.and_le_left hn)
theorem i64_or (n m : Nat) (hn : n < 4611686018427387904) (hm : m < 4611686018427387904) : bits .or .i64 (n : Int) (m : Int) = ((n ||| m : Nat) : Int) := by
  show IntKind.i64.wrap ((BitVec.ofInt 64 (n : Int) ||| BitVec.ofInt 64 (m : Int)).toNat : Int) = _
  rw [BitVec.toNat_or, ofInt_u64 n (by omega), ofInt_u64 m (by omega)]
  have : n ||| m < 2 ^ 62 := Nat.or_lt_two_pow (by omega) (by omega)
  exact Lib.wrap_i64_small _ (by omega)
/-- 'x & 63', as the walk spells it. -/
theorem and63 (x : Int) (n m : Nat) (hx : x = n) (hn : n < 9223372036854775808) (hm : m = n % 64) : bits .and .i64 x 63 = (m : Int) := by
  subst hx hm
  have e := i64_and n 63 hn (by omega)
  rw [show (63 : Int) = ((63 : Nat) : Int) from rfl, e]
  congr 1
  have := Nat.and_two_pow_sub_one_eq_mod n 6
  simpa using this
/-- 'x | y', y's bits above x's. -/
theorem orHigh (i : Nat) (x y : Int) (n m v : Nat) (hx : x = n) (hy : y = m) (hn : n < 2 ^ i) (hm : m % 2 ^ i = 0) (h1 : n < 4611686018427387904) (h2 : m < 4611686018427387904) (hv : v = n + m) : bits .or .i64 x y = (v : Int) := by
  subst hx hy hv
  rw [i64_or n m h1 h2, Nat.or_comm, nat_join i m n hm hn]
  congr 1; omega

set_option maxHeartbeats 1000000 in
theorem enc1 (s : ByteArray) (a : Nat) (w : World) (hs : Hid (s.size = 1)) (h0 : ∀ h : 0 < s.size, (s[0]'h).toNat = a) (hx : a < 256) (ht : AlTab w) :
    Calls Tryd.prog 45 #[.string s] w fun e w' => e = .returned (.agg #[.int .u8 ((al (a / 4)).toNat : Int), .int .u8 ((al (a % 4 * 16)).toNat : Int), .int .u8 61, .int .u8 61]) ∧ Below w.heap.size w w' := by
  have hblk : 1 < w.heap.size := blockA_lt (ht 0 (by omega))
  have hblk2 : 1 < w.heap.size + 1 := by omega
  have hblk3 : 0 < w.heap.size := by omega
  have t0 := ht (a / 4) (by omega)
  have t1 := ht (a % 4 * 16) (by omega)
  obtain ⟨v, hv⟩ : ∃ v, v = 65536 * a := ⟨_, rfl⟩
  have e1 : bits .or .i64 0 ((a : Int) * 65536) = (v : Int) := orHigh 16 _ _ 0 (65536 * a) v rfl (by omega) (by omega) (by omega) (by omega) (by omega) (by omega)
  have e2 : bits .and .i64 ((v : Int) / 4096) 63 = ((a % 4 * 16 : Nat) : Int) := and63 _ (v / 4096) _ (by omega) (by omega) (by omega)
  have e3 : (v : Int) / 262144 = ((a / 4 : Nat) : Int) := by omega
  have b0 : a / 4 < 64 := by omega
  have b1 : a % 4 * 16 < 64 := by omega
  clear hv
  generalize a / 4 = i0 at *
  generalize a % 4 * 16 = i1 at *
  generalize ((al i0).toNat : Int) = d0 at *
  generalize ((al i1).toNat : Int) = d1 at *
  have hs' := hs.out
  have hsz : ((s.size : Int) == 3) = false := by simp; omega
  have hsz2 : ((s.size : Int) == 2) = false := by simp; omega
  have hsz1 : ((s.size : Int) == 1) = true := by simp; omega
  have hp : (0 : Int) < s.size := by omega
  have hp' : 0 < s.size := by omega
  have c0 : (i0 : Int) < 64 := by omega
  have c1 : (i1 : Int) < 64 := by omega
  clear hs'
  go_enter Tryd.func45, Tryd.ntmps45
  go_wp2
  exact bodyPost_ret (v := .agg #[.int .u8 d0, .int .u8 d1, .int .u8 61, .int .u8 61]) (by simp [results, Tryd.results45, go_sem]) rfl ⟨rfl, ((Below.refl _ _).alloc (Nat.le_refl _) _).alloc (by simp) _⟩
end Go.Proofs.YtkcncepfncdbhaaDoor
