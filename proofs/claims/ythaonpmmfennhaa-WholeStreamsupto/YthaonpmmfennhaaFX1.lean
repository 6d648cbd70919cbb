import Derived.WalkKit
import Derived.Test.YthaonpmmfennhaaBytes
import Derived.Test.YthaonpmmfennhaaInfo
import Derived.Lib.QuoteBits
import Derived.Deep.DeepCutAuto
import Derived.BigQuiet
import Derived.Deep.RegionHeld3
import Derived.Deep.RegionHeldLaw
import Derived.Deep.AppendLies
import Derived.KernelRfl
namespace Go.Proofs.Ythaonpmmfennhaa
namespace FrMath

/-- What the front of a message tells: bytes of the header that are missing, bytes of the whole message, the error. -/
structure Hdr where
  mi : Nat
  sz : Nat
  er : Nat
/-- A byte by its place, 0 if it is missing. -/
def lb (b : List UInt8) (p : Nat) : Nat := (b.getD p 0).toNat
theorem lb_lt (b : List UInt8) (p : Nat) : lb b p < 256 := (b.getD p 0).toNat_lt
/-- The length that k further bytes say. -/
def bd (b : List UInt8) : Nat → Nat
  | 0 => 0
  | k + 1 => bd b k * 256 + lb b (2 + k)
def within (lim : Int) (m z : Nat) : Hdr := if m = 0 ∧ lim < (z : Int) then ⟨0, 0, 33⟩ else ⟨m, z, 0⟩
def look (lim : Int) (b : List UInt8) : Hdr :=
  if b.length = 0 then ⟨2, 2, 0⟩
  else if lb b 0 ≠ 48 then ⟨0, 0, 30⟩
  else if b.length < 2 then ⟨1, 2, 0⟩
  else if lb b 1 < 128 then within lim 0 (2 + lb b 1)
  else if lb b 1 = 128 then ⟨0, 0, 31⟩
  else if 132 < lb b 1 then ⟨0, 0, 32⟩
  else within lim (lb b 1 - 126 - b.length) (lb b 1 - 126 + bd b (lb b 1 - 128))

theorem bd_lt (b : List UInt8) (k : Nat) (h : k ≤ 4) : bd b k < 4294967296 := by
  have h2 := lb_lt b 2
  have h3 := lb_lt b (2 + 1)
  have h4 := lb_lt b (2 + 2)
  have h5 := lb_lt b (2 + 3)
  have : k = 0 ∨ k = 1 ∨ k = 2 ∨ k = 3 ∨ k = 4 := by omega
  rcases this with rfl | rfl | rfl | rfl | rfl <;> simp only [bd, Nat.add_zero] <;> omega

theorem lb_app (b m : List UInt8) (p : Nat) (h : p < b.length) : lb (b ++ m) p = lb b p := by
  unfold lb
  rw [List.getD_eq_getElem?_getD, List.getD_eq_getElem?_getD, List.getElem?_append_left h]
theorem lb_out (b : List UInt8) (p : Nat) (h : b.length ≤ p) : lb b p = 0 := by
  unfold lb
  rw [List.getD_eq_getElem?_getD, List.getElem?_eq_none h]
  rfl
theorem lb_le (b m : List UInt8) (p : Nat) : lb b p ≤ lb (b ++ m) p := by
  by_cases h : p < b.length
  · rw [lb_app b m p h]; exact Nat.le_refl _
  · rw [lb_out b p (by omega)]; exact Nat.zero_le _
theorem bd_le (b m : List UInt8) (k : Nat) : bd b k ≤ bd (b ++ m) k := by
  induction k with
  | zero => exact Nat.le_refl _
  | succ k ih =>
    have := lb_le b m (2 + k)
    show bd b k * 256 + lb b (2 + k) ≤ bd (b ++ m) k * 256 + lb (b ++ m) (2 + k)
    omega
theorem bd_app (b m : List UInt8) (k : Nat) (h : 2 + k ≤ b.length) : bd (b ++ m) k = bd b k := by
  induction k with
  | zero => rfl
  | succ k ih =>
    show bd (b ++ m) k * 256 + lb (b ++ m) (2 + k) = bd b k * 256 + lb b (2 + k)
    rw [ih (by omega), lb_app b m (2 + k) (by omega)]

theorem within_z (lim : Int) (m z : Nat) (h : (within lim m z).er = 0) : (within lim m z).mi = m ∧ (within lim m z).sz = z := by
  unfold within at *
  by_cases h1 : m = 0 ∧ lim < (z : Int)
  · rw [if_pos h1] at h; cases h
  · rw [if_neg h1]; exact ⟨rfl, rfl⟩
theorem within_e (lim : Int) (m z : Nat) (h : (within lim m z).er ≠ 0) : within lim m z = ⟨0, 0, 33⟩ ∧ m = 0 ∧ lim < (z : Int) := by
  unfold within at *
  by_cases h1 : m = 0 ∧ lim < (z : Int)
  · rw [if_pos h1]; exact ⟨rfl, h1⟩
  · rw [if_neg h1] at h; exact absurd rfl h
theorem within_m (lim : Int) (m z : Nat) (h : m ≠ 0) : within lim m z = ⟨m, z, 0⟩ := by
  unfold within
  rw [if_neg (fun hh => h hh.1)]

/-- The ways of look, one by one. -/
theorem look_ways (lim : Int) (b : List UInt8) :
    (b.length = 0 ∧ look lim b = ⟨2, 2, 0⟩) ∨ (0 < b.length ∧ lb b 0 ≠ 48 ∧ look lim b = ⟨0, 0, 30⟩) ∨ (b.length = 1 ∧ lb b 0 = 48 ∧ look lim b = ⟨1, 2, 0⟩)
    ∨ (2 ≤ b.length ∧ lb b 0 = 48 ∧ lb b 1 < 128 ∧ look lim b = within lim 0 (2 + lb b 1)) ∨ (2 ≤ b.length ∧ lb b 0 = 48 ∧ lb b 1 = 128 ∧ look lim b = ⟨0, 0, 31⟩)
    ∨ (2 ≤ b.length ∧ lb b 0 = 48 ∧ 132 < lb b 1 ∧ look lim b = ⟨0, 0, 32⟩)
    ∨ (2 ≤ b.length ∧ lb b 0 = 48 ∧ ∃ k, 1 ≤ k ∧ k ≤ 4 ∧ lb b 1 = 128 + k ∧ look lim b = within lim (2 + k - b.length) (2 + k + bd b k)) := by
  unfold look
  by_cases h0 : b.length = 0
  · rw [if_pos h0]; exact Or.inl ⟨h0, rfl⟩
  rw [if_neg h0]
  by_cases h1 : lb b 0 ≠ 48
  · rw [if_pos h1]; exact Or.inr (Or.inl ⟨by omega, h1, rfl⟩)
  rw [if_neg h1]
  have h1' : lb b 0 = 48 := by omega
  by_cases h2 : b.length < 2
  · rw [if_pos h2]; exact Or.inr (Or.inr (Or.inl ⟨by omega, h1', rfl⟩))
  rw [if_neg h2]
  by_cases h3 : lb b 1 < 128
  · rw [if_pos h3]; exact Or.inr (Or.inr (Or.inr (Or.inl ⟨by omega, h1', h3, rfl⟩)))
  rw [if_neg h3]
  by_cases h4 : lb b 1 = 128
  · rw [if_pos h4]; exact Or.inr (Or.inr (Or.inr (Or.inr (Or.inl ⟨by omega, h1', h4, rfl⟩))))
  rw [if_neg h4]
  by_cases h5 : 132 < lb b 1
  · rw [if_pos h5]; exact Or.inr (Or.inr (Or.inr (Or.inr (Or.inr (Or.inl ⟨by omega, h1', h5, rfl⟩)))))
  rw [if_neg h5]
  refine Or.inr (Or.inr (Or.inr (Or.inr (Or.inr (Or.inr ⟨by omega, h1', lb b 1 - 128, by omega, by omega, by omega, ?_⟩)))))
  have e : lb b 1 - 126 = 2 + (lb b 1 - 128) := by omega
  rw [e]

theorem look_er (lim : Int) (b : List UInt8) (h : (look lim b).er ≠ 0) : (look lim b).mi = 0 ∧ (look lim b).sz = 0 ∧ 30 ≤ (look lim b).er ∧ (look lim b).er ≤ 33 := by
  rcases look_ways lim b with ⟨_, e⟩ | ⟨_, _, e⟩ | ⟨_, _, e⟩ | ⟨_, _, _, e⟩ | ⟨_, _, _, e⟩ | ⟨_, _, _, e⟩ | ⟨_, _, k, _, _, _, e⟩ <;> rw [e] at h ⊢ <;> simp at h ⊢
  · rw [(within_e _ _ _ h).1]; simp
  · rw [(within_e _ _ _ h).1]; simp
theorem look_ok (lim : Int) (b : List UInt8) (h : (look lim b).er = 0) : 2 ≤ (look lim b).sz ∧ (look lim b).sz ≤ 4294967302 ∧ (look lim b).mi ≤ 4 ∧ ((look lim b).mi ≠ 0 → b.length + (look lim b).mi ≤ (look lim b).sz ∧ b.length < 6) ∧ ((look lim b).mi = 0 → ((look lim b).sz : Int) ≤ lim ∧ 2 ≤ b.length) := by
  rcases look_ways lim b with ⟨h0, e⟩ | ⟨_, _, e⟩ | ⟨h0, _, e⟩ | ⟨h0, _, h1, e⟩ | ⟨_, _, _, e⟩ | ⟨_, _, _, e⟩ | ⟨h0, _, k, h1, h2, h3, e⟩ <;> rw [e] at h ⊢
  · simp [h0]
  · cases h
  · simp [h0]
  · obtain ⟨h5, h6⟩ := within_z _ _ _ h
    rw [h5, h6]
    refine ⟨by omega, by omega, by omega, fun hh => absurd rfl hh, fun _ => ⟨?_, h0⟩⟩
    unfold within at h
    by_cases h7 : (0 : Nat) = 0 ∧ lim < ((2 + lb b 1 : Nat) : Int)
    · rw [if_pos h7] at h; cases h
    · have : ¬ lim < ((2 + lb b 1 : Nat) : Int) := fun hh => h7 ⟨rfl, hh⟩
      omega
  · cases h
  · cases h
  · obtain ⟨h5, h6⟩ := within_z _ _ _ h
    rw [h5, h6]
    have hb := bd_lt b k h2
    refine ⟨by omega, by omega, by omega, fun hh => ⟨by omega, by omega⟩, fun hh => ⟨?_, h0⟩⟩
    unfold within at h
    by_cases h7 : 2 + k - b.length = 0 ∧ lim < ((2 + k + bd b k : Nat) : Int)
    · rw [if_pos h7] at h; cases h
    · have : ¬ lim < ((2 + k + bd b k : Nat) : Int) := fun hh' => h7 ⟨hh, hh'⟩
      omega

theorem look_nil (lim : Int) : look lim [] = ⟨2, 2, 0⟩ := rfl

/-- A whole header is the same whatever stands behind it. -/
theorem look_whole (lim : Int) (b m : List UInt8) (h : (look lim b).mi = 0) : look lim (b ++ m) = look lim b := by
  rcases look_ways lim b with ⟨_, e⟩ | ⟨h0, h1, e⟩ | ⟨_, _, e⟩ | ⟨h0, h1, h2, e⟩ | ⟨h0, h1, h2, e⟩ | ⟨h0, h1, h2, e⟩ | ⟨h0, h1, k, h2, h3, h4, e⟩
  · rw [e] at h; cases h
  · rw [e]
    unfold look
    rw [if_neg (by rw [List.length_append]; omega), lb_app b m 0 (by omega), if_pos h1]
  · rw [e] at h; cases h
  · rw [e]
    unfold look
    rw [if_neg (by rw [List.length_append]; omega), lb_app b m 0 (by omega), if_neg (by omega), if_neg (by rw [List.length_append]; omega), lb_app b m 1 (by omega), if_pos h2]
  · rw [e]
    unfold look
    rw [if_neg (by rw [List.length_append]; omega), lb_app b m 0 (by omega), if_neg (by omega), if_neg (by rw [List.length_append]; omega), lb_app b m 1 (by omega), if_neg (by omega), if_pos h2]
  · rw [e]
    unfold look
    rw [if_neg (by rw [List.length_append]; omega), lb_app b m 0 (by omega), if_neg (by omega), if_neg (by rw [List.length_append]; omega), lb_app b m 1 (by omega), if_neg (by omega), if_neg (by omega), if_pos h2]
  · have hle : 2 + k ≤ b.length := by
      rw [e] at h
      by_cases hh : 2 + k - b.length = 0
      · omega
      · rw [within_m _ _ _ hh] at h; exact absurd h hh
    rw [e]
    unfold look
    rw [if_neg (by rw [List.length_append]; omega), lb_app b m 0 (by omega), if_neg (by omega), if_neg (by rw [List.length_append]; omega), lb_app b m 1 (by omega), if_neg (by omega), if_neg (by omega), if_neg (by omega)]
    have e1 : lb b 1 - 126 - (b ++ m).length = 0 := by rw [List.length_append]; omega
    have e2 : 2 + k - b.length = 0 := by omega
    have e3 : lb b 1 - 126 = 2 + k := by omega
    have e4 : lb b 1 - 128 = k := by omega
    rw [e1, e2, e3, e4, bd_app b m k hle]

/-- With more bytes a message that is not refused is no shorter. -/
theorem look_mono (lim : Int) (b m : List UInt8) (h : (look lim b).er = 0) (h' : (look lim (b ++ m)).er = 0) : (look lim b).sz ≤ (look lim (b ++ m)).sz := by
  rcases look_ways lim b with ⟨_, e⟩ | ⟨h0, h1, e⟩ | ⟨_, _, e⟩ | ⟨h0, h1, h2, e⟩ | ⟨h0, h1, h2, e⟩ | ⟨h0, h1, h2, e⟩ | ⟨h0, h1, k, h2, h3, h4, e⟩
  · rw [e]; exact (look_ok lim (b ++ m) h').1
  · rw [e] at h; cases h
  · rw [e]; exact (look_ok lim (b ++ m) h').1
  · rw [look_whole lim b m (by rw [e]; rw [e] at h; exact (within_z _ _ _ h).1)]; exact Nat.le_refl _
  · rw [e] at h; cases h
  · rw [e] at h; cases h
  · by_cases hz : 2 + k - b.length = 0
    · rw [look_whole lim b m (by rw [e]; rw [e] at h; rw [(within_z _ _ _ h).1]; exact hz)]; exact Nat.le_refl _
    · rw [e, within_m _ _ _ hz]
      rcases look_ways lim (b ++ m) with ⟨g0, g⟩ | ⟨g0, g1, g⟩ | ⟨g0, _, g⟩ | ⟨g0, g1, g2, g⟩ | ⟨g0, g1, g2, g⟩ | ⟨g0, g1, g2, g⟩ | ⟨g0, g1, k', g2, g3, g4, g⟩
      · rw [List.length_append] at g0; omega
      · rw [g] at h'; cases h'
      · rw [List.length_append] at g0; omega
      · rw [lb_app b m 1 (by omega)] at g2; omega
      · rw [g] at h'; cases h'
      · rw [g] at h'; cases h'
      · rw [lb_app b m 1 (by omega)] at g4
        have : k' = k := by omega
        subst this
        rw [g] at h' ⊢
        rw [(within_z _ _ _ h').2]
        have := bd_le b m k'
        show 2 + k' + bd b k' ≤ _
        omega
theorem look_six (lim : Int) (b : List UInt8) : look lim (b.take 6) = look lim b := by
  by_cases h : b.length ≤ 6
  · rw [List.take_of_length_le h]
  · have h6 : (b.take 6).length = 6 := by rw [List.length_take]; omega
    have hm : (look lim (b.take 6)).mi = 0 := by
      by_cases he : (look lim (b.take 6)).er = 0
      · have := (look_ok lim (b.take 6) he).2.2.2.1
        by_cases hz : (look lim (b.take 6)).mi = 0
        · exact hz
        · have := (this hz).2; omega
      · exact (look_er lim _ he).1
    have := look_whole lim (b.take 6) (b.drop 6) hm
    rw [List.take_append_drop] at this
    exact this.symm

/-- What a whole stream gives. -/
structure Out where
  ms : List (List UInt8)
  at_ : Nat
  er : Nat
abbrev ends (lim : Int) (r : List UInt8) : Prop := (look lim r).er ≠ 0 ∨ r.length < (look lim r).sz
def cut (lim : Int) : Nat → List UInt8 → Out
  | 0, _ => ⟨[], 0, 0⟩
  | f + 1, r =>
    if ends lim r then ⟨[], 0, (look lim r).er⟩
    else ⟨r.take (look lim r).sz :: (cut lim f (r.drop (look lim r).sz)).ms, (look lim r).sz + (cut lim f (r.drop (look lim r).sz)).at_, (cut lim f (r.drop (look lim r).sz)).er⟩
def ahead (ms : List (List UInt8)) (p : Nat) (o : Out) : Out := ⟨ms ++ o.ms, p + o.at_, o.er⟩
theorem ahead_nil (o : Out) : ahead [] 0 o = o := by unfold ahead; cases o; simp
theorem ahead_snoc (ms : List (List UInt8)) (m : List UInt8) (p z : Nat) (o : Out) : ahead (ms ++ [m]) (p + z) o = ahead ms p (ahead [m] z o) := by
  unfold ahead; simp; omega
theorem cut_end (lim : Int) (f : Nat) (r : List UInt8) (h : ends lim r) : cut lim (f + 1) r = ⟨[], 0, (look lim r).er⟩ := by
  show (if ends lim r then _ else _) = _
  rw [if_pos h]
theorem cut_on (lim : Int) (f : Nat) (r : List UInt8) (h : ¬ ends lim r) : cut lim (f + 1) r = ahead [r.take (look lim r).sz] (look lim r).sz (cut lim f (r.drop (look lim r).sz)) := by
  show (if ends lim r then _ else _) = _
  rw [if_neg h]
  rfl
theorem on_ok (lim : Int) (r : List UInt8) (h : ¬ ends lim r) : (look lim r).er = 0 ∧ (look lim r).sz ≤ r.length ∧ 2 ≤ (look lim r).sz ∧ (look lim r).mi = 0 := by
  have h1 : (look lim r).er = 0 := by
    by_cases hh : (look lim r).er = 0
    · exact hh
    · exact absurd (Or.inl hh) h
  have h2 : (look lim r).sz ≤ r.length := by
    by_cases hh : (look lim r).sz ≤ r.length
    · exact hh
    · exact absurd (Or.inr (by omega)) h
  have h3 := look_ok lim r h1
  refine ⟨h1, h2, h3.1, ?_⟩
  by_cases hz : (look lim r).mi = 0
  · exact hz
  · have := (h3.2.2.2.1 hz).1
    omega
/-- More fuel than bytes is enough. -/
theorem cut_fuel (lim : Int) (f g : Nat) (r : List UInt8) (hf : r.length < f) (hg : r.length < g) : cut lim f r = cut lim g r := by
  induction f generalizing g r with
  | zero => omega
  | succ f ih =>
    cases g with
    | zero => omega
    | succ g =>
      by_cases h : ends lim r
      · rw [cut_end lim f r h, cut_end lim g r h]
      · obtain ⟨_, h2, h3, _⟩ := on_ok lim r h
        rw [cut_on lim f r h, cut_on lim g r h, ih g (r.drop (look lim r).sz) (by rw [List.length_drop]; omega) (by rw [List.length_drop]; omega)]
def Cut (lim : Int) (b : List UInt8) : Out := cut lim (b.length + 1) b
theorem Cut_end (lim : Int) (r : List UInt8) (h : ends lim r) : Cut lim r = ⟨[], 0, (look lim r).er⟩ := cut_end lim _ r h
theorem Cut_on (lim : Int) (r : List UInt8) (h : ¬ ends lim r) : Cut lim r = ahead [r.take (look lim r).sz] (look lim r).sz (Cut lim (r.drop (look lim r).sz)) := by
  obtain ⟨_, h2, h3, _⟩ := on_ok lim r h
  unfold Cut
  rw [cut_on lim _ r h]
  rw [cut_fuel lim r.length ((r.drop (look lim r).sz).length + 1) (r.drop (look lim r).sz) (by rw [List.length_drop]; omega) (by omega)]
theorem cut_len (lim : Int) (f : Nat) (r : List UInt8) : 2 * (cut lim f r).ms.length ≤ (cut lim f r).at_ ∧ (cut lim f r).at_ ≤ r.length := by
  induction f generalizing r with
  | zero => exact ⟨Nat.le_refl _, Nat.zero_le _⟩
  | succ f ih =>
    by_cases h : ends lim r
    · rw [cut_end lim f r h]; exact ⟨Nat.le_refl _, Nat.zero_le _⟩
    · obtain ⟨_, h2, h3, _⟩ := on_ok lim r h
      have := ih (r.drop (look lim r).sz)
      rw [List.length_drop] at this
      rw [cut_on lim f r h]
      unfold ahead
      simp
      omega
theorem cut_er (lim : Int) (f : Nat) (r : List UInt8) : (cut lim f r).er = 0 ∨ (30 ≤ (cut lim f r).er ∧ (cut lim f r).er ≤ 33) := by
  induction f generalizing r with
  | zero => exact Or.inl rfl
  | succ f ih =>
    by_cases h : ends lim r
    · rw [cut_end lim f r h]
      by_cases he : (look lim r).er = 0
      · exact Or.inl he
      · exact Or.inr (look_er lim r he).2.2
    · rw [cut_on lim f r h]
      exact ih _
end FrMath
end Go.Proofs.Ythaonpmmfennhaa

namespace Go.Proofs.Ythaonpmmfennhaa
open Go.RowKit
open FrMath (Hdr lb bd within Out ends cut Cut)

theorem f_or (n m : Nat) (hn : n < 4611686018427387904) (hm : m < 4611686018427387904) : bits .or .i64 (n : Int) (m : Int) = ((n ||| m : Nat) : Int) := by
  show IntKind.i64.wrap ((BitVec.ofInt 64 (n : Int) ||| BitVec.ofInt 64 (m : Int)).toNat : Int) = _
  rw [BitVec.toNat_or, ofInt_u64 n (by omega), ofInt_u64 m (by omega)]
  have : n ||| m < 2 ^ 62 := Nat.or_lt_two_pow (by omega) (by omega)
  exact Lib.wrap_i64_small _ (by omega)
/-- 'x | y', y's bits below x's. -/
theorem f_orLow (i : Nat) (x y : Int) (n m v : Nat) (hx : x = n) (hy : y = m) (hm : m < 2 ^ i) (hn : n % 2 ^ i = 0) (h1 : n < 4611686018427387904) (h2 : m < 4611686018427387904) (hv : v = n + m) : bits .or .i64 x y = (v : Int) := by
  subst hx hy hv
  rw [f_or n m h1 h2, nat_join i n m hn hm]
theorem f_or0 (x : Int) (n : Nat) (hx : x = n) (h1 : n < 4611686018427387904) : bits .or .i64 0 x = (n : Int) := by
  subst hx
  have := f_or 0 n (by omega) h1
  rw [Nat.zero_or] at this
  exact this

theorem lb_s (s : ByteArray) (p : Nat) (h : p < s.size) : lb s.data.toList p = s[p].toNat := by
  unfold FrMath.lb
  rw [getD_s s p h]

theorem lengthByte_any (s : ByteArray) (p : Nat) (P : Int) (hP : P = (p : Int)) (w : World) :
    Calls Try.prog 47 #[.string s, .int .i64 P] w fun r w' => r = .returned (.int .i64 (lb s.data.toList p : Int)) ∧ w = w' := by
  subst hP
  by_cases h : p < s.size
  · rw [lb_s s p h]
    have hw : wrap64 (s[p].toNat : Int) = (s[p].toNat : Int) := by have := s[p].toNat_lt; unfold wrap64; omega
    have p0 : (0 : Int) ≤ (p : Int) := by omega
    have p1 : (p : Int) < (s.size : Int) := by omega
    go_enter Try.func47, Try.ntmps47
    go_wp2
    go_ret
    exact ⟨ret_int hw, rfl⟩
  · rw [FrMath.lb_out _ _ (by rw [size_l]; omega)]
    go_enter Try.func47, Try.ntmps47
    go_wp2
    go_ret
    exact ⟨rfl, rfl⟩

theorem body1 (s : ByteArray) (w : World) :
    Calls Try.prog 34 #[.string s, .int .i64 3] w fun r w' => r = .returned (.int .i64 (bd s.data.toList 1 : Int)) ∧ w = w' := by
  obtain ⟨a, ha⟩ : ∃ a, lb s.data.toList 2 = a := ⟨_, rfl⟩
  have ta : a < 256 := ha ▸ FrMath.lb_lt _ _
  have he : Hid (bd s.data.toList 1 = a) := by unfold Hid; subst ha; simp [bd]
  have Ha := fun W => lengthByte_any s 2 2 rfl W
  rw [ha] at Ha
  obtain ⟨v0, ev0⟩ : ∃ v0, v0 = a := ⟨_, rfl⟩
  have o0 : bits .or .i64 0 (a : Int) = (v0 : Int) := f_or0 _ v0 (by omega) (by omega)
  have hf : Hid (bd s.data.toList 1 = v0) := by unfold Hid; rw [he.out]; omega
  clear he ha ev0
  go_enter Try.func34, Try.ntmps34
  go_wp2_with fail
  refine (Ha _).mono ?_
  rintro r w1 ⟨rfl, rfl⟩
  go_wp2_with fail
  go_ret
  exact ⟨by rw [hf.out]; rfl, rfl⟩

theorem body2 (s : ByteArray) (w : World) :
    Calls Try.prog 34 #[.string s, .int .i64 4] w fun r w' => r = .returned (.int .i64 (bd s.data.toList 2 : Int)) ∧ w = w' := by
  obtain ⟨a, ha⟩ : ∃ a, lb s.data.toList 2 = a := ⟨_, rfl⟩
  have ta : a < 256 := ha ▸ FrMath.lb_lt _ _
  obtain ⟨b, hb⟩ : ∃ b, lb s.data.toList 3 = b := ⟨_, rfl⟩
  have tb : b < 256 := hb ▸ FrMath.lb_lt _ _
  have he : Hid (bd s.data.toList 2 = (a) * 256 + b) := by unfold Hid; subst ha hb; simp [bd]
  have Ha := fun W => lengthByte_any s 2 2 rfl W
  rw [ha] at Ha
  have Hb := fun W => lengthByte_any s 3 3 rfl W
  rw [hb] at Hb
  obtain ⟨v0, ev0⟩ : ∃ v0, v0 = (a * 256) := ⟨_, rfl⟩
  have o0 : bits .or .i64 0 ((a : Int) * 256) = (v0 : Int) := f_or0 _ v0 (by omega) (by omega)
  obtain ⟨v1, ev1⟩ : ∃ v1, v1 = v0 + b := ⟨_, rfl⟩
  have o1 : bits .or .i64 (v0 : Int) (b : Int) = (v1 : Int) := f_orLow 8 _ _ v0 b v1 rfl (by omega) (by omega) (by omega) (by omega) (by omega) ev1
  have s0 : wrap64 ((a : Int) * 256) = (a : Int) * 256 := by unfold wrap64; omega
  have hf : Hid (bd s.data.toList 2 = v1) := by unfold Hid; rw [he.out]; omega
  clear he ha hb ev0 ev1
  go_enter Try.func34, Try.ntmps34
  go_wp2_with fail
  refine (Ha _).mono ?_
  rintro r w1 ⟨rfl, rfl⟩
  go_wp2_with fail
  refine (Hb _).mono ?_
  rintro r w1 ⟨rfl, rfl⟩
  go_wp2_with fail
  go_ret
  exact ⟨by rw [hf.out]; rfl, rfl⟩

theorem body3 (s : ByteArray) (w : World) :
    Calls Try.prog 34 #[.string s, .int .i64 5] w fun r w' => r = .returned (.int .i64 (bd s.data.toList 3 : Int)) ∧ w = w' := by
  obtain ⟨a, ha⟩ : ∃ a, lb s.data.toList 2 = a := ⟨_, rfl⟩
  have ta : a < 256 := ha ▸ FrMath.lb_lt _ _
  obtain ⟨b, hb⟩ : ∃ b, lb s.data.toList 3 = b := ⟨_, rfl⟩
  have tb : b < 256 := hb ▸ FrMath.lb_lt _ _
  obtain ⟨c, hc⟩ : ∃ c, lb s.data.toList 4 = c := ⟨_, rfl⟩
  have tc : c < 256 := hc ▸ FrMath.lb_lt _ _
  have he : Hid (bd s.data.toList 3 = ((a) * 256 + b) * 256 + c) := by unfold Hid; subst ha hb hc; simp [bd]
  have Ha := fun W => lengthByte_any s 2 2 rfl W
  rw [ha] at Ha
  have Hb := fun W => lengthByte_any s 3 3 rfl W
  rw [hb] at Hb
  have Hc := fun W => lengthByte_any s 4 4 rfl W
  rw [hc] at Hc
  obtain ⟨v0, ev0⟩ : ∃ v0, v0 = (a * 65536) := ⟨_, rfl⟩
  have o0 : bits .or .i64 0 ((a : Int) * 65536) = (v0 : Int) := f_or0 _ v0 (by omega) (by omega)
  obtain ⟨v1, ev1⟩ : ∃ v1, v1 = v0 + (b * 256) := ⟨_, rfl⟩
  have o1 : bits .or .i64 (v0 : Int) ((b : Int) * 256) = (v1 : Int) := f_orLow 16 _ _ v0 (b * 256) v1 rfl (by omega) (by omega) (by omega) (by omega) (by omega) ev1
  obtain ⟨v2, ev2⟩ : ∃ v2, v2 = v1 + c := ⟨_, rfl⟩
  have o2 : bits .or .i64 (v1 : Int) (c : Int) = (v2 : Int) := f_orLow 8 _ _ v1 c v2 rfl (by omega) (by omega) (by omega) (by omega) (by omega) ev2
  have s0 : wrap64 ((a : Int) * 65536) = (a : Int) * 65536 := by unfold wrap64; omega
  have s1 : wrap64 ((b : Int) * 256) = (b : Int) * 256 := by unfold wrap64; omega
  have hf : Hid (bd s.data.toList 3 = v2) := by unfold Hid; rw [he.out]; omega
  clear he ha hb hc ev0 ev1 ev2
  go_enter Try.func34, Try.ntmps34
  go_wp2_with fail
  refine (Ha _).mono ?_
  rintro r w1 ⟨rfl, rfl⟩
  go_wp2_with fail
  refine (Hb _).mono ?_
  rintro r w1 ⟨rfl, rfl⟩
  go_wp2_with fail
  refine (Hc _).mono ?_
  rintro r w1 ⟨rfl, rfl⟩
  go_wp2_with fail
  go_ret
  exact ⟨by rw [hf.out]; rfl, rfl⟩

theorem body4 (s : ByteArray) (w : World) :
    Calls Try.prog 34 #[.string s, .int .i64 6] w fun r w' => r = .returned (.int .i64 (bd s.data.toList 4 : Int)) ∧ w = w' := by
  obtain ⟨a, ha⟩ : ∃ a, lb s.data.toList 2 = a := ⟨_, rfl⟩
  have ta : a < 256 := ha ▸ FrMath.lb_lt _ _
  obtain ⟨b, hb⟩ : ∃ b, lb s.data.toList 3 = b := ⟨_, rfl⟩
  have tb : b < 256 := hb ▸ FrMath.lb_lt _ _
  obtain ⟨c, hc⟩ : ∃ c, lb s.data.toList 4 = c := ⟨_, rfl⟩
  have tc : c < 256 := hc ▸ FrMath.lb_lt _ _
  obtain ⟨d, hd⟩ : ∃ d, lb s.data.toList 5 = d := ⟨_, rfl⟩
  have td : d < 256 := hd ▸ FrMath.lb_lt _ _
  have he : Hid (bd s.data.toList 4 = (((a) * 256 + b) * 256 + c) * 256 + d) := by unfold Hid; subst ha hb hc hd; simp [bd]
  have Ha := fun W => lengthByte_any s 2 2 rfl W
  rw [ha] at Ha
  have Hb := fun W => lengthByte_any s 3 3 rfl W
  rw [hb] at Hb
  have Hc := fun W => lengthByte_any s 4 4 rfl W
  rw [hc] at Hc
  have Hd := fun W => lengthByte_any s 5 5 rfl W
  rw [hd] at Hd
  obtain ⟨v0, ev0⟩ : ∃ v0, v0 = (a * 16777216) := ⟨_, rfl⟩
  have o0 : bits .or .i64 0 ((a : Int) * 16777216) = (v0 : Int) := f_or0 _ v0 (by omega) (by omega)
  obtain ⟨v1, ev1⟩ : ∃ v1, v1 = v0 + (b * 65536) := ⟨_, rfl⟩
  have o1 : bits .or .i64 (v0 : Int) ((b : Int) * 65536) = (v1 : Int) := f_orLow 24 _ _ v0 (b * 65536) v1 rfl (by omega) (by omega) (by omega) (by omega) (by omega) ev1
  obtain ⟨v2, ev2⟩ : ∃ v2, v2 = v1 + (c * 256) := ⟨_, rfl⟩
  have o2 : bits .or .i64 (v1 : Int) ((c : Int) * 256) = (v2 : Int) := f_orLow 16 _ _ v1 (c * 256) v2 rfl (by omega) (by omega) (by omega) (by omega) (by omega) ev2
  obtain ⟨v3, ev3⟩ : ∃ v3, v3 = v2 + d := ⟨_, rfl⟩
  have o3 : bits .or .i64 (v2 : Int) (d : Int) = (v3 : Int) := f_orLow 8 _ _ v2 d v3 rfl (by omega) (by omega) (by omega) (by omega) (by omega) ev3
  have s0 : wrap64 ((a : Int) * 16777216) = (a : Int) * 16777216 := by unfold wrap64; omega
  have s1 : wrap64 ((b : Int) * 65536) = (b : Int) * 65536 := by unfold wrap64; omega
  have s2 : wrap64 ((c : Int) * 256) = (c : Int) * 256 := by unfold wrap64; omega
  have hf : Hid (bd s.data.toList 4 = v3) := by unfold Hid; rw [he.out]; omega
  clear he ha hb hc hd ev0 ev1 ev2 ev3
  go_enter Try.func34, Try.ntmps34
  go_wp2_with fail
  refine (Ha _).mono ?_
  rintro r w1 ⟨rfl, rfl⟩
  go_wp2_with fail
  refine (Hb _).mono ?_
  rintro r w1 ⟨rfl, rfl⟩
  go_wp2_with fail
  refine (Hc _).mono ?_
  rintro r w1 ⟨rfl, rfl⟩
  go_wp2_with fail
  refine (Hd _).mono ?_
  rintro r w1 ⟨rfl, rfl⟩
  go_wp2_with fail
  go_ret
  exact ⟨by rw [hf.out]; rfl, rfl⟩

end Go.Proofs.Ythaonpmmfennhaa

namespace Go.Proofs.Ythaonpmmfennhaa
open Go.RowKit
open FrMath (Hdr lb bd within Out ends cut Cut)

/-- A header as a value. -/
abbrev hdr (m z e : Nat) : Value := .agg #[.int .i64 (m : Int), .int .i64 (z : Int), .int .i64 (e : Int)]
abbrev hV (h : Hdr) : Value := hdr h.mi h.sz h.er
abbrev hO (m z e : Nat) : Obj := .cells #[.int .i64 (m : Int), .int .i64 (z : Int), .int .i64 (e : Int)] 51

theorem need_any (m z e n : Nat) (w : World) (hz : z ≤ 140737488355328) (hn : n ≤ 140737488355328) :
    Calls Try.prog 28 #[hdr m z e, .int .i64 (n : Int)] w fun r w' => r = .returned (.int .i64 ((z - n : Nat) : Int)) ∧ w' = w.alloc (hO m z e) := by
  have hw : wrap64 ((z : Int) - (n : Int)) = (z : Int) - (n : Int) := by unfold wrap64; omega
  go_enter Try.func28, Try.ntmps28
  go_wp2
  · go_ret
    exact ⟨ret_int (by omega), rfl⟩
  · go_ret
    exact ⟨ret_int (by omega), rfl⟩

theorem within_any (lim : Int) (m z : Nat) (w : World) :
    Calls Try.prog 33 #[.int .i64 lim, hdr m z 0] w fun r w' => r = .returned (hV (within lim m z)) ∧ Below w.heap.size w w' := by
  by_cases h1 : m = 0
  · subst h1
    by_cases h2 : lim < (z : Int)
    · have e : within lim 0 z = ⟨0, 0, 33⟩ := by unfold FrMath.within; rw [if_pos ⟨rfl, h2⟩]
      rw [e]
      clear e
      go_enter Try.func33, Try.ntmps33
      go_wp2
      refine bodyPost_ret_by (v := hdr 0 0 33) (by simp [results, Try.results33, go_sem]) rfl ⟨rfl, ?_⟩
      repeat' first | exact Below.refl _ _ | refine Below.setCell ?_ (by simp) _ | refine Below.alloc ?_ (by simp) _ | refine Below.alloc ?_ (by simp; omega) _
    · have e : within lim 0 z = ⟨0, z, 0⟩ := by unfold FrMath.within; rw [if_neg (fun hh => h2 hh.2)]
      rw [e]
      clear e
      go_enter Try.func33, Try.ntmps33
      go_wp2
      refine bodyPost_ret_by (v := hdr 0 z 0) (by simp [results, Try.results33, go_sem]) rfl ⟨rfl, ?_⟩
      repeat' first | exact Below.refl _ _ | refine Below.setCell ?_ (by simp) _ | refine Below.alloc ?_ (by simp) _ | refine Below.alloc ?_ (by simp; omega) _
  · have e : within lim m z = ⟨m, z, 0⟩ := FrMath.within_m _ _ _ h1
    rw [e]
    have d1 : ((m : Int) == 0) = false := by rw [beq_eq_false_iff_ne]; omega
    clear e h1
    go_enter Try.func33, Try.ntmps33
    go_wp2
    refine bodyPost_ret_by (v := hdr m z 0) (by simp [results, Try.results33, go_sem]) rfl ⟨rfl, ?_⟩
    repeat' first | exact Below.refl _ _ | refine Below.setCell ?_ (by simp) _ | refine Below.alloc ?_ (by simp) _ | refine Below.alloc ?_ (by simp; omega) _
abbrev hZ : Obj := .cells #[.int .i64 0, .int .i64 0, .int .i64 0] 51
/-- A result's room, behind a call. -/
theorem res_free {w w1 : World} (h : Below (w.alloc hZ).heap.size (w.alloc hZ) w1) :
    w1.frozen? ⟨w.heap.size, 0, none⟩ = false ∧ w1.frozen? ⟨w.heap.size, 1, none⟩ = false ∧ w1.frozen? ⟨w.heap.size, 2, none⟩ = false
    ∧ w1.cell? ⟨w.heap.size, 0, none⟩ = some (.int .i64 0) ∧ w1.cell? ⟨w.heap.size, 1, none⟩ = some (.int .i64 0) ∧ w1.cell? ⟨w.heap.size, 2, none⟩ = some (.int .i64 0) := by
  have hb : w1.heap[w.heap.size]? = (w.alloc hZ).heap[w.heap.size]? := h.block w.heap.size (by simp)
  have f : ∀ j, w1.frozen? ⟨w.heap.size, j, none⟩ = (w.alloc hZ).frozen? ⟨w.heap.size, j, none⟩ := fun j => World.frozen?_of_block (w := w.alloc hZ) (w' := w1) (a := ⟨w.heap.size, j, none⟩) hb
  have c : ∀ j, w1.cell? ⟨w.heap.size, j, none⟩ = (w.alloc hZ).cell? ⟨w.heap.size, j, none⟩ := fun j => World.cell?_of_block (w := w.alloc hZ) (w' := w1) (a := ⟨w.heap.size, j, none⟩) hb
  rw [f, f, f, c, c, c]
  simp [go_sem]

end Go.Proofs.Ythaonpmmfennhaa

namespace Go.Proofs.Ythaonpmmfennhaa
open Go.RowKit
open FrMath (Hdr lb bd within Out ends cut Cut)

set_option maxRecDepth 100000 in
set_option maxHeartbeats 400000 in
theorem look_long1 (lim : Int) (s : ByteArray) (w : World) (q0 : 0 < s.size) (q1 : 1 < s.size) (p2 : (1 : Int) < (s.size : Int)) (d0 : ((s.size : Int) == 0) = false) (d1 : ((s[0].toNat : Int) != 48) = false) (d2 : decide ((s.size : Int) < 2) = false)
    (g0 : (s[1].toNat : Int) = 128 + ((1 : Nat) : Int)) (g1 : (s.size : Int) ≤ 140737488355328) :
    Calls Try.prog 17 #[.int .i64 lim, .string s] w fun r w' => r = .returned (hV (within lim (2 + 1 - s.data.toList.length) (2 + 1 + bd s.data.toList 1))) ∧ Below w.heap.size w w' := by
  rw [size_l]
  replace g0 : (s[1].toNat : Int) = 129 := g0
  have hB := fun W => body1 s W
  obtain ⟨v, hv⟩ : ∃ v, bd s.data.toList 1 = v := ⟨_, rfl⟩
  rw [hv] at hB ⊢
  have hv4 : v < 4294967296 := hv ▸ FrMath.bd_lt _ _ (by omega)
  obtain ⟨V, hV⟩ : ∃ V, 2 + 1 + v = V := ⟨_, rfl⟩
  have x2 : wrap64 (3 + (v : Int)) = (V : Int) := by unfold wrap64; omega
  rw [hV]
  by_cases hs : s.size < 3
  · obtain ⟨m, hm⟩ : ∃ m, 2 + 1 - s.size = m := ⟨_, rfl⟩
    have x1 : wrap64 (3 - (s.size : Int)) = (m : Int) := by unfold wrap64; omega
    have m0 : 0 < m := by omega
    rw [hm]
    clear hv hv4 hV hm hs g1
    go_enter Try.func17, Try.ntmps17
    go_upto_region 14 with fail
    go_wp2_with fail
    all_goals first
      | (exfalso; omega)
      | skip
    refine (hB _).mono ?_
    rintro r w1 ⟨rfl, rfl⟩
    go_wp2_with fail
    refine (within_any lim m V _).mono ?_
    rintro r w1 ⟨rfl, hb1⟩
    obtain ⟨f0, f1, f2, c0, c1, c2⟩ := res_free hb1
    have HB : Below w.heap.size w w1 := ((Below.refl _ _).alloc (Nat.le_refl _) _).trans (hb1.mono (by simp))
    clear hb1
    go_wp2_with fail
    refine bodyPost_ret_by (v := hV (within lim m V)) (by simp [results, Try.results17, go_sem, c0, c1, c2]) rfl ⟨rfl, ?_⟩
    refine Below.setCell (Below.setCell (Below.setCell HB ?_ _) ?_ _) ?_ _ <;> exact Nat.le_refl _
  · have hm : 2 + 1 - s.size = 0 := by omega
    obtain ⟨Z, hZ⟩ : ∃ Z : Int, 3 - (s.size : Int) = Z := ⟨_, rfl⟩
    have x1 : wrap64 (3 - (s.size : Int)) = Z := by unfold wrap64; omega
    have m0 : Z ≤ 0 := by omega
    rw [hm]
    clear hv hv4 hV hm hs g1 hZ
    go_enter Try.func17, Try.ntmps17
    go_upto_region 14 with fail
    go_wp2_with fail
    all_goals first
      | (exfalso; omega)
      | skip
    refine (hB _).mono ?_
    rintro r w1 ⟨rfl, rfl⟩
    go_wp2_with fail
    refine (within_any lim 0 V _).mono ?_
    rintro r w1 ⟨rfl, hb1⟩
    obtain ⟨f0, f1, f2, c0, c1, c2⟩ := res_free hb1
    have HB : Below w.heap.size w w1 := ((Below.refl _ _).alloc (Nat.le_refl _) _).trans (hb1.mono (by simp))
    clear hb1
    go_wp2_with fail
    refine bodyPost_ret_by (v := hV (within lim 0 V)) (by simp [results, Try.results17, go_sem, c0, c1, c2]) rfl ⟨rfl, ?_⟩
    refine Below.setCell (Below.setCell (Below.setCell HB ?_ _) ?_ _) ?_ _ <;> exact Nat.le_refl _

set_option maxRecDepth 100000 in
set_option maxHeartbeats 400000 in
theorem look_long2 (lim : Int) (s : ByteArray) (w : World) (q0 : 0 < s.size) (q1 : 1 < s.size) (p2 : (1 : Int) < (s.size : Int)) (d0 : ((s.size : Int) == 0) = false) (d1 : ((s[0].toNat : Int) != 48) = false) (d2 : decide ((s.size : Int) < 2) = false)
    (g0 : (s[1].toNat : Int) = 128 + ((2 : Nat) : Int)) (g1 : (s.size : Int) ≤ 140737488355328) :
    Calls Try.prog 17 #[.int .i64 lim, .string s] w fun r w' => r = .returned (hV (within lim (2 + 2 - s.data.toList.length) (2 + 2 + bd s.data.toList 2))) ∧ Below w.heap.size w w' := by
  rw [size_l]
  replace g0 : (s[1].toNat : Int) = 130 := g0
  have hB := fun W => body2 s W
  obtain ⟨v, hv⟩ : ∃ v, bd s.data.toList 2 = v := ⟨_, rfl⟩
  rw [hv] at hB ⊢
  have hv4 : v < 4294967296 := hv ▸ FrMath.bd_lt _ _ (by omega)
  obtain ⟨V, hV⟩ : ∃ V, 2 + 2 + v = V := ⟨_, rfl⟩
  have x2 : wrap64 (4 + (v : Int)) = (V : Int) := by unfold wrap64; omega
  rw [hV]
  by_cases hs : s.size < 4
  · obtain ⟨m, hm⟩ : ∃ m, 2 + 2 - s.size = m := ⟨_, rfl⟩
    have x1 : wrap64 (4 - (s.size : Int)) = (m : Int) := by unfold wrap64; omega
    have m0 : 0 < m := by omega
    rw [hm]
    clear hv hv4 hV hm hs g1
    go_enter Try.func17, Try.ntmps17
    go_upto_region 14 with fail
    go_wp2_with fail
    all_goals first
      | (exfalso; omega)
      | skip
    refine (hB _).mono ?_
    rintro r w1 ⟨rfl, rfl⟩
    go_wp2_with fail
    refine (within_any lim m V _).mono ?_
    rintro r w1 ⟨rfl, hb1⟩
    obtain ⟨f0, f1, f2, c0, c1, c2⟩ := res_free hb1
    have HB : Below w.heap.size w w1 := ((Below.refl _ _).alloc (Nat.le_refl _) _).trans (hb1.mono (by simp))
    clear hb1
    go_wp2_with fail
    refine bodyPost_ret_by (v := hV (within lim m V)) (by simp [results, Try.results17, go_sem, c0, c1, c2]) rfl ⟨rfl, ?_⟩
    refine Below.setCell (Below.setCell (Below.setCell HB ?_ _) ?_ _) ?_ _ <;> exact Nat.le_refl _
  · have hm : 2 + 2 - s.size = 0 := by omega
    obtain ⟨Z, hZ⟩ : ∃ Z : Int, 4 - (s.size : Int) = Z := ⟨_, rfl⟩
    have x1 : wrap64 (4 - (s.size : Int)) = Z := by unfold wrap64; omega
    have m0 : Z ≤ 0 := by omega
    rw [hm]
    clear hv hv4 hV hm hs g1 hZ
    go_enter Try.func17, Try.ntmps17
    go_upto_region 14 with fail
    go_wp2_with fail
    all_goals first
      | (exfalso; omega)
      | skip
    refine (hB _).mono ?_
    rintro r w1 ⟨rfl, rfl⟩
    go_wp2_with fail
    refine (within_any lim 0 V _).mono ?_
    rintro r w1 ⟨rfl, hb1⟩
    obtain ⟨f0, f1, f2, c0, c1, c2⟩ := res_free hb1
    have HB : Below w.heap.size w w1 := ((Below.refl _ _).alloc (Nat.le_refl _) _).trans (hb1.mono (by simp))
    clear hb1
    go_wp2_with fail
    refine bodyPost_ret_by (v := hV (within lim 0 V)) (by simp [results, Try.results17, go_sem, c0, c1, c2]) rfl ⟨rfl, ?_⟩
    refine Below.setCell (Below.setCell (Below.setCell HB ?_ _) ?_ _) ?_ _ <;> exact Nat.le_refl _

set_option maxRecDepth 100000 in
set_option maxHeartbeats 400000 in
theorem look_long3 (lim : Int) (s : ByteArray) (w : World) (q0 : 0 < s.size) (q1 : 1 < s.size) (p2 : (1 : Int) < (s.size : Int)) (d0 : ((s.size : Int) == 0) = false) (d1 : ((s[0].toNat : Int) != 48) = false) (d2 : decide ((s.size : Int) < 2) = false)
    (g0 : (s[1].toNat : Int) = 128 + ((3 : Nat) : Int)) (g1 : (s.size : Int) ≤ 140737488355328) :
    Calls Try.prog 17 #[.int .i64 lim, .string s] w fun r w' => r = .returned (hV (within lim (2 + 3 - s.data.toList.length) (2 + 3 + bd s.data.toList 3))) ∧ Below w.heap.size w w' := by
  rw [size_l]
  replace g0 : (s[1].toNat : Int) = 131 := g0
  have hB := fun W => body3 s W
  obtain ⟨v, hv⟩ : ∃ v, bd s.data.toList 3 = v := ⟨_, rfl⟩
  rw [hv] at hB ⊢
  have hv4 : v < 4294967296 := hv ▸ FrMath.bd_lt _ _ (by omega)
  obtain ⟨V, hV⟩ : ∃ V, 2 + 3 + v = V := ⟨_, rfl⟩
  have x2 : wrap64 (5 + (v : Int)) = (V : Int) := by unfold wrap64; omega
  rw [hV]
  by_cases hs : s.size < 5
  · obtain ⟨m, hm⟩ : ∃ m, 2 + 3 - s.size = m := ⟨_, rfl⟩
    have x1 : wrap64 (5 - (s.size : Int)) = (m : Int) := by unfold wrap64; omega
    have m0 : 0 < m := by omega
    rw [hm]
    clear hv hv4 hV hm hs g1
    go_enter Try.func17, Try.ntmps17
    go_upto_region 14 with fail
    go_wp2_with fail
    all_goals first
      | (exfalso; omega)
      | skip
    refine (hB _).mono ?_
    rintro r w1 ⟨rfl, rfl⟩
    go_wp2_with fail
    refine (within_any lim m V _).mono ?_
    rintro r w1 ⟨rfl, hb1⟩
    obtain ⟨f0, f1, f2, c0, c1, c2⟩ := res_free hb1
    have HB : Below w.heap.size w w1 := ((Below.refl _ _).alloc (Nat.le_refl _) _).trans (hb1.mono (by simp))
    clear hb1
    go_wp2_with fail
    refine bodyPost_ret_by (v := hV (within lim m V)) (by simp [results, Try.results17, go_sem, c0, c1, c2]) rfl ⟨rfl, ?_⟩
    refine Below.setCell (Below.setCell (Below.setCell HB ?_ _) ?_ _) ?_ _ <;> exact Nat.le_refl _
  · have hm : 2 + 3 - s.size = 0 := by omega
    obtain ⟨Z, hZ⟩ : ∃ Z : Int, 5 - (s.size : Int) = Z := ⟨_, rfl⟩
    have x1 : wrap64 (5 - (s.size : Int)) = Z := by unfold wrap64; omega
    have m0 : Z ≤ 0 := by omega
    rw [hm]
    clear hv hv4 hV hm hs g1 hZ
    go_enter Try.func17, Try.ntmps17
    go_upto_region 14 with fail
    go_wp2_with fail
    all_goals first
      | (exfalso; omega)
      | skip
    refine (hB _).mono ?_
    rintro r w1 ⟨rfl, rfl⟩
    go_wp2_with fail
    refine (within_any lim 0 V _).mono ?_
    rintro r w1 ⟨rfl, hb1⟩
    obtain ⟨f0, f1, f2, c0, c1, c2⟩ := res_free hb1
    have HB : Below w.heap.size w w1 := ((Below.refl _ _).alloc (Nat.le_refl _) _).trans (hb1.mono (by simp))
    clear hb1
    go_wp2_with fail
    refine bodyPost_ret_by (v := hV (within lim 0 V)) (by simp [results, Try.results17, go_sem, c0, c1, c2]) rfl ⟨rfl, ?_⟩
    refine Below.setCell (Below.setCell (Below.setCell HB ?_ _) ?_ _) ?_ _ <;> exact Nat.le_refl _

set_option maxRecDepth 100000 in
set_option maxHeartbeats 400000 in
theorem look_long4 (lim : Int) (s : ByteArray) (w : World) (q0 : 0 < s.size) (q1 : 1 < s.size) (p2 : (1 : Int) < (s.size : Int)) (d0 : ((s.size : Int) == 0) = false) (d1 : ((s[0].toNat : Int) != 48) = false) (d2 : decide ((s.size : Int) < 2) = false)
    (g0 : (s[1].toNat : Int) = 128 + ((4 : Nat) : Int)) (g1 : (s.size : Int) ≤ 140737488355328) :
    Calls Try.prog 17 #[.int .i64 lim, .string s] w fun r w' => r = .returned (hV (within lim (2 + 4 - s.data.toList.length) (2 + 4 + bd s.data.toList 4))) ∧ Below w.heap.size w w' := by
  rw [size_l]
  replace g0 : (s[1].toNat : Int) = 132 := g0
  have hB := fun W => body4 s W
  obtain ⟨v, hv⟩ : ∃ v, bd s.data.toList 4 = v := ⟨_, rfl⟩
  rw [hv] at hB ⊢
  have hv4 : v < 4294967296 := hv ▸ FrMath.bd_lt _ _ (by omega)
  obtain ⟨V, hV⟩ : ∃ V, 2 + 4 + v = V := ⟨_, rfl⟩
  have x2 : wrap64 (6 + (v : Int)) = (V : Int) := by unfold wrap64; omega
  rw [hV]
  by_cases hs : s.size < 6
  · obtain ⟨m, hm⟩ : ∃ m, 2 + 4 - s.size = m := ⟨_, rfl⟩
    have x1 : wrap64 (6 - (s.size : Int)) = (m : Int) := by unfold wrap64; omega
    have m0 : 0 < m := by omega
    rw [hm]
    clear hv hv4 hV hm hs g1
    go_enter Try.func17, Try.ntmps17
    go_upto_region 14 with fail
    go_wp2_with fail
    all_goals first
      | (exfalso; omega)
      | skip
    refine (hB _).mono ?_
    rintro r w1 ⟨rfl, rfl⟩
    go_wp2_with fail
    refine (within_any lim m V _).mono ?_
    rintro r w1 ⟨rfl, hb1⟩
    obtain ⟨f0, f1, f2, c0, c1, c2⟩ := res_free hb1
    have HB : Below w.heap.size w w1 := ((Below.refl _ _).alloc (Nat.le_refl _) _).trans (hb1.mono (by simp))
    clear hb1
    go_wp2_with fail
    refine bodyPost_ret_by (v := hV (within lim m V)) (by simp [results, Try.results17, go_sem, c0, c1, c2]) rfl ⟨rfl, ?_⟩
    refine Below.setCell (Below.setCell (Below.setCell HB ?_ _) ?_ _) ?_ _ <;> exact Nat.le_refl _
  · have hm : 2 + 4 - s.size = 0 := by omega
    obtain ⟨Z, hZ⟩ : ∃ Z : Int, 6 - (s.size : Int) = Z := ⟨_, rfl⟩
    have x1 : wrap64 (6 - (s.size : Int)) = Z := by unfold wrap64; omega
    have m0 : Z ≤ 0 := by omega
    rw [hm]
    clear hv hv4 hV hm hs g1 hZ
    go_enter Try.func17, Try.ntmps17
    go_upto_region 14 with fail
    go_wp2_with fail
    all_goals first
      | (exfalso; omega)
      | skip
    refine (hB _).mono ?_
    rintro r w1 ⟨rfl, rfl⟩
    go_wp2_with fail
    refine (within_any lim 0 V _).mono ?_
    rintro r w1 ⟨rfl, hb1⟩
    obtain ⟨f0, f1, f2, c0, c1, c2⟩ := res_free hb1
    have HB : Below w.heap.size w w1 := ((Below.refl _ _).alloc (Nat.le_refl _) _).trans (hb1.mono (by simp))
    clear hb1
    go_wp2_with fail
    refine bodyPost_ret_by (v := hV (within lim 0 V)) (by simp [results, Try.results17, go_sem, c0, c1, c2]) rfl ⟨rfl, ?_⟩
    refine Below.setCell (Below.setCell (Below.setCell HB ?_ _) ?_ _) ?_ _ <;> exact Nat.le_refl _

end Go.Proofs.Ythaonpmmfennhaa

namespace Go.Proofs.Ythaonpmmfennhaa
open Go.RowKit
open FrMath (Hdr lb bd within Out ends cut Cut)

set_option maxRecDepth 100000 in
set_option maxHeartbeats 400000 in
theorem look_any (lim : Int) (s : ByteArray) (w : World) (hm : s.size ≤ 140737488355328) :
    Calls Try.prog 17 #[.int .i64 lim, .string s] w fun r w' => r = .returned (hV (FrMath.look lim s.data.toList)) ∧ Below w.heap.size w w' := by
  rcases FrMath.look_ways lim s.data.toList with ⟨h0, e⟩ | ⟨h0, h1, e⟩ | ⟨h0, h1, e⟩ | ⟨h0, h1, h2, e⟩ | ⟨h0, h1, h2, e⟩ | ⟨h0, h1, h2, e⟩ | ⟨h0, h1, k, k1, k4, h2, e⟩ <;> rw [e] <;> rw [size_l] at h0 <;> clear e
  · have d0 : ((s.size : Int) == 0) = true := by rw [beq_iff_eq]; omega
    clear h0 hm
    go_enter Try.func17, Try.ntmps17
    go_wp2
    refine bodyPost_ret_by (v := hdr 2 2 0) (by simp [results, Try.results17, go_sem]) rfl ⟨rfl, ?_⟩
    repeat' first | exact Below.refl _ _ | refine Below.setCell ?_ (by simp) _ | refine Below.alloc ?_ (by simp) _ | refine Below.alloc ?_ (by simp; omega) _
  · have d0 : ((s.size : Int) == 0) = false := by rw [beq_eq_false_iff_ne]; omega
    rw [lb_s s 0 h0] at h1
    have d1 : ((s[0].toNat : Int) != 48) = true := by simp; omega
    have p1 : (0 : Int) < (s.size : Int) := by omega
    clear hm h1
    go_enter Try.func17, Try.ntmps17
    go_wp2
    refine bodyPost_ret_by (v := hdr 0 0 30) (by simp [results, Try.results17, go_sem]) rfl ⟨rfl, ?_⟩
    repeat' first | exact Below.refl _ _ | refine Below.setCell ?_ (by simp) _ | refine Below.alloc ?_ (by simp) _ | refine Below.alloc ?_ (by simp; omega) _
  all_goals
    have d0 : ((s.size : Int) == 0) = false := by rw [beq_eq_false_iff_ne]; omega
    have p1 : (0 : Int) < (s.size : Int) := by omega
    have q0 : 0 < s.size := by omega
    rw [lb_s s 0 q0] at h1
    have d1 : ((s[0].toNat : Int) != 48) = false := by simp; omega
    clear h1
  · have d2 : decide ((s.size : Int) < 2) = true := decide_eq_true (by omega)
    clear hm h0
    go_enter Try.func17, Try.ntmps17
    go_wp2
    refine bodyPost_ret_by (v := hdr 1 2 0) (by simp [results, Try.results17, go_sem]) rfl ⟨rfl, ?_⟩
    repeat' first | exact Below.refl _ _ | refine Below.setCell ?_ (by simp) _ | refine Below.alloc ?_ (by simp) _ | refine Below.alloc ?_ (by simp; omega) _
  all_goals
    have d2 : decide ((s.size : Int) < 2) = false := decide_eq_false (by omega)
    have q1 : 1 < s.size := by omega
    have p2 : (1 : Int) < (s.size : Int) := by omega
    obtain ⟨l, hl⟩ : ∃ l, lb s.data.toList 1 = l := ⟨_, rfl⟩
    have hl256 : l < 256 := hl ▸ FrMath.lb_lt _ _
    rw [hl] at h2
    try rw [hl]
    rw [lb_s s 1 q1] at hl
    have hle : (s[1].toNat : Int) = (l : Int) := by omega
  · have d3 : decide ((l : Int) < 128) = true := decide_eq_true (by omega)
    have hw : wrap64 (l : Int) = (l : Int) := by unfold wrap64; omega
    have hw2 : wrap64 (2 + (l : Int)) = ((2 + l : Nat) : Int) := by unfold wrap64; omega
    clear hl h2 h0 hm
    go_enter Try.func17, Try.ntmps17
    go_wp2_with fail
    refine (within_any lim 0 (2 + l) _).mono ?_
    rintro r w1 ⟨rfl, hb1⟩
    obtain ⟨f0, f1, f2, c0, c1, c2⟩ := res_free hb1
    have HB : Below w.heap.size w w1 := ((Below.refl _ _).alloc (Nat.le_refl _) _).trans (hb1.mono (by simp))
    clear hb1
    go_wp2_with fail
    refine bodyPost_ret_by (v := hV (within lim 0 (2 + l))) (by simp [results, Try.results17, go_sem, c0, c1, c2]) rfl ⟨rfl, ?_⟩
    refine Below.setCell (Below.setCell (Below.setCell HB ?_ _) ?_ _) ?_ _ <;> exact Nat.le_refl _
  · have d3 : decide ((l : Int) < 128) = false := decide_eq_false (by omega)
    have d4 : ((l : Int) == 128) = true := by rw [beq_iff_eq]; omega
    clear hl h2 h0 hm
    go_enter Try.func17, Try.ntmps17
    go_wp2
    refine bodyPost_ret_by (v := hdr 0 0 31) (by simp [results, Try.results17, go_sem]) rfl ⟨rfl, ?_⟩
    repeat' first | exact Below.refl _ _ | refine Below.setCell ?_ (by simp) _ | refine Below.alloc ?_ (by simp) _ | refine Below.alloc ?_ (by simp; omega) _
  · have d3 : decide ((l : Int) < 128) = false := decide_eq_false (by omega)
    have d4 : ((l : Int) == 128) = false := by rw [beq_eq_false_iff_ne]; omega
    have d5 : decide ((132 : Int) < (l : Int)) = true := decide_eq_true (by omega)
    clear hl h2 h0 hm
    go_enter Try.func17, Try.ntmps17
    go_wp2
    refine bodyPost_ret_by (v := hdr 0 0 32) (by simp [results, Try.results17, go_sem]) rfl ⟨rfl, ?_⟩
    repeat' first | exact Below.refl _ _ | refine Below.setCell ?_ (by simp) _ | refine Below.alloc ?_ (by simp) _ | refine Below.alloc ?_ (by simp; omega) _
  · have : k = 1 ∨ k = 2 ∨ k = 3 ∨ k = 4 := by omega
    have g0 : (s[1].toNat : Int) = 128 + (k : Int) := by rw [hle, h2]; simp
    have g1 : (s.size : Int) ≤ 140737488355328 := by omega
    clear hl256 k1 k4 hle hl h0 h2 hm
    rcases this with rfl | rfl | rfl | rfl
    · exact look_long1 lim s w q0 q1 p2 d0 d1 d2 g0 g1
    · exact look_long2 lim s w q0 q1 p2 d0 d1 d2 g0 g1
    · exact look_long3 lim s w q0 q1 p2 d0 d1 d2 g0 g1
    · exact look_long4 lim s w q0 q1 p2 d0 d1 d2 g0 g1
end Go.Proofs.Ythaonpmmfennhaa

namespace Go.Proofs.Ythaonpmmfennhaa
open Go.RowKit
open FrMath (Hdr lb bd within Out ends cut Cut)

def furV (c : Nat) : Int := if c < 128 then 0 else if c = 128 then -1 else if 132 < c then -2 else (c : Int) - 128
/-- The bytes of the whole message, 0 if the header is not whole. -/
def rW (h : Hdr) : Nat := if h.mi = 0 then h.sz else 0
abbrev rV (h : Hdr) : Value := .tuple #[.int .i64 (rW h : Int), .int .i64 (h.er : Int)]

theorem ret_pair {a b : Int} (v : Value) (h : a = b) : Ending.returned (.tuple #[.int .i64 a, v]) = .returned (.tuple #[.int .i64 b, v]) := by rw [h]

theorem bd_next (v b : Nat) (hv : v < 16777216) (hb : b < 256) : wrap64 (b : Int) = (b : Int) ∧ wrap64 ((v : Int) * 256) = (v : Int) * 256 ∧ wrap64 ((v : Int) * 256 + (b : Int)) = ((v * 256 + b : Nat) : Int) := by
  unfold wrap64; omega
theorem bd_small (b : List UInt8) (j : Nat) (h : j < 4) : bd b j < 16777216 := by
  have h2 := FrMath.lb_lt b 2
  have h3 := FrMath.lb_lt b (2 + 1)
  have h4 := FrMath.lb_lt b (2 + 2)
  have : j = 0 ∨ j = 1 ∨ j = 2 ∨ j = 3 := by omega
  rcases this with rfl | rfl | rfl | rfl <;> simp only [bd, Nat.add_zero] <;> omega
theorem w_next (a : Nat) (h : a ≤ 140737488355328) : wrap64 ((a : Int) + 1) = ((a + 1 : Nat) : Int) := by unfold wrap64; omega
theorem meas_next (a I : Nat) (h : I < a) (hw : wrap64 ((I : Int) + 1) = ((I + 1 : Nat) : Int)) : a - (intOf (.int .i64 (wrap64 ((I : Int) + 1)))).toNat < a - (intOf (.int .i64 (I : Int))).toNat := by
  rw [hw]
  show a - (((I + 1 : Nat) : Int)).toNat < a - ((I : Nat) : Int).toNat
  rw [Int.toNat_natCast, Int.toNat_natCast]
  omega

end Go.Proofs.Ythaonpmmfennhaa

namespace Go.Proofs.Ythaonpmmfennhaa
open Go.RowKit
open FrMath (Hdr lb bd within Out ends cut Cut)

theorem furV_k (k : Nat) (k1 : 1 ≤ k) (k4 : k ≤ 4) : furV (128 + k) = (k : Int) := by
  unfold furV
  rw [if_neg (by omega), if_neg (by omega), if_neg (by omega)]
  omega

theorem bd_next0 (v : Nat) (hv : v < 16777216) : wrap64 ((v : Int) * 256) = ((v * 256 : Nat) : Int) := by unfold wrap64; omega
theorem bd_next1 (v b : Nat) (hv : v < 16777216) (hb : b < 256) : wrap64 (b : Int) = (b : Int) ∧ wrap64 (((v * 256 : Nat) : Int) + (b : Int)) = ((v * 256 + b : Nat) : Int) := by unfold wrap64; omega

end Go.Proofs.Ythaonpmmfennhaa

namespace Go.Proofs.Ythaonpmmfennhaa
open Go.RowKit
open FrMath (Hdr lb bd within Out ends cut Cut)

/-- What Need answers. -/
def needN (lim : Int) (b : List UInt8) : Nat := (FrMath.look lim b).sz - b.length
theorem look_small (lim : Int) (b : List UInt8) : (FrMath.look lim b).sz ≤ 4294967302 := by
  by_cases h : (FrMath.look lim b).er = 0
  · exact (FrMath.look_ok lim b h).2.1
  · rw [(FrMath.look_er lim b h).2.1]; omega

theorem frameNeed_any (lim : Int) (s : ByteArray) (w : World) (hm : s.size ≤ 140737488355328) :
    Calls Try.prog 12 #[.int .i64 lim, .string s] w fun r w' => r = .returned (.int .i64 (needN lim s.data.toList : Int)) ∧ Below w.heap.size w w' := by
  have H1 := fun W => look_any lim s W hm
  have hz := look_small lim s.data.toList
  unfold needN
  rw [size_l]
  generalize FrMath.look lim s.data.toList = h at *
  have H2 := fun W => need_any h.mi h.sz h.er s.size W (by omega) hm
  clear hm hz
  go_enter Try.func12, Try.ntmps12
  go_wp2_with fail
  refine (H1 _).mono ?_
  rintro r w1 ⟨rfl, hb1⟩
  go_wp2_with fail
  refine (H2 _).mono ?_
  rintro r w2 ⟨rfl, rfl⟩
  go_wp2_with fail
  go_ret
  exact ⟨rfl, hb1.alloc hb1.size _⟩

end Go.Proofs.Ythaonpmmfennhaa

namespace Go.Proofs.Ythaonpmmfennhaa
open Go.RowKit
open FrMath (Hdr lb bd within Out ends cut Cut)

def FCells (W : World) (b : Nat) (vs : List Value) : Prop := ∀ j (hj : j < vs.length), W.cell? ⟨b, j, none⟩ = some vs[j] ∧ W.frozen? ⟨b, j, none⟩ = false
theorem FCells.of_block {W W' : World} {b : Nat} {vs : List Value} (h : FCells W b vs) (e : W'.heap[b]? = W.heap[b]?) : FCells W' b vs := fun j hj => by
  rw [World.cell?_of_block (w := W) (w' := W') (a := ⟨b, j, none⟩) e, World.frozen?_of_block (w := W) (w' := W') (a := ⟨b, j, none⟩) e]
  exact h j hj
theorem FCells.set {W : World} {b : Nat} {vs : List Value} (h : FCells W b vs) (k : Nat) (hk : k < vs.length) (y : Value) : FCells (W.setCell ⟨b, k, none⟩ y) b (vs.set k y) := by
  intro j hj
  have hj' : j < vs.length := by simpa using hj
  rw [World.frozen?_setCell]
  refine ⟨?_, (h j hj').2⟩
  by_cases e : k = j
  · subst e
    rw [World.cell?_setCell_same W _ _ (h k hk).1]; simp
  · rw [World.cell?_setCell_other W _ _ _ (by intro hh; injection hh with _ h2 _; exact e h2), (h j hj').1]
    simp [e]
theorem FCells.lt {W : World} {b : Nat} {v : Value} {vs : List Value} (h : FCells W b (v :: vs)) : b < W.heap.size := World.block_lt_of_cell? W _ (h 0 (by simp)).1

/-- Texts as cells. -/
def sv (l : List (List UInt8)) : List Value := l.map fun m => .string (S m)
theorem sv_len (l : List (List UInt8)) : (sv l).length = l.length := by simp [sv]
theorem sv_snoc (l : List (List UInt8)) (m : List UInt8) : sv (l ++ [m]) = sv l ++ [.string (S m)] := by simp [sv]
theorem finfo_str : (Try.prog.info? 9).map (fun i => (i.zero, i.size, i.bytes)) = some (some (.string ⟨#[]⟩), 1, 16) := by kernel_rfl

/-- A list of texts of the call's own. -/
def OwnS (W : World) (B : Nat) (v : Value) (l : List (List UInt8)) : Prop := W.ownsRow B 9 1 v l.length (sv l)
theorem ownS_nil (W : World) (B : Nat) : OwnS W B (.slice none 0 0) [] := ⟨rfl, Or.inl ⟨rfl, rfl⟩⟩
theorem ownS_below {w w' : World} {B : Nat} {v : Value} {l : List (List UInt8)} (h : OwnS w B v l) (hb : Below w.heap.size w w') : OwnS w' B v l := by
  rcases h with ⟨h1, ⟨rfl, h2⟩ | ⟨g, cap, cur, rfl, h3, h4, h5⟩⟩
  · exact ⟨h1, Or.inl ⟨rfl, h2⟩⟩
  · have hg : g < w.heap.size := by
      rcases Nat.lt_or_ge g w.heap.size with h' | h'
      · exact h'
      · rw [Array.getElem?_eq_none h'] at h4; cases h4
    exact ⟨h1, Or.inr ⟨g, cap, cur, rfl, h3, by rw [hb.block g hg]; exact h4, h5⟩⟩
theorem ownS_base {w : World} {B B' : Nat} {v : Value} {l : List (List UInt8)} (h : OwnS w B v l) (hB : B' ≤ B) : OwnS w B' v l := by
  rcases h with ⟨h1, ⟨rfl, h2⟩ | ⟨g, cap, cur, rfl, h3, h4⟩⟩
  · exact ⟨h1, Or.inl ⟨rfl, h2⟩⟩
  · exact ⟨h1, Or.inr ⟨g, cap, cur, rfl, Nat.le_trans hB h3, h4⟩⟩
theorem ownS_block {w w' : World} {B : Nat} {v : Value} {l : List (List UInt8)} (h : OwnS w B v l) (hb : ∀ g, B ≤ g → g < w.heap.size → w'.heap[g]? = w.heap[g]?) : OwnS w' B v l := by
  rcases h with ⟨h1, ⟨rfl, h2⟩ | ⟨g, cap, cur, rfl, h3, h4, h5⟩⟩
  · exact ⟨h1, Or.inl ⟨rfl, h2⟩⟩
  · have hg : g < w.heap.size := by
      rcases Nat.lt_or_ge g w.heap.size with h' | h'
      · exact h'
      · rw [Array.getElem?_eq_none h'] at h4; cases h4
    exact ⟨h1, Or.inr ⟨g, cap, cur, rfl, h3, by rw [hb g h3 hg]; exact h4, h5⟩⟩
theorem ownS_form {w : World} {B : Nat} {v : Value} {l : List (List UInt8)} (h : OwnS w B v l) : (v = .slice none 0 0 ∧ l = []) ∨ (∃ g cap, v = .slice (some ⟨g, 0, none⟩) l.length cap) := by
  have hl := h.1
  rcases h.2 with ⟨rfl, hn⟩ | ⟨g, cap, cur, rfl, _⟩
  · exact Or.inl ⟨rfl, List.eq_nil_of_length_eq_zero hn⟩
  · exact Or.inr ⟨g, cap, rfl⟩
theorem ownS_cell {w : World} {B g cap : Nat} {l : List (List UInt8)} (h : OwnS w B (.slice (some ⟨g, 0, none⟩) l.length cap) l) (i : Nat) (hi : i < l.length) : w.cell? ⟨g, i, none⟩ = some (.string (S l[i])) := by
  have hc := World.ownsRow.cellAt (show w.ownsRow B 9 1 _ l.length (sv l) from h) i (by omega)
  rw [hc]
  simp [sv, hi]

/-- One text appended, at a step of a region that draws its order. -/
theorem step_str (w : World) {ops : Array Oper} {o : Oper} {a : Act} {K : Act → World → Prop} {Q : Exit → Act → World → Prop} {E : Prop} (hgd : o.guard = none) (s x : Operand)
    (ho : o.op = .call { callee := .builtin .append, args := #[s, x], argTypes := #[22, 22] }) (B : Nat) (v : Value) (l : List (List UInt8)) (m : List UInt8) (g : Nat)
    (hs : a.eval s = v) (hx : a.eval x = .slice (some ⟨g, 0, none⟩) 1 1) (hown : OwnS w B v l) (hg : w.heap[g]? = some (.cells #[.string (S m)] 9 (0, 0))) (hB : B ≤ w.heap.size) (hl : l.length ≤ 67108864)
    (h : ∀ g' cap w', OwnS w' B (.slice (some ⟨g', 0, none⟩) (l.length + 1) cap) (l ++ [m]) → w.grownBy w' v.ownBlock → Below B w w' → K (a.put o.dst (.slice (some ⟨g', 0, none⟩) (l.length + 1) cap)) w') :
    if Region.wanted o (yielded ops a.tmps) = true then Oper.wp Try.prog o a w K Q else E := by
  obtain ⟨i0, hi, hz0, hz1, hz2⟩ := info_parts finfo_str
  refine step_append_lies w hgd s x 22 ho B 9 i0 _ 1 16 Try.underlying22 hi hz0 hz1 hz2 rfl (by decide) v l.length (sv l) hs hown ⟨g, 0, none⟩ 1 1 [.string (S m)] hx rfl (World.news_of_block hg) (by intro u hu; simp at hu; subst hu; rfl) (by decide) (by unfold maxLen; omega) (by omega) hB w.heap.size rfl ?_
  intro g' cap w' h1 h2 _ _
  refine h g' cap w' ?_ h2 ?_
  · unfold OwnS
    rw [sv_snoc, List.length_append]
    exact h1
  · refine (Below.refl _ _).grown h2 hB ?_
    intro k hk
    exact (hown.lt _ hk).1
end Go.Proofs.Ythaonpmmfennhaa
