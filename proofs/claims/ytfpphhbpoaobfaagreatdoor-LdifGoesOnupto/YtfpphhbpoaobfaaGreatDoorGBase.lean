import Derived.Test.YtfpphhbpoaobfaaGreatDoorInfo
import Derived.Test.YtfpphhbpoaobfaaGreatDoorBytes
import Derived.Test.YtfpphhbpoaobfaaGreatDoorBaseMath
import Derived.Lib.QuoteBits
import Derived.Deep.AppendLies
namespace Go.Proofs.YtfpphhbpoaobfaaGreatDoor
open Go.RowKit
open TextMath (al grp b64)

def AlTab (w : World) : Prop := ∀ i, i < 64 → w.cell? ⟨2, i, none⟩ = some (.int .u8 ((al i).toNat : Int))
theorem blockA_lt {w : World} {a : Addr} {v : Value} (h : w.cell? a = some v) : a.block < w.heap.size := by
  rcases Nat.lt_or_ge a.block w.heap.size with h' | h'
  · exact h'
  · unfold World.cell? at h
    rw [Array.getElem?_eq_none h'] at h
    cases h
theorem AlTab.below {w w' : World} (h : AlTab w) (hb : Below w.heap.size w w') : AlTab w' := fun i hi => by
  rw [hb.cell (blockA_lt (h i hi))]; exact h i hi

theorem i64_and (n m : Nat) (hn : n < 9223372036854775808) (hm : m < 9223372036854775808) : bits .and .i64 (n : Int) (m : Int) = ((n &&& m : Nat) : Int) := by
  show IntKind.i64.wrap ((BitVec.ofInt 64 (n : Int) &&& BitVec.ofInt 64 (m : Int)).toNat : Int) = _
  rw [BitVec.toNat_and, ofInt_u64 n (by omega), ofInt_u64 m (by omega)]
  exact Lib.wrap_i64_small _ (Nat.lt_of_le_of_lt Nat.and_le_left hn)
theorem i64_or (n m : Nat) (hn : n < 4611686018427387904) (hm : m < 4611686018427387904) : bits .or .i64 (n : Int) (m : Int) = ((n ||| m : Nat) : Int) := by
  show IntKind.i64.wrap ((BitVec.ofInt 64 (n : Int) ||| BitVec.ofInt 64 (m : Int)).toNat : Int) = _
  rw [BitVec.toNat_or, ofInt_u64 n (by omega), ofInt_u64 m (by omega)]
  have : n ||| m < 2 ^ 62 := Nat.or_lt_two_pow (by omega) (by omega)
  exact Lib.wrap_i64_small _ (by omega)
/-- 'x & 63', as the walk spells it. -/
theorem and63 (x : Int) (n m : Nat) (hx : x = n) (hn : n < 9223372036854775808) (hm : m = n % 64) : bits .and .i64 x 63 = (m : Int) := by
  subst hx hm
  have e := i64_and n 63 hn (by omega)
  rw [show (63 : Int) = ((63 : Nat) : Int) from rfl, e]
  congr 1
  have := Nat.and_two_pow_sub_one_eq_mod n 6
  simpa using this
/-- 'x | y', y's bits above x's. -/
theorem orHigh (i : Nat) (x y : Int) (n m v : Nat) (hx : x = n) (hy : y = m) (hn : n < 2 ^ i) (hm : m % 2 ^ i = 0) (h1 : n < 4611686018427387904) (h2 : m < 4611686018427387904) (hv : v = n + m) : bits .or .i64 x y = (v : Int) := by
  subst hx hy hv
  rw [i64_or n m h1 h2, Nat.or_comm, nat_join i m n hm hn]
  congr 1; omega

set_option maxHeartbeats 1000000 in
theorem enc1 (s : ByteArray) (a : Nat) (w : World) (hs : Hid (s.size = 1)) (h0 : ∀ h : 0 < s.size, (s[0]'h).toNat = a) (hx : a < 256) (ht : AlTab w) :
    Calls Tryz.prog 75 #[.string s] w fun e w' => e = .returned (.agg #[.int .u8 ((al (a / 4)).toNat : Int), .int .u8 ((al (a % 4 * 16)).toNat : Int), .int .u8 61, .int .u8 61]) ∧ Below w.heap.size w w' := by
  have hblk : 2 < w.heap.size := blockA_lt (ht 0 (by omega))
  have hblk2 : 2 < w.heap.size + 1 := by omega
  have hblk3 : 0 < w.heap.size := by omega
  have t0 := ht (a / 4) (by omega)
  have t1 := ht (a % 4 * 16) (by omega)
  obtain ⟨v, hv⟩ : ∃ v, v = 65536 * a := ⟨_, rfl⟩
  have e1 : bits .or .i64 0 ((a : Int) * 65536) = (v : Int) := orHigh 16 _ _ 0 (65536 * a) v rfl (by omega) (by omega) (by omega) (by omega) (by omega) (by omega)
  have e2 : bits .and .i64 ((v : Int) / 4096) 63 = ((a % 4 * 16 : Nat) : Int) := and63 _ (v / 4096) _ (by omega) (by omega) (by omega)
  have e3 : (v : Int) / 262144 = ((a / 4 : Nat) : Int) := by omega
  have b0 : a / 4 < 64 := by omega
  have b1 : a % 4 * 16 < 64 := by omega
  clear hv
  generalize a / 4 = i0 at *
  generalize a % 4 * 16 = i1 at *
  generalize ((al i0).toNat : Int) = d0 at *
  generalize ((al i1).toNat : Int) = d1 at *
  have hs' := hs.out
  have hsz : ((s.size : Int) == 3) = false := by simp; omega
  have hsz2 : ((s.size : Int) == 2) = false := by simp; omega
  have hsz1 : ((s.size : Int) == 1) = true := by simp; omega
  have hp : (0 : Int) < s.size := by omega
  have hp' : 0 < s.size := by omega
  have c0 : (i0 : Int) < 64 := by omega
  have c1 : (i1 : Int) < 64 := by omega
  clear hs'
  go_enter Tryz.func75, Tryz.ntmps75
  go_wp2
  exact bodyPost_ret (v := .agg #[.int .u8 d0, .int .u8 d1, .int .u8 61, .int .u8 61]) (by simp [results, Tryz.results75, go_sem]) rfl ⟨rfl, ((Below.refl _ _).alloc (Nat.le_refl _) _).alloc (by simp) _⟩
end Go.Proofs.YtfpphhbpoaobfaaGreatDoor

namespace Go.Proofs.YtfpphhbpoaobfaaGreatDoor
open Go.RowKit
open TextMath (al grp b64)

set_option maxHeartbeats 1000000 in
theorem enc2 (s : ByteArray) (a b : Nat) (w : World) (hs : Hid (s.size = 2)) (h0 : ∀ h : 0 < s.size, (s[0]'h).toNat = a) (h1 : ∀ h : 1 < s.size, (s[1]'h).toNat = b) (hx : a < 256) (hy : b < 256) (ht : AlTab w) :
    Calls Tryz.prog 75 #[.string s] w fun e w' => e = .returned (.agg #[.int .u8 ((al (a / 4)).toNat : Int), .int .u8 ((al (a % 4 * 16 + b / 16)).toNat : Int), .int .u8 ((al (b % 16 * 4)).toNat : Int), .int .u8 61]) ∧ Below w.heap.size w w' := by
  have hblk : 2 < w.heap.size := blockA_lt (ht 0 (by omega))
  have hblk2 : 2 < w.heap.size + 1 := by omega
  have hblk3 : 0 < w.heap.size := by omega
  have t0 := ht (a / 4) (by omega)
  have t1 := ht (a % 4 * 16 + b / 16) (by omega)
  have t2 := ht (b % 16 * 4) (by omega)
  obtain ⟨u, hu⟩ : ∃ u, u = 256 * b := ⟨_, rfl⟩
  obtain ⟨v, hv⟩ : ∃ v, v = u + 65536 * a := ⟨_, rfl⟩
  have e0 : bits .or .i64 0 ((b : Int) * 256) = (u : Int) := orHigh 8 _ _ 0 (256 * b) u rfl (by omega) (by omega) (by omega) (by omega) (by omega) (by omega)
  have e4 : bits .and .i64 ((u : Int) / 64) 63 = ((b % 16 * 4 : Nat) : Int) := and63 _ (u / 64) _ (by omega) (by omega) (by omega)
  have e1 : bits .or .i64 (u : Int) ((a : Int) * 65536) = (v : Int) := orHigh 16 _ _ u (65536 * a) v rfl (by omega) (by omega) (by omega) (by omega) (by omega) (by omega)
  have e2 : bits .and .i64 ((v : Int) / 4096) 63 = ((a % 4 * 16 + b / 16 : Nat) : Int) := and63 _ (v / 4096) _ (by omega) (by omega) (by omega)
  have e3 : (v : Int) / 262144 = ((a / 4 : Nat) : Int) := by omega
  have b0 : a / 4 < 64 := by omega
  have b1 : a % 4 * 16 + b / 16 < 64 := by omega
  have b2 : b % 16 * 4 < 64 := by omega
  clear hv hu
  generalize a / 4 = i0 at *
  generalize a % 4 * 16 + b / 16 = i1 at *
  generalize b % 16 * 4 = i2 at *
  generalize ((al i0).toNat : Int) = d0 at *
  generalize ((al i1).toNat : Int) = d1 at *
  generalize ((al i2).toNat : Int) = d2 at *
  have hs' := hs.out
  have hsz : ((s.size : Int) == 3) = false := by simp; omega
  have hsz2 : ((s.size : Int) == 2) = true := by simp; omega
  have hp : (1 : Int) < s.size := by omega
  have hp' : 0 < s.size := by omega
  have hp1 : 1 < s.size := by omega
  have c0 : (i0 : Int) < 64 := by omega
  have c1 : (i1 : Int) < 64 := by omega
  have c2 : (i2 : Int) < 64 := by omega
  clear hs'
  go_enter Tryz.func75, Tryz.ntmps75
  go_wp2
  exact bodyPost_ret (v := .agg #[.int .u8 d0, .int .u8 d1, .int .u8 d2, .int .u8 61]) (by simp [results, Tryz.results75, go_sem]) rfl ⟨rfl, ((Below.refl _ _).alloc (Nat.le_refl _) _).alloc (by simp) _⟩

set_option maxHeartbeats 1000000 in
theorem enc3 (s : ByteArray) (a b c : Nat) (w : World) (hs : Hid (s.size = 3)) (h0 : ∀ h : 0 < s.size, (s[0]'h).toNat = a) (h1 : ∀ h : 1 < s.size, (s[1]'h).toNat = b) (h2 : ∀ h : 2 < s.size, (s[2]'h).toNat = c) (hx : a < 256) (hy : b < 256) (hzc : c < 256) (ht : AlTab w) :
    Calls Tryz.prog 75 #[.string s] w fun e w' => e = .returned (.agg #[.int .u8 ((al (a / 4)).toNat : Int), .int .u8 ((al (a % 4 * 16 + b / 16)).toNat : Int), .int .u8 ((al (b % 16 * 4 + c / 64)).toNat : Int), .int .u8 ((al (c % 64)).toNat : Int)]) ∧ Below w.heap.size w w' := by
  have hblk : 2 < w.heap.size := blockA_lt (ht 0 (by omega))
  have hblk2 : 2 < w.heap.size + 1 := by omega
  have hblk3 : 0 < w.heap.size := by omega
  have t0 := ht (a / 4) (by omega)
  have t1 := ht (a % 4 * 16 + b / 16) (by omega)
  have t2 := ht (b % 16 * 4 + c / 64) (by omega)
  have t3 := ht (c % 64) (by omega)
  obtain ⟨u, hu⟩ : ∃ u, u = c + 256 * b := ⟨_, rfl⟩
  obtain ⟨v, hv⟩ : ∃ v, v = u + 65536 * a := ⟨_, rfl⟩
  have e5 : bits .and .i64 (c : Int) 63 = ((c % 64 : Nat) : Int) := and63 _ c _ (by omega) (by omega) (by omega)
  have e0 : bits .or .i64 (c : Int) ((b : Int) * 256) = (u : Int) := orHigh 8 _ _ c (256 * b) u rfl (by omega) (by omega) (by omega) (by omega) (by omega) (by omega)
  have e4 : bits .and .i64 ((u : Int) / 64) 63 = ((b % 16 * 4 + c / 64 : Nat) : Int) := and63 _ (u / 64) _ (by omega) (by omega) (by omega)
  have e1 : bits .or .i64 (u : Int) ((a : Int) * 65536) = (v : Int) := orHigh 16 _ _ u (65536 * a) v rfl (by omega) (by omega) (by omega) (by omega) (by omega) (by omega)
  have e2 : bits .and .i64 ((v : Int) / 4096) 63 = ((a % 4 * 16 + b / 16 : Nat) : Int) := and63 _ (v / 4096) _ (by omega) (by omega) (by omega)
  have e3 : (v : Int) / 262144 = ((a / 4 : Nat) : Int) := by omega
  have b0 : a / 4 < 64 := by omega
  have b1 : a % 4 * 16 + b / 16 < 64 := by omega
  have b2 : b % 16 * 4 + c / 64 < 64 := by omega
  have b3 : c % 64 < 64 := by omega
  clear hv hu
  generalize a / 4 = i0 at *
  generalize a % 4 * 16 + b / 16 = i1 at *
  generalize b % 16 * 4 + c / 64 = i2 at *
  generalize c % 64 = i3 at *
  generalize ((al i0).toNat : Int) = d0 at *
  generalize ((al i1).toNat : Int) = d1 at *
  generalize ((al i2).toNat : Int) = d2 at *
  generalize ((al i3).toNat : Int) = d3 at *
  have hs' := hs.out
  have hsz : ((s.size : Int) == 3) = true := by simp; omega
  have hp : (2 : Int) < s.size := by omega
  have hp' : 0 < s.size := by omega
  have hp1 : 1 < s.size := by omega
  have hp2 : 2 < s.size := by omega
  have c0 : (i0 : Int) < 64 := by omega
  have c1 : (i1 : Int) < 64 := by omega
  have c2 : (i2 : Int) < 64 := by omega
  have c3 : (i3 : Int) < 64 := by omega
  clear hs'
  go_enter Tryz.func75, Tryz.ntmps75
  go_wp2
  exact bodyPost_ret (v := .agg #[.int .u8 d0, .int .u8 d1, .int .u8 d2, .int .u8 d3]) (by simp [results, Tryz.results75, go_sem]) rfl ⟨rfl, ((Below.refl _ _).alloc (Nat.le_refl _) _).alloc (by simp) _⟩

/-- A group's four characters. -/
theorem get_l (s : ByteArray) (l : List UInt8) (h : s.data.toList = l) (i : Nat) (hi : i < s.size) : (s[i]'hi) = l.getD i 0 := by rw [← h, getD_s s i hi]
theorem enc_any (s : ByteArray) (w : World) (h1 : 1 ≤ s.size) (h3 : s.size ≤ 3) (ht : AlTab w) :
    Calls Tryz.prog 75 #[.string s] w fun e w' => (∃ p q r t : UInt8, grp s.data.toList = [p, q, r, t] ∧ e = .returned (.agg #[.int .u8 (p.toNat : Int), .int .u8 (q.toNat : Int), .int .u8 (r.toNat : Int), .int .u8 (t.toNat : Int)])) ∧ Below w.heap.size w w' := by
  have hl := size_l s
  match hd : s.data.toList with
  | [] => rw [hd] at hl; simp at hl; omega
  | [x] =>
    have hs : s.size = 1 := by rw [hd] at hl; simpa using hl.symm
    refine (enc1 s x.toNat w hs (fun h => by rw [get_l s _ hd 0 h]; rfl) x.toNat_lt ht).mono fun e w' he => ?_
    exact ⟨⟨_, _, 61, 61, rfl, he.1⟩, he.2⟩
  | [x, y] =>
    have hs : s.size = 2 := by rw [hd] at hl; simpa using hl.symm
    refine (enc2 s x.toNat y.toNat w hs (fun h => by rw [get_l s _ hd 0 h]; rfl) (fun h => by rw [get_l s _ hd 1 h]; rfl) x.toNat_lt y.toNat_lt ht).mono fun e w' he => ?_
    exact ⟨⟨_, _, _, 61, rfl, he.1⟩, he.2⟩
  | [x, y, z] =>
    have hs : s.size = 3 := by rw [hd] at hl; simpa using hl.symm
    refine (enc3 s x.toNat y.toNat z.toNat w hs (fun h => by rw [get_l s _ hd 0 h]; rfl) (fun h => by rw [get_l s _ hd 1 h]; rfl) (fun h => by rw [get_l s _ hd 2 h]; rfl) x.toNat_lt y.toNat_lt z.toNat_lt ht).mono fun e w' he => ?_
    exact ⟨⟨_, _, _, _, rfl, he.1⟩, he.2⟩
  | x :: y :: z :: t :: r => rw [hd] at hl; simp at hl; omega
end Go.Proofs.YtfpphhbpoaobfaaGreatDoor

namespace Go.Proofs.YtfpphhbpoaobfaaGreatDoor
open Go.RowKit
open TextMath (al grp b64)

theorem own_block {w w' : World} {base e size g n cap : Nat} {xs : List Value} (h : w.ownsRow base e size (.slice (some ⟨g, 0, none⟩) n cap) n xs) (hb : w'.heap[g]? = w.heap[g]?) : w'.ownsRow base e size (.slice (some ⟨g, 0, none⟩) n cap) n xs := by
  refine ⟨h.1, ?_⟩
  rcases h.2 with ⟨h1, _⟩ | ⟨g', cap', cur, h1, h2, h3, h4⟩
  · cases h1
  · injection h1 with h1 _ h5
    injection h1 with h1
    injection h1 with h1 _ _
    subst h1 h5
    exact Or.inr ⟨g, cap, cur, rfl, h2, by rw [hb]; exact h3, h4⟩

theorem four_new (w : World) (O : Obj) (a b c d : Value) (e : TypeId) : ∀ j u, [a, b, c, d][j]? = some u → ((w.alloc O).alloc (.cells #[a, b, c, d] e)).cell? ((⟨w.heap.size + 1, 0, none⟩ : Addr).add j) = some u := by
  have hb : ((w.alloc O).alloc (.cells #[a, b, c, d] e)).heap[w.heap.size + 1]? = some (.cells #[a, b, c, d] e (0, 0)) := by
    have h := heap_alloc_new (w.alloc O) (.cells #[a, b, c, d] e)
    simpa using h
  exact World.news_of_block hb

/-- How long the text in a slot is. -/
def szOf : Value → Nat
  | .string t => t.size
  | _ => 0

theorem b64_go (l o : List UInt8) (t : ByteArray) (m : Nat) (p q r x : UInt8) (h : b64 l = o ++ b64 t.data.toList) (h0 : 1 ≤ t.size) (hm : m = min 3 t.size) (hg : grp (t.extract 0 m).data.toList = [p, q, r, x]) :
    b64 l = (o ++ [p, q, r, x]) ++ b64 (t.extract m t.size).data.toList := by
  have hne : t.data.toList ≠ [] := fun e => by have := size_l t; rw [e] at this; simp at this; omega
  have e1 : t.data.toList.take m = t.data.toList.take 3 := by
    by_cases h3 : 3 ≤ t.size
    · rw [hm, Nat.min_eq_left h3]
    · rw [hm, Nat.min_eq_right (by omega), List.take_of_length_le (by rw [size_l]; omega), List.take_of_length_le (by rw [size_l]; omega)]
  have e2 : t.data.toList.drop m = t.data.toList.drop 3 := by
    by_cases h3 : 3 ≤ t.size
    · rw [hm, Nat.min_eq_left h3]
    · rw [hm, Nat.min_eq_right (by omega), List.drop_eq_nil_of_le (by rw [size_l]; omega), List.drop_eq_nil_of_le (by rw [size_l]; omega)]
  rw [take_l, e1] at hg
  rw [h, TextMath.b64_step _ hne, hg, drop_l, e2]; simp

set_option maxHeartbeats 1000000 in
theorem base64_any (s : ByteArray) (w : World) (hm : s.size ≤ 140737488355328) (ht : AlTab w) :
    Calls Tryz.prog 59 #[.string s] w fun e w' => e = .returned (.string (S (b64 s.data.toList))) ∧ Below w.heap.size w w' := by
  obtain ⟨i0, hi, hz0, hz1, hz2⟩ := info_parts info_u8
  obtain ⟨C, hC⟩ : ∃ C, C = (s.size + 2) / 3 * 4 := ⟨_, rfl⟩
  have HC : Hid (C = (s.size + 2) / 3 * 4) := hC
  have hCb : C ≤ 281474976710656 := by omega
  have hCe : ((s.size : Int) + 2) / 3 * 4 = (C : Int) := by omega
  clear hC
  go_enter Tryz.func59, Tryz.ntmps59
  go_wp2_with (at_make; refine wpList_make_own _ rfl _ _ 62 rfl w.heap.size 5 i0 (.int .u8 0) 1 Tryz.underlying62 hi hz0 hz1 _ _ _ C rfl rfl rfl ?_ ?_ ?_ ?_; (rw [hz2]; omega); (unfold maxLen; omega); (exact Nat.le_refl _); intro w1 hown1 hgrow1)
  have hb1 : Below w.heap.size w w1 := (Below.refl _ _).grown hgrow1 (Nat.le_refl _) (fun k h => by cases h)
  go_loopw [0, 3] (fun sv out wr => ∃ (t : ByteArray) (o : List UInt8), sv = .string t ∧ t.size ≤ s.size ∧ out = .slice (some ⟨w.heap.size, 0, none⟩) o.length C ∧ o.length + (t.size + 2) / 3 * 4 = C ∧ Below w.heap.size w wr ∧ w.heap.size < wr.heap.size ∧ wr.ownsRow w.heap.size 5 1 (.slice (some ⟨w.heap.size, 0, none⟩) o.length C) o.length (bv o) ∧ Hid (b64 s.data.toList = o ++ b64 t.data.toList)) (fun sv _ _ => szOf sv)
  case atStart => exact ⟨s, [], rfl, Nat.le_refl _, rfl, by rw [HC.out]; simp, hb1, (hown1.lt _ rfl).2, hown1, by unfold Hid; simp⟩
  case round =>
    clear hown1 hgrow1 hb1 hCe
    obtain ⟨t, o, rfl, hts, rfl, hlenC, hb, hgs, hown, hbb⟩ := hrel
    have HLC : Hid (o.length + (t.size + 2) / 3 * 4 = C) := hlenC
    clear hlenC
    by_cases hp : 0 < t.size
    · by_cases h3 : 3 ≤ t.size
      · have hcall : Hid (Calls Tryz.prog 75 #[.string (t.extract 0 3)] wr fun e w' => (∃ p q r x : UInt8, grp (t.extract 0 3).data.toList = [p, q, r, x] ∧ e = .returned (.agg #[.int .u8 (p.toNat : Int), .int .u8 (q.toNat : Int), .int .u8 (r.toNat : Int), .int .u8 (x.toNat : Int)])) ∧ Below wr.heap.size wr w') :=
          enc_any _ wr (by simp; omega) (by simp; omega) (ht.below hb)
        have hroom : o.length + 4 ≤ C := by have := HLC.out; omega
        go_wp2_with (first | (go_at_call 75; refine hcall.out.mono ?_; rintro e w2 ⟨⟨p, q, r, x, hg, rfl⟩, hb2⟩; have HG : Hid (_ = _) := hg; clear hg; have hown2 := own_block hown (hb2.block _ hgs); have hs2 := hb2.size) | (at_builtin; refine wpList_append_fits _ rfl _ _ 62 rfl w.heap.size 5 i0 1 Tryz.underlying62 hi hz1 w.heap.size o.length C _ rfl ((hown2.alloc _).alloc _) ⟨w2.heap.size + 1, 0, none⟩ 4 4 [.int .u8 (p.toNat : Int), .int .u8 (q.toNat : Int), .int .u8 (r.toNat : Int), .int .u8 (x.toNat : Int)] rfl rfl ?_ ?_ ?_ ?_; (exact four_new _ _ _ _ _ _ _); (intro u hu; simp at hu; rcases hu with rfl | rfl | rfl | rfl <;> rfl); omega; intro w3 hown3 hgrow3))
        go_roundw
        case rel =>
          refine ⟨t.extract 3 t.size, o ++ [p, q, r, x], rfl, by simp; omega, by simp, ?_, ?_, ?_, ?_, b64_go _ o t 3 p q r x hbb.out hp (by omega) HG.out⟩
          · have := HLC.out; simp only [List.length_append, List.length_cons, List.length_nil, ByteArray.size_extract]; omega
          · exact (((hb.trans (hb2.mono hb.size)).alloc (by omega) _).alloc (by simp; omega) _).grown hgrow3 (by simp; omega) (fun j h => by injection h with h; omega)
          · have := hgrow3.size; simp at this; omega
          · rw [bv_app]; simp only [List.length_append, List.length_cons, List.length_nil]; exact hown3
        case measure => simp [szOf]; omega
      · have h3' : t.size ≤ 2 := by omega
        have hcall : Hid (Calls Tryz.prog 75 #[.string t] wr fun e w' => (∃ p q r x : UInt8, grp t.data.toList = [p, q, r, x] ∧ e = .returned (.agg #[.int .u8 (p.toNat : Int), .int .u8 (q.toNat : Int), .int .u8 (r.toNat : Int), .int .u8 (x.toNat : Int)])) ∧ Below wr.heap.size wr w') :=
          enc_any _ wr hp (by omega) (ht.below hb)
        have hroom : o.length + 4 ≤ C := by have := HLC.out; omega
        go_wp2_with (first | (go_at_call 75; refine hcall.out.mono ?_; rintro e w2 ⟨⟨p, q, r, x, hg, rfl⟩, hb2⟩; have HG : Hid (_ = _) := hg; clear hg; have hown2 := own_block hown (hb2.block _ hgs); have hs2 := hb2.size) | (at_builtin; refine wpList_append_fits _ rfl _ _ 62 rfl w.heap.size 5 i0 1 Tryz.underlying62 hi hz1 w.heap.size o.length C _ rfl ((hown2.alloc _).alloc _) ⟨w2.heap.size + 1, 0, none⟩ 4 4 [.int .u8 (p.toNat : Int), .int .u8 (q.toNat : Int), .int .u8 (r.toNat : Int), .int .u8 (x.toNat : Int)] rfl rfl ?_ ?_ ?_ ?_; (exact four_new _ _ _ _ _ _ _); (intro u hu; simp at hu; rcases hu with rfl | rfl | rfl | rfl <;> rfl); omega; intro w3 hown3 hgrow3))
        go_roundw
        case rel =>
          refine ⟨t.extract t.size t.size, o ++ [p, q, r, x], by first | rfl | simp, by simp, by simp, ?_, ?_, ?_, ?_, b64_go _ o t t.size p q r x hbb.out hp (by omega) (by rw [take_l, List.take_of_length_le (by rw [size_l]; exact Nat.le_refl _)]; exact HG.out)⟩
          · have := HLC.out; simp only [List.length_append, List.length_cons, List.length_nil, ByteArray.size_extract]; omega
          · exact (((hb.trans (hb2.mono hb.size)).alloc (by omega) _).alloc (by simp; omega) _).grown hgrow3 (by simp; omega) (fun j h => by injection h with h; omega)
          · have := hgrow3.size; simp at this; omega
          · rw [bv_app]; simp only [List.length_append, List.length_cons, List.length_nil]; exact hown3
        case measure => simp [szOf]; omega
    · have hz : t.data.toList = [] := List.eq_nil_of_length_eq_zero (by rw [size_l]; omega)
      have hback := own_back (P := Tryz.prog) wr w.heap.size 62 9 5 w.heap.size _ _ _ Tryz.underlying62 Tryz.underlying5 Tryz.underlying9 hown
      have HR : Hid (o = b64 s.data.toList) := by
        have := hbb.out
        rw [hz] at this
        unfold Hid; rw [this]; simp [b64]
      clear hown hz
      go_wp2
      go_ret
      exact ⟨ret_str (by rw [HR.out]), hb⟩
end Go.Proofs.YtfpphhbpoaobfaaGreatDoor
