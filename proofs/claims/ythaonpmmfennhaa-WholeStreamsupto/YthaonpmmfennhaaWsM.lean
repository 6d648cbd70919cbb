import Derived.Test.YthaonpmmfennhaaBwWr
import Derived.Test.YthaonpmmfennhaaBInt2
import Derived.Test.YthaonpmmfennhaaFX4
namespace Go.Proofs.Ythaonpmmfennhaa
open Go.RowKit
open BerMath (lo enc sz be)
set_option linter.unusedVariables false

/-- A number's bytes, no zero ahead. -/
def mb (n : Nat) : List UInt8 :=
  if n = 0 then [] else if n < 256 then [lo (n : Int)] else if n < 65536 then [lo ((n : Int) / 256), lo (n : Int)] else if n < 16777216 then [lo ((n : Int) / 65536), lo ((n : Int) / 256), lo (n : Int)]
  else [lo ((n : Int) / 16777216), lo ((n : Int) / 65536), lo ((n : Int) / 256), lo (n : Int)]
theorem mb_cases (n : Nat) : (n = 0 ∧ mb n = []) ∨ (¬ n = 0 ∧ n < 256 ∧ mb n = [lo (n : Int)]) ∨ (¬ n < 256 ∧ n < 65536 ∧ mb n = [lo ((n : Int) / 256), lo (n : Int)]) ∨ (¬ n < 65536 ∧ n < 16777216 ∧ mb n = [lo ((n : Int) / 65536), lo ((n : Int) / 256), lo (n : Int)]) ∨ (¬ n < 16777216 ∧ mb n = [lo ((n : Int) / 16777216), lo ((n : Int) / 65536), lo ((n : Int) / 256), lo (n : Int)]) := by
  unfold mb
  by_cases h0 : n = 0
  · exact Or.inl ⟨h0, if_pos h0⟩
  by_cases h1 : n < 256
  · exact Or.inr (Or.inl ⟨h0, h1, by rw [if_neg h0, if_pos h1]⟩)
  by_cases h2 : n < 65536
  · exact Or.inr (Or.inr (Or.inl ⟨h1, h2, by rw [if_neg h0, if_neg h1, if_pos h2]⟩))
  by_cases h3 : n < 16777216
  · exact Or.inr (Or.inr (Or.inr (Or.inl ⟨h2, h3, by rw [if_neg h0, if_neg h1, if_neg h2, if_pos h3]⟩)))
  · exact Or.inr (Or.inr (Or.inr (Or.inr ⟨h3, by rw [if_neg h0, if_neg h1, if_neg h2, if_neg h3]⟩)))
theorem mb_step (n : Nat) (h0 : 0 < n) (h : n < 4294967296) : mb n = mb (n / 256) ++ [lo (n : Int)] := by
  have e0 : ((n / 256 : Nat) : Int) = (n : Int) / 256 := by omega
  have e1 : (n : Int) / 256 / 256 = (n : Int) / 65536 := by omega
  have e2 : (n : Int) / 256 / 65536 = (n : Int) / 16777216 := by omega
  rcases mb_cases n with ⟨a, e⟩ | ⟨a, b, e⟩ | ⟨a, b, e⟩ | ⟨a, b, e⟩ | ⟨a, e⟩ <;> rcases mb_cases (n / 256) with ⟨c, f⟩ | ⟨c, d, f⟩ | ⟨c, d, f⟩ | ⟨c, d, f⟩ | ⟨c, f⟩
  all_goals first
    | (exfalso; omega)
    | (rw [e, f]; rfl)
    | (rw [e, f, e0]; rfl)
    | (rw [e, f, e0, e1]; rfl)
    | (rw [e, f, e0, e1, e2]; rfl)
theorem mb_len (n : Nat) : (mb n).length ≤ 4 := by
  rcases mb_cases n with ⟨a, e⟩ | ⟨a, b, e⟩ | ⟨a, b, e⟩ | ⟨a, b, e⟩ | ⟨a, e⟩ <;> rw [e] <;> simp
theorem lenB_short (n : Nat) (h : n < 128) : lenB n = [lo (n : Int)] := by unfold lenB; rw [if_pos h]
theorem lenB_mb (n : Nat) (h : ¬ n < 128) : lenB n = lo ((128 : Int) + ((mb n).length : Int)) :: mb n := by
  unfold lenB
  rw [if_neg h]
  rcases mb_cases n with ⟨a, e⟩ | ⟨a, b, e⟩ | ⟨a, b, e⟩ | ⟨a, b, e⟩ | ⟨a, e⟩
  · omega
  · rw [if_pos b, e]; rfl
  · rw [if_neg a, if_pos b, e]; rfl
  · rw [if_neg (by omega), if_neg a, if_pos b, e]; rfl
  · rw [if_neg (by omega), if_neg (by omega), if_neg a, e]; rfl
/-- Does a zero stand ahead of a number's bytes? -/
def padB (n : Nat) : Bool := decide ((mb n).length = 0) || decide (128 ≤ ((mb n).getD 0 0).toNat)
theorem lo_low (n : Int) (h0 : 0 ≤ n) (h : n < 128) : ¬ 128 ≤ (lo n).toNat := by have := BerMath.lo_n n; omega
theorem lo_high (n : Int) (h0 : 128 ≤ n) (h : n < 256) : 128 ≤ (lo n).toNat := by have := BerMath.lo_n n; omega
theorem enc_mb (n : Nat) (h : n < 8388608) : enc (n : Int) = (if padB n = true then 0 :: mb n else mb n) := by
  have e1 : (n : Int) / 256 / 256 = (n : Int) / 65536 := by omega
  have z0 : lo 0 = 0 := by decide
  unfold enc padB
  rcases mb_cases n with ⟨a, e⟩ | ⟨a, b, e⟩ | ⟨a, b, e⟩ | ⟨a, b, e⟩ | ⟨a, e⟩
  · subst a
    rw [e, BerMath.sz_one _ (by omega)]
    decide
  · rw [e]
    by_cases h1 : n < 128
    · rw [BerMath.sz_one _ (by omega)]
      have := lo_low (n : Int) (by omega) (by omega)
      simp [this, be]
    · have hs : sz (n : Int) = 2 := by unfold sz; rw [if_neg (by omega), if_pos (by omega)]
      have := lo_high (n : Int) (by omega) (by omega)
      have hz : lo ((n : Int) / 256) = 0 := by rw [show (n : Int) / 256 = 0 by omega]; exact z0
      rw [hs]
      simp [this, be, hz]
  · rw [e]
    by_cases h1 : n < 32768
    · have hs : sz (n : Int) = 2 := by unfold sz; rw [if_neg (by omega), if_pos (by omega)]
      have := lo_low ((n : Int) / 256) (by omega) (by omega)
      rw [hs]
      simp [this, be]
    · have hs : sz (n : Int) = 3 := by unfold sz; rw [if_neg (by omega), if_neg (by omega), if_pos (by omega)]
      have := lo_high ((n : Int) / 256) (by omega) (by omega)
      have hz : lo ((n : Int) / 256 / 256) = 0 := by rw [show (n : Int) / 256 / 256 = 0 by omega]; exact z0
      rw [hs]
      simp [this, be, hz]
  · rw [e]
    have hs : sz (n : Int) = 3 := by unfold sz; rw [if_neg (by omega), if_neg (by omega), if_pos (by omega)]
    have := lo_low ((n : Int) / 65536) (by omega) (by omega)
    rw [hs]
    simp [this, be, e1]
  · omega
/-- An element's bytes. -/
def elB (f : UInt8) (t : List UInt8) : List UInt8 := f :: (lenB t.length ++ t)
theorem elB_len (f : UInt8) (t : List UInt8) : (elB f t).length = 2 + ll t.length + t.length := by
  unfold elB
  rw [List.length_cons, List.length_append, lenB_len]
  omega
theorem ll3 (n : Nat) (h : n < 16777216) : ll n ≤ 3 := by rcases ll_cases n with h | h | h | h | h <;> omega
theorem ll0 (n : Nat) (h : n < 128) : ll n = 0 := by rcases ll_cases n with h | h | h | h | h <;> omega
theorem sz3 (n : Nat) (h : n ≤ 1000000) : sz (n : Int) ≤ 3 := by
  unfold sz
  by_cases h1 : (-128 : Int) ≤ n ∧ (n : Int) ≤ 127
  · rw [if_pos h1]; decide
  by_cases h2 : (-32768 : Int) ≤ n ∧ (n : Int) ≤ 32767
  · rw [if_neg h1, if_pos h2]; decide
  · rw [if_neg h1, if_neg h2, if_pos (by omega)]; decide
/-- The message of a content. -/
def msgL (b : List UInt8) : List UInt8 := elB 48 (elB 4 b ++ elB 2 (enc (b.length : Int)))
theorem msgL_len (b : List UInt8) (h : b.length ≤ 1000000) : 2 ≤ (msgL b).length ∧ (msgL b).length ≤ b.length + 15 ∧ (elB 4 b ++ elB 2 (enc (b.length : Int))).length < 16777216 := by
  have hs : (enc (b.length : Int)).length ≤ 3 := by rw [BerMath.enc_len]; exact sz3 _ h
  unfold msgL
  generalize enc (b.length : Int) = e at *
  have h2 : (elB 4 b ++ elB 2 e).length = 2 + ll b.length + b.length + (2 + ll e.length + e.length) := by rw [List.length_append, elB_len, elB_len]
  have h3 := ll0 e.length (by omega)
  have h4 := ll3 b.length (by omega)
  have h1 := elB_len 48 (elB 4 b ++ elB 2 e)
  have h5 := ll3 (elB 4 b ++ elB 2 e).length (by omega)
  omega
theorem getD_lb (b : List UInt8) (p : Nat) : FrMath.lb b p = (b.getD p 0).toNat := rfl
theorem lo_nat (n : Int) (h0 : 0 ≤ n) : ((lo n).toNat : Int) = n % 256 := BerMath.lo_n n
/-- What a framer makes of an element. -/
theorem look_el (L : Int) (t : List UInt8) (h : t.length < 16777216) (hl : ((elB 48 t).length : Int) ≤ L) : FrMath.look L (elB 48 t) = ⟨0, (elB 48 t).length, 0⟩ := by
  have hlen := elB_len 48 t
  generalize hz : (elB 48 t).length = z at *
  have g0 : FrMath.lb (elB 48 t) 0 = 48 := rfl
  have hw : FrMath.within L 0 z = ⟨0, z, 0⟩ := by unfold FrMath.within; rw [if_neg (by omega)]
  have n0 := BerMath.lo_n (t.length : Int)
  have n1 := BerMath.lo_n ((t.length : Int) / 256)
  have n2 := BerMath.lo_n ((t.length : Int) / 65536)
  unfold FrMath.look
  rw [hz, g0, if_neg (by omega), if_neg (by omega), if_neg (by omega)]
  rcases ll_cases t.length with ⟨a, e⟩ | ⟨a, b, e⟩ | ⟨a, b, c, e⟩ | ⟨a, b, c, d', e⟩ | ⟨a, b, c, d', e⟩
  · have g1 : FrMath.lb (elB 48 t) 1 = t.length := by
      unfold elB lenB
      rw [if_pos a]
      show (lo (t.length : Int)).toNat = _
      omega
    rw [g1, if_pos a, show 2 + t.length = z by omega]
    exact hw
  · have hb : elB 48 t = 48 :: 129 :: lo (t.length : Int) :: t := by unfold elB lenB; rw [if_neg a, if_pos b]; rfl
    have g1 : FrMath.lb (elB 48 t) 1 = 129 := by rw [hb]; rfl
    have g2 : FrMath.bd (elB 48 t) 1 = t.length := by
      rw [hb]
      show 0 * 256 + (lo (t.length : Int)).toNat = _
      omega
    rw [g1, if_neg (by omega), if_neg (by omega), if_neg (by omega), show 129 - 128 = 1 from rfl, g2, show 129 - 126 - z = 0 by omega, show 129 - 126 + t.length = z by omega]
    exact hw
  · have hb : elB 48 t = 48 :: 130 :: lo ((t.length : Int) / 256) :: lo (t.length : Int) :: t := by unfold elB lenB; rw [if_neg a, if_neg b, if_pos c]; rfl
    have g1 : FrMath.lb (elB 48 t) 1 = 130 := by rw [hb]; rfl
    have g2 : FrMath.bd (elB 48 t) 2 = t.length := by
      rw [hb]
      show (0 * 256 + (lo ((t.length : Int) / 256)).toNat) * 256 + (lo (t.length : Int)).toNat = _
      omega
    rw [g1, if_neg (by omega), if_neg (by omega), if_neg (by omega), show 130 - 128 = 2 from rfl, g2, show 130 - 126 - z = 0 by omega, show 130 - 126 + t.length = z by omega]
    exact hw
  · have hb : elB 48 t = 48 :: 131 :: lo ((t.length : Int) / 65536) :: lo ((t.length : Int) / 256) :: lo (t.length : Int) :: t := by unfold elB lenB; rw [if_neg a, if_neg b, if_neg c, if_pos d']; rfl
    have g1 : FrMath.lb (elB 48 t) 1 = 131 := by rw [hb]; rfl
    have g2 : FrMath.bd (elB 48 t) 3 = t.length := by
      rw [hb]
      show ((0 * 256 + (lo ((t.length : Int) / 65536)).toNat) * 256 + (lo ((t.length : Int) / 256)).toNat) * 256 + (lo (t.length : Int)).toNat = _
      omega
    rw [g1, if_neg (by omega), if_neg (by omega), if_neg (by omega), show 131 - 128 = 3 from rfl, g2, show 131 - 126 - z = 0 by omega, show 131 - 126 + t.length = z by omega]
    exact hw
  · omega
theorem cut_msgs (ws : List (List UInt8)) (h : ∀ b ∈ ws, b.length ≤ 1000000) : FrMath.Cut 1048576 (ws.map msgL).flatten = ⟨ws.map msgL, (ws.map msgL).flatten.length, 0⟩ := by
  induction ws with
  | nil => rw [List.map_nil, List.flatten_nil, Cut_nil]; rfl
  | cons b ws ih =>
    have hb := h b List.mem_cons_self
    have hm := msgL_len b hb
    have hlk : FrMath.look 1048576 (msgL b) = ⟨0, (msgL b).length, 0⟩ := look_el 1048576 _ hm.2.2 (by have := hm.2.1; unfold msgL at this; omega)
    rw [List.map_cons, List.flatten_cons, cut_whole hlk, ih (fun x hx => h x (List.mem_cons_of_mem _ hx))]
    unfold FrMath.ahead
    simp
/-- The three nodes of a message. -/
def wD (i : Nat) : Int := if i = 0 then 1 else 2
def wC (_ : Nat) : Int := 0
def wT (i : Nat) : Int := if i = 0 then 16 else if i = 1 then 4 else 2
def wM (i : Nat) : Bool := decide (i = 0)
def wB (b : ByteArray) (i : Nat) : ByteArray := if i = 0 then ⟨#[]⟩ else if i = 1 then b else S (enc (b.size : Int))
theorem w_good (b : ByteArray) (i : Nat) (hi : i < 3) : Good wD wC wT wM (wB b) i := by
  have : i = 0 ∨ i = 1 ∨ i = 2 := by omega
  rcases this with rfl | rfl | rfl
  · refine ⟨by decide, by decide, by decide, by decide, by decide, by decide, fun _ => ?_, fun _ => rfl, fun j hj => by omega⟩
    show (ByteArray.toList ⟨#[]⟩).isEmpty = true
    rw [Lib.toList_data]; rfl
  · refine ⟨by decide, by decide, by decide, by decide, by decide, by decide, fun h => (by cases h), fun h => (by omega), fun j hj => ?_⟩
    have : j = 0 := by omega
    subst this
    exact ⟨by decide, by decide, fun _ => rfl⟩
  · refine ⟨by decide, by decide, by decide, by decide, by decide, by decide, fun h => (by cases h), fun h => (by omega), fun j hj => ?_⟩
    have : j = 1 := by omega
    subst this
    exact ⟨by decide, by decide, fun h => by simp [wD] at h⟩
theorem ws_sum (b : ByteArray) (h : b.size ≤ 1000000) : bsum (wB b) 3 ≤ 1000100 := by
  have e : bsum (wB b) 3 = 0 + (wB b 0).size + 6 + (wB b 1).size + 6 + (wB b 2).size + 6 := rfl
  have h0 : (wB b 0).size = 0 := rfl
  have h1 : (wB b 1).size = b.size := rfl
  have h2 : (wB b 2).size = (enc (b.size : Int)).length := by show (S _).size = _; rw [S_size]
  have := BerMath.sz_pos (b.size : Int)
  rw [BerMath.enc_len] at h2
  omega
theorem hdr_inj {c : Nat} {m : Bool} {t l k l' k' : Nat} (hc : c ≤ 3) (ht : t ≤ 30) (h1 : Says l k) (h2 : Says l' k') (h : hdrL c m t l k = hdrL c m t l' k') : l = l' := by
  have hk : 2 + k = 2 + k' := by rw [← hdrL_len c m t l k, h, hdrL_len]
  have a1 := hAt_hdr c m t l k [] (2 + k) hc ht h1 (Nat.le_refl _)
  have a2 := hAt_hdr c m t l' k' [] (2 + k) hc ht h2 (by omega)
  rw [h, a2] at a1
  injection a1 with a1
  injection a1 with _ _ _ a1 _
  exact a1.symm
theorem w_hdr {b : ByteArray} {σ : List Nat} {H : Nat → List UInt8} (hX : SpX 3 0 wD wC wT wM (wB b) σ H) (hL : ∀ j, j < 3 → ∃ len, H j = hdrL (wC j).toNat (wM j) (wT j).toNat len (ll len) ∧ len ≤ 67108864) (j : Nat) (hj : j < 3) :
    ∃ len, H j = fb (wC j).toNat (wM j) (wT j).toNat :: lenB len ∧ (wM j = true → len = byB H (wB b) (j + 1) (idx wD (wD j + 1) (3 - (j + 1)) (j + 1))) ∧ (wM j = false → len = (wB b j).size) := by
  obtain ⟨len, k, e1, hs, e2, e3⟩ := hX.2 j (Nat.zero_le _) hj
  obtain ⟨len', e4, hle⟩ := hL j hj
  have hT : (wT j).toNat ≤ 30 := by
    have : j = 0 ∨ j = 1 ∨ j = 2 := by omega
    rcases this with rfl | rfl | rfl <;> decide
  have he : len = len' := hdr_inj (by show 0 ≤ 3; omega) hT hs (says_wide len' (by omega)) (e1.symm.trans e4)
  subst he
  refine ⟨len, by rw [e4, hdr_short], e2, e3⟩
theorem w_out {b : ByteArray} {σ : List Nat} {H : Nat → List UInt8} (hX : SpX 3 0 wD wC wT wM (wB b) σ H) (hL : ∀ j, j < 3 → ∃ len, H j = hdrL (wC j).toNat (wM j) (wT j).toNat len (ll len) ∧ len ≤ 67108864) :
    outB H (wB b) 0 3 = msgL b.data.toList := by
  obtain ⟨l0, a0, b0, _⟩ := w_hdr hX hL 0 (by omega)
  obtain ⟨l1, a1, _, c1⟩ := w_hdr hX hL 1 (by omega)
  obtain ⟨l2, a2, _, c2⟩ := w_hdr hX hL 2 (by omega)
  have hl1 : l1 = b.data.toList.length := by rw [c1 rfl, size_l]; rfl
  have hB2 : (wB b 2).data.toList = enc (b.data.toList.length : Int) := by show (S _).data.toList = _; rw [S_l, size_l]
  have hl2 : l2 = (enc (b.data.toList.length : Int)).length := by rw [c2 rfl, ← hB2, size_l]
  have e1 : outB H (wB b) 1 2 = elB 4 b.data.toList ++ elB 2 (enc (b.data.toList.length : Int)) := by
    rw [outB_cons, outB_cons, outB_zero, List.append_nil, a1, a2, hB2, hl1, hl2]
    rfl
  have hid : idx wD (wD 0 + 1) (3 - (0 + 1)) (0 + 1) = 3 := by decide
  have hl0 : l0 = (elB 4 b.data.toList ++ elB 2 (enc (b.data.toList.length : Int))).length := by
    rw [b0 rfl, hid, ← e1]
    rfl
  rw [outB_cons, e1, a0, hl0]
  show (_ :: lenB _ ++ ([] : List UInt8)) ++ _ = _
  rw [List.append_nil]
  rfl
end Go.Proofs.Ythaonpmmfennhaa
