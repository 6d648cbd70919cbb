import Derived.Test.YthaonpmmfennhaaFX2
import Derived.Test.YthaonpmmfennhaaFX3
import Derived.Test.YthaonpmmfennhaaFX1
namespace Go.Proofs.Ythaonpmmfennhaa
open Go.RowKit

end Go.Proofs.Ythaonpmmfennhaa

namespace Go.Proofs.Ythaonpmmfennhaa
open Go.RowKit
open FrMath (Hdr lb bd within Out ends cut Cut)

theorem hd_len (k n : Nat) : (hd k n).length = 2 + k := by
  unfold hd
  by_cases h : k = 0
  · rw [if_pos h, h]; rfl
  · rw [if_neg h, List.length_cons, List.length_cons, bs_len]; omega
theorem bt_0 (n : Nat) : (bt n 0).toNat = n % 256 := by
  unfold bt; rw [if_pos rfl, u8_of _ (by omega)]
theorem bt_1 (n : Nat) (h : n ≤ 4096) : (bt n 1).toNat = n / 256 := by
  unfold bt; rw [if_neg (by omega), if_pos rfl, u8_of _ (by omega)]
theorem bd_hd (k n : Nat) (t : List UInt8) (h : okHd k n) (k1 : 1 ≤ k) : bd (hd k n ++ t) k = n := by
  obtain ⟨h4, h0, h1, hn⟩ := h
  have b0 := bt_0 n
  have b1 := bt_1 n hn
  have : k = 1 ∨ k = 2 ∨ k = 3 ∨ k = 4 := by omega
  rcases this with rfl | rfl | rfl | rfl
  · show 0 * 256 + (bt n 0).toNat = n
    rw [b0]; have := h1 rfl; omega
  · show (0 * 256 + (bt n 1).toNat) * 256 + (bt n 0).toNat = n
    rw [b0, b1]; omega
  · show ((0 * 256 + (bt n 2).toNat) * 256 + (bt n 1).toNat) * 256 + (bt n 0).toNat = n
    rw [b0, b1, show (bt n 2).toNat = 0 from rfl]; omega
  · show (((0 * 256 + (bt n 3).toNat) * 256 + (bt n 2).toNat) * 256 + (bt n 1).toNat) * 256 + (bt n 0).toNat = n
    rw [b0, b1, show (bt n 2).toNat = 0 from rfl, show (bt n 3).toNat = 0 from rfl]; omega
theorem hd_l0 (k n : Nat) (t : List UInt8) : lb (hd k n ++ t) 0 = 48 := by
  unfold hd
  by_cases h : k = 0
  · rw [if_pos h]; rfl
  · rw [if_neg h]; rfl
theorem hd_l1 (k n : Nat) (t : List UInt8) (h : okHd k n) : lb (hd k n ++ t) 1 = if k = 0 then n else 128 + k := by
  obtain ⟨h4, h0, h1, hn⟩ := h
  unfold hd
  by_cases hk : k = 0
  · rw [if_pos hk, if_pos hk]
    show (UInt8.ofNat n).toNat = n
    exact u8_of _ (by have := h0 hk; omega)
  · rw [if_neg hk, if_neg hk]
    show (UInt8.ofNat (128 + k)).toNat = 128 + k
    exact u8_of _ (by omega)
/-- A whole header, whatever stands behind it. -/
theorem look_hd (lim : Int) (k n : Nat) (t : List UInt8) (h : okHd k n) : FrMath.look lim (hd k n ++ t) = within lim 0 (2 + k + n) := by
  have hl : (hd k n ++ t).length = 2 + k + t.length := by rw [List.length_append, hd_len]
  have l0 := hd_l0 k n t
  have l1 := hd_l1 k n t h
  unfold FrMath.look
  rw [if_neg (by omega), if_neg (by omega), if_neg (by omega)]
  by_cases hk : k = 0
  · rw [if_pos hk] at l1
    have := h.2.1 hk
    rw [if_pos (by omega), l1, hk]
  · rw [if_neg hk] at l1
    have := h.1
    rw [if_neg (by omega), if_neg (by omega), if_neg (by omega), hl, l1]
    have e1 : 128 + k - 126 - (2 + k + t.length) = 0 := by omega
    have e2 : 128 + k - 126 = 2 + k := by omega
    have e3 : 128 + k - 128 = k := by omega
    rw [e1, e2, e3, bd_hd k n t h (by omega)]
/-- All of a header but its last byte. -/
theorem look_cut (lim : Int) (k n : Nat) (h : okHd k n) : (FrMath.look lim ((hd k n).take (1 + k))).er = 0 ∧ ((hd k n).take (1 + k)).length < (FrMath.look lim ((hd k n).take (1 + k))).sz := by
  have hl : ((hd k n).take (1 + k)).length = 1 + k := by rw [List.length_take, hd_len]; omega
  have hsplit : (hd k n).take (1 + k) ++ (hd k n).drop (1 + k) = hd k n := List.take_append_drop _ _
  have l0 : lb ((hd k n).take (1 + k)) 0 = 48 := by
    rw [← FrMath.lb_app _ ((hd k n).drop (1 + k)) 0 (by omega), hsplit]
    have := hd_l0 k n []
    rwa [List.append_nil] at this
  by_cases hk : k = 0
  · have e : FrMath.look lim ((hd k n).take (1 + k)) = ⟨1, 2, 0⟩ := by
      unfold FrMath.look
      rw [if_neg (by omega), if_neg (by omega), if_pos (by omega)]
    rw [e, hl]
    exact ⟨rfl, by show 1 + k < 2; omega⟩
  · have l1 : lb ((hd k n).take (1 + k)) 1 = 128 + k := by
      rw [← FrMath.lb_app _ ((hd k n).drop (1 + k)) 1 (by omega), hsplit]
      have := hd_l1 k n [] h
      rwa [List.append_nil, if_neg hk] at this
    have h4 := h.1
    have e : FrMath.look lim ((hd k n).take (1 + k)) = ⟨1, 2 + k + bd ((hd k n).take (1 + k)) k, 0⟩ := by
      unfold FrMath.look
      rw [if_neg (by omega), if_neg (by omega), if_neg (by omega), if_neg (by omega), if_neg (by omega), if_neg (by omega), hl, l1]
      have e1 : 128 + k - 126 - (1 + k) = 1 := by omega
      have e2 : 128 + k - 126 = 2 + k := by omega
      have e3 : 128 + k - 128 = k := by omega
      rw [e1, e2, e3, FrMath.within_m _ _ _ (by omega)]
    rw [e, hl]
    exact ⟨rfl, by show 1 + k < 2 + k + _; omega⟩

end Go.Proofs.Ythaonpmmfennhaa

namespace Go.Proofs.Ythaonpmmfennhaa
open Go.RowKit
open FrMath (Hdr lb bd within Out ends cut Cut)

end Go.Proofs.Ythaonpmmfennhaa

namespace Go.Proofs.Ythaonpmmfennhaa
open Go.RowKit
open FrMath (Hdr lb bd within Out ends cut Cut)

/-- The bytes of a message. -/
def isMsg (m : List UInt8) : Prop := ∃ k n t, okHd k n ∧ t.length = n ∧ m = hd k n ++ t
theorem isMsg_look {m : List UInt8} (h : isMsg m) (L : Int) (hl : (m.length : Int) ≤ L) : FrMath.look L m = ⟨0, m.length, 0⟩ := by
  obtain ⟨k, n, t, hk, ht, rfl⟩ := h
  have hlen : (hd k n ++ t).length = 2 + k + n := by rw [List.length_append, hd_len, ht]
  rw [look_hd L k n t hk, hlen]
  unfold FrMath.within
  rw [if_neg (by omega)]
theorem isMsg_len {m : List UInt8} (h : isMsg m) : 2 ≤ m.length := by
  obtain ⟨k, n, t, hk, ht, rfl⟩ := h
  rw [List.length_append, hd_len]
  omega
theorem cut_joined (L : Int) (ws : List (List UInt8)) (h : ∀ m ∈ ws, isMsg m ∧ (m.length : Int) ≤ L) : Cut L ws.flatten = ⟨ws, ws.flatten.length, 0⟩ := by
  induction ws with
  | nil => rw [List.flatten_nil, Cut_nil]; rfl
  | cons m ws ih =>
    have hm := h m (List.mem_cons_self)
    rw [List.flatten_cons, cut_whole (isMsg_look hm.1 L hm.2), ih (fun x hx => h x (List.mem_cons_of_mem _ hx))]
    unfold FrMath.ahead
    simp
theorem front_ok {L : Int} {b c : List UInt8} (h : (Cut L (b ++ c)).er = 0) : (Cut L b).er = 0 := by
  by_cases he : (Cut L b).er = 0
  · exact he
  · rw [Cut_er_app L b c he] at h
    exact absurd h he
/-- One byte more. -/
theorem one_step {L : Int} {r : List UInt8} {x : UInt8} (hp : proper L r) : (Cut L (r ++ [x])).ms = [] ∨ ((Cut L (r ++ [x])).ms = [r ++ [x]] ∧ (FrMath.look L r).sz - r.length = 1) := by
  by_cases hE : ends L (r ++ [x])
  · rw [FrMath.Cut_end L _ hE]
    exact Or.inl rfl
  · right
    obtain ⟨h1, h2, h3, h4⟩ := FrMath.on_ok L _ hE
    have hm := FrMath.look_mono L r [x] hp.1 h1
    have hl : (r ++ [x]).length = r.length + 1 := by simp
    have hz : (FrMath.look L (r ++ [x])).sz = (r ++ [x]).length := by have := hp.2; omega
    rw [FrMath.Cut_on L _ hE, hz, List.take_length, List.drop_length, Cut_nil]
    exact ⟨rfl, by have := hp.2; omega⟩
theorem held_ok {L : Int} {r : List UInt8} (hp : proper L r) : ¬ (L ≤ (r.length : Int) ∧ 5 < r.length) := by
  have hk := FrMath.look_ok L r hp.1
  have := hp.2
  by_cases hm : (FrMath.look L r).mi = 0
  · have := (hk.2.2.2.2 hm).1
    omega
  · have := (hk.2.2.2.1 hm).2
    omega
theorem join_step {L : Int} {Y : List UInt8} {j : Nat} (hj : j < Y.length) (hok : (Cut L Y).er = 0) :
    (Cut L (Y.take j)).er = 0 ∧ (Cut L (Y.take j ++ [Y[j]])).er = 0 ∧ ∀ k, proper L ((Y.take j).drop (Cut L (Y.take j)).at_) → (Cut L (Y.take j)).ms ++ k = (Cut L (Y.take j ++ [Y[j]])).ms → (k.length = 0 ∨ (k.length = 1 ∧ (FrMath.look L ((Y.take j).drop (Cut L (Y.take j)).at_)).sz - ((Y.take j).drop (Cut L (Y.take j)).at_).length = 1)) := by
  have e1 : Y = Y.take j ++ Y.drop j := (List.take_append_drop j Y).symm
  have e2 : Y = (Y.take j ++ [Y[j]]) ++ Y.drop (j + 1) := by rw [← List.take_succ_eq_append_getElem hj, List.take_append_drop]
  have h1 : (Cut L (Y.take j)).er = 0 := front_ok (c := Y.drop j) (by rw [← e1]; exact hok)
  have h2 : (Cut L (Y.take j ++ [Y[j]])).er = 0 := front_ok (c := Y.drop (j + 1)) (by rw [← e2]; exact hok)
  refine ⟨h1, h2, fun k hp hk => ?_⟩
  rw [Cut_ok_app L (Y.take j) [Y[j]] h1] at hk
  have hk' : k = (Cut L ((Y.take j).drop (Cut L (Y.take j)).at_ ++ [Y[j]])).ms := List.append_cancel_left hk
  rcases one_step (x := Y[j]) hp with h | ⟨h, h'⟩
  · left; rw [hk', h]; rfl
  · right; rw [hk', h]; exact ⟨rfl, h'⟩
theorem extract_one (s : ByteArray) (j : Nat) (h : j < s.data.toList.length) : (s.extract j (j + 1)).data.toList = [s.data.toList[j]] := by
  rw [Lib.extract_data]
  rw [List.drop_eq_getElem_cons h, show j + 1 - j = 1 by omega]
  rfl
/-- Bodies that came in. -/
def IsBodies (w : World) (a : Option Addr) (l : Nat) (F : Nat → Int) (X : Nat → ByteArray) : Prop := ∀ i, i < l → ∃ b off, a = some ⟨b, off, none⟩ ∧ w.cell? ⟨b, off + i * 2, none⟩ = some (.int .i64 (F i)) ∧ w.cell? ⟨b, off + i * 2 + 1, none⟩ = some (.string (X i))
def tot (X : Nat → ByteArray) : Nat → Nat
  | 0 => 0
  | i + 1 => tot X i + ((X i).size + 3)
theorem tot_mono (X : Nat → ByteArray) (i j : Nat) (h : i ≤ j) : tot X i ≤ tot X j := by
  induction j with
  | zero => have : i = 0 := by omega
            subst this; exact Nat.le_refl _
  | succ j ih =>
    by_cases he : i = j + 1
    · subst he; exact Nat.le_refl _
    · have := ih (by omega)
      show tot X i ≤ tot X j + _
      omega
theorem tot_ge (X : Nat → ByteArray) (i : Nat) : 3 * i ≤ tot X i := by
  induction i with
  | zero => exact Nat.le_refl _
  | succ i ih =>
    show 3 * (i + 1) ≤ tot X i + _
    omega
end Go.Proofs.Ythaonpmmfennhaa

namespace Go.Proofs.Ythaonpmmfennhaa
open Go.RowKit
open FrMath (Hdr lb bd within Out ends cut Cut)

/-- A row of numbers that came in. -/
def IsInts (w : World) (a : Option Addr) (len : Nat) : Prop := ∀ i, i < len → ∃ b off v, a = some ⟨b, off, none⟩ ∧ w.cell? ⟨b, off + i, none⟩ = some (.int .i64 v) ∧ -9223372036854775808 ≤ v ∧ v ≤ 9223372036854775807
theorem IsInts.below {w w' : World} {a : Option Addr} {len B : Nat} (h : IsInts w a len) (hB : w.heap.size ≤ B) (hb : Below B w w') : IsInts w' a len := fun i hi => by
  obtain ⟨b, off, v, e, h1, h2⟩ := h i hi
  refine ⟨b, off, v, e, ?_, h2⟩
  have hlt : b < w.heap.size := World.block_lt_of_cell? w _ h1
  rw [hb.cell (by show b < B; omega)]
  exact h1

/-- Where the cut lies. -/
theorem cut_num (v : Int) (n : Nat) (h1 : -9223372036854775808 ≤ v) (h2 : v ≤ 9223372036854775807) (hn : n ≤ 67108864) :
    (v < 0 → wrap64 (v + 1) = v + 1 ∧ wrap64 (-(v + 1)) = -(v + 1) ∧ ∃ q : Nat, (-(v + 1)).tmod ((n : Int) + 1) = (q : Int) ∧ q ≤ n) ∧ (¬ v < 0 → ∃ q : Nat, v.tmod ((n : Int) + 1) = (q : Int) ∧ q ≤ n) := by
  have key : ∀ x : Int, 0 ≤ x → ∃ q : Nat, x.tmod ((n : Int) + 1) = (q : Int) ∧ q ≤ n := fun x hx => by
    rw [Int.tmod_eq_emod_of_nonneg hx]
    have l0 := Int.emod_nonneg x (b := (n : Int) + 1) (by omega)
    have l1 := Int.emod_lt_of_pos x (b := (n : Int) + 1) (by omega)
    exact ⟨(x % ((n : Int) + 1)).toNat, by omega, by omega⟩
  refine ⟨fun hv => ⟨by unfold wrap64; omega, by unfold wrap64; omega, key _ (by omega)⟩, fun hv => key _ (by omega)⟩

end Go.Proofs.Ythaonpmmfennhaa
