import Derived.Test.YtddkefjcpgdomabFrCutsM
import Derived.Test.YtddkefjcpgdomabFrWrap2
import Derived.Test.YtddkefjcpgdomabFrSame
import Derived.Test.YtddkefjcpgdomabFrm9
namespace Go.Proofs.Ytddkefjcpgdomab
open Go.RowKit
open FrMath (Hdr lb bd within Out ends cut Cut)

/-- The bytes of a message. -/
def isMsg (m : List UInt8) : Prop := ∃ k n t, okHd k n ∧ t.length = n ∧ m = hd k n ++ t
theorem isMsg_look {m : List UInt8} (h : isMsg m) (L : Int) (hl : (m.length : Int) ≤ L) : FrMath.look L m = ⟨0, m.length, 0⟩ := by
  obtain ⟨k, n, t, hk, ht, rfl⟩ := h
  have hlen : (hd k n ++ t).length = 2 + k + n := by rw [List.length_append, hd_len, ht]
  rw [look_hd L k n t hk, hlen]
  unfold FrMath.within
  rw [if_neg (by omega)]
theorem isMsg_len {m : List UInt8} (h : isMsg m) : 2 ≤ m.length := by
  obtain ⟨k, n, t, hk, ht, rfl⟩ := h
  rw [List.length_append, hd_len]
  omega
theorem cut_joined (L : Int) (ws : List (List UInt8)) (h : ∀ m ∈ ws, isMsg m ∧ (m.length : Int) ≤ L) : Cut L ws.flatten = ⟨ws, ws.flatten.length, 0⟩ := by
  induction ws with
  | nil => rw [List.flatten_nil, Cut_nil]; rfl
  | cons m ws ih =>
    have hm := h m (List.mem_cons_self)
    rw [List.flatten_cons, cut_whole (isMsg_look hm.1 L hm.2), ih (fun x hx => h x (List.mem_cons_of_mem _ hx))]
    unfold FrMath.ahead
    simp
theorem front_ok {L : Int} {b c : List UInt8} (h : (Cut L (b ++ c)).er = 0) : (Cut L b).er = 0 := by
  by_cases he : (Cut L b).er = 0
  · exact he
  · rw [Cut_er_app L b c he] at h
    exact absurd h he
/-- One byte more. -/
theorem one_step {L : Int} {r : List UInt8} {x : UInt8} (hp : proper L r) : (Cut L (r ++ [x])).ms = [] ∨ ((Cut L (r ++ [x])).ms = [r ++ [x]] ∧ (FrMath.look L r).sz - r.length = 1) := by
  by_cases hE : ends L (r ++ [x])
  · rw [FrMath.Cut_end L _ hE]
    exact Or.inl rfl
  · right
    obtain ⟨h1, h2, h3, h4⟩ := FrMath.on_ok L _ hE
    have hm := FrMath.look_mono L r [x] hp.1 h1
    have hl : (r ++ [x]).length = r.length + 1 := by simp
    have hz : (FrMath.look L (r ++ [x])).sz = (r ++ [x]).length := by have := hp.2; omega
    rw [FrMath.Cut_on L _ hE, hz, List.take_length, List.drop_length, Cut_nil]
    exact ⟨rfl, by have := hp.2; omega⟩
theorem held_ok {L : Int} {r : List UInt8} (hp : proper L r) : ¬ (L ≤ (r.length : Int) ∧ 5 < r.length) := by
  have hk := FrMath.look_ok L r hp.1
  have := hp.2
  by_cases hm : (FrMath.look L r).mi = 0
  · have := (hk.2.2.2.2 hm).1
    omega
  · have := (hk.2.2.2.1 hm).2
    omega
theorem join_step {L : Int} {Y : List UInt8} {j : Nat} (hj : j < Y.length) (hok : (Cut L Y).er = 0) :
    (Cut L (Y.take j)).er = 0 ∧ (Cut L (Y.take j ++ [Y[j]])).er = 0 ∧ ∀ k, proper L ((Y.take j).drop (Cut L (Y.take j)).at_) → (Cut L (Y.take j)).ms ++ k = (Cut L (Y.take j ++ [Y[j]])).ms → (k.length = 0 ∨ (k.length = 1 ∧ (FrMath.look L ((Y.take j).drop (Cut L (Y.take j)).at_)).sz - ((Y.take j).drop (Cut L (Y.take j)).at_).length = 1)) := by
  have e1 : Y = Y.take j ++ Y.drop j := (List.take_append_drop j Y).symm
  have e2 : Y = (Y.take j ++ [Y[j]]) ++ Y.drop (j + 1) := by rw [← List.take_succ_eq_append_getElem hj, List.take_append_drop]
  have h1 : (Cut L (Y.take j)).er = 0 := front_ok (c := Y.drop j) (by rw [← e1]; exact hok)
  have h2 : (Cut L (Y.take j ++ [Y[j]])).er = 0 := front_ok (c := Y.drop (j + 1)) (by rw [← e2]; exact hok)
  refine ⟨h1, h2, fun k hp hk => ?_⟩
  rw [Cut_ok_app L (Y.take j) [Y[j]] h1] at hk
  have hk' : k = (Cut L ((Y.take j).drop (Cut L (Y.take j)).at_ ++ [Y[j]])).ms := List.append_cancel_left hk
  rcases one_step (x := Y[j]) hp with h | ⟨h, h'⟩
  · left; rw [hk', h]; rfl
  · right; rw [hk', h]; exact ⟨rfl, h'⟩
theorem extract_one (s : ByteArray) (j : Nat) (h : j < s.data.toList.length) : (s.extract j (j + 1)).data.toList = [s.data.toList[j]] := by
  rw [Lib.extract_data]
  rw [List.drop_eq_getElem_cons h, show j + 1 - j = 1 by omega]
  rfl
/-- Bodies that came in. -/
def IsBodies (w : World) (a : Option Addr) (l : Nat) (F : Nat → Int) (X : Nat → ByteArray) : Prop := ∀ i, i < l → ∃ b off, a = some ⟨b, off, none⟩ ∧ w.cell? ⟨b, off + i * 2, none⟩ = some (.int .i64 (F i)) ∧ w.cell? ⟨b, off + i * 2 + 1, none⟩ = some (.string (X i))
def tot (X : Nat → ByteArray) : Nat → Nat
  | 0 => 0
  | i + 1 => tot X i + ((X i).size + 3)
theorem tot_mono (X : Nat → ByteArray) (i j : Nat) (h : i ≤ j) : tot X i ≤ tot X j := by
  induction j with
  | zero => have : i = 0 := by omega
            subst this; exact Nat.le_refl _
  | succ j ih =>
    by_cases he : i = j + 1
    · subst he; exact Nat.le_refl _
    · have := ih (by omega)
      show tot X i ≤ tot X j + _
      omega
theorem tot_ge (X : Nat → ByteArray) (i : Nat) : 3 * i ≤ tot X i := by
  induction i with
  | zero => exact Nat.le_refl _
  | succ i ih =>
    show 3 * (i + 1) ≤ tot X i + _
    omega
end Go.Proofs.Ytddkefjcpgdomab
