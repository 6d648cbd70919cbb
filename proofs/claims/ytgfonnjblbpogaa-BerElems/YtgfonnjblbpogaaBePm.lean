import Derived.Test.YtgfonnjblbpogaaBeE
import Derived.Test.YtgfonnjblbpogaaBwF
import Derived.Test.YtgfonnjblbpogaaBhSou2
namespace Go.Proofs.Ytgfonnjblbpogaa
open Go.RowKit Go.Shelf
open BerMath (Hd HR num hAt wAt El TR elEnd endE one andThen kids)
set_option linter.unusedVariables false

theorem elems_any (s : ByteArray) (w : World) : Calls Try.prog 9 #[.string s] w fun r w' => r = .returned (.func (.func 29) #[] #[.pointer (some ⟨w.heap.size, 0, none⟩)]) ∧ w' = w.alloc (.cells #[.string s] 9) := by
  have hmf : ∀ (fn : Fn) (first cap : Array Value) (w : World), (Instr.makeFunc fn first cap).run Try.prog w = .ok (.func fn first cap) w := fun _ _ _ _ => rfl
  go_enter Try.func9, Try.ntmps9
  go_wp2_with fail
  go_ret
  exact ⟨rfl, rfl⟩
theorem nilq_at (d : Nat) (v : Array Value) (W : World) : (Op.equalIn (d + 1) 25 (.func (.func 29) #[] v) .nilFunc).run Try.prog W = .ok false W := by
  simp [Op.equalIn, run_underlying Try.underlying25]
theorem nilq_eq (v : Array Value) (W : World) : (Op.equal 25 (.func (.func 29) #[] v) .nilFunc).run Try.prog W = .ok false W := nilq_at 9999 v W
theorem nil_seq (v : Array Value) (W : World) : (binOp .eql 25 (.func (.func 29) #[] v) .nilFunc).run Try.prog W = .ok (.bool false) W := by
  simp only [binOp]
  simp [nilq_eq v W]
theorem wp_one (m : Nat) (h : m ≤ 4294967296) : wrap64 ((m : Int) + 1) = ((m + 1 : Nat) : Int) := by unfold wrap64; omega
theorem wp_sum (a b : Nat) (h : a + b ≤ 4294967296) : wrap64 ((a : Int) + (b : Int)) = ((a + b : Nat) : Int) := by unfold wrap64; omega
theorem kv_set {W : World} {b : Nat} {v u : Value} (hb : Boxed W b 3 v) : KV W (W.setCell ⟨b, 0, none⟩ u) :=
  ⟨by rw [World.size_setCell]; exact Nat.le_refl _, fun k cs t ht hk => by
    refine (Below.heap_setCell _ _ _ _ (fun e => ?_)).trans hk
    have e' : k = b := e
    subst e'
    rw [show W.heap[k]? = _ from hb] at hk
    injection hk with hk
    injection hk with _ hk
    exact ht hk.symm⟩
/-- What the places of a list's bytes are. -/
structure Plc (n : Nat) (C T : Nat → Int) (M : Nat → Bool) (B : Nat → ByteArray) (E : Nat → El) (P : Nat → Nat) (X : ByteArray) : Prop where
  list : (tr X).1 = (List.range n).map E
  at_ : ∀ i, i < n → (E i).1 = P i
  cls : ∀ i, i < n → ((E i).2.1.cls : Int) = C i
  made : ∀ i, i < n → (E i).2.1.made = M i
  tag : ∀ i, i < n → ((E i).2.1.tag : Int) = T i
  len : ∀ i, i < n → M i = false → (E i).2.1.len = (B i).size
  two : ∀ i, i < n → 2 ≤ (E i).2.1.size
  next : ∀ i, i < n → P (i + 1) = P i + (E i).2.1.size + (if M i = true then 0 else (E i).2.1.len)
  first : P 0 = 0
  last : P n = X.size
  mono : ∀ i, i ≤ n → P i ≤ X.size
theorem plc_of {n : Nat} {D C T : Nat → Int} {M : Nat → Bool} {B : Nat → ByteArray} {σ : List Nat} {H : Nat → List UInt8} (hX : SpX n 0 D C T M B σ H) (hG : ∀ i, i < n → Good D C T M B i) (hn : 0 < n) :
    ∃ E P, Plc n C T M B E P (S (outB H B 0 n)) := by
  obtain ⟨L, k, hH, hLaid⟩ := laid_of hX hG
  have hL := hLaid []
  have hs : (S (outB H B 0 n)).data.toList = outB H B 0 n ++ [] := by rw [S_l, List.append_nil]
  have hsz : (S (outB H B 0 n)).size = (outB H B 0 n).length := S_size _
  have ht := Laid.tree (s := S (outB H B 0 n)) (by rw [hs]; exact hL) hn rfl ((hG 0 hn).2.2.2.2.2.2.2.1 rfl) (fun i h1 h2 => by
    obtain ⟨j, rfl⟩ : ∃ j, i = j + 1 := ⟨i - 1, by omega⟩
    exact ((hG (j + 1) h2).2.2.2.2.2.2.2.2 j rfl).1) (by show (outB H B 0 n).length ≤ _; omega)
  rw [if_neg (by show ¬ (outB H B 0 n).length < _; omega)] at ht
  have hlist : (tr (S (outB H B 0 n))).1 = (List.range n).map (elN D C T M L k (posB H B)) := by
    unfold treeR at ht
    cases h2 : (tr (S (outB H B 0 n))).2 with
    | some f => rw [h2] at ht; cases ht
    | none =>
      rw [h2] at ht
      dsimp only at ht
      split at ht
      · cases ht
      · injection ht
  refine ⟨elN D C T M L k (posB H B), posB H B, hlist, fun i hi => rfl, fun i hi => ?_, fun i hi => rfl, fun i hi => ?_, fun i hi hM => hL.blen i hi hM, fun i hi => Nat.le_add_right _ _, fun i hi => ?_, rfl, ?_, fun i hi => ?_⟩
  · obtain ⟨g1, g2, g3, g4, _⟩ := hG i hi
    show ((C i).toNat : Int) = C i
    omega
  · obtain ⟨g1, g2, g3, g4, _⟩ := hG i hi
    show ((T i).toNat : Int) = T i
    omega
  · have hp := hL.pos i hi
    show posB H B (i + 1) = posB H B i + (2 + k i) + (if M i = true then 0 else L i)
    rw [hp]
    cases hM : M i with
    | true => rw [if_pos rfl, (hL.mlen i hi hM).2]
    | false => rw [if_neg (by decide), hL.blen i hi hM]
  · show (outB H B 0 n).length = _
    omega
  · have := hL.mono n i hi (Nat.le_refl _)
    have e : posB H B n = (outB H B 0 n).length := rfl
    omega
end Go.Proofs.Ytgfonnjblbpogaa
