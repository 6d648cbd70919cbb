import Derived.Test.YteiikipldejeeaaDoorAsT
namespace Go.Proofs.YteiikipldejeeaaDoor
open Go.RowKit
open TextMath (fold lo)
set_option linter.unusedVariables false

theorem numS_any (n : Int) (w : World) : Calls Tryd.prog 7 #[.int .i64 n] w fun e w' => e = .returned (.int .i64 n) ∧ w' = w := by
  go_enter Tryd.func7, Tryd.ntmps7
  go_wp2_with fail
  go_ret
  exact ⟨rfl, rfl⟩
def totM (X : Nat → ByteArray) : Nat → Nat
  | 0 => 0
  | n + 1 => totM X n + ((X n).size + 1)
theorem totM_le (X : Nat → ByteArray) : ∀ (n k : Nat), k ≤ n → totM X k ≤ totM X n
  | 0, k, h => by have : k = 0 := by omega
                  subst this; exact Nat.le_refl _
  | n + 1, k, h => by
    rcases Nat.lt_or_ge k (n + 1) with h1 | h1
    · have := totM_le X n k (by omega)
      show totM X k ≤ totM X n + _
      omega
    · have : k = n + 1 := by omega
      subst this; exact Nat.le_refl _
def KnT3 (w : World) : Prop := ∀ k c, k < 10 → c < 3 → w.cell? ⟨0, k * 3 + c, none⟩ = some (.string (S (kn k c)))
theorem KnT3.below {w w' : World} (h : KnT3 w) (hb : Below w.heap.size w w') : KnT3 w' := fun i c hi hc => by
  rw [hb.cell (World.block_lt_of_cell? w _ (h i c hi hc))]; exact h i c hi hc
theorem semis_two (u : Nat → Bool) (os : List (List UInt8)) : (semis (two u os)).length = 2 * (semis os).length := by
  induction os with
  | nil => rfl
  | cons o os ih =>
    have e : two u (o :: os) = o :: trn u o :: two u os := rfl
    rw [e, semis_cons, semis_cons, semis_cons]
    simp only [List.length_cons, List.length_append, ih, trn_len]
    omega
theorem semis_rev (os : List (List UInt8)) : (semis os.reverse).length = (semis os).length := by
  induction os with
  | nil => rfl
  | cons o os ih =>
    rw [List.reverse_cons, semis_snoc, semis_cons]
    simp only [List.length_cons, List.length_append, ih]
    omega
/-- What the first loop has made: the options there and back. -/
def MidO (u : Nat → Bool) (m : Nat) (T B : ByteArray) (os : List (List UInt8)) : Prop := T.data.toList = semis (two u os) ∧ B.data.toList = semis os.reverse ∧ (semis os).length ≤ m ∧ ∀ o ∈ os, fold o ≠ [] ∧ ∀ b ∈ fold o, isK b = true
theorem MidO.sizes {u : Nat → Bool} {m : Nat} {T B : ByteArray} {os : List (List UInt8)} (h : MidO u m T B os) : T.size ≤ 2 * m ∧ B.size ≤ m := by
  obtain ⟨h1, h2, h3, _⟩ := h
  rw [← size_l, ← size_l, h1, h2, semis_two, semis_rev]
  omega
theorem MidO.step {u : Nat → Bool} {m : Nat} {T B : ByteArray} {os : List (List UInt8)} (h : MidO u m T B os) (y : List UInt8) (m' : Nat) (hm : m + y.length + 1 ≤ m') (hy : fold y ≠ [] ∧ ∀ b ∈ fold y, isK b = true) : MidO u m' ((((T ++ ⟨#[59]⟩) ++ S y) ++ ⟨#[59]⟩) ++ S (trn u y)) ((⟨#[59]⟩ ++ S y) ++ B) (os ++ [y]) := by
  obtain ⟨h1, h2, h3, h4⟩ := h
  refine ⟨?_, ?_, ?_, ?_⟩
  · rw [two_snoc]
    simp only [app_l, h1, S_l]
    simp
  · rw [back_snoc]
    simp only [app_l, h2, S_l]
    simp
  · rw [semis_snoc]
    simp only [List.length_append, List.length_cons]
    omega
  · intro o ho
    rcases List.mem_append.1 ho with ho | ho
    · exact h4 o ho
    · rw [List.mem_singleton.1 ho]; exact hy

/-- What Canonical makes of the spelling there. -/
def Can0 (u : Nat → Bool) (K : Nat) (os : List (List UInt8)) (F : ByteArray) : Prop := ∃ x, F = S x ∧ CanIs (S (fold (kn K 0 ++ semis (two u os)))) x
theorem can0_pre {u : Nat → Bool} {K : Nat} {os : List (List UInt8)} {F : ByteArray} (hK : K < 10) (hz : ∀ o ∈ os, fold o ≠ [] ∧ ∀ b ∈ fold o, isK b = true) (h : Can0 u K os F) : (S (kn K 0)).size ≤ F.size ∧ F.extract 0 (S (kn K 0)).size = S (kn K 0) := by
  obtain ⟨x, rfl, hx⟩ := h
  obtain ⟨r, rfl⟩ := sp_pre (sp_there u K hK os hz) hx
  constructor
  · rw [S_size, S_size, List.length_append]; omega
  · refine (S_eq _ _ ?_)
    rw [take_l, S_l, S_size, List.take_left']
    rfl
theorem l_there {u : Nat → Bool} {m : Nat} {T B : ByteArray} {os : List (List UInt8)} (h : MidO u m T B os) (K : Nat) : (S (kn K 0) ++ T).data.toList = kn K 0 ++ semis (two u os) := by rw [app_l, S_l, h.1]
theorem l_back {u : Nat → Bool} {m : Nat} {T B : ByteArray} {os : List (List UInt8)} (h : MidO u m T B os) (K j : Nat) : (S (trn u (kn K j)) ++ B).data.toList = trn u (kn K j) ++ semis os.reverse := by rw [app_l, S_l, h.2.1]
theorem z_there {u : Nat → Bool} {m : Nat} {T B : ByteArray} {os : List (List UInt8)} (h : MidO u m T B os) (hm : m ≤ 1048600) (K : Nat) (hK : K < 10) : (S (kn K 0) ++ T).size ≤ 2097300 ∧ T.size ≤ 2097200 ∧ (S (kn K 0)).size ≤ 26 := by
  have h1 := h.sizes
  have h2 := kn_len ⟨K, hK⟩ ⟨0, by omega⟩
  have h2' : (kn K 0).length ≤ 26 := h2
  rw [ByteArray.size_append, S_size]
  refine ⟨by omega, by omega, h2'⟩
theorem z_back {u : Nat → Bool} {m : Nat} {T B : ByteArray} {os : List (List UInt8)} (h : MidO u m T B os) (hm : m ≤ 1048600) (K j : Nat) (hK : K < 10) (hj : j < 3) : (S (trn u (kn K j)) ++ B).size ≤ 2097300 ∧ B.size ≤ 1048600 ∧ (S (trn u (kn K j))).size ≤ 26 ∧ (kn K j).length ≤ 26 := by
  have h1 := h.sizes
  have h2 := kn_len ⟨K, hK⟩ ⟨j, hj⟩
  have h2' : (kn K j).length ≤ 26 := h2
  rw [ByteArray.size_append, S_size, trn_len]
  refine ⟨by omega, by omega, h2', h2'⟩
theorem can0_any {u : Nat → Bool} {m : Nat} {T B : ByteArray} {os : List (List UInt8)} (h : MidO u m T B os) (hm : m ≤ 1048600) (K : Nat) (hK : K < 10) (W : World) :
    Calls Tryd.prog 6 #[.string (S (kn K 0) ++ T)] W fun e w' => (∃ F, e = .returned (.tuple #[.string F, .int .i64 0, .int .i64 ((S (kn K 0) ++ T).size : Int)]) ∧ Can0 u K os F) ∧ Below W.heap.size W w' := by
  have hSp := sp_there u K hK os h.2.2.2
  rw [← l_there h K] at hSp
  refine (can_spelt _ _ rfl K hK _ hSp W (by have := (z_there h hm K hK).1; omega)).mono ?_
  rintro e w' ⟨⟨x, rfl, hx⟩, hb⟩
  rw [l_there h K] at hx
  exact ⟨⟨S x, rfl, x, rfl, hx⟩, hb⟩
theorem canj_any {u : Nat → Bool} {m : Nat} {T B : ByteArray} {os : List (List UInt8)} (h : MidO u m T B os) (hm : m ≤ 1048600) (K j : Nat) (hK : K < 10) (hj : j < 3) (F : ByteArray) (hF : Can0 u K os F) (W : World) :
    Calls Tryd.prog 6 #[.string (S (trn u (kn K j)) ++ B)] W fun e w' => e = .returned (.tuple #[.string F, .int .i64 0, .int .i64 ((S (trn u (kn K j)) ++ B).size : Int)]) ∧ Below W.heap.size W w' := by
  have hSp0 := sp_there u K hK os h.2.2.2
  have hSp := sp_back u K j hK hj os h.2.2.2
  have hSp' := hSp
  rw [← l_back h K j] at hSp
  obtain ⟨x0, rfl, hx0⟩ := hF
  refine (can_spelt _ _ rfl K hK _ hSp W (by have := (z_back h hm K j hK hj).1; omega)).mono ?_
  rintro e w' ⟨⟨x, rfl, hx⟩, hb⟩
  rw [l_back h K j] at hx
  refine ⟨?_, hb⟩
  rw [sp_can hSp0 hSp' (both_mem u os) hx0 hx]
theorem covA_any {u : Nat → Bool} {m : Nat} {T B : ByteArray} {os : List (List UInt8)} (h : MidO u m T B os) (hm : m ≤ 1048600) (K j : Nat) (hK : K < 10) (hj : j < 3) (W : World) (hS : SupTab W) :
    Calls Tryd.prog 9 #[.string (S (kn K 0) ++ T), .string (S (trn u (kn K j)) ++ B)] W fun e w' => e = .returned (.bool true) ∧ Below W.heap.size W w' := by
  have hSp0 := sp_there u K hK os h.2.2.2
  have hSp := sp_back u K j hK hj os h.2.2.2
  rw [← l_there h K] at hSp0
  rw [← l_back h K j] at hSp
  have hc := covers_any _ _ _ _ rfl rfl W (by have := (z_there h hm K hK).1; omega : (S (kn K 0) ++ T).size ≤ 4194304) (by have := (z_back h hm K j hK hj).1; omega : (S (trn u (kn K j)) ++ B).size ≤ 4194304) hS
  rw [sp_cov hK hSp0 hSp (fun z hz => (both_mem u os z).1 hz)] at hc
  exact hc
theorem covB_any {u : Nat → Bool} {m : Nat} {T B : ByteArray} {os : List (List UInt8)} (h : MidO u m T B os) (hm : m ≤ 1048600) (K j : Nat) (hK : K < 10) (hj : j < 3) (W : World) (hS : SupTab W) :
    Calls Tryd.prog 9 #[.string (S (trn u (kn K j)) ++ B), .string (S (kn K 0) ++ T)] W fun e w' => e = .returned (.bool true) ∧ Below W.heap.size W w' := by
  have hSp0 := sp_there u K hK os h.2.2.2
  have hSp := sp_back u K j hK hj os h.2.2.2
  rw [← l_there h K] at hSp0
  rw [← l_back h K j] at hSp
  have hc := covers_any _ _ _ _ rfl rfl W (by have := (z_back h hm K j hK hj).1; omega : (S (trn u (kn K j)) ++ B).size ≤ 4194304) (by have := (z_there h hm K hK).1; omega : (S (kn K 0) ++ T).size ≤ 4194304) hS
  rw [sp_cov hK hSp hSp0 (fun z hz => (both_mem u os z).2 hz)] at hc
  exact hc
theorem synj_any {u : Nat → Bool} {m : Nat} {T B : ByteArray} {os : List (List UInt8)} (h : MidO u m T B os) (hm : m ≤ 1048600) (K j : Nat) (hK : K < 10) (hj : j < 3) (W : World) (hY : SynTab W) :
    Calls Tryd.prog 10 #[.string (S (trn u (kn K j)) ++ B)] W fun e w' => e = .returned (.int .i64 (SYN.getD (kr K) 0)) ∧ Below W.heap.size W w' := by
  have hSp := sp_back u K j hK hj os h.2.2.2
  rw [← l_back h K j] at hSp
  have hc := syntaxD_any _ _ rfl W (by have := (z_back h hm K j hK hj).1; omega : (S (trn u (kn K j)) ++ B).size ≤ 4194304) hY
  rw [sp_syn hSp] at hc
  exact hc
theorem finds_any (K : Nat) (hK : K < 10) : ∃ (sp al : ByteArray) (ug : Int), ∀ (s : List UInt8) (j : Nat) (W : World), j < 3 → fold s = fold (kn K j) → NumT3 W →
    Calls Tryd.prog 8 #[.string (S s)] W fun e w' => (∃ a1 a2 a3, e = .returned (.tuple #[.agg #[.string (S (kn K 0)), .slice a1 a2 a3, .string (S (kn K 2)), .string sp, .int .i64 (SYN.getD (kr K) 0), .int .i64 ug], .bool true]) ∧ AlIs w' al (.slice a1 a2 a3)) ∧ Below W.heap.size W w' := by
  refine ⟨supN ⟨kr K, kr_lt ⟨K, hK⟩⟩, (rowL ⟨kr K, kr_lt ⟨K, hK⟩⟩).2.1, USG.getD (kr K) 0, ?_⟩
  intro s j W hj hs hN
  have hl : s.length = (kn K j).length := by have := congrArg List.length hs; rw [fold_len, fold_len] at this; exact this
  have h2 : (kn K j).length ≤ 26 := kn_len ⟨K, hK⟩ ⟨j, hj⟩
  have hr := sp_row K j hK hj
  rw [← hs] at hr
  have h := find_row (S s) ⟨kr K, kr_lt ⟨K, hK⟩⟩ (by rw [S_l]; exact hr) W (by rw [S_size]; omega) hN
  have hn := kn_nm ⟨K, hK⟩
  rw [hn.2.1, hn.2.2] at h
  exact h
end Go.Proofs.YteiikipldejeeaaDoor
