import Derived.Test.YtjafeaadjolefaaGreatMtFrmO
namespace Go.Proofs.YtjafeaadjolefaaGreat
open Go.RowKit
open TextMath (fold squeeze check lo bl sqA sqB)
set_option linter.unusedVariables false

/-- What match.Normal answers, wherever it is asked. -/
def NrmC (m k : Int) (v n : ByteArray) (b : Bool) : Prop := ∀ W : World, MaxL m W → Calls Tryz.prog 4 #[.int .i64 k, .string v] W fun e w' => e = .returned (.tuple #[.string n, .bool b]) ∧ Below W.heap.size W w'
/-- A normal form that is not empty is its own. -/
def Firm (m k : Int) (v : ByteArray) : Prop := ∃ n b, NrmC m k v n b ∧ (b = true → n.toList.isEmpty = false → NrmC m k n n true)
theorem firm_of (m k : Int) (T : TypeId) (x : Value) (fn : FuncId) (hS : ∀ W : World, Calls Tryz.prog 5 #[.int .i64 k] W fun e w' => e = .returned (.iface T x) ∧ w' = W) (hD : SynAt T x fn) (hE : WalkedAt fn)
    (N : ByteArray → ByteArray) (O : ByteArray → Bool) (hN : ∀ v : ByteArray, v.size ≤ 1048576 → ∀ W, MaxL m W → NormAt x fn v (N v) (O v) W) (v : ByteArray) (hv : v.size ≤ 1048576)
    (hf : O v = true → (N v).toList.isEmpty = false → (N v).size ≤ 1048576 ∧ N (N v) = N v ∧ O (N v) = true) : Firm m k v := by
  refine ⟨N v, O v, fun W hM => normalK_any k T x fn hS hD hE v (N v) (O v) W (hN v hv W hM), fun hb he W hM => ?_⟩
  obtain ⟨h1, h2, h3⟩ := hf hb he
  have := normalK_any k T x fn hS hD hE (N v) (N (N v)) (O (N v)) W (hN (N v) h1 W hM)
  rw [h2, h3] at this
  exact this
theorem ne_of_S {q : List UInt8} (h : (S q).toList.isEmpty = false) : q.isEmpty = false := by rw [Lib.toList_data, S_l] at h; exact h
theorem nrmL_true (q : List UInt8) : nrmL true q = S q := rfl
theorem firm1 (m : Int) (v : ByteArray) (hv : v.size ≤ 1048576) : Firm m 1 v := by
  refine firm_of m 1 _ _ _ synFo foAt foWalked (fun v => nrmL (exOk (fold v.data.toList)) (squeeze (fold v.data.toList))) (fun v => exOk (fold v.data.toList)) (fun v hv W _ => foN_any v (by omega) W) v hv ?_
  intro hb he
  rw [hb, nrmL_true] at he ⊢
  have hn := ne_of_S he
  obtain ⟨q, hq⟩ : ∃ q, squeeze (fold v.data.toList) = q := ⟨_, rfl⟩
  have hlen : q.length ≤ 1048576 := by
    rw [← hq]
    have := MtFrmM.squeeze_len (fold v.data.toList)
    rw [fold_len, size_l] at this
    omega
  have hfq : fold q = q := by rw [← hq]; exact TextMath.fold_normal v.data.toList
  have hsq : squeeze q = q := by rw [← hq]; exact MtFrmM.squeeze_squeeze _
  have hok : exOk q = true := by
    unfold exOk at hb ⊢
    rw [Bool.and_eq_true] at hb
    rw [hq] at hn
    rw [hn, ← hq, TextMath.squeeze_eq, (MtFrmM.chk_sq _ hb.2).2]
    rfl
  rw [hq]
  simp only [S_l, hfq, hsq, hok, nrmL_true, S_size]
  exact ⟨hlen, trivial, trivial⟩
theorem firm2 (m : Int) (v : ByteArray) (hv : v.size ≤ 1048576) : Firm m 2 v := by
  refine firm_of m 2 _ _ _ synEx exAt exWalked (fun v => nrmL (exOk v.data.toList) (squeeze v.data.toList)) (fun v => exOk v.data.toList) (fun v hv W _ => exN_any v (by omega) W) v hv ?_
  intro hb he
  rw [hb, nrmL_true] at he ⊢
  have hn := ne_of_S he
  obtain ⟨q, hq⟩ : ∃ q, squeeze v.data.toList = q := ⟨_, rfl⟩
  have hlen : q.length ≤ 1048576 := by
    rw [← hq]
    have := MtFrmM.squeeze_len v.data.toList
    rw [size_l] at this
    omega
  have hsq : squeeze q = q := by rw [← hq]; exact MtFrmM.squeeze_squeeze _
  have hok : exOk q = true := by
    unfold exOk at hb ⊢
    rw [Bool.and_eq_true] at hb
    rw [hq] at hn
    rw [hn, ← hq, TextMath.squeeze_eq, (MtFrmM.chk_sq _ hb.2).2]
    rfl
  rw [hq]
  simp only [S_l, hsq, hok, nrmL_true, S_size]
  exact ⟨hlen, trivial, trivial⟩
theorem asc_squeeze (l : List UInt8) (h : asc l = true) : asc (squeeze l) = true := by
  rw [TextMath.squeeze_eq]
  unfold asc at h ⊢
  rw [List.all_eq_true] at h ⊢
  intro c hc
  rcases MtFrmM.mem_of_sqA l c hc with h1 | rfl
  · exact h c h1
  · decide
theorem firm3 (m : Int) (v : ByteArray) (hv : v.size ≤ 1048576) : Firm m 3 v := by
  refine firm_of m 3 _ _ _ synFi fiAt fiWalked (fun v => nrmL (asc (fold v.data.toList)) (squeeze (fold v.data.toList))) (fun v => asc (fold v.data.toList)) (fun v hv W _ => fiN_any v (by omega) W) v hv ?_
  intro hb he
  rw [hb, nrmL_true] at he ⊢
  obtain ⟨q, hq⟩ : ∃ q, squeeze (fold v.data.toList) = q := ⟨_, rfl⟩
  have hlen : q.length ≤ 1048576 := by
    rw [← hq]
    have := MtFrmM.squeeze_len (fold v.data.toList)
    rw [fold_len, size_l] at this
    omega
  have hfq : fold q = q := by rw [← hq]; exact TextMath.fold_normal v.data.toList
  have hsq : squeeze q = q := by rw [← hq]; exact MtFrmM.squeeze_squeeze _
  have hok : asc q = true := by rw [← hq]; exact asc_squeeze _ hb
  rw [hq]
  simp only [S_l, hfq, hsq, hok, nrmL_true, S_size]
  exact ⟨hlen, trivial, trivial⟩
theorem firm4 (m : Int) (v : ByteArray) (hv : v.size ≤ 1048576) : Firm m 4 v := by
  refine firm_of m 4 _ _ _ synEi eiAt eiWalked (fun v => nrmL (asc v.data.toList) (squeeze v.data.toList)) (fun v => asc v.data.toList) (fun v hv W _ => eiN_any v (by omega) W) v hv ?_
  intro hb he
  rw [hb, nrmL_true] at he ⊢
  obtain ⟨q, hq⟩ : ∃ q, squeeze v.data.toList = q := ⟨_, rfl⟩
  have hlen : q.length ≤ 1048576 := by
    rw [← hq]
    have := MtFrmM.squeeze_len v.data.toList
    rw [size_l] at this
    omega
  have hsq : squeeze q = q := by rw [← hq]; exact MtFrmM.squeeze_squeeze _
  have hok : asc q = true := by rw [← hq]; exact asc_squeeze _ hb
  rw [hq]
  simp only [S_l, hsq, hok, nrmL_true, S_size]
  exact ⟨hlen, trivial, trivial⟩
theorem firm5 (m : Int) (v : ByteArray) (hv : v.size ≤ 1048576) : Firm m 5 v := by
  refine firm_of m 5 _ _ _ synNu nuAt nuWalked (fun v => nrmL (nuOk v.data.toList) (Lib.replaceAll v.data.toList [32] [])) (fun v => nuOk v.data.toList) (fun v hv W hM => by
    have := nuN_any m v.data.toList (by rw [size_l]; omega) W hM
    rw [l_S] at this
    exact this) v hv ?_
  intro hb he
  rw [hb, nrmL_true] at he ⊢
  have hn := ne_of_S he
  rw [MtFldM.rep_filter] at hn ⊢
  obtain ⟨q, hq⟩ : ∃ q, v.data.toList.filter (fun b => b != 32) = q := ⟨_, rfl⟩
  have hlen : q.length ≤ 1048576 := by
    rw [← hq]
    have := List.length_filter_le (fun b : UInt8 => b != 32) v.data.toList
    rw [size_l] at this
    omega
  have hfq : Lib.replaceAll q [32] [] = q := by rw [MtFldM.rep_filter, ← hq, List.filter_filter]; congr 1; funext c; simp
  have hok : nuOk q = true := by
    unfold nuOk nuIn at hb ⊢
    rw [Bool.and_eq_true, MtFrmM.trim_all, List.all_eq_true] at hb
    rw [hq] at hn
    rw [hn, Bool.not_false, Bool.true_and, MtFrmM.trim_all, List.all_eq_true]
    intro c hc
    rw [← hq] at hc
    exact hb.2 c (List.mem_filter.1 hc).1
  rw [hq]
  simp only [S_l, hfq, hok, nrmL_true, S_size]
  exact ⟨hlen, trivial, trivial⟩
theorem ph_lo (c : UInt8) : (prL.contains c = true → prL.contains (lo c) = true) ∧ (c ≠ 32 → lo c ≠ 32) ∧ (c ≠ 45 → lo c ≠ 45) :=
  MtFrmM.all_fin (Q := fun c => (prL.contains c = true → prL.contains (lo c) = true) ∧ (c ≠ 32 → lo c ≠ 32) ∧ (c ≠ 45 → lo c ≠ 45)) (by decide +kernel) c
theorem firm6 (m : Int) (v : ByteArray) (hv : v.size ≤ 1048576) : Firm m 6 v := by
  refine firm_of m 6 _ _ _ synPh phAt phWalked (fun v => nrmL (phOk v.data.toList) (phN v.data.toList)) (fun v => phOk v.data.toList) (fun v hv W hM => by
    have := phN_any m v.data.toList (by rw [size_l]; omega) W hM
    rw [l_S] at this
    exact this) v hv ?_
  intro hb he
  rw [hb, nrmL_true] at he ⊢
  have hn := ne_of_S he
  obtain ⟨q, hq⟩ : ∃ q, phN v.data.toList = q := ⟨_, rfl⟩
  have eq : q = fold ((v.data.toList.filter (fun b => b != 32)).filter (fun b => b != 45)) := by rw [← hq]; unfold phN; rw [MtFldM.rep_filter, MtFldM.rep_filter]
  have hmem : ∀ c ∈ q, prL.contains c = true ∧ c ≠ 32 ∧ c ≠ 45 := by
    intro c hc
    rw [eq] at hc
    obtain ⟨d, hd, rfl⟩ := List.mem_map.1 hc
    have h1 := List.mem_filter.1 hd
    have h2 := List.mem_filter.1 h1.1
    unfold phOk phIn at hb
    rw [Bool.and_eq_true, MtFrmM.trim_all, List.all_eq_true] at hb
    obtain ⟨p1, p2, p3⟩ := ph_lo d
    exact ⟨p1 (hb.2 d h2.1), p2 (by simpa using h2.2), p3 (by simpa using h1.2)⟩
  have hlen : q.length ≤ 1048576 := by
    rw [eq, fold_len]
    have h1 := List.length_filter_le (fun b : UInt8 => b != 32) v.data.toList
    have h2 := List.length_filter_le (fun b : UInt8 => b != 45) (v.data.toList.filter (fun b => b != 32))
    rw [size_l] at h1
    omega
  have hfq : phN q = q := by
    unfold phN
    have f1 : q.filter (fun b => b != 32) = q := List.filter_eq_self.2 (fun c hc => by simpa using (hmem c hc).2.1)
    have f2 : q.filter (fun b => b != 45) = q := List.filter_eq_self.2 (fun c hc => by simpa using (hmem c hc).2.2)
    rw [MtFldM.rep_filter, MtFldM.rep_filter, f1, f2, eq, TextMath.fold_fold]
  have hok : phOk q = true := by
    unfold phOk phIn
    rw [hq] at hn
    rw [hn, Bool.not_false, Bool.true_and, MtFrmM.trim_all, List.all_eq_true]
    exact fun c hc => (hmem c hc).1
  rw [hq]
  simp only [S_l, hfq, hok, nrmL_true, S_size]
  exact ⟨hlen, trivial, trivial⟩
theorem firm7 (m : Int) (v : ByteArray) (hv : v.size ≤ 1048576) : Firm m 7 v := by
  refine firm_of m 7 _ _ _ synInt intAt intWalked (fun v => nrm (intOk v.data.toList) v) (fun v => intOk v.data.toList) (fun v hv W _ => intN_any v W) v hv ?_
  intro hb he
  have e : nrm (intOk v.data.toList) v = v := by rw [show intOk v.data.toList = true from hb]; rfl
  rw [e]
  exact ⟨hv, e, hb⟩
theorem firm8 (m : Int) (v : ByteArray) (hv : v.size ≤ 1048576) : Firm m 8 v := by
  refine firm_of m 8 _ _ _ synBo boAt boWalked (fun v => nrm (boOk v) v) boOk (fun v hv W _ => boN_any v W) v hv ?_
  intro hb he
  have e : nrm (boOk v) v = v := by rw [hb]; rfl
  rw [e]
  exact ⟨hv, e, hb⟩
theorem firm9 (m : Int) (v : ByteArray) (hv : v.size ≤ 1048576) : Firm m 9 v :=
  firm_of m 9 _ _ _ synOct octAt octWalked (fun v => v) (fun _ => true) (fun v hv W _ => octNorm v W) v hv (fun _ _ => ⟨hv, rfl, rfl⟩)
theorem firm11 (m : Int) (v : ByteArray) (hv : v.size ≤ 1048576) : Firm m 11 v := by
  refine firm_of m 11 _ _ _ synOi oiAt oiWalked (fun v => nrmL (oiOk v) (fold v.data.toList)) oiOk (fun v hv W hM => oiN_any m v hv W hM) v hv ?_
  intro hb he
  rw [hb, nrmL_true]
  have hlen : (fold v.data.toList).length ≤ 1048576 := by rw [fold_len, size_l]; exact hv
  have hok : oiOk (S (fold v.data.toList)) = true := oiOk_fold v hb
  rw [hok, S_size, S_l, TextMath.fold_fold]
  exact ⟨hlen, rfl, rfl⟩
theorem firm_all (m : Int) (v : ByteArray) (hv : v.size ≤ 1048576) (k : Nat) (h1 : 1 ≤ k) (h2 : k ≤ 11) (h3 : k ≠ 10) : Firm m (k : Int) v := by
  have : k = 1 ∨ k = 2 ∨ k = 3 ∨ k = 4 ∨ k = 5 ∨ k = 6 ∨ k = 7 ∨ k = 8 ∨ k = 9 ∨ k = 11 := by omega
  rcases this with rfl | rfl | rfl | rfl | rfl | rfl | rfl | rfl | rfl | rfl
  · exact firm1 m v hv
  · exact firm2 m v hv
  · exact firm3 m v hv
  · exact firm4 m v hv
  · exact firm5 m v hv
  · exact firm6 m v hv
  · exact firm7 m v hv
  · exact firm8 m v hv
  · exact firm9 m v hv
  · exact firm11 m v hv
end Go.Proofs.YtjafeaadjolefaaGreat
