import Derived.Test.YteiikipldejeeaaDoorAtOrdS
import Derived.Test.YteiikipldejeeaaDoorAtPrnt
namespace Go.Proofs.YteiikipldejeeaaDoor
open Go.RowKit
open TextMath (fold lo)
set_option linter.unusedVariables false

theorem semis_erase (x : List UInt8) : ∀ O : List (List UInt8), x ∈ O → (semis O).length = x.length + 1 + (semis (O.erase x)).length
  | [], h => by simp at h
  | y :: O, h => by
    by_cases e : y = x
    · subst e
      rw [List.erase_cons_head, semis_cons]
      simp
      omega
    · have hx : x ∈ O := by
        rcases List.mem_cons.1 h with q | q
        · exact absurd q.symm e
        · exact q
      rw [List.erase_cons_tail (by simpa using e), semis_cons, semis_cons]
      have := semis_erase x O hx
      simp
      omega
theorem semis_sub : ∀ (K O : List (List UInt8)), K.Nodup → (∀ x ∈ K, x ∈ O) → (semis K).length ≤ (semis O).length
  | [], O, _, _ => by simp [semis]
  | x :: K, O, hn, hs => by
    have hx := hs x (by simp)
    rw [semis_erase x O hx, semis_cons]
    rw [List.nodup_cons] at hn
    have := semis_sub K (O.erase x) hn.2 (fun y hy => (List.mem_erase_of_ne (fun e => hn.1 (by rw [← e]; exact hy))).2 (hs y (by simp [hy])))
    simp
    omega
theorem dscE_sum (s : ByteArray) : ∀ n e acc, (semis acc).length ≤ e → e ≤ s.size → (semis (dscE s n e acc).1).length ≤ s.size
  | 0, e, acc, h, he => by simp [dscE, semis]
  | n + 1, e, acc, h, he => by
    unfold dscE
    split
    · rename_i hlt
      split
      · split
        · simp [semis]
        · have h1 := runE_le isK s.data.toList (e + 1) (by rw [size_l]; omega)
          rw [size_l] at h1
          refine dscE_sum s n _ _ ?_ h1.2
          rw [semis_snoc, List.length_append, List.length_cons, size_l, ByteArray.size_extract]
          omega
      · simp [semis]
    · show (semis acc).length ≤ _
      omega
theorem desc_sum (f : ByteArray) : (semis (desc f).1).length ≤ f.size := by
  unfold desc
  split
  · have h := typE_le f.data.toList
    rw [size_l] at h
    exact dscE_sum f _ _ [] (by simp [semis]) h
  · simp [semis]
theorem can_size (f : ByteArray) : (canN (typD f)).size ≤ f.size + 64 := by
  cases hr : rowOf (typD f) with
  | none =>
    rw [(lin_none _ hr).2]
    unfold typD
    rw [ByteArray.size_extract]
    omega
  | some i =>
    rw [← size_l, (lin_row _ i hr).2]
    have := nm_size i
    omega
theorem prt_semis (t : List UInt8) (X : Nat → ByteArray) (l : List (List UInt8)) (h : ∀ i (hi : i < l.length), (X i).data.toList = l[i]) : ∀ k, k ≤ l.length → prt t X k = t ++ semis (l.take k) ∧ tot X k = (semis (l.take k)).length
  | 0, _ => by simp [prt, semis]; rfl
  | k + 1, hk => by
    obtain ⟨h1, h2⟩ := prt_semis t X l h k (by omega)
    have hx := h k (by omega)
    have hz : (X k).size = l[k].length := by rw [← size_l, hx]
    rw [List.take_succ_eq_append_getElem (by omega : k < l.length), semis_snoc]
    constructor
    · show prt t X k ++ [59] ++ (X k).data.toList = _
      rw [h1, hx]
      simp
    · show tot X k + ((X k).size + 1) = _
      rw [h2, hz]
      simp
/-- What Canonical answers of a folded text. -/
def CnlIs (f : ByteArray) (e : Ending) : Prop :=
  ((desc f).2.2 = true ∧ ∃ x, CanIs f x ∧ e = .returned (.tuple #[.string (S x), .int .i64 0, .int .i64 ((desc f).2.1 : Int)])) ∨
  ((desc f).2.2 = false ∧ e = .returned (.tuple #[.string (S []), .int .i64 40, .int .i64 ((desc f).2.1 : Int)]))
set_option maxRecDepth 100000 in
set_option maxHeartbeats 1000000 in
theorem canonicalT_any (s f : ByteArray) (hf : S (fold s.data.toList) = f) (w : World) (hs : s.size ≤ 4194304) (hcs : (canN (typD f)).size + f.size ≤ 4194304) :
    Calls Tryd.prog 6 #[.string s] w fun e w' => CnlIs f e ∧ Below w.heap.size w w' := by
  have hP := parse_any s f hf w (by omega)
  have hfs : Hid ((canN (typD f)).size + f.size ≤ 4194304) := hcs
  go_enter Tryd.func6, Tryd.ntmps6
  go_wp2_with fail
  refine hP.mono ?_
  rintro e W1 ⟨hI, hb1⟩
  have o1 : Hid (Below w.heap.size w W1) := hb1
  clear hP hb1 hf hs hcs
  rcases hI with ⟨ok, v, L, rfl, hO, hn, hm⟩ | ⟨ok, rfl⟩
  · obtain ⟨va, vc, rfl, hrow⟩ := ownS_trow hO
    have hprt := prt_semis (canN (typD f)).data.toList (fun i => S ((srt L).getD i [])) (srt L) (fun i hi => by rw [S_l, List.getD, List.getElem?_eq_getElem hi, Option.getD_some]) (srt L).length (Nat.le_refl _)
    rw [List.take_length] at hprt
    have hX : Strs W1 va (srt L).length (fun i => S ((srt L).getD i [])) := fun i hi => by
      obtain ⟨g, e, hc⟩ := hrow i hi
      refine ⟨g, 0, e, ?_⟩
      show W1.cell? _ = some (Value.string (S ((srt L).getD i [])))
      rw [Nat.zero_add, hc, List.getD, List.getElem?_eq_getElem hi, Option.getD_some]
    have hsub : (semis (srt L)).length ≤ f.size := Nat.le_trans (semis_sub _ _ ((List.Nodup.perm hn) (srt_perm L).symm) (fun x hx => (hm x).1 ((srt_mem L x).1 hx))) (desc_sum f)
    obtain ⟨W2, hW2⟩ : ∃ W2, W1.alloc (.cells #[.string (canN (typD f)), .slice va (srt L).length vc] 44) = W2 := ⟨_, rfl⟩
    have hB2 : Below W1.heap.size W1 W2 := by rw [← hW2]; exact (Below.refl _ _).alloc (Nat.le_refl _) _
    have hPr := attrPrint_any (canN (typD f)) va (srt L).length vc _ W2 (hX.below hB2) (by rw [hprt.2]; have := hfs.out; omega)
    rw [hprt.1] at hPr
    have hcan : Hid (CanIs f ((canN (typD f)).data.toList ++ semis (srt L))) := ⟨L, hn, hm, rfl⟩
    have o2 : Hid (Below w.heap.size w W2) := o1.out.trans (hB2.mono o1.out.size)
    have ok' : Hid ((desc f).2.2 = true) := ok
    obtain ⟨r0, f0⟩ := row_cell (show W2.heap[W1.heap.size]? = some (.cells #[.string (canN (typD f)), .slice va (srt L).length vc] 44 (0, 0)) by rw [← hW2]; exact heap_alloc_last W1 _) (j := 0) (by simp)
    obtain ⟨r1, f1⟩ := row_cell (show W2.heap[W1.heap.size]? = some (.cells #[.string (canN (typD f)), .slice va (srt L).length vc] 44 (0, 0)) by rw [← hW2]; exact heap_alloc_last W1 _) (j := 1) (by simp)
    simp only [List.getElem_toArray, List.getElem_cons_zero, List.getElem_cons_succ] at r0 r1
    generalize (canN (typD f)).data.toList ++ semis (srt L) = x at *
    clear hprt hX hsub hO hn hm hrow hB2 ok
    go_wp2_with fail
    refine hPr.mono ?_
    rintro e W3 ⟨rfl, hb3⟩
    have o3 : Hid (Below w.heap.size w W3) := o2.out.trans (hb3.mono o2.out.size)
    clear hPr hb3 o2 hW2
    go_wp2_with fail
    go_ret3
    exact ⟨Or.inl ⟨ok'.out, x, hcan.out, rfl⟩, o3.out⟩
  · have hB2 : Below W1.heap.size W1 (W1.alloc (.cells #[.string ⟨#[]⟩, .slice none 0 0] 44)) := (Below.refl _ _).alloc (Nat.le_refl _) _
    have hPr := attrPrint_any ⟨#[]⟩ none 0 0 (fun _ => ⟨#[]⟩) (W1.alloc (.cells #[.string ⟨#[]⟩, .slice none 0 0] 44)) (fun i hi => by omega) (by show 0 + 0 ≤ _; omega)
    have o2 : Hid (Below w.heap.size w (W1.alloc (.cells #[.string ⟨#[]⟩, .slice none 0 0] 44))) := o1.out.trans (hB2.mono o1.out.size)
    have ok' : Hid ((desc f).2.2 = false) := ok
    obtain ⟨r0, f0⟩ := row_cell (heap_alloc_last W1 (.cells #[.string ⟨#[]⟩, .slice none 0 0] 44)) (j := 0) (by simp)
    obtain ⟨r1, f1⟩ := row_cell (heap_alloc_last W1 (.cells #[.string ⟨#[]⟩, .slice none 0 0] 44)) (j := 1) (by simp)
    simp only [List.getElem_toArray, List.getElem_cons_zero, List.getElem_cons_succ] at r0 r1
    clear hB2 ok
    go_wp2_with fail
    refine hPr.mono ?_
    rintro e W3 ⟨rfl, hb3⟩
    have o3 : Hid (Below w.heap.size w W3) := o2.out.trans (hb3.mono o2.out.size)
    clear hPr hb3 o2
    go_wp2_with fail
    go_ret3
    exact ⟨Or.inr ⟨ok'.out, rfl⟩, o3.out⟩
end Go.Proofs.YteiikipldejeeaaDoor
