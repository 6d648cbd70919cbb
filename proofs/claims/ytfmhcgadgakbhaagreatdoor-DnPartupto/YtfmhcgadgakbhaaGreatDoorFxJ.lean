import Derived.Test.YtfmhcgadgakbhaaGreatDoorFxB
import Derived.Test.YtfmhcgadgakbhaaGreatDoorBytes
import Derived.Test.YtfmhcgadgakbhaaGreatDoorFxA
import Derived.Test.YtfmhcgadgakbhaaGreatDoorAtNames
namespace Go.Proofs.YtfmhcgadgakbhaaGreatDoor
open Go.RowKit
open TextMath (fold lo)

set_option maxHeartbeats 1000000 in
theorem rFold_any (s : ByteArray) (w : World) (hm : s.size ≤ 140737488355328) :
    Calls Tryz.prog 34 #[.string s] w fun e w' => e = .returned (.string (S (fold s.data.toList))) ∧ Below w.heap.size w w' := by
  have hL : Hid (s.data.toList.length = s.size) := size_l s
  obtain ⟨i0, hi, hz0, hz1, hz2⟩ := info_parts info_u8
  go_enter Tryz.func34, Tryz.ntmps34
  go_wp2
  go_loopw [3, 4] (fun out i wr => ∃ k : Nat, k ≤ s.size ∧ i = .int .i64 k ∧ Below w.heap.size w wr ∧ wr.ownsRow w.heap.size 5 1 out k (bv (fold (s.data.toList.take k)))) (fun _ i _ => s.size - (intOf i).toNat)
  case atStart => exact ⟨0, Nat.zero_le _, rfl, Below.refl _ _, World.ownsRow_nil _ _ _ _⟩
  case round =>
    obtain ⟨k, hk, rfl, hb, hown⟩ := hrel
    have hgs' := hb.size
    by_cases hlt : k < s.size
    · have hkl : k < s.data.toList.length := by rw [hL.out]; exact hlt
      have hsn : Hid (bv (fold (s.data.toList.take (k + 1))) = bv (fold (s.data.toList.take k)) ++ [.int .u8 ((lo s[k]).toNat : Int)]) := by unfold Hid; rw [fold_snoc _ _ hkl, bv_app]; rfl
      have hc256 : s[k].toNat < 256 := s[k].toNat_lt
      by_cases h1 : (65 : Int) ≤ s[k].toNat ∧ (s[k].toNat : Int) ≤ 90
      · have hlo : Hid (((lo s[k]).toNat : Int) = s[k].toNat + 32) := lo_big _ h1.1 h1.2
        obtain ⟨h1, h2⟩ := h1
        go_wp2_with (at_builtin; refine wpList_append_own _ rfl _ _ 60 rfl w.heap.size 5 i0 (.int .u8 0) 1 1 Tryz.underlying60 hi hz0 hz1 hz2 rfl (by decide) _ _ _ rfl (hown.alloc _) ⟨wr.heap.size, 0, none⟩ 1 1 [.int .u8 ((s[k].toNat : Int) + 32)] rfl rfl ?_ ?_ ?_ ?_ ?_ ?_; exact cell_one_new _ _ _; (intro u hu; simp at hu; subst hu; rfl); (unfold maxLen; omega); omega; (simp; omega); intro v1 w1 hown1 hgrow1 _)
        go_roundw
        case rel =>
          refine ⟨k + 1, by omega, by go_num, ?_, ?_⟩
          · exact (hb.alloc hgs' _).grown hgrow1 (by simp; omega) (fun j h => (hown.lt j h).1)
          · rw [hsn.out, hlo.out]; exact hown1
        case measure => simp [intOf]; omega
      · have hlo : Hid (lo s[k] = s[k]) := lo_small _ h1
        by_cases h2 : (65 : Int) ≤ s[k].toNat
        · have h3 : ¬ (s[k].toNat : Int) ≤ 90 := fun h => h1 ⟨h2, h⟩
          clear h1
          go_wp2_with (at_builtin; refine wpList_append_own _ rfl _ _ 60 rfl w.heap.size 5 i0 (.int .u8 0) 1 1 Tryz.underlying60 hi hz0 hz1 hz2 rfl (by decide) _ _ _ rfl (hown.alloc _) ⟨wr.heap.size, 0, none⟩ 1 1 [.int .u8 (s[k].toNat : Int)] rfl rfl ?_ ?_ ?_ ?_ ?_ ?_; exact cell_one_new _ _ _; (intro u hu; simp at hu; subst hu; rfl); (unfold maxLen; omega); omega; (simp; omega); intro v1 w1 hown1 hgrow1 _)
          go_roundw
          case rel =>
            refine ⟨k + 1, by omega, by go_num, ?_, ?_⟩
            · exact (hb.alloc hgs' _).grown hgrow1 (by simp; omega) (fun j h => (hown.lt j h).1)
            · rw [hsn.out, hlo.out]; exact hown1
          case measure => simp [intOf]; omega
        · clear h1
          go_wp2_with (at_builtin; refine wpList_append_own _ rfl _ _ 60 rfl w.heap.size 5 i0 (.int .u8 0) 1 1 Tryz.underlying60 hi hz0 hz1 hz2 rfl (by decide) _ _ _ rfl (hown.alloc _) ⟨wr.heap.size, 0, none⟩ 1 1 [.int .u8 (s[k].toNat : Int)] rfl rfl ?_ ?_ ?_ ?_ ?_ ?_; exact cell_one_new _ _ _; (intro u hu; simp at hu; subst hu; rfl); (unfold maxLen; omega); omega; (simp; omega); intro v1 w1 hown1 hgrow1 _)
          go_roundw
          case rel =>
            refine ⟨k + 1, by omega, by go_num, ?_, ?_⟩
            · exact (hb.alloc hgs' _).grown hgrow1 (by simp; omega) (fun j h => (hown.lt j h).1)
            · rw [hsn.out, hlo.out]; exact hown1
          case measure => simp [intOf]; omega
    · have hback := own_back_any (P := Tryz.prog) wr w.heap.size 60 9 5 _ _ _ Tryz.underlying60 Tryz.underlying5 Tryz.underlying9 hown
      rw [List.take_of_length_le (by rw [hL.out]; omega)] at hback
      clear hown
      go_wp2
      go_ret
      exact ⟨rfl, hb⟩
end Go.Proofs.YtfmhcgadgakbhaaGreatDoor

namespace Go.Proofs.YtfmhcgadgakbhaaGreatDoor
open Go.RowKit
open TextMath (fold lo)

theorem names_ne : (List.finRange 62).all (fun i => !(rowL i).1.toList.isEmpty && !(rowL i).2.2.toList.isEmpty) = true := by kernel_rfl
theorem name_ne (i : Fin 62) : ¬ (rowL i).1.toList = [] ∧ ¬ (rowL i).2.2.toList = [] := by
  have h := List.all_eq_true.1 names_ne i (List.mem_finRange i)
  simpa using h
theorem rowOf_hit (f : ByteArray) (i : Fin 62) (h : hit f i = true) : rowOf f = some i := by
  cases hr : rowOf f with
  | none =>
    have := List.find?_eq_none.1 hr i (List.mem_finRange i)
    exact absurd h this
  | some j =>
    have := List.find?_some hr
    rw [hit_unique f i j h this]
theorem rowOf_none (f : ByteArray) (h : ∀ i, ¬ hit f i = true) : rowOf f = none := List.find?_eq_none.2 (fun i _ => h i)
def rowN (f : ByteArray) : Int := match rowOf f with
  | none => -1
  | some i => (i.1 : Int)
theorem rowN_hit (f : ByteArray) (i : Fin 62) (h : hit f i = true) : rowN f = (i.1 : Int) := by unfold rowN; rw [rowOf_hit f i h]
theorem rowN_none (f : ByteArray) (h : ∀ i, ¬ hit f i = true) : rowN f = -1 := by unfold rowN; rw [rowOf_none f h]
/-- The names that lie in a block. -/
def Nams (W : World) (b : Nat) : Prop := W.heap[b]? = some (.cells namC 88 (0, 0))
theorem Nams.cells {W : World} {b : Nat} (h : Nams W b) (i : Fin 62) : W.cell? ⟨b, i.1 * 3, none⟩ = some (.string (rowL i).1) ∧ W.cell? ⟨b, i.1 * 3 + 1, none⟩ = some (.string (rowL i).2.1) ∧ W.cell? ⟨b, i.1 * 3 + 2, none⟩ = some (.string (rowL i).2.2) := by
  have hl : i.1 < labs.length := by rw [labs_len]; exact i.2
  have key : ∀ r, r < 3 → W.cell? ⟨b, i.1 * 3 + r, none⟩ = (lbC (rowL i))[r]? := fun r hr => by
    rw [cell_of_row W b _ _ _ _ h]
    unfold namC
    rw [List.getElem?_toArray, flat_at labs i.1 r hl hr]
    rfl
  exact ⟨key 0 (by omega), key 1 (by omega), key 2 (by omega)⟩
theorem namC_size : namC.size = 186 := by kernel_rfl
theorem namC_one : ∀ v ∈ namC.toList, v.oneCell' = true := by
  have h : namC.toList.all (·.oneCell') = true := by kernel_rfl
  exact fun v hv => List.all_eq_true.1 h v hv
theorem st_nams (W : World) (cs : Array Value) (hz : cs.size = 186) (h1 : ∀ v ∈ cs.toList, v.oneCell' = true) : (storeCells ⟨W.heap.size, 0, none⟩ cs.toList 0).run Tryz.prog (W.alloc (.cells Tryz.zeroCells88 88)) = .ok () (W.alloc (.cells cs 88)) := by
  refine run_storeCells_new W _ _ cs (by rw [hz]; kernel_rfl) (by rw [hz]; kernel_rfl) ?_
  rw [Array.all_eq_true']
  intro v hv
  exact h1 v (by simpa using hv)
theorem names_q (w : World) : Calls Tryz.prog 56 #[] w fun e w' => ∃ cs, e = .returned (.agg cs) ∧ Hid (namC = cs) ∧ cs.size = 186 ∧ (∀ v ∈ cs.toList, v.oneCell' = true) ∧ Below w.heap.size w w' := by
  refine (names_any w).mono ?_
  intro e w' h
  exact ⟨namC, h.1, rfl, namC_size, namC_one, h.2⟩

theorem beq_t {a b : ByteArray} (h : a = b) : (a.toList == b.toList) = true := by rw [h]; exact beq_self_eq_true _
theorem beq_f {a b : ByteArray} (h : ¬ a = b) : (a.toList == b.toList) = false := by
  rw [beq_eq_false_iff_ne]
  intro h'
  rw [Lib.toList_data, Lib.toList_data] at h'
  exact h (ByteArray.ext (Array.toList_inj.1 h'))

set_option maxRecDepth 100000 in
set_option maxHeartbeats 400000 in
theorem refRow_any (s : ByteArray) (w : World) (hs : s.size ≤ 140737488355328) :
    Calls Tryz.prog 55 #[.string s] w fun e w' => e = .returned (.int .i64 (rowN (S (fold s.data.toList)))) ∧ Below w.heap.size w w' := by
  obtain ⟨f, hf⟩ : ∃ f, S (fold s.data.toList) = f := ⟨_, rfl⟩
  have hF : ∀ W, Hid (Calls Tryz.prog 34 #[.string s] W fun e w' => e = .returned (.string f) ∧ Below W.heap.size W w') := fun W => by
    have h := rFold_any s W hs
    rw [hf] at h
    exact h
  rw [hf]
  clear hf
  go_enter Tryz.func55, Tryz.ntmps55
  go_wp2_with fail
  refine (hF _).out.mono ?_
  rintro e W1 ⟨rfl, hb1⟩
  have hN := names_q W1
  have hb1' : Hid (Below w.heap.size w W1) := hb1
  clear hF hb1
  go_wp2_with fail
  refine hN.mono ?_
  rintro e W2 ⟨cs, rfl, hcs, hcz, hco, hb2⟩
  have st := st_nams W2 cs hcz hco
  obtain ⟨W3, hW3⟩ : ∃ W3, W2.alloc (.cells cs 88) = W3 := ⟨_, rfl⟩
  rw [hW3] at st
  have hB3 : Hid (Below w.heap.size w W3) := by
    have h : Below W1.heap.size W1 W3 := by rw [← hW3]; exact hb2.alloc hb2.size _
    exact hb1'.out.trans (h.mono hb1'.out.size)
  have hn3 : Nams W3 W2.heap.size := by unfold Nams; rw [hcs.out, ← hW3]; exact heap_alloc_last W2 _
  clear hN hb2 hb1' hco hW3
  go_wp2_with fail
  go_loopw [5] (fun iv wr => ∃ k : Nat, k ≤ 62 ∧ iv = .int .i64 (k : Int) ∧ wr = W3 ∧ Hid (∀ j : Fin 62, j.1 < k → ¬ hit f j = true)) (fun iv _ => 62 - (intOf iv).toNat)
  case atStart => exact ⟨0, Nat.zero_le _, rfl, rfl, fun j hj => absurd hj (Nat.not_lt_zero _)⟩
  case round =>
    obtain ⟨k, hk, rfl, rfl, hno⟩ := hrel
    clear st hcz hcs
    by_cases hlt : k < 62
    · obtain ⟨i, hi⟩ : ∃ i : Fin 62, i = ⟨k, hlt⟩ := ⟨_, rfl⟩
      have hik : Hid (i.1 = k) := by rw [hi]; rfl
      obtain ⟨c0, c1, c2⟩ := hn3.cells i
      rw [hik.out] at c0 c1 c2
      obtain ⟨ne0, ne2⟩ := name_ne i
      have hiff := hit_iff f i
      have k0 : (0 : Int) ≤ (k : Int) := Int.natCast_nonneg _
      have k1 : (k : Int) < 62 := by omega
      generalize (rowL i).1 = n0 at *
      generalize (rowL i).2.1 = n1 at *
      generalize (rowL i).2.2 = n2 at *
      have hlt' : Hid (k < 62) := hlt
      clear hi hlt hk
      by_cases e0 : f = n0
      · have hrn : Hid (rowN f = (k : Int)) := by unfold Hid; rw [rowN_hit f i (hiff.2 ⟨by rw [e0]; exact ne0, Or.inl e0⟩), hik.out]
        have q0 := beq_t e0
        clear hiff ne0 ne2 hno e0
        go_wp2_with fail
        go_ret
        exact ⟨ret_int (by rw [hrn.out]), hB3.out⟩
      · by_cases e1 : f = n1
        · by_cases em : f.toList = []
          · have e2 : ¬ f = n2 := fun h => ne2 (by rw [← h]; exact em)
            have eb : f.toList.isEmpty = true := by rw [em]; rfl
            have hnh : ¬ hit f i = true := fun h => (hiff.1 h).1 em
            have hnx : Hid (∀ j : Fin 62, j.1 < k + 1 → ¬ hit f j = true) := fun j hj => by
              by_cases hjk : j.1 < k
              · exact hno.out j hjk
              · have : j = i := Fin.ext (by have := hik.out; omega)
                rw [this]; exact hnh
            have q0 := beq_f e0
            have q1 := beq_t e1
            have q2 := beq_f e2
            clear hnh
            clear hiff ne0 ne2 hno e0 e1 e2 em
            go_wp2_with fail
            refine ⟨⟨k + 1, hlt'.out, by simp, trivial, hnx⟩, ?_⟩
            have := hlt'.out
            simp [intOf]
            omega
          · have eb : f.toList.isEmpty = false := by simpa using em
            have hrn : Hid (rowN f = (k : Int)) := by unfold Hid; rw [rowN_hit f i (hiff.2 ⟨em, Or.inr (Or.inl e1)⟩), hik.out]
            have q0 := beq_f e0
            have q1 := beq_t e1
            clear hiff ne0 ne2 hno e0 e1 em
            go_wp2_with fail
            go_ret
            exact ⟨ret_int (by rw [hrn.out]), hB3.out⟩
        · by_cases e2 : f = n2
          · have em : ¬ f.toList = [] := by rw [e2]; exact ne2
            have hrn : Hid (rowN f = (k : Int)) := by unfold Hid; rw [rowN_hit f i (hiff.2 ⟨em, Or.inr (Or.inr e2)⟩), hik.out]
            have q0 := beq_f e0
            have q1 := beq_f e1
            have q2 := beq_t e2
            clear hiff ne0 hno ne2 em e0 e1 e2
            go_wp2_with fail
            go_ret
            exact ⟨ret_int (by rw [hrn.out]), hB3.out⟩
          · have hnh : ¬ hit f i = true := fun h => by rcases (hiff.1 h).2 with h | h | h; exact e0 h; exact e1 h; exact e2 h
            have hnx : Hid (∀ j : Fin 62, j.1 < k + 1 → ¬ hit f j = true) := fun j hj => by
              by_cases hjk : j.1 < k
              · exact hno.out j hjk
              · have : j = i := Fin.ext (by have := hik.out; omega)
                rw [this]; exact hnh
            have q0 := beq_f e0
            have q1 := beq_f e1
            have q2 := beq_f e2
            clear hnh
            clear hiff ne0 ne2 hno e0 e1 e2
            go_wp2_with fail
            refine ⟨⟨k + 1, hlt'.out, by simp, trivial, hnx⟩, ?_⟩
            have := hlt'.out
            simp [intOf]
            omega
    · have hrn : Hid (rowN f = -1) := rowN_none f (fun j => hno.out j (by have := j.2; omega))
      have hke : k = 62 := by omega
      subst hke
      clear hlt hk hno
      go_wp2_with fail
      go_ret
      exact ⟨ret_int (by rw [hrn.out]), hB3.out⟩
end Go.Proofs.YtfmhcgadgakbhaaGreatDoor
