import Derived.Test.YtdeeegocjgikoaaDoorAtTab
import Derived.Deep.WholeRow
import Derived.Test.YtdeeegocjgikoaaDoorK1
import Derived.Test.YtdeeegocjgikoaaDoorK5
import Derived.Deep.AppendLies
import Derived.Deep.RegionLaw
namespace Go.Proofs.YtdeeegocjgikoaaDoor
open Go.RowKit

def namC : Array Value := (labs.flatMap lbC).toArray
theorem store_names (w : World) (L : List Value) (h : L = namC.toList) : (storeCells ⟨w.heap.size, 0, none⟩ L 0).run Tryd.prog (w.alloc (.cells Tryd.zeroCells106 106)) = .ok () (w.alloc (.cells namC 106)) := by
  subst h
  exact run_storeCells_new w _ _ namC (by kernel_rfl) (by kernel_rfl) (by kernel_rfl)
theorem op_value {o : Oper} {a : Act} {w : World} {K : Act → World → Prop} {Q : Exit → Act → World → Prop} (v : Value) (hr : (execOp a.eval o).run Tryd.prog w = .ok (.value v) w) (h : K (a.put o.dst v) w) : o.wp Tryd.prog a w K Q := by
  unfold Oper.wp
  rw [hr]
  exact h
set_option maxRecDepth 1000000 in
set_option maxHeartbeats 4000000 in
theorem names_any (w : World) : Calls Tryd.prog 70 #[] w fun e w' => e = .returned (.agg namC) ∧ Below w.heap.size w w' := by
  go_enter Tryd.func70, Tryd.ntmps70
  go_wp2
  refine op_value (.agg namC) (by kernel_rfl) ?_
  go_wp2
  rw [store_names w _ rfl]
  simp only [Result.andThen]
  rw [Oper.upon_skip]
  go_wp2
  refine bodyPost_ret (v := .agg namC) ?_ rfl ⟨rfl, (Below.refl _ _).alloc (Nat.le_refl _) _⟩
  exact results_cell_row rfl _ _ w.heap.size 106 namC (0, 0) _ rfl (heap_alloc_last w _) Tryd.underlying106 rfl (by kernel_rfl)
end Go.Proofs.YtdeeegocjgikoaaDoor

namespace Go.Proofs.YtdeeegocjgikoaaDoor
open Go.RowKit
open TextMath (fold lo)

set_option maxHeartbeats 1000000 in
theorem rFold_any (s : ByteArray) (w : World) (hm : s.size ≤ 140737488355328) :
    Calls Tryd.prog 67 #[.string s] w fun e w' => e = .returned (.string (S (fold s.data.toList))) ∧ Below w.heap.size w w' := by
  have hL : Hid (s.data.toList.length = s.size) := size_l s
  obtain ⟨i0, hi, hz0, hz1, hz2⟩ := info_parts info_u8
  go_enter Tryd.func67, Tryd.ntmps67
  go_wp2
  go_loopw [3, 4] (fun out i wr => ∃ k : Nat, k ≤ s.size ∧ i = .int .i64 k ∧ Below w.heap.size w wr ∧ wr.ownsRow w.heap.size 5 1 out k (bv (fold (s.data.toList.take k)))) (fun _ i _ => s.size - (intOf i).toNat)
  case atStart => exact ⟨0, Nat.zero_le _, rfl, Below.refl _ _, World.ownsRow_nil _ _ _ _⟩
  case round =>
    obtain ⟨k, hk, rfl, hb, hown⟩ := hrel
    have hgs' := hb.size
    by_cases hlt : k < s.size
    · have hkl : k < s.data.toList.length := by rw [hL.out]; exact hlt
      have hsn : Hid (bv (fold (s.data.toList.take (k + 1))) = bv (fold (s.data.toList.take k)) ++ [.int .u8 ((lo s[k]).toNat : Int)]) := by unfold Hid; rw [fold_snoc _ _ hkl, bv_app]; rfl
      have hc256 : s[k].toNat < 256 := s[k].toNat_lt
      by_cases h1 : (65 : Int) ≤ s[k].toNat ∧ (s[k].toNat : Int) ≤ 90
      · have hlo : Hid (((lo s[k]).toNat : Int) = s[k].toNat + 32) := lo_big _ h1.1 h1.2
        obtain ⟨h1, h2⟩ := h1
        go_wp2_with (at_builtin; refine wpList_append_own _ rfl _ _ 70 rfl w.heap.size 5 i0 (.int .u8 0) 1 1 Tryd.underlying70 hi hz0 hz1 hz2 rfl (by decide) _ _ _ rfl (hown.alloc _) ⟨wr.heap.size, 0, none⟩ 1 1 [.int .u8 ((s[k].toNat : Int) + 32)] rfl rfl ?_ ?_ ?_ ?_ ?_ ?_; exact cell_one_new _ _ _; (intro u hu; simp at hu; subst hu; rfl); (unfold maxLen; omega); omega; (simp; omega); intro v1 w1 hown1 hgrow1 _)
        go_roundw
        case rel =>
          refine ⟨k + 1, by omega, by go_num, ?_, ?_⟩
          · exact (hb.alloc hgs' _).grown hgrow1 (by simp; omega) (fun j h => (hown.lt j h).1)
          · rw [hsn.out, hlo.out]; exact hown1
        case measure => simp [intOf]; omega
      · have hlo : Hid (lo s[k] = s[k]) := lo_small _ h1
        by_cases h2 : (65 : Int) ≤ s[k].toNat
        · have h3 : ¬ (s[k].toNat : Int) ≤ 90 := fun h => h1 ⟨h2, h⟩
          clear h1
          go_wp2_with (at_builtin; refine wpList_append_own _ rfl _ _ 70 rfl w.heap.size 5 i0 (.int .u8 0) 1 1 Tryd.underlying70 hi hz0 hz1 hz2 rfl (by decide) _ _ _ rfl (hown.alloc _) ⟨wr.heap.size, 0, none⟩ 1 1 [.int .u8 (s[k].toNat : Int)] rfl rfl ?_ ?_ ?_ ?_ ?_ ?_; exact cell_one_new _ _ _; (intro u hu; simp at hu; subst hu; rfl); (unfold maxLen; omega); omega; (simp; omega); intro v1 w1 hown1 hgrow1 _)
          go_roundw
          case rel =>
            refine ⟨k + 1, by omega, by go_num, ?_, ?_⟩
            · exact (hb.alloc hgs' _).grown hgrow1 (by simp; omega) (fun j h => (hown.lt j h).1)
            · rw [hsn.out, hlo.out]; exact hown1
          case measure => simp [intOf]; omega
        · clear h1
          go_wp2_with (at_builtin; refine wpList_append_own _ rfl _ _ 70 rfl w.heap.size 5 i0 (.int .u8 0) 1 1 Tryd.underlying70 hi hz0 hz1 hz2 rfl (by decide) _ _ _ rfl (hown.alloc _) ⟨wr.heap.size, 0, none⟩ 1 1 [.int .u8 (s[k].toNat : Int)] rfl rfl ?_ ?_ ?_ ?_ ?_ ?_; exact cell_one_new _ _ _; (intro u hu; simp at hu; subst hu; rfl); (unfold maxLen; omega); omega; (simp; omega); intro v1 w1 hown1 hgrow1 _)
          go_roundw
          case rel =>
            refine ⟨k + 1, by omega, by go_num, ?_, ?_⟩
            · exact (hb.alloc hgs' _).grown hgrow1 (by simp; omega) (fun j h => (hown.lt j h).1)
            · rw [hsn.out, hlo.out]; exact hown1
          case measure => simp [intOf]; omega
    · have hback := own_back_any (P := Tryd.prog) wr w.heap.size 70 9 5 _ _ _ Tryd.underlying70 Tryd.underlying5 Tryd.underlying9 hown
      rw [List.take_of_length_le (by rw [hL.out]; omega)] at hback
      clear hown
      go_wp2
      go_ret
      exact ⟨rfl, hb⟩
end Go.Proofs.YtdeeegocjgikoaaDoor

namespace Go.Proofs.YtdeeegocjgikoaaDoor
open Go.RowKit
open TextMath (fold lo)

theorem names_ne : (List.finRange 62).all (fun i => !(rowL i).1.toList.isEmpty && !(rowL i).2.2.toList.isEmpty) = true := by kernel_rfl
theorem name_ne (i : Fin 62) : ¬ (rowL i).1.toList = [] ∧ ¬ (rowL i).2.2.toList = [] := by
  have h := List.all_eq_true.1 names_ne i (List.mem_finRange i)
  simpa using h
theorem rowOf_hit (f : ByteArray) (i : Fin 62) (h : hit f i = true) : rowOf f = some i := by
  cases hr : rowOf f with
  | none =>
    have := List.find?_eq_none.1 hr i (List.mem_finRange i)
    exact absurd h this
  | some j =>
    have := List.find?_some hr
    rw [hit_unique f i j h this]
theorem rowOf_none (f : ByteArray) (h : ∀ i, ¬ hit f i = true) : rowOf f = none := List.find?_eq_none.2 (fun i _ => h i)
def rowN (f : ByteArray) : Int := match rowOf f with
  | none => -1
  | some i => (i.1 : Int)
theorem rowN_hit (f : ByteArray) (i : Fin 62) (h : hit f i = true) : rowN f = (i.1 : Int) := by unfold rowN; rw [rowOf_hit f i h]
theorem rowN_none (f : ByteArray) (h : ∀ i, ¬ hit f i = true) : rowN f = -1 := by unfold rowN; rw [rowOf_none f h]
/-- The names that lie in a block. -/
def Nams (W : World) (b : Nat) : Prop := W.heap[b]? = some (.cells namC 106 (0, 0))
theorem Nams.cells {W : World} {b : Nat} (h : Nams W b) (i : Fin 62) : W.cell? ⟨b, i.1 * 3, none⟩ = some (.string (rowL i).1) ∧ W.cell? ⟨b, i.1 * 3 + 1, none⟩ = some (.string (rowL i).2.1) ∧ W.cell? ⟨b, i.1 * 3 + 2, none⟩ = some (.string (rowL i).2.2) := by
  have hl : i.1 < labs.length := by rw [labs_len]; exact i.2
  have key : ∀ r, r < 3 → W.cell? ⟨b, i.1 * 3 + r, none⟩ = (lbC (rowL i))[r]? := fun r hr => by
    rw [cell_of_row W b _ _ _ _ h]
    unfold namC
    rw [List.getElem?_toArray, flat_at labs i.1 r hl hr]
    rfl
  exact ⟨key 0 (by omega), key 1 (by omega), key 2 (by omega)⟩
theorem namC_size : namC.size = 186 := by kernel_rfl
theorem namC_one : ∀ v ∈ namC.toList, v.oneCell' = true := by
  have h : namC.toList.all (·.oneCell') = true := by kernel_rfl
  exact fun v hv => List.all_eq_true.1 h v hv
theorem st_nams (W : World) (cs : Array Value) (hz : cs.size = 186) (h1 : ∀ v ∈ cs.toList, v.oneCell' = true) : (storeCells ⟨W.heap.size, 0, none⟩ cs.toList 0).run Tryd.prog (W.alloc (.cells Tryd.zeroCells106 106)) = .ok () (W.alloc (.cells cs 106)) := by
  refine run_storeCells_new W _ _ cs (by rw [hz]; kernel_rfl) (by rw [hz]; kernel_rfl) ?_
  rw [Array.all_eq_true']
  intro v hv
  exact h1 v (by simpa using hv)
theorem names_q (w : World) : Calls Tryd.prog 70 #[] w fun e w' => ∃ cs, e = .returned (.agg cs) ∧ Hid (namC = cs) ∧ cs.size = 186 ∧ (∀ v ∈ cs.toList, v.oneCell' = true) ∧ Below w.heap.size w w' := by
  refine (names_any w).mono ?_
  intro e w' h
  exact ⟨namC, h.1, rfl, namC_size, namC_one, h.2⟩

theorem beq_t {a b : ByteArray} (h : a = b) : (a.toList == b.toList) = true := by rw [h]; exact beq_self_eq_true _
theorem beq_f {a b : ByteArray} (h : ¬ a = b) : (a.toList == b.toList) = false := by
  rw [beq_eq_false_iff_ne]
  intro h'
  rw [Lib.toList_data, Lib.toList_data] at h'
  exact h (ByteArray.ext (Array.toList_inj.1 h'))

set_option maxRecDepth 100000 in
set_option maxHeartbeats 400000 in
theorem refRow_any (s : ByteArray) (w : World) (hs : s.size ≤ 140737488355328) :
    Calls Tryd.prog 69 #[.string s] w fun e w' => e = .returned (.int .i64 (rowN (S (fold s.data.toList)))) ∧ Below w.heap.size w w' := by
  obtain ⟨f, hf⟩ : ∃ f, S (fold s.data.toList) = f := ⟨_, rfl⟩
  have hF : ∀ W, Hid (Calls Tryd.prog 67 #[.string s] W fun e w' => e = .returned (.string f) ∧ Below W.heap.size W w') := fun W => by
    have h := rFold_any s W hs
    rw [hf] at h
    exact h
  rw [hf]
  clear hf
  go_enter Tryd.func69, Tryd.ntmps69
  go_wp2_with fail
  refine (hF _).out.mono ?_
  rintro e W1 ⟨rfl, hb1⟩
  have hN := names_q W1
  have hb1' : Hid (Below w.heap.size w W1) := hb1
  clear hF hb1
  go_wp2_with fail
  refine hN.mono ?_
  rintro e W2 ⟨cs, rfl, hcs, hcz, hco, hb2⟩
  have st := st_nams W2 cs hcz hco
  obtain ⟨W3, hW3⟩ : ∃ W3, W2.alloc (.cells cs 106) = W3 := ⟨_, rfl⟩
  rw [hW3] at st
  have hB3 : Hid (Below w.heap.size w W3) := by
    have h : Below W1.heap.size W1 W3 := by rw [← hW3]; exact hb2.alloc hb2.size _
    exact hb1'.out.trans (h.mono hb1'.out.size)
  have hn3 : Nams W3 W2.heap.size := by unfold Nams; rw [hcs.out, ← hW3]; exact heap_alloc_last W2 _
  clear hN hb2 hb1' hco hW3
  go_wp2_with fail
  go_loopw [5] (fun iv wr => ∃ k : Nat, k ≤ 62 ∧ iv = .int .i64 (k : Int) ∧ wr = W3 ∧ Hid (∀ j : Fin 62, j.1 < k → ¬ hit f j = true)) (fun iv _ => 62 - (intOf iv).toNat)
  case atStart => exact ⟨0, Nat.zero_le _, rfl, rfl, fun j hj => absurd hj (Nat.not_lt_zero _)⟩
  case round =>
    obtain ⟨k, hk, rfl, rfl, hno⟩ := hrel
    clear st hcz hcs
    by_cases hlt : k < 62
    · obtain ⟨i, hi⟩ : ∃ i : Fin 62, i = ⟨k, hlt⟩ := ⟨_, rfl⟩
      have hik : Hid (i.1 = k) := by rw [hi]; rfl
      obtain ⟨c0, c1, c2⟩ := hn3.cells i
      rw [hik.out] at c0 c1 c2
      obtain ⟨ne0, ne2⟩ := name_ne i
      have hiff := hit_iff f i
      have k0 : (0 : Int) ≤ (k : Int) := Int.natCast_nonneg _
      have k1 : (k : Int) < 62 := by omega
      generalize (rowL i).1 = n0 at *
      generalize (rowL i).2.1 = n1 at *
      generalize (rowL i).2.2 = n2 at *
      have hlt' : Hid (k < 62) := hlt
      clear hi hlt hk
      by_cases e0 : f = n0
      · have hrn : Hid (rowN f = (k : Int)) := by unfold Hid; rw [rowN_hit f i (hiff.2 ⟨by rw [e0]; exact ne0, Or.inl e0⟩), hik.out]
        have q0 := beq_t e0
        clear hiff ne0 ne2 hno e0
        go_wp2_with fail
        go_ret
        exact ⟨ret_int (by rw [hrn.out]), hB3.out⟩
      · by_cases e1 : f = n1
        · by_cases em : f.toList = []
          · have e2 : ¬ f = n2 := fun h => ne2 (by rw [← h]; exact em)
            have eb : f.toList.isEmpty = true := by rw [em]; rfl
            have hnh : ¬ hit f i = true := fun h => (hiff.1 h).1 em
            have hnx : Hid (∀ j : Fin 62, j.1 < k + 1 → ¬ hit f j = true) := fun j hj => by
              by_cases hjk : j.1 < k
              · exact hno.out j hjk
              · have : j = i := Fin.ext (by have := hik.out; omega)
                rw [this]; exact hnh
            have q0 := beq_f e0
            have q1 := beq_t e1
            have q2 := beq_f e2
            clear hnh
            clear hiff ne0 ne2 hno e0 e1 e2 em
            go_wp2_with fail
            refine ⟨⟨k + 1, hlt'.out, by simp, trivial, hnx⟩, ?_⟩
            have := hlt'.out
            simp [intOf]
            omega
          · have eb : f.toList.isEmpty = false := by simpa using em
            have hrn : Hid (rowN f = (k : Int)) := by unfold Hid; rw [rowN_hit f i (hiff.2 ⟨em, Or.inr (Or.inl e1)⟩), hik.out]
            have q0 := beq_f e0
            have q1 := beq_t e1
            clear hiff ne0 ne2 hno e0 e1 em
            go_wp2_with fail
            go_ret
            exact ⟨ret_int (by rw [hrn.out]), hB3.out⟩
        · by_cases e2 : f = n2
          · have em : ¬ f.toList = [] := by rw [e2]; exact ne2
            have hrn : Hid (rowN f = (k : Int)) := by unfold Hid; rw [rowN_hit f i (hiff.2 ⟨em, Or.inr (Or.inr e2)⟩), hik.out]
            have q0 := beq_f e0
            have q1 := beq_f e1
            have q2 := beq_t e2
            clear hiff ne0 hno ne2 em e0 e1 e2
            go_wp2_with fail
            go_ret
            exact ⟨ret_int (by rw [hrn.out]), hB3.out⟩
          · have hnh : ¬ hit f i = true := fun h => by rcases (hiff.1 h).2 with h | h | h; exact e0 h; exact e1 h; exact e2 h
            have hnx : Hid (∀ j : Fin 62, j.1 < k + 1 → ¬ hit f j = true) := fun j hj => by
              by_cases hjk : j.1 < k
              · exact hno.out j hjk
              · have : j = i := Fin.ext (by have := hik.out; omega)
                rw [this]; exact hnh
            have q0 := beq_f e0
            have q1 := beq_f e1
            have q2 := beq_f e2
            clear hnh
            clear hiff ne0 ne2 hno e0 e1 e2
            go_wp2_with fail
            refine ⟨⟨k + 1, hlt'.out, by simp, trivial, hnx⟩, ?_⟩
            have := hlt'.out
            simp [intOf]
            omega
    · have hrn : Hid (rowN f = -1) := rowN_none f (fun j => hno.out j (by have := j.2; omega))
      have hke : k = 62 := by omega
      subst hke
      clear hlt hk hno
      go_wp2_with fail
      go_ret
      exact ⟨ret_int (by rw [hrn.out]), hB3.out⟩
end Go.Proofs.YtdeeegocjgikoaaDoor

namespace Go.Proofs.YtdeeegocjgikoaaDoor
open Go.RowKit

theorem Nams.lt {W : World} {b : Nat} (h : Nams W b) : b < W.heap.size := (Array.getElem?_eq_some_iff.1 h).1
theorem Nams.below {W W' : World} {b : Nat} (h : Nams W b) (hb : Below W.heap.size W W') : Nams W' b := (hb.block b h.lt).trans h
theorem info_strR : (Tryd.prog.info? 9).map (fun i => (i.zero, i.size, i.bytes)) = some (some (.string ⟨#[]⟩), 1, 16) := by kernel_rfl
/-- One text appended to no list, at a step of a region that draws its order. -/
theorem step_first (w : World) {ops : Array Oper} {o : Oper} {a : Act} {K : Act → World → Prop} {Q : Exit → Act → World → Prop} {E : Prop} (hgd : o.guard = none) (s x : Operand)
    (ho : o.op = .call { callee := .builtin .append, args := #[s, x], argTypes := #[22, 22] }) (m : ByteArray) (g : Nat)
    (hs : a.eval s = .slice none 0 0) (hx : a.eval x = .slice (some ⟨g, 0, none⟩) 1 1) (hg : w.heap[g]? = some (.cells #[.string m] 9 (0, 0))) (H : Nat) (hH : w.heap.size = H)
    (h : ∀ cap w', w'.cell? ⟨H, 0, none⟩ = some (.string m) → H < w'.heap.size → Below w.heap.size w w' → K (a.put o.dst (.slice (some ⟨H, 0, none⟩) 1 cap)) w') :
    if Region.wanted o (yielded ops a.tmps) = true then Oper.wp Tryd.prog o a w K Q else E := by
  have hnil : w.ownsRow w.heap.size 9 1 (.slice none 0 0) 0 [] := ⟨rfl, Or.inl ⟨rfl, rfl⟩⟩
  obtain ⟨i0, hi, hz0, hz1, hz2⟩ := info_parts info_strR
  refine step_append_lies w hgd s x 22 ho w.heap.size 9 i0 _ 1 16 Tryd.underlying22 hi hz0 hz1 hz2 rfl (by decide) (.slice none 0 0) 0 [] hs hnil ⟨g, 0, none⟩ 1 1 [.string m] hx rfl (World.news_of_block hg) (by intro u hu; simp at hu; subst hu; rfl) (by decide) (by unfold maxLen; omega) (by omega) (Nat.le_refl _) H hH ?_
  intro g' cap w' h1 h2 h3 h4
  have hg' : g' = H := by
    rcases h3 with h3 | h3
    · exact absurd h3 (by simp [Value.ownBlock])
    · exact h3
  subst hg'
  have hc := World.ownsRow.cellAt h1 0 (by omega)
  refine h cap w' hc h4 ?_
  refine (Below.refl _ _).grown h2 (Nat.le_refl _) ?_
  intro k hk
  exact absurd hk (by simp [Value.ownBlock])

/-- A row of the reference's under way: its own block T, the result's block R, the names' block. -/
structure MidR (w : World) (i : Fin 62) (T R N : Nat) (al : Value) (r2 sp : ByteArray) (W : World) : Prop where
  row : W.heap[T]? = some (.cells #[.string (rowL i).1, al, .string r2, .string sp, .int .i64 0, .int .i64 0] 86 (0, 0))
  res : W.heap[R]? = some (.cells #[.string ⟨#[]⟩, .slice none 0 0, .string ⟨#[]⟩, .string ⟨#[]⟩, .int .i64 0, .int .i64 0] 86 (0, 0))
  nam : Nams W N
  bel : Below w.heap.size w W
  als : ((rowL i).2.1.toList = [] ∧ al = .slice none 0 0) ∨ (¬ (rowL i).2.1.toList = [] ∧ ∃ g c, R < g ∧ g ≠ T ∧ al = .slice (some ⟨g, 0, none⟩) 1 c ∧ W.cell? ⟨g, 0, none⟩ = some (.string (rowL i).2.1))

theorem midR_first {w W4 w' : World} {i : Fin 62} {N cap : Nat} (hT : W4.heap[w.heap.size + 1]? = some (.cells #[.string (rowL i).1, .slice none 0 0, .string ⟨#[]⟩, .string ⟨#[]⟩, .int .i64 0, .int .i64 0] 86 (0, 0)))
    (hR : W4.heap[w.heap.size]? = some (.cells #[.string ⟨#[]⟩, .slice none 0 0, .string ⟨#[]⟩, .string ⟨#[]⟩, .int .i64 0, .int .i64 0] 86 (0, 0))) (hN : Nams W4 N) (hB : Below w.heap.size w W4) (hne : N ≠ w.heap.size + 1)
    (k1 : w.heap.size + 1 < W4.heap.size) (he : ¬ (rowL i).2.1.toList = []) (hb : Below W4.heap.size W4 w') (hc : w'.cell? ⟨W4.heap.size + 1, 0, none⟩ = some (.string (rowL i).2.1)) :
    MidR w i (w.heap.size + 1) w.heap.size N (.slice (some ⟨W4.heap.size + 1, 0, none⟩) 1 cap) ⟨#[]⟩ ⟨#[]⟩ (w'.setCell ⟨w.heap.size + 1, 1, none⟩ (.slice (some ⟨W4.heap.size + 1, 0, none⟩) 1 cap)) := by
  refine ⟨?_, ?_, ?_, ?_, Or.inr ⟨he, W4.heap.size + 1, cap, by omega, by omega, rfl, ?_⟩⟩
  · exact Go.heap_setCell_same _ _ _ _ _ _ ((hb.block _ k1).trans hT)
  · rw [Below.heap_setCell _ _ _ _ (by show w.heap.size ≠ w.heap.size + 1; omega)]
    exact (hb.block _ (by omega)).trans hR
  · unfold Nams
    rw [Below.heap_setCell _ _ _ _ (by exact hne)]
    exact hN.below hb
  · refine Below.setCell (hB.trans (hb.mono hB.size)) ?_ _
    show w.heap.size ≤ w.heap.size + 1; omega
  · rw [World.cell?_setCell_other _ _ _ _ (by intro hh; injection hh with hh; omega)]
    exact hc

theorem midR_set {w W W' : World} {i : Fin 62} {N j : Nat} {al : Value} {r2 sp r2' sp' : ByteArray} (u : Value) (h : MidR w i (w.heap.size + 1) w.heap.size N al r2 sp W) (hne : N ≠ w.heap.size + 1)
    (hW : W.setCell ⟨w.heap.size + 1, j, none⟩ u = W') (hr : W'.heap[w.heap.size + 1]? = some (.cells #[.string (rowL i).1, al, .string r2', .string sp', .int .i64 0, .int .i64 0] 86 (0, 0))) : MidR w i (w.heap.size + 1) w.heap.size N al r2' sp' W' := by
  subst hW
  obtain ⟨m1, m2, m3, m4, m5⟩ := h
  refine ⟨hr, ?_, ?_, ?_, ?_⟩
  · rw [Below.heap_setCell _ _ _ _ (by show w.heap.size ≠ w.heap.size + 1; omega)]; exact m2
  · unfold Nams; rw [Below.heap_setCell _ _ _ _ (by exact hne)]; exact m3
  · refine Below.setCell m4 ?_ _
    show w.heap.size ≤ w.heap.size + 1; omega
  · rcases m5 with m5 | ⟨m6, g, c, q1, q2, q3, q4⟩
    · exact Or.inl m5
    · refine Or.inr ⟨m6, g, c, q1, q2, q3, ?_⟩
      rw [World.cell?_setCell_other _ _ _ _ (by intro hh; injection hh with hh; exact q2 hh.symm)]
      exact q4

set_option maxRecDepth 100000 in
set_option maxHeartbeats 1000000 in
theorem refRowTold_any (i : Fin 62) (w : World) (ht : NumTab w) :
    Calls Tryd.prog 85 #[.int .i64 (i.1 : Int)] w fun e w' => ∃ v, e = .returned v ∧ RowIs w' w.heap.size i v ∧ Below w.heap.size w w' := by
  obtain ⟨Wa, hWa⟩ : ∃ Wa, (w.alloc (.cells #[.string ⟨#[]⟩, .slice none 0 0, .string ⟨#[]⟩, .string ⟨#[]⟩, .int .i64 0, .int .i64 0] 86)).alloc (.cells #[.string ⟨#[]⟩, .slice none 0 0, .string ⟨#[]⟩, .string ⟨#[]⟩, .int .i64 0, .int .i64 0] 86) = Wa := ⟨_, rfl⟩
  have hBa : Hid (Below w.heap.size w Wa) := by unfold Hid; rw [← hWa]; exact ((Below.refl _ _).alloc (Nat.le_refl _) _).alloc (by simp) _
  have hTa : Hid (Wa.heap[w.heap.size + 1]? = some (.cells #[.string ⟨#[]⟩, .slice none 0 0, .string ⟨#[]⟩, .string ⟨#[]⟩, .int .i64 0, .int .i64 0] 86 (0, 0))) := by
    unfold Hid; rw [← hWa]
    have h := heap_alloc_last (w.alloc (.cells #[.string ⟨#[]⟩, .slice none 0 0, .string ⟨#[]⟩, .string ⟨#[]⟩, .int .i64 0, .int .i64 0] 86)) (.cells #[.string ⟨#[]⟩, .slice none 0 0, .string ⟨#[]⟩, .string ⟨#[]⟩, .int .i64 0, .int .i64 0] 86)
    simpa using h
  have hRa : Hid (Wa.heap[w.heap.size]? = some (.cells #[.string ⟨#[]⟩, .slice none 0 0, .string ⟨#[]⟩, .string ⟨#[]⟩, .int .i64 0, .int .i64 0] 86 (0, 0))) := by
    unfold Hid; rw [← hWa, Below.heap_alloc _ _ _ (by simp)]; exact heap_alloc_last w _
  have hsz : Hid (Wa.heap.size = w.heap.size + 2) := by unfold Hid; rw [← hWa]; simp
  have hN := names_q Wa
  go_enter Tryd.func85, Tryd.ntmps85
  go_wp2_with fail
  refine hN.mono ?_
  rintro e W2 ⟨cs, rfl, hcs, hcz, hco, hb2⟩
  have st := st_nams W2 cs hcz hco
  obtain ⟨W3, hW3⟩ : ∃ W3, W2.alloc (.cells cs 106) = W3 := ⟨_, rfl⟩
  rw [hW3] at st
  have hb3 : Below Wa.heap.size Wa W3 := by rw [← hW3]; exact hb2.alloc hb2.size _
  have hn3 : Nams W3 W2.heap.size := by unfold Nams; rw [hcs.out, ← hW3]; exact heap_alloc_last W2 _
  have hB3 : Hid (Below w.heap.size w W3) := hBa.out.trans (hb3.mono hBa.out.size)
  have hT3 : W3.heap[w.heap.size + 1]? = some (.cells #[.string ⟨#[]⟩, .slice none 0 0, .string ⟨#[]⟩, .string ⟨#[]⟩, .int .i64 0, .int .i64 0] 86 (0, 0)) := (hb3.block _ (Array.getElem?_eq_some_iff.1 hTa.out).1).trans hTa.out
  have hR3 : Hid (W3.heap[w.heap.size]? = some (.cells #[.string ⟨#[]⟩, .slice none 0 0, .string ⟨#[]⟩, .string ⟨#[]⟩, .int .i64 0, .int .i64 0] 86 (0, 0))) := (hb3.block _ (Array.getElem?_eq_some_iff.1 hRa.out).1).trans hRa.out
  have hNb : w.heap.size + 2 ≤ W2.heap.size := by have := hb2.size; have := hsz.out; omega
  have hNl : Hid (w.heap.size + 2 ≤ W2.heap.size) := hNb
  obtain ⟨c0, c1, c2⟩ := hn3.cells i
  have hi := i.2
  have i0 : (0 : Int) ≤ (i.1 : Int) := Int.natCast_nonneg _
  have i1 : (i.1 : Int) < 62 := by omega
  obtain ⟨t0, t0f⟩ := row_cell hT3 (j := 0) (by simp)
  simp only [List.getElem_toArray, List.getElem_cons_zero] at t0
  have hx : ¬ w.heap.size + 1 = W2.heap.size := by omega
  have hx' : ¬ W2.heap.size = w.heap.size + 1 := by omega
  have hT3' : Hid (W3.heap[w.heap.size + 1]? = some (.cells #[.string ⟨#[]⟩, .slice none 0 0, .string ⟨#[]⟩, .string ⟨#[]⟩, .int .i64 0, .int .i64 0] 86 (0, 0))) := hT3
  have hn3' : Hid (Nams W3 W2.heap.size) := hn3
  have hht : Hid (NumTab w) := ht
  clear hN hb2 hWa hco hW3 hT3 hn3 hTa hRa hBa hsz hb3 ht hNb hcs
  go_upto_if 15 with fail
  obtain ⟨W4, hW4⟩ : ∃ W4, W3.setCell ⟨w.heap.size + 1, 0, none⟩ (.string (rowL i).1) = W4 := ⟨_, rfl⟩
  rw [hW4]
  have hT4 : Hid (W4.heap[w.heap.size + 1]? = some (.cells #[.string (rowL i).1, .slice none 0 0, .string ⟨#[]⟩, .string ⟨#[]⟩, .int .i64 0, .int .i64 0] 86 (0, 0))) := by
    unfold Hid; rw [← hW4]; exact Go.heap_setCell_same _ _ _ _ _ _ hT3'.out
  have hR4 : Hid (W4.heap[w.heap.size]? = some (.cells #[.string ⟨#[]⟩, .slice none 0 0, .string ⟨#[]⟩, .string ⟨#[]⟩, .int .i64 0, .int .i64 0] 86 (0, 0))) := by
    unfold Hid; rw [← hW4, Below.heap_setCell _ _ _ _ (by show w.heap.size ≠ w.heap.size + 1; omega)]; exact hR3.out
  have hn4 : Hid (Nams W4 W2.heap.size) := by
    unfold Hid Nams; rw [← hW4, Below.heap_setCell _ _ _ _ (by show W2.heap.size ≠ w.heap.size + 1; exact hx')]; exact hn3'.out
  have hB4 : Hid (Below w.heap.size w W4) := by
    unfold Hid; rw [← hW4]; exact Below.setCell hB3.out (by show w.heap.size ≤ w.heap.size + 1; omega) _
  have hz4 : Hid (W2.heap.size < W4.heap.size) := hn4.out.lt
  clear c0 c1 c2 t0 t0f st hcz hW4 hT3' hR3 hn3' hB3
  obtain ⟨_, c1, _⟩ := hn4.out.cells i
  obtain ⟨t1, t1f⟩ := row_cell hT4.out (j := 1) (by simp)
  simp only [List.getElem_toArray, List.getElem_cons_zero, List.getElem_cons_succ] at t1
  have k1 : w.heap.size + 1 < W4.heap.size := by have := hz4.out; have := hNl.out; omega
  have k2 : W2.heap.size < W4.heap.size := hz4.out
  go_cut [] (fun wx => ∃ al, MidR w i (w.heap.size + 1) w.heap.size W2.heap.size al ⟨#[]⟩ ⟨#[]⟩ wx)
  case first =>
    by_cases he : (rowL i).2.1.toList = []
    · have hb0 : (rowL i).2.1.toList.isEmpty = true := by rw [he]; rfl
      rw [hb0]
      go_wp2_with fail
      go_meet
      case rel => exact ⟨_, hT4.out, hR4.out, hn4.out, hB4.out, Or.inl ⟨he, rfl⟩⟩
    · have hb0 : (rowL i).2.1.toList.isEmpty = false := by simpa using he
      rw [hb0]
      go_upto_region 5 with fail
      go_region_law (refine step_first _ rfl (.tmp 17) (.tmp 22) rfl (rowL i).2.1 W4.heap.size (by simp [Act.eval]) (by simp [Act.eval]) (heap_alloc_last W4 _) (W4.heap.size + 1) (by simp) ?_;
                     intro cap w' hc hz hb;
                     have hb' : Below W4.heap.size W4 w' := (((Below.refl _ _).alloc (Nat.le_refl _) _).drew).trans (hb.mono (by simp));
                     have t1' : w'.cell? ⟨w.heap.size + 1, 1, none⟩ = some (.slice none 0 0) := by rw [hb'.cell (by show w.heap.size + 1 < W4.heap.size; exact k1)]; exact t1;
                     have t1g : w'.frozen? ⟨w.heap.size + 1, 1, none⟩ = false := (row_cell ((hb'.block _ k1).trans hT4.out) (j := 1) (by simp)).2;
                     have hmid : Hid (MidR w i (w.heap.size + 1) w.heap.size W2.heap.size (.slice (some ⟨W4.heap.size + 1, 0, none⟩) 1 cap) ⟨#[]⟩ ⟨#[]⟩ (w'.setCell ⟨w.heap.size + 1, 1, none⟩ (.slice (some ⟨W4.heap.size + 1, 0, none⟩) 1 cap))) := midR_first hT4.out hR4.out hn4.out hB4.out (by omega) k1 he hb' hc)
      all_goals (go_wp2_with fail; go_meet; case rel => exact ⟨_, hmid.out⟩)
  case rest =>
    obtain ⟨al, hmd⟩ := hcut
    have htc := hht.out.below hmd.bel
    have s0 : wc.cell? ⟨1, i.1 * 3, none⟩ = some (.int .i64 ((KND.getD i.1 []).getD 0 0)) := htc.knd i.1 0 hi (by omega)
    obtain ⟨kk, hkk⟩ : ∃ kk, (KND.getD i.1 []).getD 0 0 = kk := ⟨_, rfl⟩
    rw [hkk] at s0
    have hmd' : Hid (MidR w i (w.heap.size + 1) w.heap.size W2.heap.size al ⟨#[]⟩ ⟨#[]⟩ wc) := hmd
    obtain ⟨t2c, t2f⟩ := row_cell hmd.row (j := 2) (by simp)
    simp only [List.getElem_toArray, List.getElem_cons_zero, List.getElem_cons_succ] at t2c
    obtain ⟨_, _, b2⟩ := hmd.nam.cells i
    have kl : 1 < w.heap.size := World.block_lt_of_cell? w _ (hht.out.knd 0 0 (by omega) (by omega))
    have kg : ¬ w.heap.size + 1 = 1 := by omega
    have hkk' : Hid ((KND.getD i.1 []).getD 0 0 = kk) := hkk
    clear hmd htc hB4 t1 t1f hT4 hR4 hn4 c1 k1 k2 hkk
    go_upto_if 34 with fail
    obtain ⟨W5, hW5⟩ : ∃ W5, wc.setCell ⟨w.heap.size + 1, 2, none⟩ (.string (rowL i).2.2) = W5 := ⟨_, rfl⟩
    rw [hW5]
    have hx2 : Hid (W2.heap.size ≠ w.heap.size + 1) := hx'
    have hm5 : Hid (MidR w i (w.heap.size + 1) w.heap.size W2.heap.size al (rowL i).2.2 ⟨#[]⟩ W5) :=
      midR_set (.string (rowL i).2.2) hmd'.out hx2.out hW5 (by rw [← hW5]; exact Go.heap_setCell_same _ _ _ _ _ _ hmd'.out.row)
    clear hW5 hmd' t2c t2f b2 s0
    go_cut [] (fun wx => MidR w i (w.heap.size + 1) w.heap.size W2.heap.size al (rowL i).2.2 (supN i) wx)
    case first =>
      have hnum := (num_at i).2.2.1
      rw [hkk'.out] at hnum
      rw [supI_eq] at hnum
      by_cases he : supI i = 0
      · have hd : decide (0 ≤ kk) = false := by rw [hnum, he]; rfl
        have hsp' : Hid (supN i = ⟨#[]⟩) := by unfold Hid supN; rw [if_pos he]
        rw [hd]
        clear hnum hd he
        go_wp2_with fail
        go_meet
        case rel => rw [hsp'.out]; exact hm5.out
      · have hnum' : kk = (supI i : Int) := by rw [hnum, if_neg (by omega)]
        have hd : decide (0 ≤ kk) = true := by rw [hnum', decide_eq_true_eq]; exact Int.natCast_nonneg _
        have hsp' : Hid (supN i = (rowL ⟨supI i, supI_lt i⟩).1) := by unfold Hid supN; rw [if_neg he]
        have s0 : W5.cell? ⟨1, i.1 * 3, none⟩ = some (.int .i64 ((KND.getD i.1 []).getD 0 0)) := (hht.out.below hm5.out.bel).knd i.1 0 hi (by omega)
        rw [hkk'.out, hnum'] at s0
        obtain ⟨b0, _, _⟩ := hm5.out.nam.cells ⟨supI i, supI_lt i⟩
        have k0 : (0 : Int) ≤ (supI i : Int) := Int.natCast_nonneg _
        have k1 : (supI i : Int) < 62 := by have := supI_lt i; omega
        obtain ⟨t3c, t3f⟩ := row_cell hm5.out.row (j := 3) (by simp)
        simp only [List.getElem_toArray, List.getElem_cons_zero, List.getElem_cons_succ] at t3c
        simp only at b0
        rw [hd]
        clear hnum hnum' hd he
        go_wp2_with fail
        go_meet
        case rel =>
          rw [hsp'.out]
          exact midR_set _ hm5.out hx2.out rfl (Go.heap_setCell_same _ _ _ _ _ _ hm5.out.row)
    case rest =>
      have htc := hht.out.below hcut.bel
      have s1 := htc.knd i.1 1 hi (by omega)
      have s2 := htc.knd i.1 2 hi (by omega)
      rw [(num_at i).2.2.2.1] at s1
      rw [(num_at i).2.2.2.2] at s2
      obtain ⟨z1, hz1⟩ : ∃ z, SYN.getD i.1 0 = z := ⟨_, rfl⟩
      obtain ⟨z2, hz2⟩ : ∃ z, USG.getD i.1 0 = z := ⟨_, rfl⟩
      rw [hz1] at s1
      rw [hz2] at s2
      have hmc : Hid (MidR w i (w.heap.size + 1) w.heap.size W2.heap.size al (rowL i).2.2 (supN i) wc) := hcut
      obtain ⟨t4c, t4f⟩ := row_cell hcut.row (j := 4) (by simp)
      obtain ⟨t5c, t5f⟩ := row_cell hcut.row (j := 5) (by simp)
      simp only [List.getElem_toArray, List.getElem_cons_zero, List.getElem_cons_succ] at t4c t5c
      have hz1' : Hid (SYN.getD i.1 0 = z1) := hz1
      have hz2' : Hid (USG.getD i.1 0 = z2) := hz2
      clear hcut htc hm5 hz1 hz2 hkk'
      go_upto_region 11 with fail
      obtain ⟨W6, hW6⟩ : ∃ W6, (wc.setCell ⟨w.heap.size + 1, 4, none⟩ (.int .i64 z1)).setCell ⟨w.heap.size + 1, 5, none⟩ (.int .i64 z2) = W6 := ⟨_, rfl⟩
      rw [hW6]
      obtain ⟨m1, m2, m3, h3, h4⟩ := hmc.out
      have h1 : W6.heap[w.heap.size + 1]? = some (.cells #[.string (rowL i).1, al, .string (rowL i).2.2, .string (supN i), .int .i64 z1, .int .i64 z2] 86 (0, 0)) := by
        rw [← hW6]; exact Go.heap_setCell_same _ _ _ _ _ _ (Go.heap_setCell_same _ _ _ _ _ _ m1)
      have hoth6 : Hid (∀ y, y ≠ w.heap.size + 1 → W6.heap[y]? = wc.heap[y]?) := fun y hy => by
        rw [← hW6, Below.heap_setCell _ _ _ _ hy, Below.heap_setCell _ _ _ _ hy]
      have h2 : W6.heap[w.heap.size]? = some (.cells #[.string ⟨#[]⟩, .slice none 0 0, .string ⟨#[]⟩, .string ⟨#[]⟩, .int .i64 0, .int .i64 0] 86 (0, 0)) := (hoth6.out _ (by omega)).trans m2
      have hB6 : Hid (Below w.heap.size w W6) := by
        unfold Hid; rw [← hW6]
        refine Below.setCell (Below.setCell h3 ?_ _) ?_ _ <;> exact Nat.le_succ _
      obtain ⟨p0, _⟩ := row_cell h1 (j := 0) (by simp)
      obtain ⟨r0, f0⟩ := row_cell h2 (j := 0) (by simp)
      obtain ⟨p1, _⟩ := row_cell h1 (j := 1) (by simp)
      obtain ⟨r1, f1⟩ := row_cell h2 (j := 1) (by simp)
      obtain ⟨p2, _⟩ := row_cell h1 (j := 2) (by simp)
      obtain ⟨r2, f2⟩ := row_cell h2 (j := 2) (by simp)
      obtain ⟨p3, _⟩ := row_cell h1 (j := 3) (by simp)
      obtain ⟨r3, f3⟩ := row_cell h2 (j := 3) (by simp)
      obtain ⟨p4, _⟩ := row_cell h1 (j := 4) (by simp)
      obtain ⟨r4, f4⟩ := row_cell h2 (j := 4) (by simp)
      obtain ⟨p5, _⟩ := row_cell h1 (j := 5) (by simp)
      obtain ⟨r5, f5⟩ := row_cell h2 (j := 5) (by simp)
      simp only [List.getElem_toArray, List.getElem_cons_zero, List.getElem_cons_succ] at p0 p1 p2 p3 p4 p5 r0 r1 r2 r3 r4 r5
      obtain ⟨al1, al2, al3, rfl⟩ : ∃ a1 a2 a3, al = .slice a1 a2 a3 := by
        rcases h4 with ⟨_, h⟩ | ⟨_, g, c, _, _, h, _⟩
        · exact ⟨_, _, _, h⟩
        · exact ⟨_, _, _, h⟩
      have hx3 : ¬ w.heap.size + 1 = w.heap.size := by omega
      have h4' := (show Hid _ from h4)
      have h2' : Hid (W6.heap[w.heap.size]? = some (.cells #[.string ⟨#[]⟩, .slice none 0 0, .string ⟨#[]⟩, .string ⟨#[]⟩, .int .i64 0, .int .i64 0] 86 (0, 0))) := h2
      clear h1 h2 m1 m2 m3 h3 h4 hW6 t4c t4f t5c t5f s1 s2 hmc
      go_wp2_with fail
      obtain ⟨Wf, hWf⟩ : ∃ Wf, ((((((W6.setCell ⟨w.heap.size, 0, none⟩ (.string (rowL i).1)).setCell ⟨w.heap.size, 1, none⟩ (.slice al1 al2 al3)).setCell ⟨w.heap.size, 2, none⟩ (.string (rowL i).2.2)).setCell ⟨w.heap.size, 3, none⟩ (.string (supN i))).setCell ⟨w.heap.size, 4, none⟩ (.int .i64 z1)).setCell ⟨w.heap.size, 5, none⟩ (.int .i64 z2)) = Wf := ⟨_, rfl⟩
      rw [hWf]
      have hf : Wf.heap[w.heap.size]? = some (.cells #[.string (rowL i).1, .slice al1 al2 al3, .string (rowL i).2.2, .string (supN i), .int .i64 z1, .int .i64 z2] 86 (0, 0)) := by
        rw [← hWf]
        exact Go.heap_setCell_same _ _ _ _ _ _ (Go.heap_setCell_same _ _ _ _ _ _ (Go.heap_setCell_same _ _ _ _ _ _ (Go.heap_setCell_same _ _ _ _ _ _ (Go.heap_setCell_same _ _ _ _ _ _ (Go.heap_setCell_same _ _ _ _ _ _ h2'.out)))))
      have hoth : ∀ y, y ≠ w.heap.size → Wf.heap[y]? = W6.heap[y]? := fun y hy => by
        rw [← hWf, Below.heap_setCell _ _ _ _ hy, Below.heap_setCell _ _ _ _ hy, Below.heap_setCell _ _ _ _ hy, Below.heap_setCell _ _ _ _ hy, Below.heap_setCell _ _ _ _ hy, Below.heap_setCell _ _ _ _ hy]
      have hBf : Below w.heap.size w Wf := by
        rw [← hWf]
        refine Below.setCell (Below.setCell (Below.setCell (Below.setCell (Below.setCell (Below.setCell hB6.out ?_ _) ?_ _) ?_ _) ?_ _) ?_ _) ?_ _ <;> exact Nat.le_refl _
      refine bodyPost_ret (v := .agg #[.string (rowL i).1, .slice al1 al2 al3, .string (rowL i).2.2, .string (supN i), .int .i64 z1, .int .i64 z2]) ?_ rfl ⟨_, rfl, ?_, hBf⟩
      · exact results_cell_row rfl _ _ w.heap.size 86 _ (0, 0) _ rfl hf Tryd.underlying86 rfl (by kernel_rfl)
      · refine ⟨_, by rw [hz1'.out, hz2'.out], ?_⟩
        rcases h4'.out with h4 | ⟨m6, g, c, q1, q2, q3, q4⟩
        · exact Or.inl h4
        · refine Or.inr ⟨m6, g, c, Nat.le_of_lt q1, q3, ?_⟩
          rw [World.cell?_of_block (w := wc) (a := ⟨g, 0, none⟩) ((hoth g (by omega)).trans (hoth6.out g q2))]
          exact q4
end Go.Proofs.YtdeeegocjgikoaaDoor

namespace Go.Proofs.YtdeeegocjgikoaaDoor
open Go.RowKit
open TextMath (fold lo)

set_option maxRecDepth 100000 in
set_option maxHeartbeats 400000 in
theorem refFind_any (s : ByteArray) (w : World) (hs : s.size ≤ 140737488355328) (ht : NumTab w) :
    Calls Tryd.prog 71 #[.string s] w fun e w' => FindIs w' w.heap.size (S (fold s.data.toList)) e ∧ Below w.heap.size w w' := by
  obtain ⟨f, hf⟩ : ∃ f, S (fold s.data.toList) = f := ⟨_, rfl⟩
  obtain ⟨Wa, hWa⟩ : ∃ Wa, w.alloc (.cells #[.string ⟨#[]⟩, .slice none 0 0, .string ⟨#[]⟩, .string ⟨#[]⟩, .int .i64 0, .int .i64 0] 86) = Wa := ⟨_, rfl⟩
  have hBa : Below w.heap.size w Wa := by rw [← hWa]; exact (Below.refl _ _).alloc (Nat.le_refl _) _
  have hra : Wa.heap[w.heap.size]? = some (.cells #[.string ⟨#[]⟩, .slice none 0 0, .string ⟨#[]⟩, .string ⟨#[]⟩, .int .i64 0, .int .i64 0] 86 (0, 0)) := by rw [← hWa]; exact heap_alloc_last w _
  have hF : Hid (Calls Tryd.prog 69 #[.string s] Wa fun e w' => e = .returned (.int .i64 (rowN f)) ∧ Below Wa.heap.size Wa w') := by
    have h := refRow_any s Wa hs
    rw [hf] at h
    exact h
  have hH : Hid (Below w.heap.size w Wa ∧ Wa.heap[w.heap.size]? = some (.cells #[.string ⟨#[]⟩, .slice none 0 0, .string ⟨#[]⟩, .string ⟨#[]⟩, .int .i64 0, .int .i64 0] 86 (0, 0)) ∧ NumTab w) := ⟨hBa, hra, ht⟩
  rw [hf]
  clear hBa hra ht hf
  go_enter Tryd.func71, Tryd.ntmps71
  go_wp2_with fail
  refine hF.out.mono ?_
  rintro e W4 ⟨rfl, hb1⟩
  have hH4 : Hid (Below w.heap.size w W4 ∧ W4.heap[w.heap.size]? = some (.cells #[.string ⟨#[]⟩, .slice none 0 0, .string ⟨#[]⟩, .string ⟨#[]⟩, .int .i64 0, .int .i64 0] 86 (0, 0)) ∧ NumTab w) :=
    ⟨hH.out.1.trans (hb1.mono hH.out.1.size), (hb1.block _ (Array.getElem?_eq_some_iff.1 hH.out.2.1).1).trans hH.out.2.1, hH.out.2.2⟩
  clear hH hb1 hF hWa
  obtain ⟨rn, hrn⟩ : ∃ rn, rowN f = rn := ⟨_, rfl⟩
  rw [hrn]
  obtain ⟨r0, f0⟩ := row_cell hH4.out.2.1 (j := 0) (by simp)
  obtain ⟨r1, f1⟩ := row_cell hH4.out.2.1 (j := 1) (by simp)
  obtain ⟨r2, f2⟩ := row_cell hH4.out.2.1 (j := 2) (by simp)
  obtain ⟨r3, f3⟩ := row_cell hH4.out.2.1 (j := 3) (by simp)
  obtain ⟨r4, f4⟩ := row_cell hH4.out.2.1 (j := 4) (by simp)
  obtain ⟨r5, f5⟩ := row_cell hH4.out.2.1 (j := 5) (by simp)
  simp only [List.getElem_toArray, List.getElem_cons_zero, List.getElem_cons_succ] at r0 r1 r2 r3 r4 r5
  cases hrow : rowOf f with
  | none =>
    have hrn' : rn = -1 := by rw [← hrn]; unfold rowN; rw [hrow]
    clear hrn
    subst hrn'
    go_wp2_with fail
    obtain ⟨Wf, hWf, k1, k2, k3⟩ := six hH4.out.2.1 (.string ⟨#[]⟩) (.slice none 0 0) (.string ⟨#[]⟩) (.string ⟨#[]⟩) (.int .i64 0) (.int .i64 0)
    rw [hWf]
    have hl := ld_type Wf w.heap.size _ k1 rfl
    refine bodyPost_ret (v := .tuple #[.agg #[.string ⟨#[]⟩, .slice none 0 0, .string ⟨#[]⟩, .string ⟨#[]⟩, .int .i64 0, .int .i64 0], .bool false]) ?_ rfl ⟨Or.inl ⟨hrow, rfl⟩, k3 _ _ (Nat.le_refl _) hH4.out.1⟩
    rw [results_cell_tmp rfl]
    simp [asAddr, hl, Result.andThen]
  | some i =>
    have hrn' : rn = (i.1 : Int) := by rw [← hrn]; unfold rowN; rw [hrow]
    clear hrn
    subst hrn'
    have hR : Hid (Calls Tryd.prog 85 #[.int .i64 (i.1 : Int)] W4 fun e w' => ∃ v, e = .returned v ∧ RowIs w' W4.heap.size i v ∧ Below W4.heap.size W4 w') := refRowTold_any i W4 (hH4.out.2.2.below hH4.out.1)
    have i0 : (0 : Int) ≤ (i.1 : Int) := Int.natCast_nonneg _
    have i1 : ¬ ((i.1 : Int) < 0) := by omega
    go_wp2_with fail
    refine hR.out.mono ?_
    rintro e W5 ⟨v, rfl, hrow5, hB5⟩
    have hR5 : W5.heap[w.heap.size]? = some (.cells #[.string ⟨#[]⟩, .slice none 0 0, .string ⟨#[]⟩, .string ⟨#[]⟩, .int .i64 0, .int .i64 0] 86 (0, 0)) := (hB5.block _ (Array.getElem?_eq_some_iff.1 hH4.out.2.1).1).trans hH4.out.2.1
    have hHB5 : Hid (Below w.heap.size w W5) := hH4.out.1.trans (hB5.mono hH4.out.1.size)
    have hlt4 : Hid (w.heap.size < W4.heap.size) := (Array.getElem?_eq_some_iff.1 hH4.out.2.1).1
    have hrow5' : Hid (RowIs W5 W4.heap.size i v) := hrow5
    obtain ⟨al, rfl, hal⟩ := hrow5
    obtain ⟨al1, al2, al3, rfl⟩ : ∃ a1 a2 a3, al = .slice a1 a2 a3 := by
      rcases hal with ⟨_, h⟩ | ⟨_, g, c, _, h, _⟩
      · exact ⟨_, _, _, h⟩
      · exact ⟨_, _, _, h⟩
    clear r0 r1 r2 r3 r4 r5 f0 f1 f2 f3 f4 f5
    obtain ⟨r0, f0⟩ := row_cell hR5 (j := 0) (by simp)
    obtain ⟨r1, f1⟩ := row_cell hR5 (j := 1) (by simp)
    obtain ⟨r2, f2⟩ := row_cell hR5 (j := 2) (by simp)
    obtain ⟨r3, f3⟩ := row_cell hR5 (j := 3) (by simp)
    obtain ⟨r4, f4⟩ := row_cell hR5 (j := 4) (by simp)
    obtain ⟨r5, f5⟩ := row_cell hR5 (j := 5) (by simp)
    simp only [List.getElem_toArray, List.getElem_cons_zero, List.getElem_cons_succ] at r0 r1 r2 r3 r4 r5
    generalize SYN.getD i.1 0 = y1 at *
    generalize USG.getD i.1 0 = y2 at *
    have hR5' : Hid (W5.heap[w.heap.size]? = some (.cells #[.string ⟨#[]⟩, .slice none 0 0, .string ⟨#[]⟩, .string ⟨#[]⟩, .int .i64 0, .int .i64 0] 86 (0, 0))) := hR5
    clear hR5 hB5 hR hal hH4
    go_wp2_with fail
    obtain ⟨Wf, hWf, k1, k2, k3⟩ := six hR5'.out (.string (rowL i).1) (.slice al1 al2 al3) (.string (rowL i).2.2) (.string (supN i)) (.int .i64 y1) (.int .i64 y2)
    rw [hWf]
    have hl := ld_type Wf w.heap.size _ k1 rfl
    refine bodyPost_ret (v := .tuple #[.agg #[.string (rowL i).1, .slice al1 al2 al3, .string (rowL i).2.2, .string (supN i), .int .i64 y1, .int .i64 y2], .bool true]) ?_ rfl ⟨Or.inr ⟨i, _, hrow, rfl, ?_⟩, k3 _ _ (Nat.le_refl _) hHB5.out⟩
    · rw [results_cell_tmp rfl]
      simp [asAddr, hl, Result.andThen]
    · have h := hrow5'.out.of (W' := Wf) (fun y hy _ => k2 y (by have := hlt4.out; omega))
      obtain ⟨al, e, h4⟩ := h
      refine ⟨al, e, ?_⟩
      rcases h4 with h4 | ⟨m6, g, c, q1, q3, q4⟩
      · exact Or.inl h4
      · exact Or.inr ⟨m6, g, c, by have := hlt4.out; omega, q3, q4⟩
end Go.Proofs.YtdeeegocjgikoaaDoor
