import Derived.Test.YtdeeegocjgikoaaDoorK8
import Derived.Test.YtdeeegocjgikoaaDoorK1
import Derived.Shelf.Strings.Builder1
import Derived.Lib.AppendZeros
namespace Go.Proofs.YtdeeegocjgikoaaDoor
open TextMath (fold lo)
set_option linter.unusedVariables false

theorem while_drop (K : List UInt8) : K = K.takeWhile isK ++ K.drop (K.takeWhile isK).length := by
  have h := List.take_append_drop (K.takeWhile isK).length K
  rw [take_while] at h
  exact h.symm
/-- What a whole description looks like from a place on. -/
theorem dscE_inv (s : ByteArray) : ∀ (n e : Nat) (acc r : List (List UInt8)) (m : Nat), e ≤ s.size → dscE s n e acc = (r, m, true) → m = s.size ∧ ∃ zs, r = acc ++ zs ∧ s.data.toList.drop e = semis zs ∧ ∀ z ∈ zs, z ≠ [] ∧ ∀ b ∈ z, isK b = true
  | 0, e, acc, r, m, he, h => by
    unfold dscE at h
    injection h with _ h
    injection h with _ h
    cases h
  | n + 1, e, acc, r, m, he, h => by
    unfold dscE at h
    by_cases hlt : e < s.size
    · rw [if_pos hlt] at h
      by_cases h59 : (s.data.toList.getD e 0).toNat = 59
      · rw [if_pos h59] at h
        by_cases h0 : runE isK s.data.toList (e + 1) = e + 1
        · rw [if_pos h0] at h
          injection h with _ h
          injection h with _ h
          cases h
        · rw [if_neg h0] at h
          have h1 := runE_le isK s.data.toList (e + 1) (by rw [size_l]; omega)
          rw [size_l] at h1
          obtain ⟨hm, zs, hr, hd, hz⟩ := dscE_inv s n _ _ r m h1.2 h
          have hlt' : e < s.data.toList.length := by rw [size_l]; exact hlt
          have hx : (s.extract (e + 1) (runE isK s.data.toList (e + 1))).data.toList = (s.data.toList.drop (e + 1)).takeWhile isK := by
            rw [ByteArray.data_extract, Array.toList_extract, List.extract_eq_take_drop]
            unfold runE
            rw [show e + 1 + ((s.data.toList.drop (e + 1)).takeWhile isK).length - (e + 1) = ((s.data.toList.drop (e + 1)).takeWhile isK).length by omega, take_while]
          rw [hx] at hr
          refine ⟨hm, (s.data.toList.drop (e + 1)).takeWhile isK :: zs, by rw [hr]; simp, ?_, ?_⟩
          · rw [semis_cons, ← hd, List.drop_eq_getElem_cons hlt']
            have e59 : s.data.toList[e] = 59 := by
              rw [List.getD, List.getElem?_eq_getElem hlt', Option.getD_some] at h59
              exact UInt8.toNat_inj.1 (by rw [h59]; rfl)
            rw [e59]
            congr 1
            have hk := while_drop (s.data.toList.drop (e + 1))
            rw [List.drop_drop] at hk
            unfold runE
            exact hk
          · intro z hz'
            rcases List.mem_cons.1 hz' with rfl | hz'
            · refine ⟨fun q => h0 ?_, fun b hb => mem_while isK _ b hb⟩
              unfold runE
              rw [q]
              rfl
            · exact hz z hz'
      · rw [if_neg h59] at h
        injection h with _ h
        injection h with _ h
        cases h
    · rw [if_neg hlt] at h
      injection h with h1 h
      injection h with h2 _
      refine ⟨by omega, [], by rw [← h1]; simp, ?_, by simp⟩
      rw [List.drop_of_length_le (by rw [size_l]; omega)]
      rfl
/-- A whole description is its type and its options; its type is whole. -/
theorem desc_inv (f : ByteArray) (h : (desc f).2.2 = true) : f.data.toList = (typD f).data.toList ++ semis (desc f).1 ∧ typE (typD f).data.toList = ((typD f).data.toList.length, true) ∧ (desc f).2.1 = f.size ∧ ∀ z ∈ (desc f).1, z ≠ [] ∧ ∀ b ∈ z, isK b = true := by
  have hT : (typE f.data.toList).2 = true := by
    unfold desc at h
    by_cases q : (typE f.data.toList).2 = true
    · exact q
    · rw [if_neg q] at h; cases h
  have hle := typE_le f.data.toList
  obtain ⟨r, m, b, hd⟩ : ∃ r m b, desc f = (r, m, b) := ⟨_, _, _, rfl⟩
  rw [hd] at h ⊢
  have hb : b = true := h
  subst hb
  unfold desc at hd
  rw [if_pos hT] at hd
  obtain ⟨hm, zs, hr, hdr, hz⟩ := dscE_inv f _ _ [] r m (by rw [size_l] at hle; exact hle) hd
  rw [List.nil_append] at hr
  subst hr
  have hty : (typD f).data.toList = f.data.toList.take (typE f.data.toList).1 := by
    unfold typD
    rw [ByteArray.data_extract, Array.toList_extract, List.extract_eq_take_drop]
    simp
  have hsp : f.data.toList = (typD f).data.toList ++ semis r := by
    rw [hty, ← hdr, List.take_append_drop]
  refine ⟨hsp, ?_, hm, hz⟩
  have he : typE f.data.toList = typE (typD f).data.toList := by
    conv => lhs; rw [hsp]
    exact typE_semis _ _
  rw [← he]
  refine Prod.ext ?_ hT
  show (typE f.data.toList).1 = _
  rw [hty, List.length_take]
  omega
end Go.Proofs.YtdeeegocjgikoaaDoor

namespace Go.Proofs.YtdeeegocjgikoaaDoor
open TextMath (fold lo)
set_option linter.unusedVariables false

theorem fold_id_iff (l : List UInt8) : fold l = l ↔ ∀ b ∈ l, lo b = b := by
  unfold fold
  induction l with
  | nil => simp
  | cons a l ih =>
    rw [List.map_cons, List.cons.injEq, ih]
    simp
theorem mem_semis (zs : List (List UInt8)) (z : List UInt8) (hz : z ∈ zs) (b : UInt8) (hb : b ∈ z) : b ∈ semis zs := by
  unfold semis
  rw [List.mem_flatMap]
  exact ⟨z, hz, List.mem_cons_of_mem _ hb⟩
/-- A canonical type: whole, folded, its own canonical type; what stands above it and its syntax are the type's. -/
theorem can_type (t : ByteArray) (hT : typE t.data.toList = (t.data.toList.length, true)) (hf : fold t.data.toList = t.data.toList) :
    typE (canN t).data.toList = ((canN t).data.toList.length, true) ∧ fold (canN t).data.toList = (canN t).data.toList ∧ canN (canN t) = canN t ∧ lin (canN t) = lin t ∧ synN (canN t) = synN t := by
  cases hr : rowOf t with
  | none =>
    have hc := (lin_none t hr).2
    rw [hc]
    exact ⟨hT, hf, hc, rfl, rfl⟩
  | some i =>
    obtain ⟨h1, h2⟩ := lin_row t i hr
    obtain ⟨r1, r2, r3⟩ := row_facts i
    have hS : canN t = S (nmN i.val) := by rw [← h2, S_of]
    obtain ⟨n1, n2, n3, n4, n5⟩ := name_facts i.val i.2
    rw [h2, hS]
    refine ⟨r2, r1, n3, by rw [n4, h1], ?_⟩
    rw [n5]
    unfold synN
    rw [hr]
/-- A canonical text reads back as itself. -/
theorem can_back (f : ByteArray) (x : List UInt8) (hok : (desc f).2.2 = true) (hf : fold f.data.toList = f.data.toList) (hx : CanIs f x) :
    fold x = x ∧ ∃ L, L.Nodup ∧ (∀ z, z ∈ L ↔ z ∈ (desc f).1) ∧ x = (canN (typD f)).data.toList ++ semis (srt L) ∧ desc (S x) = (srt L, (S x).size, true) ∧ typD (S x) = canN (typD f) := by
  obtain ⟨i1, i2, i3, i4⟩ := desc_inv f hok
  obtain ⟨L, l1, l2, rfl⟩ := hx
  have hb := (fold_id_iff _).1 hf
  have hft : fold (typD f).data.toList = (typD f).data.toList := (fold_id_iff _).2 (fun b q => hb b (by rw [i1]; exact List.mem_append_left _ q))
  obtain ⟨t1, t2, t3, t4, t5⟩ := can_type (typD f) i2 hft
  have hz : ∀ z ∈ srt L, z ≠ [] ∧ ∀ b ∈ z, isK b = true := fun z hz => i4 z ((l2 z).1 ((srt_mem L z).1 hz))
  have hd := desc_semis (canN (typD f)).data.toList (srt L) t1 hz
  refine ⟨?_, L, l1, l2, rfl, hd.1, by rw [hd.2, S_of]⟩
  rw [fold_app, t2, fold_semis]
  congr 2
  have : ∀ z ∈ srt L, fold z = z := fun z hz => (fold_id_iff z).2 (fun b q => hb b (by rw [i1]; exact List.mem_append_right _ (mem_semis _ z ((l2 z).1 ((srt_mem L z).1 hz)) b q)))
  have hm : (srt L).map fold = (srt L).map id := List.map_congr_left (fun z hz => this z hz)
  rw [hm, List.map_id]
theorem srt_srt (L : List (List UInt8)) (hn : L.Nodup) (K : List (List UInt8)) (kn : K.Nodup) (h : ∀ z, z ∈ K ↔ z ∈ srt L) : srt K = srt L :=
  srt_same K L kn hn (fun z => by rw [h, srt_mem])
theorem srt_up (L : List (List UInt8)) (hn : L.Nodup) : (srt L).Pairwise (fun x y => x < y) := by
  have hnd : (srt L).Nodup := (List.Nodup.perm hn) (srt_perm L).symm
  have hp := (srt_ord L).and hnd
  refine hp.imp ?_
  rintro x y ⟨h1, h2⟩
  rcases Classical.em (x < y) with h | h
  · exact h
  · exact absurd (List.le_antisymm (of_decide_eq_true h1) h) h2
end Go.Proofs.YtdeeegocjgikoaaDoor

namespace Go.Proofs.YtdeeegocjgikoaaDoor
open Go.RowKit Go.Shelf

def ren169 : Go.Shelf.Ren := ⟨fun | 169 => 44 | n => n, fun | 70 => 69 | 9 => 9 | 0 => 0 | 72 => 72 | 37 => 70 | 127 => 100 | 3 => 3 | 5 => 5 | n => n, fun | n => n⟩
theorem lays169 : Go.Proofs.Lays.n169 Tryd.prog ren169 := {
  mixed := by kernel_rfl
  f169 := Tryd.func44.trans (congrArg some (by kernel_rfl))
  t0 := Tryd.underlying0
  a0 := Tryd.isAgg0
  z0 := Tryd.sizeOf0
  v0 := Tryd.zeroValue0
  t3 := Tryd.underlying3
  a3 := Tryd.isAgg3
  z3 := Tryd.sizeOf3
  v3 := Tryd.zeroValue3
  t9 := Tryd.underlying9
  a9 := Tryd.isAgg9
  z9 := Tryd.sizeOf9
  v9 := Tryd.zeroValue9
  t37 := Tryd.underlying70
  a37 := Tryd.isAgg70
  z37 := Tryd.sizeOf70
  v37 := Tryd.zeroValue70
  t70 := Tryd.underlying69
  a70 := Tryd.isAgg69
  z70 := Tryd.sizeOf69
  v70 := Tryd.zeroValue69
  t72 := Tryd.underlying72
  a72 := Tryd.isAgg72
  z72 := Tryd.sizeOf72
  v72 := Tryd.zeroValue72
  t127 := Tryd.underlying100
  a127 := Tryd.isAgg100
  z127 := Tryd.sizeOf100
  v127 := Tryd.zeroValue100 }
theorem extra169 : Builder.Extra Tryd.prog ren169 := {
  sizeBuilder := by kernel_rfl
  liesBuilder := by kernel_rfl
  t5 := Tryd.underlying5
  a5 := Tryd.isAgg5
  z5 := Tryd.sizeOf5
  v5 := Tryd.zeroValue5
  infoByte := by kernel_rfl
  cellsByte := by kernel_rfl
  sizeByte := by kernel_rfl
  neB5 := by decide }
/-- A builder that holds the bytes l. -/
def IsB (B b : Nat) (l : List UInt8) (w : World) : Prop := Lib.IsBuilder 72 5 B b (bv l) w
theorem bytes_bv (l : List UInt8) : Lib.byteCells l = bv l := rfl
theorem bString_any (B b : Nat) (l : List UInt8) (w : World) (h : IsB B b l w) (hBw : B ≤ w.heap.size) :
    Calls Tryd.prog 44 #[.pointer (some ⟨b, 0, none⟩)] w fun e w' => e = .returned (.string (S l)) ∧ Below B w w' := Any.Builder_String_any lays169 extra169 B b l w h hBw

set_option maxHeartbeats 1000000 in
set_option maxRecDepth 100000 in
theorem copyCheck_any (B b : Nat) (l : List UInt8) (w : World) (h : IsB B b l w) :
    Calls Tryd.prog 61 #[.pointer (some ⟨b, 0, none⟩)] w fun e w' => e = .returned (.tuple #[]) ∧ Lib.BuilderAt 72 5 B b (.pointer (some ⟨b, 0, none⟩)) (bv l) w' ∧ Below B w w' := by
  obtain ⟨j, hj, hjs⟩ := Option.map_eq_some_iff.1 extra169.sizeBuilder
  rcases h with h | h
  · have h0 := h.cell0
    have hsh := h.shape
    have hfz := h.frozen0
    go_enter Tryd.func61, Tryd.ntmps61
    go_wp2
    rw [Lib.run_to_unsafe w ⟨b, 0, none⟩ Tryd.underlying69 Tryd.underlying119 hj (by rw [hjs]; decide) hsh (Nat.zero_lt_succ 1)]
    simp only [Result.andThen]
    rw [Oper.upon_value]
    go_wp2
    rw [run_callFunc_extern Tryd.func81 (by kernel_rfl) (by kernel_rfl) (by kernel_rfl) (e := Extern.AbiNoEscape.same) (by kernel_rfl)]
    rw [Lib.run_noEscape]
    simp only [Result.andThen]
    rw [Oper.upon_value]
    go_wp2
    rw [Lib.run_from_unsafe w ⟨b, 0, none⟩ Tryd.underlying119 Tryd.underlying69 hj hsh extra169.liesBuilder]
    simp only [Result.andThen]
    rw [Oper.upon_value]
    go_wp2
    go_end0
    exact ⟨rfl, h.used _, (Below.refl B w).setCell (p := ⟨b, 0, none⟩) h.1 _⟩
  · have h0 := h.cell0
    go_enter Tryd.func61, Tryd.ntmps61
    go_wp2
    rw [Lib.run_neq_ptr_same w _ Tryd.underlying69 hj]
    go_wp2
    go_end0
    exact ⟨rfl, h, Below.refl B _⟩

set_option maxHeartbeats 1000000 in
set_option maxRecDepth 100000 in
theorem writeByte_any (B b : Nat) (l : List UInt8) (c : UInt8) (w : World) (h : IsB B b l w) (hlen : l.length ≤ 1099511627776) (hBw : B ≤ w.heap.size) :
    Calls Tryd.prog 43 #[.pointer (some ⟨b, 0, none⟩), .int .u8 (c.toNat : Int)] w fun e w' => e = .returned .nilIface ∧ IsB B b (l ++ [c]) w' ∧ Below B w w' := by
  go_enter Tryd.func43, Tryd.ntmps43
  go_wp2_with (go_at_call 61; refine (copyCheck_any B b l _ h).mono ?_)
  rintro e w1 ⟨rfl, h1, hb1⟩
  obtain ⟨hB, v, hbk, hown, hne⟩ := h1
  have c0 : w1.cell? ⟨b, 0, none⟩ = some (.pointer (some ⟨b, 0, none⟩)) := by rw [Lib.cell_of_heap hbk]; rfl
  have c1 : w1.cell? ⟨b, 1, none⟩ = some v := by rw [Lib.cell_of_heap hbk]; rfl
  obtain ⟨i0, hi, hz0, hz1, hz2⟩ := info_parts info_u8
  have hlt : b < w1.heap.size := by
    rcases Nat.lt_or_ge b w1.heap.size with h' | h'
    · exact h'
    · simp [Array.getElem?_eq_none h'] at hbk
  have hn1 : w.heap.size ≤ w1.heap.size := hb1.size
  have hbl : Hid ((bv l).length = l.length) := bv_len l
  go_wp2_with (at_builtin; refine wpList_append_own _ rfl _ _ 70 rfl B 5 i0 (.int .u8 0) 1 1 Tryd.underlying70 hi hz0 hz1 hz2 rfl (by decide) _ _ _ rfl (hown.alloc _) ⟨w1.heap.size, 0, none⟩ 1 1 [.int .u8 (c.toNat : Int)] rfl rfl ?_ ?_ ?_ ?_ ?_ ?_)
  · exact cell_one_new _ _ _
  · intro u hu; simp at hu; subst hu; rfl
  · have := hbl.out; unfold maxLen; omega
  · have := hbl.out; omega
  · simp; omega
  intro v' w2 hown' hgrow _
  have hb2 : w2.heap[b]? = some (.cells #[.pointer (some ⟨b, 0, none⟩), v] 72 (0, 0)) := by
    rw [hgrow.block b (by simp; omega) (fun e => hne e.symm), Lib.alloc_old w1 _ b hlt]
    exact hbk
  have d0 : w2.cell? ⟨b, 0, none⟩ = some (.pointer (some ⟨b, 0, none⟩)) := by rw [Lib.cell_of_heap hb2]; rfl
  have d1 : w2.cell? ⟨b, 1, none⟩ = some v := by rw [Lib.cell_of_heap hb2]; rfl
  have f1 : w2.frozen? ⟨b, 1, none⟩ = false := Lib.frozen_of_heap hb2 1
  obtain ⟨g, cap, rfl⟩ : ∃ g cap, v' = .slice (some ⟨g, 0, none⟩) ((bv l).length + 1) cap := by
    rcases hown'.2 with ⟨_, h0⟩ | ⟨g, cap, cur, hv, _⟩
    · omega
    · exact ⟨g, cap, hv⟩
  go_wp2
  go_ret
  refine ⟨rfl, Or.inr ?_, ?_⟩
  · rw [bv_app]
    exact Lib.BuilderAt.put (T := 72) (e := 5) hB hb2 (bs' := bv l ++ [.int .u8 (c.toNat : Int)]) (by simpa using hown') (by decide)
  · exact ((hb1.alloc (by omega) _).grown hgrow (by simp; omega) (fun k hk => (hown.lt k hk).1)).setCell (p := ⟨b, 1, none⟩) hB _

set_option maxHeartbeats 1000000 in
set_option maxRecDepth 100000 in
theorem writeString_any (B b : Nat) (l : List UInt8) (s : ByteArray) (w : World) (h : IsB B b l w) (hlen : l.length + s.size ≤ 1099511627776) (hBw : B ≤ w.heap.size) :
    Calls Tryd.prog 42 #[.pointer (some ⟨b, 0, none⟩), .string s] w fun e w' => e = .returned (.tuple #[.int .i64 s.size, .nilIface]) ∧ IsB B b (l ++ s.data.toList) w' ∧ Below B w w' := by
  go_enter Tryd.func42, Tryd.ntmps42
  go_wp2_with (go_at_call 61; refine (copyCheck_any B b l _ h).mono ?_)
  rintro e w1 ⟨rfl, h1, hb1⟩
  obtain ⟨hB, v, hbk, hown, hne⟩ := h1
  have c0 : w1.cell? ⟨b, 0, none⟩ = some (.pointer (some ⟨b, 0, none⟩)) := by rw [Lib.cell_of_heap hbk]; rfl
  have c1 : w1.cell? ⟨b, 1, none⟩ = some v := by rw [Lib.cell_of_heap hbk]; rfl
  obtain ⟨i0, hi, hz0, hz1, hz2⟩ := info_parts info_u8
  have hlt : b < w1.heap.size := by
    rcases Nat.lt_or_ge b w1.heap.size with h' | h'
    · exact h'
    · simp [Array.getElem?_eq_none h'] at hbk
  have hn1 : w.heap.size ≤ w1.heap.size := hb1.size
  have hbl : Hid ((bv l).length = l.length) := bv_len l
  go_wp2_with (at_builtin; refine Lib.wpList_append_own_string _ rfl _ _ 70 9 rfl B 5 i0 Tryd.underlying70 Tryd.underlying9 hi hz0 hz1 hz2 _ _ _ rfl hown s rfl ?_ ?_ ?_ ?_)
  · have := hbl.out; unfold maxLen; omega
  · have := hbl.out; omega
  · omega
  intro v' w2 hown' hgrow _
  have hb2 : w2.heap[b]? = some (.cells #[.pointer (some ⟨b, 0, none⟩), v] 72 (0, 0)) := by
    rw [hgrow.block b hlt (fun e => hne e.symm)]
    exact hbk
  have d0 : w2.cell? ⟨b, 0, none⟩ = some (.pointer (some ⟨b, 0, none⟩)) := by rw [Lib.cell_of_heap hb2]; rfl
  have d1 : w2.cell? ⟨b, 1, none⟩ = some v := by rw [Lib.cell_of_heap hb2]; rfl
  have f1 : w2.frozen? ⟨b, 1, none⟩ = false := Lib.frozen_of_heap hb2 1
  obtain ⟨ao, n', cap, rfl⟩ : ∃ ao n' cap, v' = .slice ao n' cap := by
    rcases hown'.2 with ⟨hv, _⟩ | ⟨g, cap, cur, hv, _⟩
    · exact ⟨_, _, _, hv⟩
    · exact ⟨_, _, _, hv⟩
  go_wp2
  go_ret2
  refine ⟨rfl, Or.inr ?_, ?_⟩
  · rw [bv_app]
    exact Lib.BuilderAt.put (T := 72) (e := 5) hB hb2 (bs' := bv l ++ Lib.strCells s) (by simpa [Lib.strCells_length] using hown') (by decide)
  · exact (hb1.grown hgrow (by omega) (fun k hk => (hown.lt k hk).1)).setCell (p := ⟨b, 1, none⟩) hB _
end Go.Proofs.YtdeeegocjgikoaaDoor

namespace Go.Proofs.YtdeeegocjgikoaaDoor
open Go.RowKit

/-- What Print writes, of the first i options. -/
def prt (t : List UInt8) (X : Nat → ByteArray) : Nat → List UInt8
  | 0 => t
  | i + 1 => prt t X i ++ [59] ++ (X i).data.toList
theorem prt_len (t : List UInt8) (X : Nat → ByteArray) (i : Nat) : (prt t X i).length = t.length + tot X i := by
  induction i with
  | zero => rfl
  | succ i ih =>
    show (prt t X i ++ [59] ++ (X i).data.toList).length = t.length + (tot X i + ((X i).size + 1))
    rw [List.length_append, List.length_append, ih, size_l]
    simp
    omega
theorem heap_new_cells (w : World) (o : Obj) : (w.alloc o).heap[w.heap.size]? = some o := heap_alloc_new w o

set_option maxRecDepth 100000 in
set_option maxHeartbeats 1000000 in
theorem attrPrint_any (t : ByteArray) (a : Option Addr) (n c : Nat) (X : Nat → ByteArray) (w : World) (hX : Strs w a n X) (hsz : t.size + tot X n ≤ 4194304) :
    Calls Tryd.prog 26 #[.agg #[.string t, .slice a n c]] w fun e w' => e = .returned (.string (S (prt t.data.toList X n))) ∧ Below w.heap.size w w' := by
  have hn : n ≤ 4194304 := by have := tot_ge X n; omega
  have hsz0 : Hid (t.size + tot X n ≤ 4194304) := hsz
  obtain ⟨W0, hW0⟩ : ∃ W0, (w.alloc (.cells #[.string t, .slice a n c] 49)).alloc (.cells #[.pointer none, .slice none 0 0] 72) = W0 := ⟨_, rfl⟩
  have hI0 : IsB (w.heap.size + 1) (w.heap.size + 1) [] W0 := by
    have h := Lib.fresh_isBuilder 72 5 (w.alloc (.cells #[.string t, .slice a n c] 49))
    rw [World.size_alloc, hW0] at h
    exact h
  have HB0 : Below w.heap.size w W0 := by rw [← hW0]; exact ((Below.refl _ _).alloc (Nat.le_refl _) _).alloc (by simp) _
  have hs0 : Hid (W0.heap.size = w.heap.size + 2) := by unfold Hid; rw [← hW0]; simp
  have q0 : W0.cell? ⟨w.heap.size, 0, none⟩ = some (.string t) := by rw [← hW0]; simp [go_sem]
  have q1 : W0.cell? ⟨w.heap.size, 1, none⟩ = some (.slice a n c) := by rw [← hW0]; simp [go_sem]
  have hws : Hid (Calls Tryd.prog 42 #[.pointer (some ⟨w.heap.size + 1, 0, none⟩), .string t] W0 fun e w' => e = .returned (.tuple #[.int .i64 t.size, .nilIface]) ∧ IsB (w.heap.size + 1) (w.heap.size + 1) ([] ++ t.data.toList) w' ∧ Below (w.heap.size + 1) W0 w') := writeString_any _ _ [] t W0 hI0 (by simp; omega) (by have := hs0.out; omega)
  clear hI0 hsz
  go_enter Tryd.func26, Tryd.ntmps26
  go_wp2_with fail
  refine hws.out.mono ?_
  rintro e w1 ⟨rfl, hI1, hb1⟩
  have q1' : w1.cell? ⟨w.heap.size, 1, none⟩ = some (.slice a n c) := by rw [hb1.cell (by simp)]; exact q1
  have HB1 : Hid (Below w.heap.size w w1) := HB0.trans (hb1.mono (by omega))
  have hs1 : Hid (w.heap.size + 2 ≤ w1.heap.size) := by have := hs0.out; have := hb1.size; unfold Hid; omega
  have hI1' : Hid (IsB (w.heap.size + 1) (w.heap.size + 1) t.data.toList w1) := hI1
  clear q1 q0 HB0 hb1 hI1 hW0 hws
  go_wp2_with fail
  go_loopw [12] (fun iv wr => ∃ i : Nat, i ≤ n ∧ iv = .int .i64 (i : Int) ∧ Hid (IsB (w.heap.size + 1) (w.heap.size + 1) (prt t.data.toList X i) wr) ∧ Hid (Below (w.heap.size + 1) w1 wr)) (fun iv _ => n - (intOf iv).toNat)
  case atStart => exact ⟨0, Nat.zero_le _, rfl, hI1', Below.refl _ _⟩
  case round =>
    obtain ⟨i, hi, rfl, hI, hB⟩ := hrel
    clear hI1'
    have HB : Below w.heap.size w wr := HB1.out.trans (hB.out.mono (by omega))
    have hl := prt_len t.data.toList X i
    have htm := tot_mono X i n hi
    rw [size_l] at hl
    by_cases hlt : i < n
    · obtain ⟨b, off, rfl, hc⟩ := (hX.below HB) i hlt
      have htm2 : tot X i + ((X i).size + 1) ≤ tot X n := tot_mono X (i + 1) n hlt
      have hwr : w.heap.size + 1 ≤ wr.heap.size := by have := hs1.out; have := hB.out.size; omega
      have hz := hsz0.out
      have hlen : Hid ((prt t.data.toList X i).length ≤ 1099511627776) := by unfold Hid; omega
      have hlen2 : Hid ((prt t.data.toList X i ++ [59]).length + (X i).size ≤ 1099511627776) := by unfold Hid; rw [List.length_append]; simp; omega
      have hwb : Hid (Calls Tryd.prog 43 #[.pointer (some ⟨w.heap.size + 1, 0, none⟩), .int .u8 59] wr fun e w' => e = .returned .nilIface ∧ IsB (w.heap.size + 1) (w.heap.size + 1) (prt t.data.toList X i ++ [59]) w' ∧ Below (w.heap.size + 1) wr w') := writeByte_any _ _ _ 59 wr hI.out hlen.out hwr
      have hwr' : Hid (w.heap.size + 1 ≤ wr.heap.size) := hwr
      have i0 : (0 : Int) ≤ (i : Int) := Int.natCast_nonneg _
      have i1 : (i : Int) < (n : Int) := Int.ofNat_lt.2 hlt
      clear htm htm2 hl hI hwr hz HB
      go_wp2_with fail
      refine hwb.out.mono ?_
      rintro e w2 ⟨rfl, hI2, hb2⟩
      have hn2 : w.heap.size + 1 ≤ w2.heap.size := Nat.le_trans hwr'.out hb2.size
      have hws : Hid (Calls Tryd.prog 42 #[.pointer (some ⟨w.heap.size + 1, 0, none⟩), .string (X i)] w2 fun e w' => e = .returned (.tuple #[.int .i64 (X i).size, .nilIface]) ∧ IsB (w.heap.size + 1) (w.heap.size + 1) (prt t.data.toList X i ++ [59] ++ (X i).data.toList) w' ∧ Below (w.heap.size + 1) w2 w') := writeString_any _ _ _ (X i) w2 hI2 hlen2.out hn2
      have hb2' : Hid (Below (w.heap.size + 1) w1 w2) := hB.out.trans hb2
      clear hI2 hb2 hn2 hwb
      go_wp2_with fail
      refine hws.out.mono ?_
      rintro e w3 ⟨rfl, hI3, hb3⟩
      have hI3' : Hid (IsB (w.heap.size + 1) (w.heap.size + 1) (prt t.data.toList X (i + 1)) w3) := hI3
      have hb3' : Hid (Below (w.heap.size + 1) w1 w3) := hb2'.out.trans hb3
      clear hI3 hb3 hws
      go_wp2_with fail
      go_roundw
      case rel => exact ⟨i + 1, hlt, by simp, hI3', hb3'⟩
      case measure => simp [intOf]; omega
    · have hie : i = n := by omega
      subst hie
      have hst : Hid (Calls Tryd.prog 44 #[.pointer (some ⟨w.heap.size + 1, 0, none⟩)] wr fun e w' => e = .returned (.string (S (prt t.data.toList X i))) ∧ Below (w.heap.size + 1) wr w') := bString_any _ _ _ wr hI.out (by have := hs1.out; have := hB.out.size; omega)
      have HB' : Hid (Below w.heap.size w wr) := HB
      clear hI hB hl htm HB
      go_wp2_with fail
      refine hst.out.mono ?_
      rintro e w2 ⟨rfl, hb2⟩
      have HB2 : Below w.heap.size w w2 := HB'.out.trans (hb2.mono (by omega))
      clear hb2 hst
      go_wp2_with fail
      go_ret
      exact ⟨rfl, HB2⟩
end Go.Proofs.YtdeeegocjgikoaaDoor

namespace Go.Proofs.YtdeeegocjgikoaaDoor
open Go.RowKit
open TextMath (fold lo)
set_option linter.unusedVariables false

theorem semis_erase (x : List UInt8) : ∀ O : List (List UInt8), x ∈ O → (semis O).length = x.length + 1 + (semis (O.erase x)).length
  | [], h => by simp at h
  | y :: O, h => by
    by_cases e : y = x
    · subst e
      rw [List.erase_cons_head, semis_cons]
      simp
      omega
    · have hx : x ∈ O := by
        rcases List.mem_cons.1 h with q | q
        · exact absurd q.symm e
        · exact q
      rw [List.erase_cons_tail (by simpa using e), semis_cons, semis_cons]
      have := semis_erase x O hx
      simp
      omega
theorem semis_sub : ∀ (K O : List (List UInt8)), K.Nodup → (∀ x ∈ K, x ∈ O) → (semis K).length ≤ (semis O).length
  | [], O, _, _ => by simp [semis]
  | x :: K, O, hn, hs => by
    have hx := hs x (by simp)
    rw [semis_erase x O hx, semis_cons]
    rw [List.nodup_cons] at hn
    have := semis_sub K (O.erase x) hn.2 (fun y hy => (List.mem_erase_of_ne (fun e => hn.1 (by rw [← e]; exact hy))).2 (hs y (by simp [hy])))
    simp
    omega
theorem dscE_sum (s : ByteArray) : ∀ n e acc, (semis acc).length ≤ e → e ≤ s.size → (semis (dscE s n e acc).1).length ≤ s.size
  | 0, e, acc, h, he => by simp [dscE, semis]
  | n + 1, e, acc, h, he => by
    unfold dscE
    split
    · rename_i hlt
      split
      · split
        · simp [semis]
        · have h1 := runE_le isK s.data.toList (e + 1) (by rw [size_l]; omega)
          rw [size_l] at h1
          refine dscE_sum s n _ _ ?_ h1.2
          rw [semis_snoc, List.length_append, List.length_cons, size_l, ByteArray.size_extract]
          omega
      · simp [semis]
    · show (semis acc).length ≤ _
      omega
theorem desc_sum (f : ByteArray) : (semis (desc f).1).length ≤ f.size := by
  unfold desc
  split
  · have h := typE_le f.data.toList
    rw [size_l] at h
    exact dscE_sum f _ _ [] (by simp [semis]) h
  · simp [semis]
theorem can_size (f : ByteArray) : (canN (typD f)).size ≤ f.size + 64 := by
  cases hr : rowOf (typD f) with
  | none =>
    rw [(lin_none _ hr).2]
    unfold typD
    rw [ByteArray.size_extract]
    omega
  | some i =>
    rw [← size_l, (lin_row _ i hr).2]
    have := nm_size i
    omega
theorem prt_semis (t : List UInt8) (X : Nat → ByteArray) (l : List (List UInt8)) (h : ∀ i (hi : i < l.length), (X i).data.toList = l[i]) : ∀ k, k ≤ l.length → prt t X k = t ++ semis (l.take k) ∧ tot X k = (semis (l.take k)).length
  | 0, _ => by simp [prt, semis]; rfl
  | k + 1, hk => by
    obtain ⟨h1, h2⟩ := prt_semis t X l h k (by omega)
    have hx := h k (by omega)
    have hz : (X k).size = l[k].length := by rw [← size_l, hx]
    rw [List.take_succ_eq_append_getElem (by omega : k < l.length), semis_snoc]
    constructor
    · show prt t X k ++ [59] ++ (X k).data.toList = _
      rw [h1, hx]
      simp
    · show tot X k + ((X k).size + 1) = _
      rw [h2, hz]
      simp
/-- What Canonical answers of a folded text. -/
def CnlIs (f : ByteArray) (e : Ending) : Prop :=
  ((desc f).2.2 = true ∧ ∃ x, CanIs f x ∧ e = .returned (.tuple #[.string (S x), .int .i64 0, .int .i64 ((desc f).2.1 : Int)])) ∨
  ((desc f).2.2 = false ∧ e = .returned (.tuple #[.string (S []), .int .i64 40, .int .i64 ((desc f).2.1 : Int)]))
set_option maxRecDepth 100000 in
set_option maxHeartbeats 1000000 in
theorem canonicalT_any (s f : ByteArray) (hf : S (fold s.data.toList) = f) (w : World) (hs : s.size ≤ 2097000) :
    Calls Tryd.prog 13 #[.string s] w fun e w' => CnlIs f e ∧ Below w.heap.size w w' := by
  have hP := parse_any s f hf w (by omega)
  have hfs : Hid (f.size ≤ 2097000) := by rw [← hf, fold_size]; exact hs
  go_enter Tryd.func13, Tryd.ntmps13
  go_wp2_with fail
  refine hP.mono ?_
  rintro e W1 ⟨hI, hb1⟩
  have o1 : Hid (Below w.heap.size w W1) := hb1
  clear hP hb1 hf hs
  rcases hI with ⟨ok, v, L, rfl, hO, hn, hm⟩ | ⟨ok, rfl⟩
  · obtain ⟨va, vc, rfl, hrow⟩ := ownS_trow hO
    have hprt := prt_semis (canN (typD f)).data.toList (fun i => S ((srt L).getD i [])) (srt L) (fun i hi => by rw [S_l, List.getD, List.getElem?_eq_getElem hi, Option.getD_some]) (srt L).length (Nat.le_refl _)
    rw [List.take_length] at hprt
    have hX : Strs W1 va (srt L).length (fun i => S ((srt L).getD i [])) := fun i hi => by
      obtain ⟨g, e, hc⟩ := hrow i hi
      refine ⟨g, 0, e, ?_⟩
      show W1.cell? _ = some (Value.string (S ((srt L).getD i [])))
      rw [Nat.zero_add, hc, List.getD, List.getElem?_eq_getElem hi, Option.getD_some]
    have hsub : (semis (srt L)).length ≤ f.size := Nat.le_trans (semis_sub _ _ ((List.Nodup.perm hn) (srt_perm L).symm) (fun x hx => (hm x).1 ((srt_mem L x).1 hx))) (desc_sum f)
    obtain ⟨W2, hW2⟩ : ∃ W2, W1.alloc (.cells #[.string (canN (typD f)), .slice va (srt L).length vc] 49) = W2 := ⟨_, rfl⟩
    have hB2 : Below W1.heap.size W1 W2 := by rw [← hW2]; exact (Below.refl _ _).alloc (Nat.le_refl _) _
    have hPr := attrPrint_any (canN (typD f)) va (srt L).length vc _ W2 (hX.below hB2) (by rw [hprt.2]; have := can_size f; have := hfs.out; omega)
    rw [hprt.1] at hPr
    have hcan : Hid (CanIs f ((canN (typD f)).data.toList ++ semis (srt L))) := ⟨L, hn, hm, rfl⟩
    have o2 : Hid (Below w.heap.size w W2) := o1.out.trans (hB2.mono o1.out.size)
    have ok' : Hid ((desc f).2.2 = true) := ok
    obtain ⟨r0, f0⟩ := row_cell (show W2.heap[W1.heap.size]? = some (.cells #[.string (canN (typD f)), .slice va (srt L).length vc] 49 (0, 0)) by rw [← hW2]; exact heap_alloc_last W1 _) (j := 0) (by simp)
    obtain ⟨r1, f1⟩ := row_cell (show W2.heap[W1.heap.size]? = some (.cells #[.string (canN (typD f)), .slice va (srt L).length vc] 49 (0, 0)) by rw [← hW2]; exact heap_alloc_last W1 _) (j := 1) (by simp)
    simp only [List.getElem_toArray, List.getElem_cons_zero, List.getElem_cons_succ] at r0 r1
    generalize (canN (typD f)).data.toList ++ semis (srt L) = x at *
    clear hprt hX hsub hO hn hm hrow hB2 ok
    go_wp2_with fail
    refine hPr.mono ?_
    rintro e W3 ⟨rfl, hb3⟩
    have o3 : Hid (Below w.heap.size w W3) := o2.out.trans (hb3.mono o2.out.size)
    clear hPr hb3 o2 hW2
    go_wp2_with fail
    go_ret3
    exact ⟨Or.inl ⟨ok'.out, x, hcan.out, rfl⟩, o3.out⟩
  · have hB2 : Below W1.heap.size W1 (W1.alloc (.cells #[.string ⟨#[]⟩, .slice none 0 0] 49)) := (Below.refl _ _).alloc (Nat.le_refl _) _
    have hPr := attrPrint_any ⟨#[]⟩ none 0 0 (fun _ => ⟨#[]⟩) (W1.alloc (.cells #[.string ⟨#[]⟩, .slice none 0 0] 49)) (fun i hi => by omega) (by show 0 + 0 ≤ _; omega)
    have o2 : Hid (Below w.heap.size w (W1.alloc (.cells #[.string ⟨#[]⟩, .slice none 0 0] 49))) := o1.out.trans (hB2.mono o1.out.size)
    have ok' : Hid ((desc f).2.2 = false) := ok
    obtain ⟨r0, f0⟩ := row_cell (heap_alloc_last W1 (.cells #[.string ⟨#[]⟩, .slice none 0 0] 49)) (j := 0) (by simp)
    obtain ⟨r1, f1⟩ := row_cell (heap_alloc_last W1 (.cells #[.string ⟨#[]⟩, .slice none 0 0] 49)) (j := 1) (by simp)
    simp only [List.getElem_toArray, List.getElem_cons_zero, List.getElem_cons_succ] at r0 r1
    clear hB2 ok
    go_wp2_with fail
    refine hPr.mono ?_
    rintro e W3 ⟨rfl, hb3⟩
    have o3 : Hid (Below w.heap.size w W3) := o2.out.trans (hb3.mono o2.out.size)
    clear hPr hb3 o2
    go_wp2_with fail
    go_ret3
    exact ⟨Or.inr ⟨ok'.out, rfl⟩, o3.out⟩
end Go.Proofs.YtdeeegocjgikoaaDoor
