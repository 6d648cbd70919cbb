import Derived.Test.YtfmhcgadgakbhaaDoorFxE
import Derived.Test.YtfmhcgadgakbhaaDoorFxI
import Derived.BigQuiet
import Derived.Test.YtfmhcgadgakbhaaDoorFxJ
import Derived.Test.YtfmhcgadgakbhaaDoorRfA
import Derived.Test.YtfmhcgadgakbhaaDoorFxH
import Derived.Test.YtfmhcgadgakbhaaDoorAtInv
namespace Go.Proofs.YtfmhcgadgakbhaaDoor
set_option linter.unusedVariables false

theorem less_iff : ∀ x y : List UInt8, Op.bytesLess x y = true ↔ x < y
  | _, [] => by simp [Op.bytesLess]
  | [], b :: y => by simp [Op.bytesLess]
  | a :: x, b :: y => by
    rw [List.cons_lt_cons_iff]
    unfold Op.bytesLess
    rw [Bool.or_eq_true, Bool.and_eq_true, decide_eq_true_iff, beq_iff_eq, less_iff x y]
/-- Strictly ascending. -/
def Up (r : List (List UInt8)) : Prop := r.Pairwise (fun x y => x < y)
theorem lt_transL {x y z : List UInt8} (h1 : x < y) (h2 : y < z) : x < z := List.lt_trans h1 h2
theorem lt_irreflL (x : List UInt8) : ¬ x < x := List.lt_irrefl x
theorem up_nodup {r : List (List UInt8)} (h : Up r) : r.Nodup := List.Pairwise.imp (S := fun a b => a ≠ b) (fun {a b} (hab : a < b) (e : a = b) => by subst e; exact lt_irreflL _ hab) h
theorem le_of_ltL {x y : List UInt8} (h : x < y) : x ≤ y := fun q => lt_irreflL x (lt_transL h q)
theorem up_eq {r k : List (List UInt8)} (hr : Up r) (hk : Up k) (h : ∀ z, z ∈ r ↔ z ∈ k) : r = k := by
  have hp : r.Perm k := (List.perm_ext_iff_of_nodup (up_nodup hr) (up_nodup hk)).2 h
  refine List.Perm.eq_of_pairwise (le := fun x y : List UInt8 => x ≤ y) ?_ (hr.imp le_of_ltL) (hk.imp le_of_ltL) hp
  intro x y _ _ h1 h2
  exact List.le_antisymm h1 h2
theorem eq_of_nlt {x y : List UInt8} (h1 : ¬ x < y) (h2 : ¬ y < x) : x = y := List.le_antisymm h2 h1
/-- How far a merging has come. -/
def Mg (a b : List (List UInt8)) (i j : Nat) (o : List (List UInt8)) : Prop :=
  Up o ∧ (∀ z ∈ o, z ∈ a ∨ z ∈ b) ∧ (∀ z ∈ a.take i, z ∈ o ∨ z ∈ b.drop j) ∧ (∀ z ∈ b.take j, z ∈ o) ∧ (∀ z ∈ o, (∀ y ∈ a.drop i, z < y) ∧ (∀ y ∈ b.drop j, z < y)) ∧ o.length ≤ i + j
theorem mg_start (a b : List (List UInt8)) : Mg a b 0 0 [] := ⟨List.Pairwise.nil, by simp, by simp, by simp, by simp, by simp⟩
theorem up_snoc {o : List (List UInt8)} {x : List UInt8} (h : Up o) (hx : ∀ z ∈ o, z < x) : Up (o ++ [x]) := by
  unfold Up
  rw [List.pairwise_append]
  exact ⟨h, List.pairwise_singleton _ _, fun z hz y hy => by rw [List.mem_singleton.1 hy]; exact hx z hz⟩
theorem up_head {a : List (List UInt8)} (h : Up a) {i : Nat} (hi : i < a.length) : ∀ y ∈ a.drop (i + 1), a[i] < y := by
  have h1 : Up (a.drop i) := List.Pairwise.sublist (List.drop_sublist i a) h
  rw [List.drop_eq_getElem_cons hi] at h1
  exact (List.pairwise_cons.1 h1).1
theorem mg_left {a b o : List (List UInt8)} {i j : Nat} (h : Mg a b i j o) (hi : i < a.length) (ha : Up a) (hx : ∀ y ∈ b.drop j, a[i] < y) : Mg a b (i + 1) j (o ++ [a[i]]) := by
  obtain ⟨h1, h2, h3, h4, h5, h6⟩ := h
  have hd := List.drop_eq_getElem_cons hi
  refine ⟨up_snoc h1 (fun z hz => (h5 z hz).1 _ (by rw [hd]; exact List.mem_cons_self)), fun z hz => ?_, fun z hz => ?_, fun z hz => List.mem_append_left _ (h4 z hz), fun z hz => ?_, ?_⟩
  · rcases List.mem_append.1 hz with hz | hz
    · exact h2 z hz
    · rw [List.mem_singleton.1 hz]; exact Or.inl (List.getElem_mem hi)
  · rw [List.take_succ_eq_append_getElem hi] at hz
    rcases List.mem_append.1 hz with hz | hz
    · rcases h3 z hz with q | q
      · exact Or.inl (List.mem_append_left _ q)
      · exact Or.inr q
    · exact Or.inl (List.mem_append_right _ hz)
  · rcases List.mem_append.1 hz with hz | hz
    · exact ⟨fun y hy => (h5 z hz).1 y (by rw [hd]; exact List.mem_cons_of_mem _ hy), (h5 z hz).2⟩
    · rw [List.mem_singleton.1 hz]; exact ⟨up_head ha hi, hx⟩
  · rw [List.length_append]; simp; omega
theorem mg_right {a b o : List (List UInt8)} {i j : Nat} (h : Mg a b i j o) (hj : j < b.length) (hb : Up b) (hx : ∀ y ∈ a.drop i, b[j] < y) : Mg a b i (j + 1) (o ++ [b[j]]) := by
  obtain ⟨h1, h2, h3, h4, h5, h6⟩ := h
  have hd := List.drop_eq_getElem_cons hj
  refine ⟨up_snoc h1 (fun z hz => (h5 z hz).2 _ (by rw [hd]; exact List.mem_cons_self)), fun z hz => ?_, fun z hz => ?_, fun z hz => ?_, fun z hz => ?_, ?_⟩
  · rcases List.mem_append.1 hz with hz | hz
    · exact h2 z hz
    · rw [List.mem_singleton.1 hz]; exact Or.inr (List.getElem_mem hj)
  · rcases h3 z hz with q | q
    · exact Or.inl (List.mem_append_left _ q)
    · rw [hd] at q
      rcases List.mem_cons.1 q with q | q
      · exact Or.inl (List.mem_append_right _ (List.mem_singleton.2 q))
      · exact Or.inr q
  · rw [List.take_succ_eq_append_getElem hj] at hz
    rcases List.mem_append.1 hz with hz | hz
    · exact List.mem_append_left _ (h4 z hz)
    · exact List.mem_append_right _ hz
  · rcases List.mem_append.1 hz with hz | hz
    · exact ⟨(h5 z hz).1, fun y hy => (h5 z hz).2 y (by rw [hd]; exact List.mem_cons_of_mem _ hy)⟩
    · rw [List.mem_singleton.1 hz]; exact ⟨hx, up_head hb hj⟩
  · rw [List.length_append]; simp; omega
theorem mg_skip {a b o : List (List UInt8)} {i j : Nat} (h : Mg a b i j o) (hi : i < a.length) (hj : j < b.length) (e : a[i] = b[j]) : Mg a b (i + 1) j o := by
  obtain ⟨h1, h2, h3, h4, h5, h6⟩ := h
  refine ⟨h1, h2, fun z hz => ?_, h4, fun z hz => ⟨fun y hy => (h5 z hz).1 y (by rw [List.drop_eq_getElem_cons hi]; exact List.mem_cons_of_mem _ hy), (h5 z hz).2⟩, by omega⟩
  rw [List.take_succ_eq_append_getElem hi] at hz
  rcases List.mem_append.1 hz with hz | hz
  · exact h3 z hz
  · right
    rw [List.mem_singleton.1 hz, e, List.drop_eq_getElem_cons hj]
    exact List.mem_cons_self
theorem mg_end {a b o : List (List UInt8)} (h : Mg a b a.length b.length o) : Up o ∧ (∀ z, z ∈ o ↔ z ∈ a ∨ z ∈ b) ∧ o.length ≤ a.length + b.length := by
  obtain ⟨h1, h2, h3, h4, h5, h6⟩ := h
  refine ⟨h1, fun z => ⟨h2 z, fun q => ?_⟩, h6⟩
  rw [List.take_length] at h3 h4
  rcases q with q | q
  · rcases h3 z q with r | r
    · exact r
    · rw [List.drop_length] at r; simp at r
  · exact h4 z q
theorem up_all {b : List (List UInt8)} (h : Up b) {j : Nat} (hj : j < b.length) {x : List UInt8} (hx : x < b[j]) : ∀ y ∈ b.drop j, x < y := by
  intro y hy
  rw [List.drop_eq_getElem_cons hj] at hy
  rcases List.mem_cons.1 hy with rfl | hy
  · exact hx
  · exact lt_transL hx (up_head h hj y hy)
end Go.Proofs.YtfmhcgadgakbhaaDoor

namespace Go.Proofs.YtfmhcgadgakbhaaDoor
open Go.RowKit
set_option linter.unusedVariables false

theorem Row.take {w : World} {a : Option Addr} {l : List (List UInt8)} (h : Row w a l) (k : Nat) : Row w a (l.take k) := fun i hi => by
  rw [List.length_take] at hi
  obtain ⟨b, off, e, h1⟩ := h i (by omega)
  refine ⟨b, off, e, ?_⟩
  rw [h1, List.getElem_take]
theorem Row.drop {w : World} {b off : Nat} {l : List (List UInt8)} (h : Row w (some ⟨b, off, none⟩) l) (k : Nat) : Row w (some ⟨b, off + k, none⟩) (l.drop k) := fun i hi => by
  rw [List.length_drop] at hi
  obtain ⟨b', off', e, h1⟩ := h (k + i) (by omega)
  injection e with e
  injection e with e1 e2
  subst e1 e2
  refine ⟨b, off + k, rfl, ?_⟩
  rw [Nat.add_assoc, h1, List.getElem_drop]
theorem drewN_belowS (W : World) (B q : Nat) : Below B W (W.drewN q) := ⟨rfl, rfl, rfl, Nat.le_refl _, fun _ _ => rfl⟩
theorem ownS_len {w : World} {B n cap : Nat} {a : Option Addr} {l : List (List UInt8)} (h : OwnS w B (.slice a n cap) l) : n ≤ cap := by
  rcases h with ⟨_, ⟨h1, _⟩ | ⟨g', cap', cur, h1, _, _, h5, _⟩⟩
  · injection h1 with _ h2 _
    rw [h2]
    exact Nat.zero_le _
  · injection h1 with h1 h2 h3
    subst h2 h3
    exact h5
/-- What sorted answers. -/
def SrtQ (l : List (List UInt8)) (a0 : Option Addr) (B : Nat) (W : World) (e : Ending) (w' : World) : Prop :=
  (∃ a r c, e = .returned (.slice a r.length c) ∧ Row w' a r ∧ Up r ∧ (∀ z, z ∈ r ↔ z ∈ l) ∧ r.length ≤ l.length ∧ r.length ≤ c ∧ (a = a0 ∨ ∀ b off, a = some ⟨b, off, none⟩ → B ≤ b)) ∧ Below B W w'
end Go.Proofs.YtfmhcgadgakbhaaDoor

namespace Go.Proofs.YtfmhcgadgakbhaaDoor
open Go.RowKit
open TextMath (fold lo)
set_option linter.unusedVariables false

set_option maxRecDepth 100000 in
set_option maxHeartbeats 1000000 in
theorem canonR_any (s : ByteArray) (w : World) (hs : s.size ≤ 140737488355328) :
    Calls Tryd.prog 51 #[.string s] w fun e w' => e = .returned (.string (canN (S (fold s.data.toList)))) ∧ Below w.heap.size w w' := by
  have hR := refRow_any s w hs
  have hF : ∀ W, Hid (Calls Tryd.prog 69 #[.string s] W fun e w' => e = .returned (.string (S (fold s.data.toList))) ∧ Below W.heap.size W w') := fun W => rFold_any s W hs
  generalize S (fold s.data.toList) = f at *
  go_enter Tryd.func51, Tryd.ntmps51
  go_wp2_with fail
  refine hR.mono ?_
  rintro e W1 ⟨rfl, hb1⟩
  have o1 : Hid (Below w.heap.size w W1) := hb1
  clear hR hb1
  cases hr : rowOf f with
  | none =>
    have hn : rowN f = -1 := by unfold rowN; rw [hr]
    have hc : Hid (canN f = f) := by unfold Hid canN; rw [hr]
    rw [hn]
    have hF1 := hF W1
    clear hn hr hF
    go_wp2_with fail
    refine hF1.out.mono ?_
    rintro e W2 ⟨rfl, hb2⟩
    have o2 : Hid (Below w.heap.size w W2) := o1.out.trans (hb2.mono o1.out.size)
    clear hF1 hb2
    go_wp2_with fail
    go_ret
    exact ⟨by rw [hc.out]; rfl, o2.out⟩
  | some i =>
    have hn : rowN f = (i.1 : Int) := by unfold rowN; rw [hr]
    have hc : Hid (canN f = (rowL i).1) := by unfold Hid canN; rw [hr]
    rw [hn]
    have i0 : (0 : Int) ≤ (i.1 : Int) := Int.natCast_nonneg _
    have i1 : (i.1 : Int) < 62 := by have := i.2; omega
    have i2 : ¬ (i.1 : Int) < 0 := by omega
    have hN := names_q W1
    clear hn hr hF
    go_wp2_with fail
    refine hN.mono ?_
    rintro e W2 ⟨cs, rfl, hcs, hcz, hco, hb2⟩
    have st := st_nams W2 cs hcz hco
    obtain ⟨W3, hW3⟩ : ∃ W3, W2.alloc (.cells cs 120) = W3 := ⟨_, rfl⟩
    rw [hW3] at st
    have hB3 : Hid (Below w.heap.size w W3) := by
      have h : Below W1.heap.size W1 W3 := by rw [← hW3]; exact hb2.alloc hb2.size _
      exact o1.out.trans (h.mono o1.out.size)
    have hn3 : Nams W3 W2.heap.size := by unfold Nams; rw [hcs.out, ← hW3]; exact heap_alloc_last W2 _
    obtain ⟨c0, c1, c2⟩ := hn3.cells i
    clear hN hb2 hco hW3
    go_wp2_with fail
    go_ret
    exact ⟨by rw [hc.out]; rfl, hB3.out⟩
theorem lr_step : ∀ n : Fin 62, lr n.val = nmN n.val :: (if upN n.val = 0 then [] else lr (upN n.val)) := by decide +kernel
theorem up_ltR : ∀ n : Fin 62, upN n.val < 62 := by decide +kernel
theorem lr_len4 : ∀ n : Fin 62, (lr n.val).length ≤ 4 := by decide +kernel
theorem knd_up : ∀ n : Fin 62, (KND.getD n.val []).getD 0 0 = if upN n.val = 0 then -1 else (upN n.val : Int) := by decide +kernel
theorem nm_S (i : Fin 62) : S (nmN i.val) = (rowL i).1 := by
  unfold nmN
  rw [dif_pos i.2, S_of]
/-- A row of texts, as an answer. -/
def LinQ (W : World) (l : List (List UInt8)) (e : Ending) : Prop := ∃ a c, e = .returned (.slice a l.length c) ∧ Row W a l
def restR (z : Int) : List (List UInt8) := if z < 0 then [] else lr z.toNat
end Go.Proofs.YtfmhcgadgakbhaaDoor

namespace Go.Proofs.YtfmhcgadgakbhaaDoor
open Go.RowKit
open TextMath (fold lo)
set_option linter.unusedVariables false

theorem sp_join : ∀ l : List UInt8, l = (sp 59 l).headD [] ++ semis (sp 59 l).tail
  | [] => rfl
  | b :: l => by
    by_cases hb : b = 59
    · subst hb
      rw [sp_at]
      show _ = [] ++ semis (sp 59 l)
      conv => rhs; rw [sp_cons]
      rw [List.nil_append, semis_cons]
      congr 1
      exact sp_join l
    · rw [sp_on 59 b l hb]
      show b :: l = (b :: (sp 59 l).headD []) ++ semis (sp 59 l).tail
      rw [List.cons_append]
      congr 1
      exact sp_join l
theorem no59_of (z : List UInt8) (h : 59 ∉ z) : No59 z := fun b hb e => h (by rw [← e]; exact hb)
theorem fold59 (z : List UInt8) (h : 59 ∉ z) : No59 (fold z) := fun b hb e => by
  obtain ⟨c, hc, rfl⟩ := List.mem_map.1 hb
  exact h (by rw [← (lo_eq 59 c (Or.inl rfl)).1 e]; exact hc)
theorem typ_dfa' (z : List UInt8) (h : typE z = (z.length, true)) : 59 ∉ z := by
  intro hm
  have hd := desc_semis z [] h (by simp)
  have h1 : desc (S z) = ([], (S z).size, true) := by
    have h2 := hd.1
    rw [show semis [] = [] from rfl, List.append_nil] at h2
    exact h2
  have hj := sp_join z
  have hz : (sp 59 z).tail ≠ [] := by
    intro q
    rw [q, show semis [] = [] from rfl, List.append_nil] at hj
    have := (sp_mem 59 z _ (sp_head 59 z)).1
    rw [← hj] at this
    exact this hm
  have hty : typE z = typE ((sp 59 z).headD []) := by
    conv => lhs; rw [hj]
    exact typE_semis _ _
  have hle := typE_le ((sp 59 z).headD [])
  rw [← hty, h] at hle
  have hlen := congrArg List.length hj
  rw [List.length_append] at hlen
  have hpos : 0 < (semis (sp 59 z).tail).length := by
    have := semis_len (sp 59 z).tail
    have := List.length_pos_iff.2 hz
    omega
  simp only at hle
  omega
theorem typK (f : ByteArray) (h : (desc f).2.2 = true) : No59 (typD f).data.toList := by
  obtain ⟨i1, i2, i3, i4⟩ := desc_inv f h
  intro b hb e
  subst e
  have h1 := typ_dfa' (typD f).data.toList i2
  exact h1 hb
theorem desc_parts (l : List UInt8) (h : (desc (S (fold l))).2.2 = true) :
    (typD (S (fold l))).data.toList = fold ((sp 59 l).headD []) ∧ (desc (S (fold l))).1 = (sp 59 l).tail.map fold := by
  obtain ⟨i1, i2, i3, i4⟩ := desc_inv _ h
  have hj : fold l = fold ((sp 59 l).headD []) ++ semis ((sp 59 l).tail.map fold) := by
    conv => lhs; rw [sp_join l]
    rw [fold_app, fold_semis]
  rw [S_l] at i1
  have n1 : No59 (fold ((sp 59 l).headD [])) := fold59 _ (sp_mem 59 l _ (sp_head 59 l)).1
  have n2 : ∀ z ∈ (sp 59 l).tail.map fold, No59 z := fun z hz => by
    obtain ⟨y, hy, rfl⟩ := List.mem_map.1 hz
    exact fold59 y (sp_mem 59 l y (by rw [sp_cons]; exact List.mem_cons_of_mem _ hy)).1
  have n3 : ∀ z ∈ (desc (S (fold l))).1, No59 z := desc_no59 _
  obtain ⟨e1, e2⟩ := split59 _ _ n1 (typK _ h) _ _ n2 n3 (hj.symm.trans i1)
  exact ⟨e1.symm, (semis_inj _ _ n2 n3 e2).symm⟩
/-- What the reference's Parse answers. -/
def RParseIs (W : World) (s f : ByteArray) (e : Ending) : Prop :=
  ((desc f).2.2 = true ∧ ∃ a r c, e = .returned (.tuple #[.agg #[.string (canN (typD f)), .slice a r.length c], .int .i64 0, .int .i64 (s.size : Int)]) ∧ Row W a r ∧ Up r ∧ (∀ z, z ∈ r ↔ z ∈ (desc f).1) ∧ r.length ≤ 4194304) ∨
  ((desc f).2.2 = false ∧ e = .returned (.tuple #[.agg #[.string ⟨#[]⟩, .slice none 0 0], .int .i64 40, .int .i64 ((desc f).2.1 : Int)]))
end Go.Proofs.YtfmhcgadgakbhaaDoor

namespace Go.Proofs.YtfmhcgadgakbhaaDoor
open Go.RowKit
open TextMath (fold lo)
set_option linter.unusedVariables false

theorem Row.of_blocks {w w' : World} {a : Option Addr} {l : List (List UInt8)} (h : Row w a l) (hb : ∀ b off, a = some ⟨b, off, none⟩ → w'.heap[b]? = w.heap[b]?) : Row w' a l := fun i hi => by
  obtain ⟨b, off, e, h1⟩ := h i hi
  refine ⟨b, off, e, ?_⟩
  rw [World.cell?_of_block (w := w) (hb b off e)]
  exact h1
end Go.Proofs.YtfmhcgadgakbhaaDoor
