import Derived.Test.YtfmhcgadgakbhaaGreatDoorFxE
import Derived.Test.YtfmhcgadgakbhaaGreatDoorFxI
import Derived.BigQuiet
import Derived.Test.YtfmhcgadgakbhaaGreatDoorFxJ
import Derived.Test.YtfmhcgadgakbhaaGreatDoorRfA
import Derived.Test.YtfmhcgadgakbhaaGreatDoorFxH
import Derived.Test.YtfmhcgadgakbhaaGreatDoorAtInv
import Derived.Test.YtfmhcgadgakbhaaGreatDoorFxB
import Derived.Test.YtfmhcgadgakbhaaGreatDoorFxD
import Derived.Lib.AppendZeros
namespace Go.Proofs.YtfmhcgadgakbhaaGreatDoor
set_option linter.unusedVariables false

theorem less_iff : ∀ x y : List UInt8, Op.bytesLess x y = true ↔ x < y
  | _, [] => by simp [Op.bytesLess]
  | [], b :: y => by simp [Op.bytesLess]
  | a :: x, b :: y => by
    rw [List.cons_lt_cons_iff]
    unfold Op.bytesLess
    rw [Bool.or_eq_true, Bool.and_eq_true, decide_eq_true_iff, beq_iff_eq, less_iff x y]
/-- Strictly ascending. -/
def Up (r : List (List UInt8)) : Prop := r.Pairwise (fun x y => x < y)
theorem lt_transL {x y z : List UInt8} (h1 : x < y) (h2 : y < z) : x < z := List.lt_trans h1 h2
theorem lt_irreflL (x : List UInt8) : ¬ x < x := List.lt_irrefl x
theorem up_nodup {r : List (List UInt8)} (h : Up r) : r.Nodup := List.Pairwise.imp (S := fun a b => a ≠ b) (fun {a b} (hab : a < b) (e : a = b) => by subst e; exact lt_irreflL _ hab) h
theorem le_of_ltL {x y : List UInt8} (h : x < y) : x ≤ y := fun q => lt_irreflL x (lt_transL h q)
theorem up_eq {r k : List (List UInt8)} (hr : Up r) (hk : Up k) (h : ∀ z, z ∈ r ↔ z ∈ k) : r = k := by
  have hp : r.Perm k := (List.perm_ext_iff_of_nodup (up_nodup hr) (up_nodup hk)).2 h
  refine List.Perm.eq_of_pairwise (le := fun x y : List UInt8 => x ≤ y) ?_ (hr.imp le_of_ltL) (hk.imp le_of_ltL) hp
  intro x y _ _ h1 h2
  exact List.le_antisymm h1 h2
theorem eq_of_nlt {x y : List UInt8} (h1 : ¬ x < y) (h2 : ¬ y < x) : x = y := List.le_antisymm h2 h1
/-- How far a merging has come. -/
def Mg (a b : List (List UInt8)) (i j : Nat) (o : List (List UInt8)) : Prop :=
  Up o ∧ (∀ z ∈ o, z ∈ a ∨ z ∈ b) ∧ (∀ z ∈ a.take i, z ∈ o ∨ z ∈ b.drop j) ∧ (∀ z ∈ b.take j, z ∈ o) ∧ (∀ z ∈ o, (∀ y ∈ a.drop i, z < y) ∧ (∀ y ∈ b.drop j, z < y)) ∧ o.length ≤ i + j
theorem mg_start (a b : List (List UInt8)) : Mg a b 0 0 [] := ⟨List.Pairwise.nil, by simp, by simp, by simp, by simp, by simp⟩
theorem up_snoc {o : List (List UInt8)} {x : List UInt8} (h : Up o) (hx : ∀ z ∈ o, z < x) : Up (o ++ [x]) := by
  unfold Up
  rw [List.pairwise_append]
  exact ⟨h, List.pairwise_singleton _ _, fun z hz y hy => by rw [List.mem_singleton.1 hy]; exact hx z hz⟩
theorem up_head {a : List (List UInt8)} (h : Up a) {i : Nat} (hi : i < a.length) : ∀ y ∈ a.drop (i + 1), a[i] < y := by
  have h1 : Up (a.drop i) := List.Pairwise.sublist (List.drop_sublist i a) h
  rw [List.drop_eq_getElem_cons hi] at h1
  exact (List.pairwise_cons.1 h1).1
theorem mg_left {a b o : List (List UInt8)} {i j : Nat} (h : Mg a b i j o) (hi : i < a.length) (ha : Up a) (hx : ∀ y ∈ b.drop j, a[i] < y) : Mg a b (i + 1) j (o ++ [a[i]]) := by
  obtain ⟨h1, h2, h3, h4, h5, h6⟩ := h
  have hd := List.drop_eq_getElem_cons hi
  refine ⟨up_snoc h1 (fun z hz => (h5 z hz).1 _ (by rw [hd]; exact List.mem_cons_self)), fun z hz => ?_, fun z hz => ?_, fun z hz => List.mem_append_left _ (h4 z hz), fun z hz => ?_, ?_⟩
  · rcases List.mem_append.1 hz with hz | hz
    · exact h2 z hz
    · rw [List.mem_singleton.1 hz]; exact Or.inl (List.getElem_mem hi)
  · rw [List.take_succ_eq_append_getElem hi] at hz
    rcases List.mem_append.1 hz with hz | hz
    · rcases h3 z hz with q | q
      · exact Or.inl (List.mem_append_left _ q)
      · exact Or.inr q
    · exact Or.inl (List.mem_append_right _ hz)
  · rcases List.mem_append.1 hz with hz | hz
    · exact ⟨fun y hy => (h5 z hz).1 y (by rw [hd]; exact List.mem_cons_of_mem _ hy), (h5 z hz).2⟩
    · rw [List.mem_singleton.1 hz]; exact ⟨up_head ha hi, hx⟩
  · rw [List.length_append]; simp; omega
theorem mg_right {a b o : List (List UInt8)} {i j : Nat} (h : Mg a b i j o) (hj : j < b.length) (hb : Up b) (hx : ∀ y ∈ a.drop i, b[j] < y) : Mg a b i (j + 1) (o ++ [b[j]]) := by
  obtain ⟨h1, h2, h3, h4, h5, h6⟩ := h
  have hd := List.drop_eq_getElem_cons hj
  refine ⟨up_snoc h1 (fun z hz => (h5 z hz).2 _ (by rw [hd]; exact List.mem_cons_self)), fun z hz => ?_, fun z hz => ?_, fun z hz => ?_, fun z hz => ?_, ?_⟩
  · rcases List.mem_append.1 hz with hz | hz
    · exact h2 z hz
    · rw [List.mem_singleton.1 hz]; exact Or.inr (List.getElem_mem hj)
  · rcases h3 z hz with q | q
    · exact Or.inl (List.mem_append_left _ q)
    · rw [hd] at q
      rcases List.mem_cons.1 q with q | q
      · exact Or.inl (List.mem_append_right _ (List.mem_singleton.2 q))
      · exact Or.inr q
  · rw [List.take_succ_eq_append_getElem hj] at hz
    rcases List.mem_append.1 hz with hz | hz
    · exact List.mem_append_left _ (h4 z hz)
    · exact List.mem_append_right _ hz
  · rcases List.mem_append.1 hz with hz | hz
    · exact ⟨(h5 z hz).1, fun y hy => (h5 z hz).2 y (by rw [hd]; exact List.mem_cons_of_mem _ hy)⟩
    · rw [List.mem_singleton.1 hz]; exact ⟨hx, up_head hb hj⟩
  · rw [List.length_append]; simp; omega
theorem mg_skip {a b o : List (List UInt8)} {i j : Nat} (h : Mg a b i j o) (hi : i < a.length) (hj : j < b.length) (e : a[i] = b[j]) : Mg a b (i + 1) j o := by
  obtain ⟨h1, h2, h3, h4, h5, h6⟩ := h
  refine ⟨h1, h2, fun z hz => ?_, h4, fun z hz => ⟨fun y hy => (h5 z hz).1 y (by rw [List.drop_eq_getElem_cons hi]; exact List.mem_cons_of_mem _ hy), (h5 z hz).2⟩, by omega⟩
  rw [List.take_succ_eq_append_getElem hi] at hz
  rcases List.mem_append.1 hz with hz | hz
  · exact h3 z hz
  · right
    rw [List.mem_singleton.1 hz, e, List.drop_eq_getElem_cons hj]
    exact List.mem_cons_self
theorem mg_end {a b o : List (List UInt8)} (h : Mg a b a.length b.length o) : Up o ∧ (∀ z, z ∈ o ↔ z ∈ a ∨ z ∈ b) ∧ o.length ≤ a.length + b.length := by
  obtain ⟨h1, h2, h3, h4, h5, h6⟩ := h
  refine ⟨h1, fun z => ⟨h2 z, fun q => ?_⟩, h6⟩
  rw [List.take_length] at h3 h4
  rcases q with q | q
  · rcases h3 z q with r | r
    · exact r
    · rw [List.drop_length] at r; simp at r
  · exact h4 z q
theorem up_all {b : List (List UInt8)} (h : Up b) {j : Nat} (hj : j < b.length) {x : List UInt8} (hx : x < b[j]) : ∀ y ∈ b.drop j, x < y := by
  intro y hy
  rw [List.drop_eq_getElem_cons hj] at hy
  rcases List.mem_cons.1 hy with rfl | hy
  · exact hx
  · exact lt_transL hx (up_head h hj y hy)
end Go.Proofs.YtfmhcgadgakbhaaGreatDoor

namespace Go.Proofs.YtfmhcgadgakbhaaGreatDoor
open Go.RowKit
set_option linter.unusedVariables false

theorem Row.take {w : World} {a : Option Addr} {l : List (List UInt8)} (h : Row w a l) (k : Nat) : Row w a (l.take k) := fun i hi => by
  rw [List.length_take] at hi
  obtain ⟨b, off, e, h1⟩ := h i (by omega)
  refine ⟨b, off, e, ?_⟩
  rw [h1, List.getElem_take]
theorem Row.drop {w : World} {b off : Nat} {l : List (List UInt8)} (h : Row w (some ⟨b, off, none⟩) l) (k : Nat) : Row w (some ⟨b, off + k, none⟩) (l.drop k) := fun i hi => by
  rw [List.length_drop] at hi
  obtain ⟨b', off', e, h1⟩ := h (k + i) (by omega)
  injection e with e
  injection e with e1 e2
  subst e1 e2
  refine ⟨b, off + k, rfl, ?_⟩
  rw [Nat.add_assoc, h1, List.getElem_drop]
theorem drewN_belowS (W : World) (B q : Nat) : Below B W (W.drewN q) := ⟨rfl, rfl, rfl, Nat.le_refl _, fun _ _ => rfl⟩
theorem ownS_len {w : World} {B n cap : Nat} {a : Option Addr} {l : List (List UInt8)} (h : OwnS w B (.slice a n cap) l) : n ≤ cap := by
  rcases h with ⟨_, ⟨h1, _⟩ | ⟨g', cap', cur, h1, _, _, h5, _⟩⟩
  · injection h1 with _ h2 _
    rw [h2]
    exact Nat.zero_le _
  · injection h1 with h1 h2 h3
    subst h2 h3
    exact h5
/-- What sorted answers. -/
def SrtQ (l : List (List UInt8)) (a0 : Option Addr) (B : Nat) (W : World) (e : Ending) (w' : World) : Prop :=
  (∃ a r c, e = .returned (.slice a r.length c) ∧ Row w' a r ∧ Up r ∧ (∀ z, z ∈ r ↔ z ∈ l) ∧ r.length ≤ l.length ∧ r.length ≤ c ∧ (a = a0 ∨ ∀ b off, a = some ⟨b, off, none⟩ → B ≤ b)) ∧ Below B W w'
end Go.Proofs.YtfmhcgadgakbhaaGreatDoor

namespace Go.Proofs.YtfmhcgadgakbhaaGreatDoor
open Go.RowKit
open TextMath (fold lo)
set_option linter.unusedVariables false

set_option maxRecDepth 100000 in
set_option maxHeartbeats 1000000 in
theorem canonR_any (s : ByteArray) (w : World) (hs : s.size ≤ 140737488355328) :
    Calls Tryz.prog 33 #[.string s] w fun e w' => e = .returned (.string (canN (S (fold s.data.toList)))) ∧ Below w.heap.size w w' := by
  have hR := refRow_any s w hs
  have hF : ∀ W, Hid (Calls Tryz.prog 34 #[.string s] W fun e w' => e = .returned (.string (S (fold s.data.toList))) ∧ Below W.heap.size W w') := fun W => rFold_any s W hs
  generalize S (fold s.data.toList) = f at *
  go_enter Tryz.func33, Tryz.ntmps33
  go_wp2_with fail
  refine hR.mono ?_
  rintro e W1 ⟨rfl, hb1⟩
  have o1 : Hid (Below w.heap.size w W1) := hb1
  clear hR hb1
  cases hr : rowOf f with
  | none =>
    have hn : rowN f = -1 := by unfold rowN; rw [hr]
    have hc : Hid (canN f = f) := by unfold Hid canN; rw [hr]
    rw [hn]
    have hF1 := hF W1
    clear hn hr hF
    go_wp2_with fail
    refine hF1.out.mono ?_
    rintro e W2 ⟨rfl, hb2⟩
    have o2 : Hid (Below w.heap.size w W2) := o1.out.trans (hb2.mono o1.out.size)
    clear hF1 hb2
    go_wp2_with fail
    go_ret
    exact ⟨by rw [hc.out]; rfl, o2.out⟩
  | some i =>
    have hn : rowN f = (i.1 : Int) := by unfold rowN; rw [hr]
    have hc : Hid (canN f = (rowL i).1) := by unfold Hid canN; rw [hr]
    rw [hn]
    have i0 : (0 : Int) ≤ (i.1 : Int) := Int.natCast_nonneg _
    have i1 : (i.1 : Int) < 62 := by have := i.2; omega
    have i2 : ¬ (i.1 : Int) < 0 := by omega
    have hN := names_q W1
    clear hn hr hF
    go_wp2_with fail
    refine hN.mono ?_
    rintro e W2 ⟨cs, rfl, hcs, hcz, hco, hb2⟩
    have st := st_nams W2 cs hcz hco
    obtain ⟨W3, hW3⟩ : ∃ W3, W2.alloc (.cells cs 88) = W3 := ⟨_, rfl⟩
    rw [hW3] at st
    have hB3 : Hid (Below w.heap.size w W3) := by
      have h : Below W1.heap.size W1 W3 := by rw [← hW3]; exact hb2.alloc hb2.size _
      exact o1.out.trans (h.mono o1.out.size)
    have hn3 : Nams W3 W2.heap.size := by unfold Nams; rw [hcs.out, ← hW3]; exact heap_alloc_last W2 _
    obtain ⟨c0, c1, c2⟩ := hn3.cells i
    clear hN hb2 hco hW3
    go_wp2_with fail
    go_ret
    exact ⟨by rw [hc.out]; rfl, hB3.out⟩
theorem lr_step : ∀ n : Fin 62, lr n.val = nmN n.val :: (if upN n.val = 0 then [] else lr (upN n.val)) := by decide +kernel
theorem up_ltR : ∀ n : Fin 62, upN n.val < 62 := by decide +kernel
theorem lr_len4 : ∀ n : Fin 62, (lr n.val).length ≤ 4 := by decide +kernel
theorem knd_up : ∀ n : Fin 62, (KND.getD n.val []).getD 0 0 = if upN n.val = 0 then -1 else (upN n.val : Int) := by decide +kernel
theorem nm_S (i : Fin 62) : S (nmN i.val) = (rowL i).1 := by
  unfold nmN
  rw [dif_pos i.2, S_of]
/-- A row of texts, as an answer. -/
def LinQ (W : World) (l : List (List UInt8)) (e : Ending) : Prop := ∃ a c, e = .returned (.slice a l.length c) ∧ Row W a l
def restR (z : Int) : List (List UInt8) := if z < 0 then [] else lr z.toNat
end Go.Proofs.YtfmhcgadgakbhaaGreatDoor

namespace Go.Proofs.YtfmhcgadgakbhaaGreatDoor
open Go.RowKit
open TextMath (fold lo)
set_option linter.unusedVariables false

theorem sp_join : ∀ l : List UInt8, l = (sp 59 l).headD [] ++ semis (sp 59 l).tail
  | [] => rfl
  | b :: l => by
    by_cases hb : b = 59
    · subst hb
      rw [sp_at]
      show _ = [] ++ semis (sp 59 l)
      conv => rhs; rw [sp_cons]
      rw [List.nil_append, semis_cons]
      congr 1
      exact sp_join l
    · rw [sp_on 59 b l hb]
      show b :: l = (b :: (sp 59 l).headD []) ++ semis (sp 59 l).tail
      rw [List.cons_append]
      congr 1
      exact sp_join l
theorem no59_of (z : List UInt8) (h : 59 ∉ z) : No59 z := fun b hb e => h (by rw [← e]; exact hb)
theorem fold59 (z : List UInt8) (h : 59 ∉ z) : No59 (fold z) := fun b hb e => by
  obtain ⟨c, hc, rfl⟩ := List.mem_map.1 hb
  exact h (by rw [← (lo_eq 59 c (Or.inl rfl)).1 e]; exact hc)
theorem typ_dfa' (z : List UInt8) (h : typE z = (z.length, true)) : 59 ∉ z := by
  intro hm
  have hd := desc_semis z [] h (by simp)
  have h1 : desc (S z) = ([], (S z).size, true) := by
    have h2 := hd.1
    rw [show semis [] = [] from rfl, List.append_nil] at h2
    exact h2
  have hj := sp_join z
  have hz : (sp 59 z).tail ≠ [] := by
    intro q
    rw [q, show semis [] = [] from rfl, List.append_nil] at hj
    have := (sp_mem 59 z _ (sp_head 59 z)).1
    rw [← hj] at this
    exact this hm
  have hty : typE z = typE ((sp 59 z).headD []) := by
    conv => lhs; rw [hj]
    exact typE_semis _ _
  have hle := typE_le ((sp 59 z).headD [])
  rw [← hty, h] at hle
  have hlen := congrArg List.length hj
  rw [List.length_append] at hlen
  have hpos : 0 < (semis (sp 59 z).tail).length := by
    have := semis_len (sp 59 z).tail
    have := List.length_pos_iff.2 hz
    omega
  simp only at hle
  omega
theorem typK (f : ByteArray) (h : (desc f).2.2 = true) : No59 (typD f).data.toList := by
  obtain ⟨i1, i2, i3, i4⟩ := desc_inv f h
  intro b hb e
  subst e
  have h1 := typ_dfa' (typD f).data.toList i2
  exact h1 hb
theorem desc_parts (l : List UInt8) (h : (desc (S (fold l))).2.2 = true) :
    (typD (S (fold l))).data.toList = fold ((sp 59 l).headD []) ∧ (desc (S (fold l))).1 = (sp 59 l).tail.map fold := by
  obtain ⟨i1, i2, i3, i4⟩ := desc_inv _ h
  have hj : fold l = fold ((sp 59 l).headD []) ++ semis ((sp 59 l).tail.map fold) := by
    conv => lhs; rw [sp_join l]
    rw [fold_app, fold_semis]
  rw [S_l] at i1
  have n1 : No59 (fold ((sp 59 l).headD [])) := fold59 _ (sp_mem 59 l _ (sp_head 59 l)).1
  have n2 : ∀ z ∈ (sp 59 l).tail.map fold, No59 z := fun z hz => by
    obtain ⟨y, hy, rfl⟩ := List.mem_map.1 hz
    exact fold59 y (sp_mem 59 l y (by rw [sp_cons]; exact List.mem_cons_of_mem _ hy)).1
  have n3 : ∀ z ∈ (desc (S (fold l))).1, No59 z := desc_no59 _
  obtain ⟨e1, e2⟩ := split59 _ _ n1 (typK _ h) _ _ n2 n3 (hj.symm.trans i1)
  exact ⟨e1.symm, (semis_inj _ _ n2 n3 e2).symm⟩
/-- What the reference's Parse answers. -/
def RParseIs (W : World) (s f : ByteArray) (e : Ending) : Prop :=
  ((desc f).2.2 = true ∧ ∃ a r c, e = .returned (.tuple #[.agg #[.string (canN (typD f)), .slice a r.length c], .int .i64 0, .int .i64 (s.size : Int)]) ∧ Row W a r ∧ Up r ∧ (∀ z, z ∈ r ↔ z ∈ (desc f).1) ∧ r.length ≤ 4194304) ∨
  ((desc f).2.2 = false ∧ e = .returned (.tuple #[.agg #[.string ⟨#[]⟩, .slice none 0 0], .int .i64 40, .int .i64 ((desc f).2.1 : Int)]))
end Go.Proofs.YtfmhcgadgakbhaaGreatDoor

namespace Go.Proofs.YtfmhcgadgakbhaaGreatDoor
open Go.RowKit
open TextMath (fold lo)
set_option linter.unusedVariables false

theorem Row.of_blocks {w w' : World} {a : Option Addr} {l : List (List UInt8)} (h : Row w a l) (hb : ∀ b off, a = some ⟨b, off, none⟩ → w'.heap[b]? = w.heap[b]?) : Row w' a l := fun i hi => by
  obtain ⟨b, off, e, h1⟩ := h i hi
  refine ⟨b, off, e, ?_⟩
  rw [World.cell?_of_block (w := w) (hb b off e)]
  exact h1
end Go.Proofs.YtfmhcgadgakbhaaGreatDoor

namespace Go.Proofs.YtfmhcgadgakbhaaGreatDoor
open TextMath (fold lo)
set_option linter.unusedVariables false

theorem sp_has (c b : UInt8) (hbc : b ≠ c) : ∀ l : List UInt8, b ∈ l → ∃ z ∈ sp c l, b ∈ z
  | [], h => by simp at h
  | x :: l, h => by
    by_cases hx : x = c
    · subst hx
      rcases List.mem_cons.1 h with h | h
      · exact absurd h hbc
      · obtain ⟨z, h1, h2⟩ := sp_has x b hbc l h
        exact ⟨z, by rw [sp_at]; exact List.mem_cons_of_mem _ h1, h2⟩
    · rw [sp_on c x l hx]
      rcases List.mem_cons.1 h with h | h
      · exact ⟨_, List.mem_cons_self, by rw [h]; exact List.mem_cons_self⟩
      · obtain ⟨z, h1, h2⟩ := sp_has c b hbc l h
        rw [sp_cons] at h1
        rcases List.mem_cons.1 h1 with h1 | h1
        · exact ⟨_, List.mem_cons_self, by rw [h1] at h2; exact List.mem_cons_of_mem _ h2⟩
        · exact ⟨z, List.mem_cons_of_mem _ h1, h2⟩
theorem typ_all (m : List UInt8) : typB m = (decide (59 ∉ m) && dacc (drun 0 m)) := by
  by_cases h : 59 ∈ m
  · rw [decide_eq_false (fun q => q h), Bool.false_and]
    unfold typB
    split
    · rfl
    · split
      · unfold keysB
        rw [Bool.and_eq_false_iff]
        left
        rw [Bool.eq_false_iff]
        intro q
        have := List.all_eq_true.1 q 59 h
        revert this
        decide
      · rw [Bool.and_eq_false_iff]
        left
        rw [Bool.eq_false_iff]
        intro q
        obtain ⟨z, h1, h2⟩ := sp_has 46 59 (by decide) m h
        have := List.all_eq_true.1 q z h1
        unfold numB at this
        rw [Bool.and_eq_true] at this
        have := List.all_eq_true.1 this.1 59 h2
        revert this
        decide
  · rw [decide_eq_true h, Bool.true_and, typ_dfa m h]
/-- What stands ahead of the first ';'. -/
def cutS (m : List UInt8) : List UInt8 := m.takeWhile (fun b => b != 59)
theorem cutS_no (m : List UInt8) : 59 ∉ cutS m := fun h => by
  have := List.all_takeWhile (p := fun b : UInt8 => b != 59) (l := m)
  have h2 := List.all_eq_true.1 this 59 h
  simp at h2
theorem cutS_or (m : List UInt8) : m = cutS m ∨ ∃ r, m = cutS m ++ 59 :: r := by
  have h := List.takeWhile_append_dropWhile (p := fun b : UInt8 => b != 59) (l := m)
  cases hd : m.dropWhile (fun b : UInt8 => b != 59) with
  | nil => left; rw [hd, List.append_nil] at h; exact h.symm
  | cons b r =>
    right
    refine ⟨r, ?_⟩
    have hb : (b != 59) = false := by
      have := List.head_dropWhile_not (fun b : UInt8 => b != 59) (l := m) (by rw [hd]; simp)
      simp only [hd, List.head_cons] at this
      exact this
    have : b = 59 := by simpa using hb
    subst this
    rw [hd] at h
    exact h.symm
theorem typ_plc (z : List UInt8) (h : 59 ∉ z) : (typE z).1 = plc 0 z := by
  have hd := (desc_dfa (S z)).1
  rw [S_l] at hd
  rw [← hd]
  unfold desc
  rw [S_l]
  split
  · rename_i hk
    have hz : (S z).size = z.length := by rw [← size_l, S_l]
    unfold dscE
    split
    · rename_i hlt
      rw [S_l]
      have hlt' : (typE z).1 < z.length := by omega
      have hne : ¬ (z.getD (typE z).1 0).toNat = 59 := by
        rw [List.getD, List.getElem?_eq_getElem hlt', Option.getD_some]
        intro q
        exact h (by rw [show (59 : UInt8) = z[(typE z).1] from UInt8.toNat_inj.1 (by rw [q]; rfl)]; exact List.getElem_mem hlt')
      rw [if_neg hne]
    · rfl
  · rfl
theorem typ_place (m : List UInt8) : (typE m).1 = plc 0 (cutS m) := by
  rw [← typ_plc _ (cutS_no m)]
  rcases cutS_or m with h | ⟨r, h⟩
  · rw [← h]
  · conv => lhs; rw [h]
    rw [typE_semi]
theorem typ_ok (m : List UInt8) : ((typE m).2 = true ∧ ¬ (typE m).1 < m.length) ↔ typB m = true := by
  have hle := typE_le m
  rw [typ_all, Bool.and_eq_true, decide_eq_true_iff]
  have hd := (desc_dfa (S m)).2
  rw [S_l] at hd
  rw [← hd]
  constructor
  · rintro ⟨h1, h2⟩
    have hT : typE m = (m.length, true) := Prod.ext (by show (typE m).1 = m.length; omega) h1
    have h := desc_semis m [] hT (by simp)
    rw [show semis [] = [] from rfl, List.append_nil] at h
    exact ⟨typ_dfa' m hT, by rw [h.1]⟩
  · rintro ⟨h1, h2⟩
    obtain ⟨i1, i2, i3, i4⟩ := desc_inv (S m) h2
    rw [S_l] at i1
    have hnil : (desc (S m)).1 = [] := by
      cases hc : (desc (S m)).1 with
      | nil => rfl
      | cons z t =>
        rw [hc, semis_cons] at i1
        exact absurd (by rw [i1]; exact List.mem_append_right _ List.mem_cons_self) h1
    rw [hnil, show semis [] = [] from rfl, List.append_nil] at i1
    rw [← i1] at i2
    rw [i2]
    exact ⟨rfl, by simp⟩
/-- One of four ends makes a type of it. -/
def goesT (t : List UInt8) : Bool := typB t || typB (t ++ [97]) || typB (t ++ [49]) || typB (t ++ [46, 49])
theorem goesT_iff (t : List UInt8) : goesT t = (decide (59 ∉ t) && decide (drun 0 t ≠ 9)) := by
  unfold goesT
  rw [typ_all, typ_all, typ_all, typ_all]
  have e1 : (59 ∉ t ++ [97]) ↔ 59 ∉ t := by simp
  have e2 : (59 ∉ t ++ [49]) ↔ 59 ∉ t := by simp
  have e3 : (59 ∉ t ++ [46, 49]) ↔ 59 ∉ t := by simp
  rw [decide_eq_decide.2 e1, decide_eq_decide.2 e2, decide_eq_decide.2 e3, ← goes_iff]
  unfold goesL
  cases decide (59 ∉ t) <;> simp
theorem take_cut (m : List UInt8) (n : Nat) (hn : n ≤ m.length) : (59 ∉ m.take n ∧ drun 0 (m.take n) ≠ 9) ↔ n ≤ plc 0 (cutS m) := by
  have hp := plc_le (cutS m) 0
  have hfr : ∀ k, k ≤ (cutS m).length → m.take k = (cutS m).take k := fun k hk => by
    rcases cutS_or m with h | ⟨r, h⟩
    · rw [← h]
    · conv => lhs; rw [h]
      rw [List.take_append_of_le_length hk]
  constructor
  · rintro ⟨h1, h2⟩
    rcases Nat.lt_or_ge (cutS m).length n with q | q
    · exfalso
      rcases cutS_or m with h | ⟨r, h⟩
      · have := congrArg List.length h; omega
      · apply h1
        rw [h, List.take_append]
        refine List.mem_append_right _ ?_
        rw [show n - (cutS m).length = (n - (cutS m).length - 1) + 1 by omega, List.take_succ_cons]
        exact List.mem_cons_self
    · rw [hfr n q] at h2
      rcases Nat.lt_or_ge (plc 0 (cutS m)) n with q2 | q2
      · exfalso
        exact drun_front _ _ n (by omega) h2 (plc_with _ 0 (by omega))
      · exact q2
  · intro h
    have hl : n ≤ (cutS m).length := by omega
    rw [hfr n hl]
    exact ⟨fun q => cutS_no m (List.mem_of_mem_take q), drun_front _ n _ h (plc_ahead _ 0 (by decide))⟩
end Go.Proofs.YtfmhcgadgakbhaaGreatDoor

namespace Go.Proofs.YtfmhcgadgakbhaaGreatDoor
open Go.RowKit

/-- What Print writes, of the first i options. -/
def prt (t : List UInt8) (X : Nat → ByteArray) : Nat → List UInt8
  | 0 => t
  | i + 1 => prt t X i ++ [59] ++ (X i).data.toList
theorem prt_len (t : List UInt8) (X : Nat → ByteArray) (i : Nat) : (prt t X i).length = t.length + tot X i := by
  induction i with
  | zero => rfl
  | succ i ih =>
    show (prt t X i ++ [59] ++ (X i).data.toList).length = t.length + (tot X i + ((X i).size + 1))
    rw [List.length_append, List.length_append, ih, size_l]
    simp
    omega
theorem heap_new_cells (w : World) (o : Obj) : (w.alloc o).heap[w.heap.size]? = some o := heap_alloc_new w o

end Go.Proofs.YtfmhcgadgakbhaaGreatDoor

namespace Go.Proofs.YtfmhcgadgakbhaaGreatDoor
open Go.RowKit
open TextMath (fold lo)
set_option linter.unusedVariables false

theorem semis_erase (x : List UInt8) : ∀ O : List (List UInt8), x ∈ O → (semis O).length = x.length + 1 + (semis (O.erase x)).length
  | [], h => by simp at h
  | y :: O, h => by
    by_cases e : y = x
    · subst e
      rw [List.erase_cons_head, semis_cons]
      simp
      omega
    · have hx : x ∈ O := by
        rcases List.mem_cons.1 h with q | q
        · exact absurd q.symm e
        · exact q
      rw [List.erase_cons_tail (by simpa using e), semis_cons, semis_cons]
      have := semis_erase x O hx
      simp
      omega
theorem semis_sub : ∀ (K O : List (List UInt8)), K.Nodup → (∀ x ∈ K, x ∈ O) → (semis K).length ≤ (semis O).length
  | [], O, _, _ => by simp [semis]
  | x :: K, O, hn, hs => by
    have hx := hs x (by simp)
    rw [semis_erase x O hx, semis_cons]
    rw [List.nodup_cons] at hn
    have := semis_sub K (O.erase x) hn.2 (fun y hy => (List.mem_erase_of_ne (fun e => hn.1 (by rw [← e]; exact hy))).2 (hs y (by simp [hy])))
    simp
    omega
theorem dscE_sum (s : ByteArray) : ∀ n e acc, (semis acc).length ≤ e → e ≤ s.size → (semis (dscE s n e acc).1).length ≤ s.size
  | 0, e, acc, h, he => by simp [dscE, semis]
  | n + 1, e, acc, h, he => by
    unfold dscE
    split
    · rename_i hlt
      split
      · split
        · simp [semis]
        · have h1 := runE_le isK s.data.toList (e + 1) (by rw [size_l]; omega)
          rw [size_l] at h1
          refine dscE_sum s n _ _ ?_ h1.2
          rw [semis_snoc, List.length_append, List.length_cons, size_l, ByteArray.size_extract]
          omega
      · simp [semis]
    · show (semis acc).length ≤ _
      omega
theorem desc_sum (f : ByteArray) : (semis (desc f).1).length ≤ f.size := by
  unfold desc
  split
  · have h := typE_le f.data.toList
    rw [size_l] at h
    exact dscE_sum f _ _ [] (by simp [semis]) h
  · simp [semis]
theorem can_size (f : ByteArray) : (canN (typD f)).size ≤ f.size + 64 := by
  cases hr : rowOf (typD f) with
  | none =>
    rw [(lin_none _ hr).2]
    unfold typD
    rw [ByteArray.size_extract]
    omega
  | some i =>
    rw [← size_l, (lin_row _ i hr).2]
    have := nm_size i
    omega
theorem prt_semis (t : List UInt8) (X : Nat → ByteArray) (l : List (List UInt8)) (h : ∀ i (hi : i < l.length), (X i).data.toList = l[i]) : ∀ k, k ≤ l.length → prt t X k = t ++ semis (l.take k) ∧ tot X k = (semis (l.take k)).length
  | 0, _ => by simp [prt, semis]; rfl
  | k + 1, hk => by
    obtain ⟨h1, h2⟩ := prt_semis t X l h k (by omega)
    have hx := h k (by omega)
    have hz : (X k).size = l[k].length := by rw [← size_l, hx]
    rw [List.take_succ_eq_append_getElem (by omega : k < l.length), semis_snoc]
    constructor
    · show prt t X k ++ [59] ++ (X k).data.toList = _
      rw [h1, hx]
      simp
    · show tot X k + ((X k).size + 1) = _
      rw [h2, hz]
      simp
/-- What Canonical answers of a folded text. -/
def CnlIs (f : ByteArray) (e : Ending) : Prop :=
  ((desc f).2.2 = true ∧ ∃ x, CanIs f x ∧ e = .returned (.tuple #[.string (S x), .int .i64 0, .int .i64 ((desc f).2.1 : Int)])) ∨
  ((desc f).2.2 = false ∧ e = .returned (.tuple #[.string (S []), .int .i64 40, .int .i64 ((desc f).2.1 : Int)]))
end Go.Proofs.YtfmhcgadgakbhaaGreatDoor

namespace Go.Proofs.YtfmhcgadgakbhaaGreatDoor
open Go.RowKit
open TextMath (fold lo)
set_option linter.unusedVariables false

def okT (s : ByteArray) : Bool := typB (fold s.data.toList)
theorem okT_app (t : ByteArray) (i : Nat) : okT (t ++ endR i) = typB (fold t.data.toList ++ (endR i).data.toList) := by
  unfold okT
  rw [ByteArray.data_append, Array.toList_append, fold_appR, endR_fold]
theorem goesT_ends (l : List UInt8) : goesT l = (typB (l ++ (endR 0).data.toList) || typB (l ++ (endR 1).data.toList) || typB (l ++ (endR 2).data.toList) || typB (l ++ (endR 3).data.toList)) := by
  have : (endR 0).data.toList = [] := rfl
  rw [this, List.append_nil]
  rfl
set_option maxRecDepth 100000 in
set_option maxHeartbeats 2000000 in
theorem goesRT_any (t : ByteArray) (w : World) (ht : t.size ≤ 4194300) :
    Calls Tryz.prog 54 #[.string t, .bool true] w fun e w' => e = .returned (.bool (goesT (fold t.data.toList))) ∧ Below w.heap.size w w' := by
  have hP : ∀ i W, Hid (Calls Tryz.prog 31 #[.string (t ++ endR i)] W fun e w' => e = .returned (.bool (okT (t ++ endR i))) ∧ Below W.heap.size W w') := fun i W => isType_any _ W (by
    have := endR_size i
    rw [ByteArray.size_append]
    omega)
  have hg : Hid (goesT (fold t.data.toList) = (okT (t ++ endR 0) || okT (t ++ endR 1) || okT (t ++ endR 2) || okT (t ++ endR 3))) := by
    unfold Hid
    rw [goesT_ends, okT_app, okT_app, okT_app, okT_app]
  obtain ⟨g, hgg⟩ : ∃ g, goesT (fold t.data.toList) = g := ⟨_, rfl⟩
  rw [hgg]
  rw [hgg] at hg
  clear hgg
  obtain ⟨W0, hW0⟩ : ∃ W0, w.alloc (.cells #[.string ⟨#[]⟩, .string ⟨#[97]⟩, .string ⟨#[49]⟩, .string ⟨#[46, 49]⟩] 120) = W0 := ⟨_, rfl⟩
  have hB0 : Below w.heap.size w W0 := by rw [← hW0]; exact (Below.refl _ _).alloc (Nat.le_refl _) _
  have h0 : W0.heap[w.heap.size]? = some (.cells #[.string ⟨#[]⟩, .string ⟨#[97]⟩, .string ⟨#[49]⟩, .string ⟨#[46, 49]⟩] 120 (0, 0)) := by rw [← hW0]; exact heap_alloc_last w _
  have hI0 : Hid (Below w.heap.size w W0 ∧ W0.heap[w.heap.size]? = some (.cells #[.string ⟨#[]⟩, .string ⟨#[97]⟩, .string ⟨#[49]⟩, .string ⟨#[46, 49]⟩] 120 (0, 0))) := ⟨hB0, h0⟩
  clear hB0 h0
  go_enter Tryz.func54, Tryz.ntmps54
  go_wp2_with fail
  go_loopw [6] (fun iv wr => ∃ i : Nat, i ≤ 4 ∧ iv = .int .i64 (i : Int) ∧ Hid (∀ j, j < i → okT (t ++ endR j) = false) ∧ Hid (Below w.heap.size w wr ∧ wr.heap[w.heap.size]? = some (.cells #[.string ⟨#[]⟩, .string ⟨#[97]⟩, .string ⟨#[49]⟩, .string ⟨#[46, 49]⟩] 120 (0, 0)))) (fun iv _ => 4 - (intOf iv).toNat)
  case atStart => exact ⟨0, by omega, rfl, fun j hj => by omega, hI0⟩
  case round =>
    obtain ⟨i, hi, rfl, hno, hI⟩ := hrel
    clear hI0 hW0
    by_cases hlt : i < 4
    · have hc : wr.cell? ⟨w.heap.size, i, none⟩ = some (.string (endR i)) := by
        rw [(row_cell hI.out.2 (j := i) hlt).1]
        rcases i with _ | _ | _ | _ | i
        · rfl
        · rfl
        · rfl
        · rfl
        · omega
      have i0 : (0 : Int) ≤ (i : Int) := Int.natCast_nonneg _
      have i1 : (i : Int) < 4 := by omega
      have hPi := hP i wr
      have hmx : ¬ t.size + (endR i).size > 9223372036854775807 := by
        have := endR_size i
        omega
      obtain ⟨r, hr⟩ : ∃ r, okT (t ++ endR i) = r := ⟨_, rfl⟩
      rw [hr] at hPi
      have hr' : Hid (okT (t ++ endR i) = r) := hr
      clear hr hP
      go_wp2_with fail
      refine hPi.out.mono ?_
      rintro e w1 ⟨rfl, hb1⟩
      have hI1 : Hid (Below w.heap.size w w1 ∧ w1.heap[w.heap.size]? = some (.cells #[.string ⟨#[]⟩, .string ⟨#[97]⟩, .string ⟨#[49]⟩, .string ⟨#[46, 49]⟩] 120 (0, 0))) := ⟨hI.out.1.trans (hb1.mono hI.out.1.size), (hb1.block _ (Array.getElem?_eq_some_iff.1 hI.out.2).1).trans hI.out.2⟩
      clear hPi hb1 hI hc
      cases r with
      | true =>
        have hgt : Hid (g = true) := by
          unfold Hid
          rw [hg.out]
          have h := hr'.out
          rcases i with _ | _ | _ | _ | i
          · rw [h]; rfl
          · rw [h, Bool.or_true]; rfl
          · rw [h, Bool.or_true]; rfl
          · rw [h, Bool.or_true]
          · omega
        go_wp2_with fail
        go_ret
        exact ⟨by rw [hgt.out]; rfl, hI1.out.1⟩
      | false =>
        go_wp2_with fail
        go_roundw
        case rel => exact ⟨i + 1, by omega, by simp, fun j hj => by
                      rcases Nat.lt_or_ge j i with h | h
                      · exact hno.out j h
                      · have : j = i := by omega
                        subst this
                        exact hr'.out, hI1⟩
        case measure => simp [intOf]; omega
    · have i1 : ¬ (i : Int) < 4 := by omega
      have hgf : Hid (g = false) := by
        unfold Hid
        rw [hg.out, hno.out 0 (by omega), hno.out 1 (by omega), hno.out 2 (by omega), hno.out 3 (by omega)]
        rfl
      go_wp2_with fail
      go_ret
      exact ⟨by rw [hgf.out]; rfl, hI.out.1⟩
/-- Whether the first n bytes go on to a type. -/
def onT (s : ByteArray) (n : Nat) : Bool := goesT (fold (s.extract 0 n).data.toList)
theorem onT_iff (s : ByteArray) (n : Nat) (hn : n ≤ s.size) : onT s n = decide (n ≤ plc 0 (cutS (fold s.data.toList))) := by
  unfold onT
  rw [goesT_iff, cut_lR]
  have e : fold (s.data.toList.take n) = (fold s.data.toList).take n := by simp [fold]
  rw [e, Bool.eq_iff_iff, Bool.and_eq_true, decide_eq_true_iff, decide_eq_true_iff, decide_eq_true_iff]
  exact take_cut _ n (by rw [fold_len, size_l]; exact hn)
set_option maxRecDepth 100000 in
set_option maxHeartbeats 2000000 in
theorem placeRT_any (s : ByteArray) (w : World) (hs : s.size ≤ 4194300) :
    Calls Tryz.prog 32 #[.string s, .bool true] w fun e w' => e = .returned (.int .i64 (plc 0 (cutS (fold s.data.toList)) : Int)) ∧ Below w.heap.size w w' := by
  obtain ⟨p, hp⟩ : ∃ p, plc 0 (cutS (fold s.data.toList)) = p := ⟨_, rfl⟩
  have hon : Hid (∀ n, n ≤ s.size → onT s n = decide (n ≤ p)) := fun n hn => by rw [← hp]; exact onT_iff s n hn
  have hps : p ≤ s.size := by
    rw [← hp]
    have h1 := plc_le (cutS (fold s.data.toList)) 0
    have h2 : (cutS (fold s.data.toList)).length ≤ (fold s.data.toList).length := (List.takeWhile_prefix _).length_le
    rw [fold_len, size_l] at h2
    omega
  rw [hp]
  have hG : ∀ n W, Hid (Calls Tryz.prog 54 #[.string (s.extract 0 n), .bool true] W fun e w' => e = .returned (.bool (onT s n)) ∧ Below W.heap.size W w') := fun n W => goesRT_any _ W (by rw [ByteArray.size_extract]; omega)
  have hps' : Hid (p ≤ s.size) := hps
  clear hp hps
  go_enter Tryz.func32, Tryz.ntmps32
  go_wp2_with fail
  go_loopw [5, 6] (fun av bv wr => ∃ a b : Nat, a ≤ b ∧ b ≤ s.size ∧ av = .int .i64 (a : Int) ∧ bv = .int .i64 (b : Int) ∧ Hid (a ≤ p ∧ p ≤ b) ∧ Hid (Below w.heap.size w wr)) (fun av bv _ => (intOf bv).toNat - (intOf av).toNat)
  case atStart => exact ⟨0, s.size, Nat.zero_le _, Nat.le_refl _, rfl, rfl, ⟨Nat.zero_le _, hps'.out⟩, Below.refl _ _⟩
  case round =>
    obtain ⟨a, b, hab, hb, rfl, rfl, hap, hB⟩ := hrel
    by_cases hlt : a < b
    · have h1 : (a : Int) < (b : Int) := Int.ofNat_lt.2 hlt
      obtain ⟨m, hm⟩ : ∃ m, (a + b + 1) / 2 = m := ⟨_, rfl⟩
      have hm1 : a + 1 ≤ m ∧ m ≤ b := by omega
      have hdiv : ((a : Int) + (b : Int) + 1).tdiv 2 = (m : Int) := by
        rw [show (a : Int) + (b : Int) + 1 = ((a + b + 1 : Nat) : Int) by omega, ← hm]
        rfl
      have hGm := hG m wr
      have hom := hon.out m (by omega)
      rw [hom] at hGm
      have m0 : (0 : Int) ≤ (m : Int) := Int.natCast_nonneg _
      have m1 : (m : Int) ≤ (s.size : Int) := by omega
      have hm2 : Hid (a + 1 ≤ m ∧ m ≤ b ∧ b ≤ s.size) := ⟨hm1.1, hm1.2, hb⟩
      have hs4 : s.size ≤ 4194300 := hs
      clear hm hm1 hom hG
      by_cases hmp : m ≤ p
      · rw [decide_eq_true hmp] at hGm
        have hmp' : Hid (m ≤ p) := hmp
        clear hmp
        go_wp2_with fail
        refine hGm.out.mono ?_
        rintro e w1 ⟨rfl, hb1⟩
        have o1 : Hid (Below w.heap.size w w1) := hB.out.trans (hb1.mono hB.out.size)
        clear hGm hb1
        go_wp2_with fail
        go_roundw
        case rel => exact ⟨m, b, hm2.out.2.1, hm2.out.2.2, rfl, rfl, ⟨hmp'.out, hap.out.2⟩, o1⟩
        case measure => have := hm2.out; simp [intOf]; omega
      · rw [decide_eq_false hmp] at hGm
        have hmp' : Hid (¬ m ≤ p) := hmp
        clear hmp
        go_wp2_with fail
        refine hGm.out.mono ?_
        rintro e w1 ⟨rfl, hb1⟩
        have o1 : Hid (Below w.heap.size w w1) := hB.out.trans (hb1.mono hB.out.size)
        clear hGm hb1
        go_wp2_with fail
        go_roundw
        case rel =>
          have h3 := hm2.out
          have h4 := hmp'.out
          have h5 := hap.out
          refine ⟨a, m - 1, by omega, by omega, rfl, ?_, ⟨h5.1, by omega⟩, o1⟩
          congr 1
          omega
        case measure => have := hm2.out; simp [intOf]; omega
    · have hpe : Hid (p = a) := by have := hap.out; unfold Hid; omega
      have h1 : ¬ (a : Int) < (b : Int) := by omega
      go_wp2_with fail
      go_ret
      exact ⟨by rw [hpe.out]; rfl, hB.out⟩

set_option maxRecDepth 100000 in
set_option maxHeartbeats 1000000 in
theorem parseTypeR_any (s : ByteArray) (w : World) (hs : s.size ≤ 4194300) :
    Calls Tryz.prog 16 #[.string s] w fun e w' => e = .returned (.tuple #[.string (parsT (S (fold s.data.toList))).1, .int .i64 (parsT (S (fold s.data.toList))).2.1, .int .i64 ((parsT (S (fold s.data.toList))).2.2 : Int)]) ∧ Below w.heap.size w w' := by
  have hI := isType_any s w (by omega)
  have hok := typ_ok (fold s.data.toList)
  have hpl := typ_place (fold s.data.toList)
  have hC : ∀ W, Hid (Calls Tryz.prog 33 #[.string s] W fun e w' => e = .returned (.string (canN (S (fold s.data.toList)))) ∧ Below W.heap.size W w') := fun W => canonR_any s W (by omega)
  have hP : ∀ W, Hid (Calls Tryz.prog 32 #[.string s, .bool true] W fun e w' => e = .returned (.int .i64 ((typE (fold s.data.toList)).1 : Int)) ∧ Below W.heap.size W w') := fun W => by
    have h := placeRT_any s W hs
    rw [← hpl] at h
    exact h
  have hfs : (fold s.data.toList).length = s.size := by rw [fold_len, size_l]
  have hle := typE_le (fold s.data.toList)
  have hsz : (S (fold s.data.toList)).size = s.size := fold_size s
  have hT : Hid (parsT (S (fold s.data.toList)) = if typB (fold s.data.toList) = true then (canN (S (fold s.data.toList)), 0, s.size) else (⟨#[]⟩, 40, (typE (fold s.data.toList)).1)) := by
    unfold Hid parsT
    rw [S_l, hsz]
    rw [hfs] at hok
    by_cases q : typB (fold s.data.toList) = true
    · have h2 := hok.2 q
      rw [if_pos h2, if_pos q]
      congr 2
      have := h2.2
      omega
    · rw [if_neg (fun h => q (hok.1 h)), if_neg q]
  generalize parsT (S (fold s.data.toList)) = R at *
  obtain ⟨b, hb⟩ : ∃ b, typB (fold s.data.toList) = b := ⟨_, rfl⟩
  rw [hb] at hI hT
  clear hok hpl hfs hle hsz hb
  go_enter Tryz.func16, Tryz.ntmps16
  go_wp2_with fail
  refine hI.mono ?_
  rintro e W1 ⟨rfl, hb1⟩
  have o1 : Hid (Below w.heap.size w W1) := hb1
  clear hI hb1
  cases b with
  | false =>
    have hT' : Hid (R = (⟨#[]⟩, 40, (typE (fold s.data.toList)).1)) := hT.out
    have hP1 := hP W1
    clear hT hP hC
    go_wp2_with fail
    refine hP1.out.mono ?_
    rintro e W2 ⟨rfl, hb2⟩
    have o2 : Hid (Below w.heap.size w W2) := o1.out.trans (hb2.mono o1.out.size)
    clear hP1 hb2
    go_wp2_with fail
    go_ret3
    exact ⟨by rw [hT'.out]; rfl, o2.out⟩
  | true =>
    have hT' : Hid (R = (canN (S (fold s.data.toList)), 0, s.size)) := hT.out
    have hC1 := hC W1
    clear hT hP hC
    go_wp2_with fail
    refine hC1.out.mono ?_
    rintro e W2 ⟨rfl, hb2⟩
    have o2 : Hid (Below w.heap.size w W2) := o1.out.trans (hb2.mono o1.out.size)
    clear hC1 hb2
    go_wp2_with fail
    go_ret3
    exact ⟨by rw [hT'.out]; rfl, o2.out⟩
theorem srt_upW (L : List (List UInt8)) (hn : L.Nodup) : Up (srt L) := by
  have hnd : (srt L).Nodup := (List.Nodup.perm hn) (srt_perm L).symm
  have hp := (srt_ord L).and hnd
  refine hp.imp ?_
  rintro x y ⟨h1, h2⟩
  rcases Classical.em (x < y) with h | h
  · exact h
  · exact absurd (List.le_antisymm (of_decide_eq_true h1) h) h2
end Go.Proofs.YtfmhcgadgakbhaaGreatDoor
