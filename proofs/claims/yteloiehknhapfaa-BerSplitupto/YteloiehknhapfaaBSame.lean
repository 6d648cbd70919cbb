import Derived.Test.YteloiehknhapfaaBSplit2
import Derived.Laws.StructEq
namespace Go.Proofs.Yteloiehknhapfaa
open Go.RowKit
open BerMath (Hd HR num hAt wAt)

theorem meas_k (k j : Nat) (h : j < k) (hw : wrap64 ((j : Int) + 1) = ((j + 1 : Nat) : Int)) : k - (intOf (.int .i64 (wrap64 ((j : Int) + 1)))).toNat < k - (intOf (.int .i64 (j : Int))).toNat := by
  rw [hw]
  show k - (((j + 1 : Nat) : Int)).toNat < k - ((j : Nat) : Int).toNat
  rw [Int.toNat_natCast, Int.toNat_natCast]
  omega
theorem ne_elem (c : Int) (m : Bool) (t : Int) (s : ByteArray) (W : World) :
    (binOp .neq 35 (.agg #[.int .i64 c, .bool m, .int .i64 t, .string s]) (.agg #[.int .i64 c, .bool m, .int .i64 t, .string s])).run Try.prog W = .ok (.bool false) W := by
  have hS : Try.prog.underlying 35 = some (.struct (Try.prog.fieldsOf 35)) := by kernel_rfl
  have hp : Try.prog.stoodInHeld 35 = false := by kernel_rfl
  rw [run_neq_struct, run_equalIn_struct _ _ _ _ _ hS hp]
  simp only [Program.fieldsOf, Try.underlying35]
  simp [Op.eqFields, go_sem]

theorem ev_at (l : List Elm) (i : Nat) (hi : i < l.length) (j : Nat) (hj : j < 4) : (ev l)[i * 4 + j]? = (eV l[i])[j]? := by
  induction l generalizing i with
  | nil => simp at hi
  | cons x l ih =>
    cases i with
    | zero =>
      show (eV x ++ ev l)[0 * 4 + j]? = _
      rw [List.getElem?_append_left (by simp [eV]; omega)]
      simp
    | succ i =>
      show (eV x ++ ev l)[(i + 1) * 4 + j]? = _
      have e : (i + 1) * 4 + j = (eV x).length + (i * 4 + j) := by simp [eV]; omega
      rw [e, List.getElem?_append_right (by omega), Nat.add_sub_cancel_left, ih i (by simpa using hi)]
      rfl

/-- The cells of one element of a row. -/
theorem ownE_cells {w : World} {B g cap : Nat} {l : List Elm} (h : OwnE w B (.slice (some ⟨g, 0, none⟩) l.length cap) l) (i : Nat) (hi : i < l.length) :
    w.cell? ⟨g, i * 4, none⟩ = some (.int .i64 (l[i].c : Int)) ∧ w.cell? ⟨g, i * 4 + 1, none⟩ = some (.bool l[i].m) ∧ w.cell? ⟨g, i * 4 + 2, none⟩ = some (.int .i64 (l[i].t : Int)) ∧ w.cell? ⟨g, i * 4 + 3, none⟩ = some (.string l[i].s) := by
  have key : ∀ j, j < 4 → w.cell? ⟨g, i * 4 + j, none⟩ = (eV l[i])[j]? := fun j hj => by
    have hc := World.ownsRow.cellAt (show w.ownsRow B 35 4 _ l.length (ev l) from h) (i * 4 + j) (by omega)
    rw [hc]
    exact ev_at l i hi j hj
  exact ⟨key 0 (by omega), key 1 (by omega), key 2 (by omega), key 3 (by omega)⟩

theorem ownE_form {w : World} {B : Nat} {v : Value} {l : List Elm} (h : OwnE w B v l) : (v = .slice none 0 0 ∧ l = []) ∨ (∃ g cap, v = .slice (some ⟨g, 0, none⟩) l.length cap) := by
  have hl := h.1
  rcases h.2 with ⟨rfl, hn⟩ | ⟨g, cap, cur, rfl, _⟩
  · exact Or.inl ⟨rfl, List.eq_nil_of_length_eq_zero hn⟩
  · exact Or.inr ⟨g, cap, rfl⟩

set_option maxHeartbeats 1000000 in
theorem same_some (l : List Elm) (B g g' cap cap' : Nat) (w : World) (hl : l.length ≤ 1048577) (h1 : OwnE w B (.slice (some ⟨g, 0, none⟩) l.length cap) l) (h2 : OwnE w B (.slice (some ⟨g', 0, none⟩) l.length cap') l) :
    Calls Try.prog 23 #[.slice (some ⟨g, 0, none⟩) l.length cap, .slice (some ⟨g', 0, none⟩) l.length cap'] w fun r w' => r = .returned (.bool true) ∧ Below w.heap.size w w' := by
  go_enter Try.func23, Try.ntmps23
  go_wp2_with fail
  go_loopw [5] (fun iv wr => ∃ (k : Nat), k ≤ l.length ∧ iv = .int .i64 (k : Int) ∧ Hid (wr.heap = w.heap) ∧ Below w.heap.size w wr) (fun iv _ => l.length - (intOf iv).toNat)
  case atStart => exact ⟨0, Nat.zero_le _, rfl, rfl, Below.refl _ _⟩
  case round =>
    obtain ⟨k, hk, rfl, hh, HB⟩ := hrel
    by_cases hlt : k < l.length
    · obtain ⟨a0, a1, a2, a3⟩ := ownE_cells h1 k hlt
      obtain ⟨b0, b1, b2, b3⟩ := ownE_cells h2 k hlt
      have hE : ∀ a, wr.cell? a = w.cell? a := fun a => World.cell?_of_block (w := w) (by rw [hh.out])
      rw [← hE] at a0 a1 a2 a3 b0 b1 b2 b3
      have hnq := fun W => ne_elem (l[k].c : Int) l[k].m (l[k].t : Int) l[k].s W
      have k0 : (0 : Int) ≤ (k : Int) := Int.natCast_nonneg _
      have k1 : (k : Int) < (l.length : Int) := Int.ofNat_lt.2 hlt
      have hkw : Hid (wrap64 ((k : Int) + 1) = ((k + 1 : Nat) : Int)) := by unfold Hid wrap64; omega
      clear hE
      go_wp2_with fail
      go_region
      all_goals
        go_wp2_with fail
        go_roundw
        case rel => exact ⟨k + 1, hlt, by first | (rw [hkw.out]) | (simp), by exact hh, HB.drew⟩
        case measure => first | exact meas_k l.length k hlt hkw.out | (simp [intOf]; omega)
    · have hke : k = l.length := by omega
      subst hke
      go_wp2_with fail
      go_ret
      exact ⟨rfl, HB⟩

theorem same_any (l : List Elm) (B : Nat) (v v' : Value) (w : World) (hl : l.length ≤ 1048577) (h1 : OwnE w B v l) (h2 : OwnE w B v' l) :
    Calls Try.prog 23 #[v, v'] w fun r w' => r = .returned (.bool true) ∧ Below w.heap.size w w' := by
  have empty : ∀ (a a' : Option Addr) (c c' : Nat), Calls Try.prog 23 #[.slice a 0 c, .slice a' 0 c'] w fun r w' => r = .returned (.bool true) ∧ Below w.heap.size w w' := by
    intro a a' c c'
    go_enter Try.func23, Try.ntmps23
    go_wp2_with fail
    go_loopw [5] (fun iv wr => iv = .int .i64 0 ∧ w = wr) (fun _ _ => 0)
    case atStart => exact ⟨rfl, rfl⟩
    case round =>
      obtain ⟨rfl, rfl⟩ := hrel
      go_wp2_with fail
      go_ret
      exact ⟨rfl, Below.refl _ _⟩
  rcases ownE_form h1 with ⟨rfl, rfl⟩ | ⟨g, cap, rfl⟩
  · rcases ownE_form h2 with ⟨rfl, _⟩ | ⟨g', cap', rfl⟩
    · exact empty _ _ _ _
    · exact empty _ _ _ _
  · rcases ownE_form h2 with ⟨rfl, rfl⟩ | ⟨g', cap', rfl⟩
    · exact empty _ _ _ _
    · exact same_some l B g g' cap cap' w hl h1 h2

theorem spl_len (s : ByteArray) (f p : Nat) (l : List Elm) (h : spl s f p = .ok l) (hp : p ≤ s.size) : l.length + p ≤ s.size := by
  induction f generalizing p l with
  | zero => injection h with h; subst h; simpa using hp
  | succ f ih =>
    by_cases hq : s.size ≤ p
    · rw [spl_end s f p hq] at h; injection h with h; subst h; simpa using hp
    · cases hw : wAt s.data.toList p s.size with
      | ok x =>
        rw [spl_ok s f p x hq hw] at h
        obtain ⟨hh, hle⟩ := wAt_ok _ _ _ _ hw
        have hx := BerMath.hAt_ok _ _ _ _ hh
        cases hr : spl s f (p + x.size + x.len) with
        | ok k =>
          rw [hr] at h
          injection h with h
          subst h
          have := ih _ _ hr hle
          simp
          omega
        | error y => rw [hr] at h; cases h
      | error o =>
        cases o with
        | some cq =>
          obtain ⟨a, b⟩ := cq
          rw [spl_er s f p a b hq hw] at h; cases h
        | none => rw [spl_miss s f p hq hw] at h; cases h

set_option maxHeartbeats 1000000 in
theorem berSplit_walk (s : ByteArray) (w : World) (hm : s.size ≤ 1048576) :
    Calls Try.prog 8 #[.string s] w fun e w' => e = .returned (.bool true) ∧ Below w.heap.size w w' := by
  have H1 : ∀ W, Hid (Calls Try.prog 21 #[.string s] W fun r w' => splitQ s W.heap.size r w' ∧ Below W.heap.size W w') := fun W => berSplit_any s W hm
  have H2 : ∀ W, Hid (Calls Try.prog 22 #[.string s] W fun r w' => splitQ s W.heap.size r w' ∧ Below W.heap.size W w') := fun W => refSplit_any s W hm
  go_enter Try.func8, Try.ntmps8
  go_wp2_with fail
  refine (H1 _).out.mono ?_
  rintro r w1 ⟨hq1, hb1⟩
  rcases hq1 with ⟨l, v, hs1, rfl, hown1⟩ | ⟨c, q, hs1, rfl⟩
  · have hlen := spl_len _ _ _ _ hs1 (Nat.zero_le _)
    go_wp2_with fail
    refine (H2 _).out.mono ?_
    rintro r w2 ⟨hq2, hb2⟩
    rcases hq2 with ⟨l2, v2, hs2, rfl, hown2⟩ | ⟨c2, q2, hs2, rfl⟩
    · rw [hs1] at hs2
      injection hs2 with hs2
      subst hs2
      have hsame := same_any l w.heap.size v v2 w2 (by omega) (ownE_below hown1 hb2) (ownE_base hown2 hb1.size)
      have HB : Below w.heap.size w w2 := hb1.trans (hb2.mono hb1.size)
      go_wp2_with fail
      refine hsame.mono ?_
      rintro r w3 ⟨rfl, hb3⟩
      go_wp2_with fail
      go_ret
      exact ⟨rfl, HB.trans (hb3.mono HB.size)⟩
    · rw [hs1] at hs2; cases hs2
  · go_wp2_with fail
    refine (H2 _).out.mono ?_
    rintro r w2 ⟨hq2, hb2⟩
    rcases hq2 with ⟨l2, v2, hs2, rfl, hown2⟩ | ⟨c2, q2, hs2, rfl⟩
    · rw [hs1] at hs2; cases hs2
    · rw [hs1] at hs2
      injection hs2 with hs2
      injection hs2 with e1 e2
      subst e1 e2
      have hsame := same_any [] w.heap.size (.slice none 0 0) (.slice none 0 0) w2 (by simp) (ownE_nil _ _) (ownE_nil _ _)
      have HB : Below w.heap.size w w2 := hb1.trans (hb2.mono hb1.size)
      go_wp2_with fail
      refine hsame.mono ?_
      rintro r w3 ⟨rfl, hb3⟩
      go_wp2_with fail
      go_ret
      exact ⟨rfl, HB.trans (hb3.mono HB.size)⟩
end Go.Proofs.Yteloiehknhapfaa
