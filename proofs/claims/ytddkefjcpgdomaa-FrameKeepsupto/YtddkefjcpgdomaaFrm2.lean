import Derived.Test.YtddkefjcpgdomaaFrm1
import Derived.Lib.AppendZerosOnto
import Derived.Lib.AppendZeros
namespace Go.Proofs.Ytddkefjcpgdomaa
open Go.RowKit
open FrMath (Hdr lb bd within Out ends cut Cut)

/-- What slices.Grow leaves: a row with room. -/
def GrowQ (B : Nat) (v : Value) (r : List UInt8) (n : Nat) (w : World) (e : Ending) (w' : World) : Prop :=
  ∃ g cap cur, e = .returned (.slice (some ⟨g, 0, none⟩) r.length cap) ∧ w'.heap[g]? = some (.cells cur 5 (0, 0)) ∧ r.length + n ≤ cap ∧ cap ≤ maxLen ∧ cur.size = cap ∧ cur.toList.take r.length = bv r ∧ B ≤ g ∧ (v.ownBlock = some g ∨ w.heap.size ≤ g) ∧ Below w.heap.size w w'

theorem grow_room (a : Option Addr) (l c n : Nat) (w : World) (hroom : l + n ≤ c) (hc : c ≤ 9223372036854775807) :
    Calls Try.prog 32 #[.slice a l c, .int .i64 (n : Int)] w fun e w' => e = .returned (.slice a l c) ∧ w = w' := by
  have h1 : ¬ ((n : Int) < 0) := by omega
  have h2 : wrap64 ((c : Int) - (l : Int)) = (c : Int) - (l : Int) := by unfold wrap64; omega
  have h3 : wrap64 ((n : Int) - ((c : Int) - (l : Int))) = (n : Int) - ((c : Int) - (l : Int)) := by unfold wrap64; omega
  have h4 : ¬ (0 < (n : Int) - ((c : Int) - (l : Int))) := by omega
  go_enter Try.func32, Try.ntmps32
  go_wp2
  go_ret
  exact ⟨rfl, rfl⟩

theorem grow_grow (a : Option Addr) (l c n : Nat) (cs : List Value) (w : World) (hlc : l ≤ c) (hroom : c < l + n) (hbig : l + n ≤ 1099511627776) (hcl : cs.length = c) (hnil : a = none → c = 0)
    (hcs : ∀ d, a = some d → ∀ j v, cs[j]? = some v → w.cell? (d.add j) = some v) :
    Calls Try.prog 32 #[.slice a l c, .int .i64 (n : Int)] w fun e w' => ∃ G, l + n ≤ G ∧ G ≤ maxLen ∧ e = .returned (.slice (some ⟨w.heap.size, 0, none⟩) l G) ∧
      w' = w.drew.alloc (.cells (cs.toArray ++ Builtin.zeroCells #[.int .u8 0] (l + n - c) ++ Builtin.zeroCells #[.int .u8 0] (G - (l + n))) 5) := by
  obtain ⟨i0, hi, hz0, hz1, hz2⟩ := info_parts info_u8
  have h1 : ¬ ((n : Int) < 0) := by omega
  have h2 : wrap64 ((c : Int) - (l : Int)) = (c : Int) - (l : Int) := by unfold wrap64; omega
  have h3 : wrap64 ((n : Int) - ((c : Int) - (l : Int))) = (n : Int) - ((c : Int) - (l : Int)) := by unfold wrap64; omega
  have h4 : 0 < (n : Int) - ((c : Int) - (l : Int)) := by omega
  have hck : c + (l + n - c) = l + n := by omega
  have hold : (Builtin.firstCells i0.size c (.slice a c c)).run Try.prog w.drew = .ok cs.toArray w.drew := by
    cases a with
    | none =>
      have h0 := hnil rfl
      subst h0
      have hc0 : cs = [] := List.length_eq_zero_iff.1 hcl
      rw [hc0]
      exact run_firstCells_none w.drew i0.size 0 0 0
    | some d => exact run_firstCells_some w.drew i0.size c d c c cs (by rw [hz1, hcl]; omega) (fun j v hj => hcs d rfl j v hj)
  have hrz : ∀ ty, (Builtin.append_ #[45, 3] ty #[.slice a c c, .int .i64 ((n : Int) - ((c : Int) - (l : Int)))]).run Try.prog w =
      .ok (.slice (some ⟨w.heap.size, 0, none⟩) (l + n) (grownCap w (l + n) c 5)) (w.drew.alloc (.cells (cs.toArray ++ Builtin.zeroCells #[.int .u8 0] (l + n - c) ++ Builtin.zeroCells #[.int .u8 0] (grownCap w (l + n) c 5 - (l + n))) 5)) := fun ty => by
    have h := Lib.run_append_grow_zeros w 45 3 ty 5 i0 (.int .u8 0) .i64 .i64 Try.underlying45 Try.underlying3 hi hz0 a c c cs hold (l + n - c) (by omega) (by omega) (by omega) (by omega)
      (by rw [hz2]; omega) (by rw [hck]; exact growslice_fits hroom (by rw [hz2]; omega))
    rw [hck] at h
    rw [show (n : Int) - ((c : Int) - (l : Int)) = ((l + n - c : Nat) : Int) by omega]
    exact h
  have hGn : l + n ≤ grownCap w (l + n) c 5 := grownCap_ge w _ _ _
  have hGm : grownCap w (l + n) c 5 ≤ maxLen := grownCap_le_maxLen w (l + n) c 5 (by unfold maxLen; omega)
  generalize grownCap w (l + n) c 5 = G at *
  have hG63 : G ≤ 9223372036854775807 := by unfold maxLen at hGm; omega
  have hGm' : Hid (G ≤ maxLen) := hGm
  clear hold hck hcs hcl hGm hi hz0 hz1 hz2
  cases a with
  | none =>
    have h0 := hnil rfl
    subst h0
    obtain rfl : l = 0 := by omega
    go_enter Try.func32, Try.ntmps32
    go_wp2_with (at_builtin; refine Lib.wpList_append_run _ rfl _ _ _ _ rfl _ _ rfl rfl _ _ (hrz _) ?_)
    all_goals
      go_ret
      exact ⟨G, by omega, hGm'.out, rfl, by first | rfl | simp⟩
  | some d =>
    obtain ⟨db, dof, dsp⟩ := d
    go_enter Try.func32, Try.ntmps32
    go_wp2_with (at_builtin; refine Lib.wpList_append_run _ rfl _ _ _ _ rfl _ _ rfl rfl _ _ (hrz _) ?_)
    all_goals
      go_ret
      exact ⟨G, hGn, hGm'.out, rfl, rfl⟩

theorem grow_any (B : Nat) (v : Value) (r : List UInt8) (n : Nat) (w : World) (hown : Own w B v r) (hB : B ≤ w.heap.size) (h1 : 1 ≤ n) (hsz : r.length + n ≤ 1099511627776) :
    Calls Try.prog 32 #[v, .int .i64 (n : Int)] w fun e w' => GrowQ B v r n w e w' := by
  rcases hown with ⟨hx, ⟨rfl, h0⟩ | ⟨g, cap, cur, rfl, h3, h4, h5, h6, h7, h8⟩⟩
  · have hr : r = [] := List.eq_nil_of_length_eq_zero h0
    subst hr
    refine (grow_grow none 0 0 n [] w (Nat.le_refl _) (by omega) (by simpa using hsz) rfl (fun _ => rfl) (fun d hd => by cases hd)).mono ?_
    rintro e w' ⟨G, hG1, hG2, rfl, rfl⟩
    refine ⟨w.heap.size, G, _, rfl, heap_alloc_new w.drew _, by simpa using hG1, hG2, ?_, by simp [bv], hB, Or.inr (Nat.le_refl _), ((Below.refl _ _).drew).alloc (by simp) _⟩
    simp [size_zeroCells]
    omega
  · rw [Nat.mul_one] at h7 h8
    by_cases hroom : r.length + n ≤ cap
    · refine (grow_room _ _ _ _ w hroom (by unfold maxLen at h6; omega)).mono ?_
      rintro e w' ⟨rfl, rfl⟩
      exact ⟨g, cap, cur, rfl, h4, hroom, h6, h7, h8, h3, Or.inl rfl, Below.refl _ _⟩
    · refine (grow_grow (some ⟨g, 0, none⟩) r.length cap n cur.toList w h5 (by omega) hsz (by simpa using h7) (fun hd => by cases hd) ?_).mono ?_
      · intro d hd j x hj
        injection hd with hd
        subst hd
        rw [add_j]
        unfold World.cell?
        rw [h4]
        simpa using hj
      · rintro e w' ⟨G, hG1, hG2, rfl, rfl⟩
        refine ⟨w.heap.size, G, _, rfl, heap_alloc_new w.drew _, hG1, hG2, ?_, ?_, hB, Or.inr (Nat.le_refl _), ((Below.refl _ _).drew).alloc (by simp) _⟩
        · simp [size_zeroCells]
          omega
        · rw [Array.toList_append, Array.toList_append, List.append_assoc, List.take_append_of_le_length (by simp; omega)]
          simpa using h8
end Go.Proofs.Ytddkefjcpgdomaa
