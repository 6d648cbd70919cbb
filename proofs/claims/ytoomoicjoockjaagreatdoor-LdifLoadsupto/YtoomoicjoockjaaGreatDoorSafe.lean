import Derived.Test.YtoomoicjoockjaaGreatDoorInfo
import Derived.Test.YtoomoicjoockjaaGreatDoorBytes
import Derived.Laws.RangeAny
namespace Go.Proofs.YtoomoicjoockjaaGreatDoor
open Go.RowKit

/-- A byte that may stand in a plain value; one that may not stand at its begin. -/
def okB (b : UInt8) : Bool := decide (1 ≤ b.toNat) && decide (b.toNat ≤ 127) && (b.toNat != 10) && (b.toNat != 13)
def mkB (b : UInt8) : Bool := (b.toNat == 32) || (b.toNat == 58) || (b.toNat == 60)
def safe (l : List UInt8) : Bool := l.all okB && !(l.head?.any mkB)
def plain (l : List UInt8) : Bool := safe l && !(l.getLast? == some 32)
/-- The same of a rune. -/
def okR (r : Int) : Bool := decide (1 ≤ r) && decide (r ≤ 127) && (r != 10) && (r != 13)
def mkR (r : Int) : Bool := (r == 32) || (r == 58) || (r == 60)

theorem okR_b (b : UInt8) : okR (b.toNat : Int) = okB b := by
  unfold okR okB
  rw [Bool.eq_iff_iff]; simp; omega
theorem mkR_b (b : UInt8) : mkR (b.toNat : Int) = mkB b := by
  unfold mkR mkB
  rw [Bool.eq_iff_iff]; simp; omega
theorem okR_high (r : Int) (h : 128 ≤ r) : okR r = false := by
  unfold okR
  rw [Bool.eq_false_iff]; simp; omega
theorem okB_high (b : UInt8) (h : 128 ≤ b.toNat) : okB b = false := by rw [← okR_b]; exact okR_high _ (by omega)

theorem safe_snoc (s : ByteArray) (k : Nat) (h : k < s.size) : safe (s.data.toList.take (k + 1)) = (safe (s.data.toList.take k) && okB s[k] && !(decide (k = 0) && mkB s[k])) := by
  rw [take_snoc s k h]
  by_cases hk : k = 0
  · subst hk; simp [safe]
  · have hne : (s.data.toList.take k) ≠ [] := by
      intro hh
      have := congrArg List.length hh
      rw [List.length_take, size_l, List.length_nil] at this
      omega
    have hd : ((s.data.toList.take k) ++ [s[k]]).head? = (s.data.toList.take k).head? := by
      cases hl : s.data.toList.take k with
      | nil => exact absurd hl hne
      | cons a t => rfl
    unfold safe
    rw [hd]
    simp [hk, List.all_append]
    cases List.all (s.data.toList.take k) okB <;> cases okB s[k] <;> simp
theorem safe_false (s : ByteArray) (k : Nat) (hf : safe (s.data.toList.take (k + 1)) = false) : safe s.data.toList = false := by
  have e := (List.take_append_drop (k + 1) s.data.toList).symm
  have hd : s.data.toList.head? = (s.data.toList.take (k + 1)).head? := by cases s.data.toList <;> rfl
  rw [Bool.eq_false_iff] at hf ⊢
  intro ht
  apply hf
  unfold safe at ht ⊢
  rw [hd] at ht
  rw [e, List.all_append] at ht
  simp only [Bool.and_eq_true] at ht ⊢
  refine ⟨ht.1.1, ?_⟩
  have := ht.2
  rw [← e] at this
  exact this

set_option maxHeartbeats 1000000 in
theorem safeRune_any (r : Int) (w : World) : Calls Tryz.prog 69 #[.int .i32 r] w fun e w' => e = .returned (.bool (okR r)) ∧ w' = w := by
  go_enter Tryz.func69, Tryz.ntmps69
  go_wp2
  all_goals
    go_ret
    refine ⟨ret_bool ?_, rfl⟩
    simp_all [okR]
    try omega
set_option maxHeartbeats 1000000 in
theorem marksValue_any (r : Int) (w : World) : Calls Tryz.prog 70 #[.int .i32 r] w fun e w' => e = .returned (.bool (mkR r)) ∧ w' = w := by
  go_enter Tryz.func70, Tryz.ntmps70
  go_wp2
  all_goals
    go_ret
    refine ⟨ret_bool ?_, rfl⟩
    simp_all [mkR]

theorem below_iter (w : World) (s : ByteArray) (pos : Nat) : Below w.heap.size w (w.iter s pos) := (Below.refl _ _).alloc (Nat.le_refl _) _

set_option maxRecDepth 100000 in
set_option maxHeartbeats 1000000 in
theorem safe_any (s : ByteArray) (w : World) :
    Calls Tryz.prog 54 #[.string s] w fun e w' => e = .returned (.bool (safe s.data.toList)) ∧ Below w.heap.size w w' := by
  go_enter Tryz.func54, Tryz.ntmps54
  go_wp2
  go_loopw [3] (fun _ wr => ∃ pos : Nat, pos ≤ s.size ∧ wr = w.iter s pos ∧ Hid (safe (s.data.toList.take pos) = true)) (fun _ wr => s.size - wr.iterPos w.heap.size)
  case atStart => exact ⟨0, Nat.zero_le _, rfl, by unfold Hid; simp [safe]⟩
  case round =>
    obtain ⟨pos, hle, rfl, hs⟩ := hrel
    by_cases hp : pos < s.size
    · by_cases ha : (s[pos]'hp).toNat < 128
      · have hnx : ∀ ty, (Instr.next (.pointer (some ⟨w.heap.size, 0, none⟩)) true ty).run Tryz.prog (w.iter s pos) = _ := fun ty => run_next_ascii w s pos ty hp ha
        have hsn := safe_snoc s pos hp
        have hfl := safe_false s pos
        rw [hsn, hs.out, Bool.true_and] at hfl
        rw [hs.out, Bool.true_and] at hsn
        have hso : ∀ W, Hid (Calls Tryz.prog 69 #[.int .i32 (s[pos].toNat : Int)] W fun e w' => e = .returned (.bool (okB s[pos])) ∧ w' = W) := fun W => by
          have := safeRune_any (s[pos].toNat : Int) W; rw [okR_b] at this; exact this
        have hmk : ∀ W, Hid (Calls Tryz.prog 70 #[.int .i32 (s[pos].toNat : Int)] W fun e w' => e = .returned (.bool (mkB s[pos])) ∧ w' = W) := fun W => by
          have := marksValue_any (s[pos].toNat : Int) W; rw [mkR_b] at this; exact this
        have hrel2 : Hid (okB s[pos] = true → (decide (pos = 0) && mkB s[pos]) = false → safe (s.data.toList.take (pos + 1)) = true) := fun h1 h2 => by rw [hsn, h1, h2]; rfl
        have hret : Hid ((okB s[pos] && !(decide (pos = 0) && mkB s[pos])) = false → safe s.data.toList = false) := hfl
        clear hsn hfl hs ha
        generalize hok : okB s[pos] = ok at *
        generalize hmkb : mkB s[pos] = mk at *
        clear hok hmkb
        generalize (s[pos].toNat : Int) = r at *
        by_cases h0 : pos = 0
        · subst h0
          cases ok <;> cases mk
          · go_wp2_with (first | (go_at_call 69; refine (hso _).out.mono ?_; rintro e w2 ⟨rfl, rfl⟩) | (go_at_call 70; refine (hmk _).out.mono ?_; rintro e w2 ⟨rfl, rfl⟩) | go_in)
            go_ret
            exact ⟨ret_bool (hret.out rfl).symm, below_iter _ _ _⟩
          · go_wp2_with (first | (go_at_call 69; refine (hso _).out.mono ?_; rintro e w2 ⟨rfl, rfl⟩) | (go_at_call 70; refine (hmk _).out.mono ?_; rintro e w2 ⟨rfl, rfl⟩) | go_in)
            go_ret
            exact ⟨ret_bool (hret.out rfl).symm, below_iter _ _ _⟩
          · go_wp2_with (first | (go_at_call 69; refine (hso _).out.mono ?_; rintro e w2 ⟨rfl, rfl⟩) | (go_at_call 70; refine (hmk _).out.mono ?_; rintro e w2 ⟨rfl, rfl⟩) | go_in)
            go_roundw
            case rel => exact ⟨1, by omega, rfl, by have := hrel2.out; unfold Hid; simpa using this⟩
            case measure => simp; omega
          · go_wp2_with (first | (go_at_call 69; refine (hso _).out.mono ?_; rintro e w2 ⟨rfl, rfl⟩) | (go_at_call 70; refine (hmk _).out.mono ?_; rintro e w2 ⟨rfl, rfl⟩) | go_in)
            go_ret
            exact ⟨ret_bool (hret.out rfl).symm, below_iter _ _ _⟩
        · have h0' : ((pos : Int) == 0) = false := by simp; omega
          have h0d : decide (pos = 0) = false := by simp [h0]
          rw [h0d] at hrel2 hret
          cases ok
          · go_wp2_with (first | (go_at_call 69; refine (hso _).out.mono ?_; rintro e w2 ⟨rfl, rfl⟩) | (go_at_call 70; refine (hmk _).out.mono ?_; rintro e w2 ⟨rfl, rfl⟩) | go_in)
            go_ret
            exact ⟨ret_bool (hret.out rfl).symm, below_iter _ _ _⟩
          · go_wp2_with (first | (go_at_call 69; refine (hso _).out.mono ?_; rintro e w2 ⟨rfl, rfl⟩) | (go_at_call 70; refine (hmk _).out.mono ?_; rintro e w2 ⟨rfl, rfl⟩) | go_in)
            go_roundw
            case rel => exact ⟨pos + 1, by omega, rfl, by have := hrel2.out; unfold Hid; simpa using this⟩
            case measure => simp; omega
      · have hnx : ∀ ty, (Instr.next (.pointer (some ⟨w.heap.size, 0, none⟩)) true ty).run Tryz.prog (w.iter s pos) = _ := fun ty => run_next_any w s pos ty hp
        have hh := (decode_high s pos hp (by omega)).1
        have hso : ∀ W, Hid (Calls Tryz.prog 69 #[.int .i32 ((Utf8.decode s pos).1 : Int)] W fun e w' => e = .returned (.bool false) ∧ w' = W) := fun W => by
          have := safeRune_any ((Utf8.decode s pos).1 : Int) W; rw [okR_high _ (by omega)] at this; exact this
        have hret : Hid (safe s.data.toList = false) := safe_false s pos (by rw [safe_snoc s pos hp, okB_high _ (by omega)]; simp)
        clear hh ha
        go_wp2_with (first | (go_at_call 69; refine (hso _).out.mono ?_; rintro e w2 ⟨rfl, rfl⟩) | go_in)
        go_ret
        exact ⟨ret_bool hret.out.symm, below_iter _ _ _⟩
    · have hnx : ∀ ty, (Instr.next (.pointer (some ⟨w.heap.size, 0, none⟩)) true ty).run Tryz.prog (w.iter s pos) = _ := fun ty => run_next_end w s pos ty hp
      have hret : Hid (safe s.data.toList = true) := by
        have := hs.out
        rw [List.take_of_length_le (by rw [size_l]; omega)] at this
        exact this
      go_wp2
      go_ret
      exact ⟨ret_bool hret.out.symm, below_iter _ _ _⟩

theorem last_space (s : ByteArray) (h : 1 ≤ s.size) : ((s.extract (s.size - 1) s.size).data.toList = [32]) ↔ s.data.toList.getLast? = some 32 := by
  rw [drop_l]
  have hl := size_l s
  generalize hL : s.data.toList = l at *
  have hne : l ≠ [] := by intro hh; subst hh; simp at hl; omega
  have hdr : l.drop (s.size - 1) = [l.getLast hne] := by
    rw [← hl]
    conv => lhs; rw [← List.dropLast_concat_getLast hne]
    rw [List.drop_append_of_le_length (by simp), List.drop_of_length_le (by simp)]; rfl
  rw [hdr, List.getLast?_eq_some_getLast hne]
  simp

set_option maxHeartbeats 1000000 in
theorem endsBlank_any (s : ByteArray) (w : World) (hs : s.size ≤ 9223372036854775807) :
    Calls Tryz.prog 123 #[.string s, .string ⟨#[32]⟩] w fun e w' => e = .returned (.bool (s.data.toList.getLast? == some 32)) ∧ w' = w := by
  by_cases h0 : s.size = 0
  · have hn : s.data.toList = [] := List.eq_nil_of_length_eq_zero (by rw [size_l]; exact h0)
    go_enter Tryz.func123, Tryz.ntmps123
    go_wp2
    go_ret
    refine ⟨ret_bool ?_, rfl⟩
    rw [hn]; rfl
  · have h1 : 1 ≤ s.size := by omega
    have HL : Hid (((s.extract (s.size - 1) s.size).data.toList = [32]) ↔ s.data.toList.getLast? = some 32) := last_space s h1
    go_enter Tryz.func123, Tryz.ntmps123
    go_wp2
    go_ret
    refine ⟨ret_bool ?_, rfl⟩
    rw [Bool.eq_iff_iff, Lib.toList_data, beq_iff_eq, beq_iff_eq]
    exact HL.out

end Go.Proofs.YtoomoicjoockjaaGreatDoor
