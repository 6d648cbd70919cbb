import Derived.Test.YtoknbicfbeocbaaDoorVrG
import Derived.Test.YtoknbicfbeocbaaDoorVX4
namespace Go.Proofs.YtoknbicfbeocbaaDoor
namespace Vr
open Go.RowKit
open TextMath (check)
set_option linter.unusedVariables false

/-- A text, cut. -/
def sh (s : ByteArray) : ByteArray := if 65536 < s.size then s.extract 0 65536 else s
theorem sh_size (s : ByteArray) : (sh s).size ≤ 65536 := by
  unfold sh
  split
  · rw [ByteArray.size_extract]; omega
  · omega
theorem short_any (s : ByteArray) (w : World) : Calls Tryd.prog 4 #[.string s] w fun e w' => e = .returned (.string (sh s)) ∧ w' = w := by
  unfold sh
  by_cases h : 65536 < s.size
  · rw [if_pos h]
    have h1 : (65536 : Int) < (s.size : Int) := by omega
    have h2 : (65536 : Nat) ≤ s.size := by omega
    have h3 : (65536 : Int) ≤ (s.size : Int) := by omega
    clear h
    go_enter Tryd.func4, Tryd.ntmps4
    go_wp2_with fail
    go_ret
    exact ⟨rfl, rfl⟩
  · rw [if_neg h]
    have h1 : ¬ (65536 : Int) < (s.size : Int) := by omega
    clear h
    go_enter Tryd.func4, Tryd.ntmps4
    go_wp2_with fail
    go_ret
    exact ⟨rfl, rfl⟩
/-- A key, its texts cut. -/
def shK (k : Ky) : Ky := (sh k.1, sh k.2.1, k.2.2)
theorem ne_key (k : Ky) (W : World) :
    (binOp .neq 25 (.agg #[.string k.1, .string k.2.1, .bool k.2.2]) (.agg #[.string k.1, .string k.2.1, .bool k.2.2])).run Tryd.prog W = .ok (.bool false) W := by
  have hS : Tryd.prog.underlying 25 = some (.struct (Tryd.prog.fieldsOf 25)) := by kernel_rfl
  have hp : Tryd.prog.stoodInHeld 25 = false := by kernel_rfl
  rw [run_neq_struct, run_equalIn_struct _ _ _ _ _ hS hp]
  simp only [Program.fieldsOf, Tryd.underlying25]
  simp [Op.eqFields, go_sem]
theorem key_at {w : World} {a : Option Addr} {ks : List Ky} (h : GRow 3 kyV w a ks) (i : Nat) (hi : i < ks.length) : ∃ b off, a = some ⟨b, off, none⟩ ∧ w.cell? ⟨b, off + i * 3, none⟩ = some (.string ks[i].1) ∧ w.cell? ⟨b, off + i * 3 + 1, none⟩ = some (.string ks[i].2.1) ∧ w.cell? ⟨b, off + i * 3 + 2, none⟩ = some (.bool ks[i].2.2) := by
  obtain ⟨b, off, e, h1⟩ := h i hi
  exact ⟨b, off, e, h1 0 (by omega), h1 1 (by omega), h1 2 (by omega)⟩
set_option maxRecDepth 100000 in
set_option maxHeartbeats 2000000 in
theorem sameKeys_any (l : List Ky) (a b : Option Addr) (c d : Nat) (w : World) (hl : l.length ≤ 1000) (h1 : GRow 3 kyV w a l) (h2 : GRow 3 kyV w b l) :
    Calls Tryd.prog 8 #[.slice a l.length c, .slice b l.length d] w fun r w' => r = .returned (.bool true) ∧ Below w.heap.size w w' := by
  have hl' : Hid (l.length ≤ 1000) := hl
  clear hl
  go_enter Tryd.func8, Tryd.ntmps8
  go_wp2_with fail
  go_loopw [5] (fun iv wr => ∃ (k q : Nat), k ≤ l.length ∧ iv = .int .i64 (k : Int) ∧ Hid (wr = w.drewN q)) (fun iv _ => l.length - (intOf iv).toNat)
  case atStart => exact ⟨0, 0, Nat.zero_le _, rfl, rfl⟩
  case round =>
    obtain ⟨k, q, hk, rfl, hw⟩ := hrel
    have k0 : (0 : Int) ≤ (k : Int) := Int.natCast_nonneg _
    by_cases hlt : k < l.length
    · have k1 : (k : Int) < (l.length : Int) := Int.ofNat_lt.2 hlt
      obtain ⟨b1, o1, rfl, x0, x1, x2⟩ := key_at h1 k hlt
      obtain ⟨b2, o2, rfl, y0, y1, y2⟩ := key_at h2 k hlt
      have hE : ∀ a, wr.cell? a = w.cell? a := fun a => by rw [hw.out]; rfl
      rw [← hE] at x0 x1 x2 y0 y1 y2
      have hnq := fun W => ne_key l[k] W
      have hkw : Hid (wrap64 ((k : Int) + 1) = (k : Int) + 1) := wr_up' k (by have := hl'.out; omega)
      have hlt' : Hid (k < l.length) := hlt
      generalize l[k] = X at *
      clear hE h1 h2 hlt hk
      go_wp2_with fail
      go_quiet (fail)
      go_wp2_with fail
      have hkw2 := hkw.out
      refine ⟨⟨k + 1, _, hlt'.out, congrArg (Value.int .i64) (by rw [hkw2]; omega), by unfold Hid; rw [hw.out, World.drewN_drewN]⟩, ?_⟩
      rw [hkw2]
      have := hlt'.out
      simp [intOf]
      omega
    · obtain rfl : k = l.length := by omega
      have k1 : ¬ (l.length : Int) < (l.length : Int) := by omega
      clear h1 h2
      go_wp2_with fail
      go_ret
      exact ⟨rfl, by rw [hw.out]; exact ⟨rfl, rfl, rfl, Nat.le_refl _, fun _ _ => rfl⟩⟩
/-- The reference's look at a text. -/
theorem rcheck_utf (s : ByteArray) (W : World) (hs : s.size ≤ 65536) (ht : RowTab W) : Calls Tryd.prog 5 #[.string s] W fun e w' => (∃ c p : Int, e = .returned (.tuple #[.int .i64 c, .int .i64 p]) ∧ utf s = (c == 0)) ∧ W = w' := by
  refine (rCheck_any s W (Nat.le_trans hs (by decide)) ht).mono ?_
  rintro e w' ⟨rfl, rfl⟩
  obtain ⟨c, p, h1, h2⟩ := utf_err s
  exact ⟨⟨c, p, by rw [h1], by rw [h2, Bool.eq_iff_iff]; simp⟩, rfl⟩
end Vr
end Go.Proofs.YtoknbicfbeocbaaDoor

namespace Go.Proofs.YtoknbicfbeocbaaDoor
namespace Vr
open Go.RowKit
set_option linter.unusedVariables false

theorem tab_below {w w' : World} (h : RowTab w) (hb : Below w.heap.size w w') : RowTab w' := fun r c hr hc => by
  have h1 := h r c hr hc
  exact (hb.cell (World.block_lt_of_cell? w _ h1)).trans h1
/-- What the keys' value gives back, whole, with a byte more, with a byte less. -/
def KyP (ks : List Ky) (X : ByteArray) : Prop :=
  0 < X.size ∧ X.size ≤ 268435456 ∧
  (∀ W, Calls Tryd.prog 7 #[.string X] W fun e w' => (∃ v, e = .returned (.tuple #[v, .int .i64 0]) ∧ GOwn 25 3 kyV w' W.heap.size v ks) ∧ Below W.heap.size W w') ∧
  (∀ (M : ByteArray) W, M.data.toList ≠ [] → M.size ≤ 1 → Calls Tryd.prog 7 #[.string (X ++ M)] W fun e w' => e = .returned (.tuple #[.slice none 0 0, .int .i64 224]) ∧ Below W.heap.size W w') ∧
  (∀ (j : Nat) W, j < X.size → Calls Tryd.prog 7 #[.string (X.extract 0 j)] W fun e w' => e = .returned (.tuple #[.slice none 0 0, .int .i64 224]) ∧ Below W.heap.size W w')
theorem kyP_of (ks : List Ky) (X : ByteArray) (h : Wrt X (kNs ks)) (hks : ∀ k ∈ ks, utf k.1 = true ∧ utf k.2.1 = true ∧ k.1.size ≤ 65536 ∧ k.2.1.size ≤ 65536) (hn : ks.length ≤ 1000) : KyP ks X := by
  refine ⟨h.1, h.2.1, fun W => decodeKeys_ok X ks W hks hn (tree_ok X _ h), fun M W hM hM1 => decodeKeys_no _ W (tree_bad _ _ (h.2.2.2.2 M hM) ?_), fun j W hj => decodeKeys_no _ W (tree_bad _ _ (h.2.2.2.1 j hj) ?_)⟩
  · have := h.2.1
    rw [ByteArray.size_append]
    omega
  · have := h.2.1
    rw [ByteArray.size_extract]
    omega
/-- The same of a page's. -/
def PgP (n : Int) (c X : ByteArray) : Prop :=
  0 < X.size ∧ X.size ≤ 268435456 ∧
  (∀ W, Calls Tryd.prog 10 #[.string X] W fun e w' => e = .returned (.tuple #[.int .i64 n, .string c, .int .i64 0]) ∧ Below W.heap.size W w') ∧
  (∀ (M : ByteArray) W, M.data.toList ≠ [] → M.size ≤ 1 → Calls Tryd.prog 10 #[.string (X ++ M)] W fun e w' => e = .returned (.tuple #[.int .i64 0, .string ⟨#[]⟩, .int .i64 224]) ∧ Below W.heap.size W w') ∧
  (∀ (j : Nat) W, j < X.size → Calls Tryd.prog 10 #[.string (X.extract 0 j)] W fun e w' => e = .returned (.tuple #[.int .i64 0, .string ⟨#[]⟩, .int .i64 224]) ∧ Below W.heap.size W w')
theorem pgP_of (n : Int) (c X : ByteArray) (h : Wrt X (pN (eB n) c)) (h0 : 0 ≤ n) (h1 : n ≤ 2147483647) : PgP n c X := by
  refine ⟨h.1, h.2.1, fun W => decodePage_ok X n c W h0 h1 (tree_ok X _ h), fun M W hM hM1 => decodePage_no _ W (tree_bad _ _ (h.2.2.2.2 M hM) ?_), fun j W hj => decodePage_no _ W (tree_bad _ _ (h.2.2.2.1 j hj) ?_)⟩
  · have := h.2.1
    rw [ByteArray.size_append]
    omega
  · have := h.2.1
    rw [ByteArray.size_extract]
    omega
theorem encodePage_P (n : Int) (c : ByteArray) (w : World) (h0 : 0 ≤ n) (h1 : n ≤ 2147483647) (hc : c.size ≤ 65536) :
    Calls Tryd.prog 9 #[.int .i64 n, .string c] w fun e w' => (∃ X, e = .returned (.tuple #[.string X, .int .i64 0]) ∧ PgP n c X) ∧ Below w.heap.size w w' := by
  refine (encodePage_ok n c w h0 h1 hc).mono ?_
  rintro e w' ⟨⟨X, rfl, hX⟩, hb⟩
  exact ⟨⟨X, rfl, pgP_of n c X hX h0 h1⟩, hb⟩
theorem encodeKeys_P (ks : List Ky) (a : Option Addr) (c : Nat) (w : World) (hk : GRow 3 kyV w a ks) (hks : ∀ k ∈ ks, k.1.size ≤ 65536 ∧ k.2.1.size ≤ 65536) (hn : ks.length ≤ 1000) :
    Calls Tryd.prog 6 #[.slice a ks.length c] w fun e w' => ((allU ks = true ∧ ∃ X, e = .returned (.tuple #[.string X, .int .i64 0]) ∧ KyP ks X) ∨ (allU ks = false ∧ e = .returned (.tuple #[.string ⟨#[]⟩, .int .i64 224]))) ∧ Below w.heap.size w w' := by
  refine (encodeKeys_any ks a c w hk hks hn).mono ?_
  rintro e w' ⟨h, hb⟩
  refine ⟨?_, hb⟩
  rcases h with ⟨h1, X, rfl, hX⟩ | h
  · refine Or.inl ⟨h1, X, rfl, kyP_of ks X hX (fun k hk => ?_) hn⟩
    have h2 := List.all_eq_true.1 h1 k hk
    rw [Bool.and_eq_true] at h2
    exact ⟨h2.1, h2.2, hks k hk⟩
  · exact Or.inr h
theorem ne_nil {X : ByteArray} (h : 0 < X.size) : (X.toList == []) = false := by
  rw [Bool.eq_false_iff, ne_eq, beq_iff_eq]
  intro e
  rw [none_eq e] at h
  exact absurd h (by decide)
/-- The byte that stands behind. -/
def mB (n : Int) : ByteArray := S [BerMath.lo n]
set_option maxRecDepth 100000 in
theorem mB_conv (n : Int) (W : World) : (convert 34 9 (.slice (some ⟨W.heap.size, 0, none⟩) 1 1)).run Tryd.prog (W.alloc (.cells #[.int .u8 (n % 256)] 5)) = .ok (.string (mB n)) (W.alloc (.cells #[.int .u8 (n % 256)] 5)) := by
  refine conv_back (W.alloc (.cells #[.int .u8 (n % 256)] 5)) 34 9 5 W.heap.size 1 1 [BerMath.lo n] Tryd.underlying34 Tryd.underlying5 Tryd.underlying9 rfl (fun j hj => ?_)
  have hj0 : j = 0 := by simp at hj; omega
  subst hj0
  have h := Box.new W 5 #[.int .u8 (n % 256)]
  obtain ⟨h1, h2⟩ := h.cell 0 (by simp)
  refine ⟨?_, h2⟩
  rw [h1]
  show some (Value.int .u8 (n % 256)) = _
  rw [← BerMath.lo_n]
  rfl
theorem mB_ne (n : Int) : (mB n).data.toList ≠ [] := by unfold mB; rw [S_l]; simp
theorem mB_size (n : Int) : (mB n).size = 1 := by unfold mB; rw [S_size]; rfl
end Vr
end Go.Proofs.YtoknbicfbeocbaaDoor
