import Derived.Test.YtkknenmpdimdbaaDoorKeE
import Derived.Test.YtkknenmpdimdbaaDoorDuOwn
namespace Go.Proofs.YtkknenmpdimdbaaDoor
namespace Ke
open Go.RowKit
open Du (PRow pV pV_len prow_at)
set_option linter.unusedVariables false
set_option linter.unusedSimpArgs false
set_option maxRecDepth 100000

theorem kt_box {w w' : World} {k : Nat} {cs : Array Value} {t : TypeId} {fz : Nat × Nat} (h : Lr.Kt w w') (hb : w.heap[k]? = some (.cells cs t fz)) (h1 : t ≠ 57) (h2 : t ≠ 5) : w'.heap[k]? = some (.cells cs t fz) :=
  h k _ hb (fun _ _ e => by injection e with _ e _; exact h1 e) (fun _ _ e => by injection e with _ e _; exact h2 e)
def ptW (p : PR) : Nat := p.1.length + 3 * p.2.length + 2
theorem pt1_len (p : PR) : (pt1 p).length + 1 ≤ ptW p := by
  have := escV_len p.2
  unfold pt1 ptW
  simp only [List.length_append, List.length_cons]
  omega
theorem ptT_len (l : List PR) : (ptT l).length ≤ (l.map ptW).sum := by
  induction l with
  | nil => simp [ptT]
  | cons p l ih =>
    have := pt1_len p
    unfold ptT at ih ⊢
    simp only [List.flatMap_cons, List.length_append, List.length_cons, List.map_cons, List.sum_cons]
    omega
theorem ptx_len (l : List PR) : (ptx l).length ≤ (l.map ptW).sum := by
  cases l with
  | nil => simp [ptx]
  | cons p l =>
    have := pt1_len p
    have := ptT_len l
    simp only [ptx, List.length_append, List.map_cons, List.sum_cons]
    omega
theorem sum_take (l : List PR) (i : Nat) : ((l.take i).map ptW).sum ≤ (l.map ptW).sum := by
  have e : (l.map ptW).sum = ((l.take i).map ptW).sum + ((l.drop i).map ptW).sum := by rw [← List.sum_append, ← List.map_append, List.take_append_drop]
  omega
theorem sum_at (l : List PR) (i : Nat) (h : i < l.length) : ((l.take i).map ptW).sum + ptW l[i] ≤ (l.map ptW).sum := by
  have h1 := sum_take l (i + 1)
  rw [List.take_succ_eq_append_getElem h, List.map_append, List.sum_append] at h1
  simpa using h1
theorem isB_below {B b : Nat} {l : List UInt8} {W W' : World} (h : IsB B b l W) (hb : Below W.heap.size W W') : IsB B b l W' := by
  have key : ∀ p, Lib.BuilderAt 57 5 B b p (bv l) W → Lib.BuilderAt 57 5 B b p (bv l) W' := fun p hp => by
    obtain ⟨h1, v, h2, h3, h4⟩ := hp
    have hlt : b < W.heap.size := (Array.getElem?_eq_some_iff.1 h2).1
    exact ⟨h1, v, by rw [hb.block b hlt]; exact h2, Du.owns_same h3 (fun g hg => hb.block g (World.ownsRow.lt h3 g hg).2), h4⟩
  rcases h with h | h
  · exact Or.inl (key _ h)
  · exact Or.inr (key _ h)
/-- What stands while a part is written. -/
def Wr (B b : Nat) (w0 wS : World) (l : List UInt8) (W : World) : Prop := IsB B b l W ∧ Below B w0 W ∧ Lr.Kt wS W ∧ B ≤ w0.heap.size
theorem Wr.below {B b : Nat} {w0 wS : World} {l : List UInt8} {W W' : World} (h : Wr B b w0 wS l W) (hb : Below W.heap.size W W') : Wr B b w0 wS l W' :=
  ⟨isB_below h.1 hb, h.2.1.trans (hb.mono (Nat.le_trans h.2.2.2 h.2.1.size)), h.2.2.1.trans (Lr.Kt.below hb), h.2.2.2⟩
theorem Wr.rebase {B b : Nat} {w0 wS : World} {l : List UInt8} {W : World} (h : Wr B b w0 wS l W) : Wr B b w0 W l W := ⟨h.1, h.2.1, Lr.Kt.refl _, h.2.2.2⟩
theorem Wr.byte {B b : Nat} {w0 wS : World} {l : List UInt8} {W : World} (h : Wr B b w0 wS l W) (c : UInt8) (hl : l.length ≤ 1099511627776) :
    Calls Tryd.prog 19 #[.pointer (some ⟨b, 0, none⟩), .int .u8 (c.toNat : Int)] W fun e w' => e = .returned .nilIface ∧ Wr B b w0 wS (l ++ [c]) w' := by
  refine (Lr.writeByteK_any B b l c W h.1 hl (Nat.le_trans h.2.2.2 h.2.1.size)).mono ?_
  rintro e w' ⟨rfl, h1, h2, h3⟩
  exact ⟨rfl, h1, h.2.1.trans h2, h.2.2.1.trans h3, h.2.2.2⟩
theorem Wr.str {B b : Nat} {w0 wS : World} {l : List UInt8} {W : World} (h : Wr B b w0 wS l W) (s : ByteArray) (hl : l.length + s.size ≤ 1099511627776) :
    Calls Tryd.prog 33 #[.pointer (some ⟨b, 0, none⟩), .string s] W fun e w' => e = .returned (.tuple #[.int .i64 s.size, .nilIface]) ∧ Wr B b w0 wS (l ++ s.data.toList) w' := by
  refine (Lr.writeStringK_any B b l s W h.1 hl (Nat.le_trans h.2.2.2 h.2.1.size)).mono ?_
  rintro e w' ⟨rfl, h1, h2, h3⟩
  exact ⟨rfl, h1, h.2.1.trans h2, h.2.2.1.trans h3, h.2.2.2⟩
theorem Wr.esc {B b : Nat} {w0 wS : World} {l : List UInt8} {W : World} (h : Wr B b w0 wS l W) (s : ByteArray) (hl : l.length + 3 * s.size ≤ 1000000000000) :
    Calls Tryd.prog 34 #[.pointer (some ⟨b, 0, none⟩), .string s] W fun e w' => e = .returned (.tuple #[]) ∧ Wr B b w0 wS (l ++ escV s.data.toList) w' := by
  refine (writeEscape_any B b l s W h.1 hl (Nat.le_trans h.2.2.2 h.2.1.size)).mono ?_
  rintro e w' ⟨rfl, h1, h2, h3⟩
  exact ⟨rfl, h1, h.2.1.trans h2, h.2.2.1.trans h3, h.2.2.2⟩

set_option maxHeartbeats 4000000 in
theorem writePairs_any (B b : Nat) (l : List UInt8) (a : Option Addr) (c n : Nat) (ps : List PR) (w0 wS w : World) (hI : Wr B b w0 wS l w) (hn : ps.length = n) (hr : ∀ W, Below B w0 W → PRow W a ps) (hl : l.length + (ps.map ptW).sum ≤ 1000000000000) (hnb : n ≤ 140737488355328) :
    Calls Tryd.prog 20 #[.pointer (some ⟨b, 0, none⟩), .slice a n c] w fun e w' => e = .returned (.tuple #[]) ∧ Wr B b w0 wS (l ++ ptx ps) w' := by
  have nb : (n : Int) ≤ 140737488355328 := by omega
  have hI0 : Hid (Wr B b w0 wS (l ++ ptx (ps.take 0)) w) := by unfold Hid; simpa [ptx] using hI
  have hn' : Hid (ps.length = n) := hn
  have hr' : Hid (∀ W, Below B w0 W → PRow W a ps) := hr
  have hl' : Hid (l.length + (ps.map ptW).sum ≤ 1000000000000) := hl
  clear hI hn hr hl hnb
  go_enter Tryd.func20, Tryd.ntmps20
  go_wp2_with fail
  go_loopw [8] (fun i wr => ∃ k : Nat, k ≤ n ∧ i = .int .i64 k ∧ Hid (Wr B b w0 wS (l ++ ptx (ps.take k)) wr)) (fun i _ => n - (intOf i).toNat)
  case atStart => exact ⟨0, Nat.zero_le _, rfl, hI0⟩
  case round =>
    obtain ⟨k, hk, rfl, hR⟩ := hrel
    clear hI0
    have k0 : (0 : Int) ≤ (k : Int) := Int.natCast_nonneg _
    by_cases hlt : k < n
    · have k1 : (k : Int) < (n : Int) := Int.ofNat_lt.2 hlt
      have hkP : k < ps.length := by rw [hn'.out]; exact hlt
      obtain ⟨pb, po, rfl, c3, c4⟩ := prow_at (hr'.out wr hR.out.2.1) k hkP
      have hsn : Hid (ptx (ps.take (k + 1)) = ptx (ps.take k) ++ (if k = 0 then pt1 ps[k] else 43 :: pt1 ps[k])) := by
        unfold Hid
        rw [List.take_succ_eq_append_getElem hkP, ptx_snoc]
        congr 1
        by_cases h0 : k = 0
        · subst h0; simp
        · rw [if_neg h0, if_neg (fun e => h0 (by have := congrArg List.length e; rw [List.length_take, List.length_nil] at this; omega))]
      have hlen : Hid ((l ++ ptx (ps.take k)).length + ptW ps[k] ≤ 1000000000000) := by
        have h1 := ptx_len (ps.take k)
        have h2 := sum_at ps k hkP
        have := hl'.out
        unfold Hid
        rw [List.length_append]
        omega
      generalize ps[k] = p at *
      obtain ⟨t, v⟩ := p
      dsimp only at c3 c4
      have hw2 : Hid (t.length + 3 * v.length + 2 + (l ++ ptx (ps.take k)).length ≤ 1000000000000) := by have := hlen.out; unfold Hid; unfold ptW at this; dsimp only at this; omega
      generalize hX : l ++ ptx (ps.take k) = X at *
      obtain ⟨W1, hW1⟩ : ∃ W1, wr.alloc (.cells #[.string (S t), .string (S v)] 52) = W1 := ⟨_, rfl⟩
      have hb1 : Hid (Wr B b w0 wS X W1) := by unfold Hid; rw [← hW1]; exact hR.out.below ((Below.refl _ _).alloc (Nat.le_refl _) _)
      have hx1 : Hid (W1.heap[wr.heap.size]? = some (.cells #[.string (S t), .string (S v)] 52 (0, 0))) := by unfold Hid; rw [← hW1]; exact heap_alloc_new _ _
      have hrest : Hid (∀ Y W2, Y.length ≤ X.length + 1 → Wr B b w0 W1 Y W2 → W2.cell? ⟨wr.heap.size, 0, none⟩ = some (.string (S t)) ∧ Calls Tryd.prog 33 #[.pointer (some ⟨b, 0, none⟩), .string (S t)] W2 fun e W3 => e = .returned (.tuple #[.int .i64 (S t).size, .nilIface]) ∧ Hid (Wr B b w0 W1 (Y ++ t) W3)) := fun Y W2 hY h => by
        refine ⟨by rw [cell_of_row _ _ _ _ _ _ (kt_box h.2.2.1 hx1.out (by decide) (by decide))]; rfl, ?_⟩
        have := h.str (S t) (by rw [S_size]; have := hw2.out; omega)
        rw [S_l] at this
        exact this
      have hrest2 : Hid (∀ Y W2, Y.length ≤ X.length + 1 + t.length → Wr B b w0 W1 Y W2 → Calls Tryd.prog 19 #[.pointer (some ⟨b, 0, none⟩), .int .u8 61] W2 fun e W3 => e = .returned .nilIface ∧ Hid (Wr B b w0 W1 (Y ++ [61]) W3)) := fun Y W2 hY h => h.byte 61 (by have := hw2.out; omega)
      have hrest3 : Hid (∀ Y W2, Y.length ≤ X.length + 2 + t.length → Wr B b w0 W1 Y W2 → W2.cell? ⟨wr.heap.size, 1, none⟩ = some (.string (S v)) ∧ Calls Tryd.prog 34 #[.pointer (some ⟨b, 0, none⟩), .string (S v)] W2 fun e W3 => e = .returned (.tuple #[]) ∧ Hid (Wr B b w0 W1 (Y ++ escV v) W3)) := fun Y W2 hY h => by
        refine ⟨by rw [cell_of_row _ _ _ _ _ _ (kt_box h.2.2.1 hx1.out (by decide) (by decide))]; rfl, ?_⟩
        have := h.esc (S v) (by rw [S_size]; have := hw2.out; omega)
        rw [S_l] at this
        exact this
      have hkS : Hid (Lr.Kt wS W1) := hb1.out.2.2.1
      have hlt' : Hid (k < n) := hlt
      have hlenX : Hid (X.length ≤ 1000000000000) := by have := hw2.out; unfold Hid; omega
      obtain ⟨st, hst⟩ : ∃ st, S t = st := ⟨_, rfl⟩
      obtain ⟨sv', hsv⟩ : ∃ sv', S v = sv' := ⟨_, rfl⟩
      rw [hst] at c3 hW1 hx1 hrest
      rw [hsv] at c4 hW1 hx1 hrest3
      clear hst hsv hlen hw2 hR hk hlt hkP
      by_cases h0 : k = 0
      · have hend : Hid (∀ W, Wr B b w0 W1 (X ++ t ++ [61] ++ escV v) W → Wr B b w0 wS (l ++ ptx (ps.take (k + 1))) W) := fun W h => by
          refine ⟨?_, h.2.1, hkS.out.trans h.2.2.1, h.2.2.2⟩
          have e := hsn.out
          rw [if_pos h0] at e
          rw [e, ← List.append_assoc, hX]
          unfold pt1
          simpa using h.1
        have kp : ¬ (0 : Int) < (k : Int) := by omega
        obtain ⟨g0, s0⟩ := hrest.out X W1 (by omega) hb1.out.rebase
        have s0' : Hid (Calls Tryd.prog 33 #[.pointer (some ⟨b, 0, none⟩), .string st] W1 fun e W3 => e = .returned (.tuple #[.int .i64 st.size, .nilIface]) ∧ Hid (Wr B b w0 W1 (X ++ t) W3)) := s0
        clear s0 hrest hsn hb1 hx1 hkS h0
        go_wp2_with fail
        refine s0'.out.mono ?_
        rintro e W3 ⟨rfl, h3⟩
        have s1 : Hid (Calls Tryd.prog 19 #[.pointer (some ⟨b, 0, none⟩), .int .u8 61] W3 fun e W4 => e = .returned .nilIface ∧ Hid (Wr B b w0 W1 (X ++ t ++ [61]) W4)) := hrest2.out _ W3 (by simp only [List.length_append, List.length_cons, List.length_nil]; omega) h3.out
        clear s0' hrest2 h3 g0
        go_wp2_with fail
        refine s1.out.mono ?_
        rintro e W4 ⟨rfl, h4⟩
        obtain ⟨g4, s2⟩ := hrest3.out _ W4 (by simp only [List.length_append, List.length_cons, List.length_nil]; omega) h4.out
        have s2' : Hid (Calls Tryd.prog 34 #[.pointer (some ⟨b, 0, none⟩), .string sv'] W4 fun e W5 => e = .returned (.tuple #[]) ∧ Hid (Wr B b w0 W1 (X ++ t ++ [61] ++ escV v) W5)) := s2
        clear s1 hrest3 h4 s2
        go_wp2_with fail
        refine s2'.out.mono ?_
        rintro e W5 ⟨rfl, h5⟩
        have HI : Hid (Wr B b w0 wS (l ++ ptx (ps.take (k + 1))) W5) := hend.out W5 h5.out
        clear s2' h5 hend g4
        go_wp2_with fail
        go_roundw
        case rel => exact ⟨k + 1, hlt'.out, by go_num, HI⟩
        case measure => have := hlt'.out; simp [intOf]; omega
      · have hend : Hid (∀ W, Wr B b w0 W1 (X ++ [43] ++ t ++ [61] ++ escV v) W → Wr B b w0 wS (l ++ ptx (ps.take (k + 1))) W) := fun W h => by
          refine ⟨?_, h.2.1, hkS.out.trans h.2.2.1, h.2.2.2⟩
          have e := hsn.out
          rw [if_neg h0] at e
          rw [e, ← List.append_assoc, hX]
          unfold pt1
          simpa using h.1
        have kp : (0 : Int) < (k : Int) := by omega
        have sp : Hid (Calls Tryd.prog 19 #[.pointer (some ⟨b, 0, none⟩), .int .u8 43] W1 fun e W2 => e = .returned .nilIface ∧ Hid (Wr B b w0 W1 (X ++ [43]) W2)) := hb1.out.rebase.byte 43 (by have := hlenX.out; omega)
        clear hsn hb1 hx1 hkS h0
        go_wp2_with fail
        refine sp.out.mono ?_
        rintro e W2 ⟨rfl, h2⟩
        obtain ⟨g0, s0⟩ := hrest.out _ W2 (by simp only [List.length_append, List.length_cons, List.length_nil]; omega) h2.out
        have s0' : Hid (Calls Tryd.prog 33 #[.pointer (some ⟨b, 0, none⟩), .string st] W2 fun e W3 => e = .returned (.tuple #[.int .i64 st.size, .nilIface]) ∧ Hid (Wr B b w0 W1 (X ++ [43] ++ t) W3)) := s0
        clear s0 hrest h2 sp
        go_wp2_with fail
        refine s0'.out.mono ?_
        rintro e W3 ⟨rfl, h3⟩
        have s1 : Hid (Calls Tryd.prog 19 #[.pointer (some ⟨b, 0, none⟩), .int .u8 61] W3 fun e W4 => e = .returned .nilIface ∧ Hid (Wr B b w0 W1 (X ++ [43] ++ t ++ [61]) W4)) := hrest2.out _ W3 (by simp only [List.length_append, List.length_cons, List.length_nil]; omega) h3.out
        clear s0' hrest2 h3 g0
        go_wp2_with fail
        refine s1.out.mono ?_
        rintro e W4 ⟨rfl, h4⟩
        obtain ⟨g4, s2⟩ := hrest3.out _ W4 (by simp only [List.length_append, List.length_cons, List.length_nil]; omega) h4.out
        have s2' : Hid (Calls Tryd.prog 34 #[.pointer (some ⟨b, 0, none⟩), .string sv'] W4 fun e W5 => e = .returned (.tuple #[]) ∧ Hid (Wr B b w0 W1 (X ++ [43] ++ t ++ [61] ++ escV v) W5)) := s2
        clear s1 hrest3 h4 s2
        go_wp2_with fail
        refine s2'.out.mono ?_
        rintro e W5 ⟨rfl, h5⟩
        have HI : Hid (Wr B b w0 wS (l ++ ptx (ps.take (k + 1))) W5) := hend.out W5 h5.out
        clear s2' h5 hend g4
        go_wp2_with fail
        go_roundw
        case rel => exact ⟨k + 1, hlt'.out, by go_num, HI⟩
        case measure => have := hlt'.out; simp [intOf]; omega
    · have e : n = k := by omega
      subst e
      have i1 : ¬ (n : Int) < (n : Int) := by omega
      have hfin : Hid (Wr B b w0 wS (l ++ ptx ps) wr) := by
        have := hR.out
        rw [List.take_of_length_le (by rw [hn'.out]; exact Nat.le_refl _)] at this
        exact this
      clear hR hk hlt
      go_wp2_with fail
      go_end0
      exact ⟨rfl, hfin.out⟩
end Ke
end Go.Proofs.YtkknenmpdimdbaaDoor
