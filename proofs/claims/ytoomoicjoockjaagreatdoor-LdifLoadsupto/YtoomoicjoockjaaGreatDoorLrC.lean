import Derived.Test.YtoomoicjoockjaaGreatDoorGLrA
namespace Go.Proofs.YtoomoicjoockjaaGreatDoor
namespace Lr
open Go.RowKit
open TextMath (b64 fold)
set_option linter.unusedVariables false
set_option maxRecDepth 100000

/-- Where a record's pairs lie, their room, the pairs; a record with its line and name. -/
abbrev PX := Option Addr × Nat × List PR
abbrev RX := Int × List UInt8 × PX
def pV (p : PR) : List Value := [.string (S p.1), .string (S p.2)]
def rV (r : RX) : List Value := [.int .i64 r.1, .string (S r.2.1), .slice r.2.2.1 r.2.2.2.2.length r.2.2.2.1]
/-- What a record says. -/
def said (r : RX) : RC := (r.2.1, r.2.2.2.2)
theorem pV_len (p : PR) : (pV p).length = 2 := rfl
theorem rV_len (r : RX) : (rV r).length = 3 := rfl
abbrev PRow (w : World) (a : Option Addr) (l : List PR) : Prop := GRow 2 pV w a l
theorem prow_at {w : World} {a : Option Addr} {l : List PR} (h : PRow w a l) (i : Nat) (hi : i < l.length) : ∃ b off, a = some ⟨b, off, none⟩ ∧ w.cell? ⟨b, off + i * 2, none⟩ = some (.string (S l[i].1)) ∧ w.cell? ⟨b, off + i * 2 + 1, none⟩ = some (.string (S l[i].2)) := by
  obtain ⟨b, off, e, h1⟩ := h i hi
  exact ⟨b, off, e, h1 0 (by omega), h1 1 (by omega)⟩
/-- Records, wherever they lie, their pairs too. -/
def RRow (w : World) (a : Option Addr) (L : List RX) : Prop := GRow 3 rV w a L ∧ ∀ r ∈ L, PRow w r.2.2.1 r.2.2.2.2 ∧ r.2.2.2.2.length ≤ r.2.2.2.1 ∧ r.2.2.2.1 ≤ maxLen
theorem RRow.below {w w' : World} {a : Option Addr} {L : List RX} (h : RRow w a L) (hb : Below w.heap.size w w') : RRow w' a L := ⟨h.1.below rV_len hb, fun r hr => ⟨(h.2 r hr).1.below pV_len hb, (h.2 r hr).2⟩⟩
theorem rrow_at {w : World} {a : Option Addr} {L : List RX} (h : RRow w a L) (i : Nat) (hi : i < L.length) : ∃ b off, a = some ⟨b, off, none⟩ ∧ w.cell? ⟨b, off + i * 3, none⟩ = some (.int .i64 L[i].1) ∧ w.cell? ⟨b, off + i * 3 + 1, none⟩ = some (.string (S L[i].2.1)) ∧ w.cell? ⟨b, off + i * 3 + 2, none⟩ = some (.slice L[i].2.2.1 L[i].2.2.2.2.length L[i].2.2.2.1) := by
  obtain ⟨b, off, e, h1⟩ := h.1 i hi
  exact ⟨b, off, e, h1 0 (by omega), h1 1 (by omega), h1 2 (by omega)⟩

set_option maxHeartbeats 1000000 in
theorem wordFault_any (s : ByteArray) (first : Bool) (kv : Int) (hk : kv = if first = true then 3 else 4) (w : World) (hs : s.size ≤ 4194304) (hT : ChgTab w) :
    Calls Tryz.prog 37 #[.string s, .int .i64 kv] w fun e w' => e = .returned (.int .i64 (pf first s.data.toList : Nat)) ∧ Below w.heap.size w w' := by
  obtain ⟨f, hf⟩ : ∃ f, S (fold s.data.toList) = f := ⟨_, rfl⟩
  have hfl : f.data.toList = fold s.data.toList := by rw [← hf, S_l]
  have hF : Hid (Calls Tryz.prog 50 #[.string s] w fun e w' => e = .returned (.string f) ∧ Below w.heap.size w w') := by
    have := fold_any s w (by unfold maxLen; omega)
    rw [hf] at this
    exact this
  have hC : Hid (∀ W, Below w.heap.size w W → Calls Tryz.prog 51 #[.string f] W fun e w' => e = .returned (.bool (chg s.data.toList)) ∧ W = w') := fun W hW => by
    have := tells_any f W (hT.below hW)
    rw [hfl] at this
    exact this
  have hP : Hid (∀ W, Calls Tryz.prog 52 #[.string s] W fun e w' => (∃ t a n c q, e = .returned (.tuple #[.agg #[.string t, .slice a n c], .int .i64 (if dacc (drun 0 (fold s.data.toList)) = true then 0 else 40), .int .i64 q])) ∧ Below W.heap.size W w') := fun W => parseE_any s W hs
  have hdn : (f.toList == [100, 110]) = (fold s.data.toList == dnB) := by rw [Lib.toList_data, hfl]; rfl
  have hok : Hid (okD s.data.toList = (dacc (drun 0 (fold s.data.toList)) && !(fold s.data.toList == dnB))) := rfl
  generalize dacc (drun 0 (fold s.data.toList)) = x at *
  generalize (fold s.data.toList == dnB) = y at *
  unfold pf
  cases first with
  | true =>
    rw [if_pos rfl] at hk
    subst hk
    cases hc : chg s.data.toList with
    | true =>
      rw [hc] at hC
      clear hc hf hfl hs hT hdn
      go_enter Tryz.func37, Tryz.ntmps37
      go_wp2_with (first
        | (go_at_call 50; refine hF.out.mono ?_; rintro e w1 ⟨rfl, hb1⟩; have H1 : Hid (Below w.heap.size w w1) := hb1; clear hb1)
        | (go_at_call 51; refine (hC.out w1 H1.out).mono ?_; rintro e w2 ⟨rfl, rfl⟩))
      go_ret
      exact ⟨rfl, H1.out⟩
    | false =>
      rw [hc] at hC
      clear hc hf hfl hs hT
      rw [hok.out]
      clear hok
      cases x <;> cases y
      all_goals
        go_enter Tryz.func37, Tryz.ntmps37
        go_wp2_with (first
          | (go_at_call 50; refine hF.out.mono ?_; rintro e w1 ⟨rfl, hb1⟩; have H1 : Hid (Below w.heap.size w w1) := hb1; clear hb1)
          | (go_at_call 51; refine (hC.out w1 H1.out).mono ?_; rintro e w2 ⟨rfl, rfl⟩)
          | (go_at_call 52; refine (hP.out _).mono ?_; rintro e w3 ⟨⟨t, a, n, c, q, rfl⟩, hb3⟩; have H3 : Hid (Below w.heap.size w w3) := H1.out.trans (hb3.mono H1.out.size); clear hb3))
        go_ret
        exact ⟨rfl, H3.out.alloc H3.out.size _⟩
  | false =>
    rw [if_neg (by decide)] at hk
    subst hk
    clear hf hfl hs hT hC
    rw [hok.out]
    clear hok
    cases x <;> cases y
    all_goals
      go_enter Tryz.func37, Tryz.ntmps37
      go_wp2_with (first
        | (go_at_call 50; refine hF.out.mono ?_; rintro e w1 ⟨rfl, hb1⟩; have H1 : Hid (Below w.heap.size w w1) := hb1; clear hb1)
        | (go_at_call 52; refine (hP.out _).mono ?_; rintro e w3 ⟨⟨t, a, n, c, q, rfl⟩, hb3⟩; have H3 : Hid (Below w.heap.size w w3) := H1.out.trans (hb3.mono H1.out.size); clear hb3))
      go_ret
      exact ⟨rfl, H3.out.alloc H3.out.size _⟩
end Lr
end Go.Proofs.YtoomoicjoockjaaGreatDoor
