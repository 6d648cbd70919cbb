import Derived.Test.YtgfonnjblbpogaaBwWr
import Derived.Test.YtgfonnjblbpogaaBfFr
import Derived.Test.YtgfonnjblbpogaaBRefJoin
import Derived.Test.YtgfonnjblbpogaaBwFm
import Derived.Deep.AppendLies
namespace Go.Proofs.Ytgfonnjblbpogaa
open Go.RowKit
open BerMath (lo)
set_option linter.unusedVariables false

/-- A row of bytes appended to a row of the call's own. -/
theorem appendB_row (w : World) (B : Nat) (v : Value) (l : List UInt8) (C : Nat) (v2 : Value) (k : List UInt8) (hown : Own w B v l) (h2 : Own w C v2 k) (h0 : 0 < k.length) (hB : B ≤ w.heap.size) (hsz : l.length + k.length ≤ 1099511627776) :
    ∃ v' w', (Builtin.append_ #[50, 50] 50 #[v, v2]).run Try.prog w = .ok v' w' ∧ Own w' B v' (l ++ k) ∧ Below B w w' := by
  obtain ⟨i0, hi, hz0, hz1, hz2⟩ := info_parts info_u8
  rcases h2.2 with ⟨rfl, hn⟩ | ⟨g, cap, cur, rfl, hg⟩
  · omega
  · have hnews : ∀ j u, (bv k)[j]? = some u → w.cell? ((⟨g, 0, none⟩ : Addr).add j) = some u := by
      intro j u hj
      have hjn : j < k.length := by
        rcases Nat.lt_or_ge j k.length with h' | h'
        · exact h'
        · rw [List.getElem?_eq_none (by rw [bv_len]; exact h')] at hj; cases hj
      have hc := World.ownsRow.cellAt (show w.ownsRow C 5 1 _ k.length (bv k) from h2) j (by omega)
      have ea : (⟨g, 0, none⟩ : Addr).add j = ⟨g, j, none⟩ := by unfold Addr.add; split <;> simp_all
      rw [ea, hc]
      exact hj
    obtain ⟨g', cap', w', hr, q2, q3, _, _⟩ := run_append_lies (P := Try.prog) w 50 50 B 5 i0 _ 1 1 Try.underlying50 hi hz0 hz1 hz2 rfl (by decide) v l.length (bv l) hown ⟨g, 0, none⟩ k.length cap (bv k) (by rw [bv_len, Nat.mul_one]) hnews (bv_one _) h0 (by unfold maxLen; omega) (by omega) hB w.heap.size rfl
    refine ⟨_, w', hr, ?_, (Below.refl _ _).grown q3 hB (fun j hj => (World.ownsRow.lt (show w.ownsRow B 5 1 v l.length (bv l) from hown) _ hj).1)⟩
    unfold Own
    rw [bv_app, List.length_append]
    exact q2
theorem own_slice {w : World} {B : Nat} {v : Value} {l : List UInt8} (h : Own w B v l) : ∃ a c, v = .slice a l.length c := by
  rcases h.2 with ⟨rfl, hn⟩ | ⟨g, cap, cur, rfl, hg⟩
  · exact ⟨none, 0, by rw [hn]⟩
  · exact ⟨_, _, rfl⟩
theorem ownB_below {w w' : World} {B : Nat} {v : Value} {l : List UInt8} (h : Own w B v l) (hb : Below w.heap.size w w') : Own w' B v l := by
  rcases h with ⟨h1, ⟨rfl, h2⟩ | ⟨g, cap, cur, rfl, h3, h4, h5⟩⟩
  · exact ⟨h1, Or.inl ⟨rfl, h2⟩⟩
  · exact ⟨h1, Or.inr ⟨g, cap, cur, rfl, h3, by rw [hb.block g (Array.getElem?_eq_some_iff.1 h4).1]; exact h4, h5⟩⟩
theorem LenB.weak {W : World} {g n K K' : Nat} {Ls : Nat → Nat} (h : LenB W g n K Ls) (hk : K ≤ K') : LenB W g n K' Ls := by
  obtain ⟨cs, h1, h2, h3, h4⟩ := h
  exact ⟨cs, h1, h2, h3, fun j a b => h4 j (Nat.le_trans hk a) b⟩
theorem updL_twice (Ls : Nat → Nat) (i x y : Nat) : updL (updL Ls i x) i y = updL Ls i y := by
  funext j
  unfold updL
  by_cases e : j = i
  · rw [if_pos e, if_pos e]
  · rw [if_neg e, if_neg e, if_neg e]
/-- What the reference has in hand: the sums, the lengths. -/
def MsG (w W : World) (n K : Nat) (σ : List Nat) (Ls : Nat → Nat) : Prop := NumB W w.heap.size σ ∧ LenB W (w.heap.size + 1) n K Ls ∧ Below w.heap.size w W
theorem MsG.of {w W W' : World} {n K : Nat} {σ : List Nat} {Ls : Nat → Nat} (h : MsG w W n K σ Ls) (hb : Below W.heap.size W W') : MsG w W' n K σ Ls :=
  ⟨h.1.of (hb.block _ h.1.lt), h.2.1.of (hb.block _ h.2.1.lt), h.2.2.trans (hb.mono h.2.2.size)⟩
theorem MsG.drew {w W : World} {n K : Nat} {σ : List Nat} {Ls : Nat → Nat} (h : MsG w W n K σ Ls) : MsG w W.drew n K σ Ls := ⟨h.1.of rfl, h.2.1.of rfl, belowN h.2.2 1⟩
theorem MsG.num {w W : World} {n K : Nat} {σ : List Nat} {Ls : Nat → Nat} (h : MsG w W n K σ Ls) (hl : σ.length = 66) (e : Nat) (he : e < 66) (v : Nat) : MsG w (W.setCell ⟨w.heap.size, e, none⟩ (.int .i64 (v : Int))) n K (σ.set e v) Ls :=
  ⟨h.1.set hl e he v, h.2.1.of (Below.heap_setCell _ _ _ _ (by show w.heap.size + 1 ≠ w.heap.size; omega)), h.2.2.setCell (Nat.le_refl _) _⟩
theorem MsG.len {w W : World} {n i : Nat} {σ : List Nat} {Ls : Nat → Nat} (h : MsG w W n (i + 1) σ Ls) (hi : i < n) (x : Nat) : MsG w (W.setCell ⟨w.heap.size + 1, i, none⟩ (.int .i64 (x : Int))) n i σ (updL Ls i x) :=
  ⟨h.1.of (Below.heap_setCell _ _ _ _ (by show w.heap.size ≠ w.heap.size + 1; omega)), h.2.1.set hi x, h.2.2.setCell (Nat.le_succ _) _⟩
theorem MsG.len2 {w W : World} {n i : Nat} {σ : List Nat} {Ls : Nat → Nat} (y : Nat) (h : MsG w W n i σ (updL Ls i y)) (hi : i < n) (x : Nat) : MsG w (W.setCell ⟨w.heap.size + 1, i, none⟩ (.int .i64 (x : Int))) n i σ (updL Ls i x) := by
  have h' : MsG w W n (i + 1) σ (updL Ls i y) := ⟨h.1, h.2.1.weak (Nat.le_succ _), h.2.2⟩
  have := h'.len hi x
  rwa [updL_twice] at this
/-- A block that is none of the two keeps what it holds. -/
theorem box_set {W : World} {g b j : Nat} {t : TypeId} {cs : Array Value} {u : Value} (h : Box W g t cs) (hne : g ≠ b) : Box (W.setCell ⟨b, j, none⟩ u) g t cs := h.of (Below.heap_setCell _ _ _ _ hne)
theorem ck_unique {n : Nat} {D C T : Nat → Int} {M : Nat → Bool} {B : Nat → ByteArray} {c q c' q' : Int} (h : CkR n D C T M B c q) (h' : CkR n D C T M B c' q') : c = c' ∧ q = q' := by
  rcases h with ⟨a1, a2, a3, a4⟩ | ⟨a1, a2, a3⟩ | ⟨i, a1, a2, a3, a4⟩
  · rcases h' with ⟨b1, b2, b3, b4⟩ | ⟨b1, b2, b3⟩ | ⟨j, b1, b2, b3, b4⟩
    · exact ⟨a3.trans b3.symm, a4.trans b4.symm⟩
    · omega
    · rcases b4 with ⟨b5, _⟩ | ⟨_, b5, _⟩
      · exact absurd (a2 j b1).1 b5
      · exact absurd (a2 j b1).2 b5
  · rcases h' with ⟨b1, b2, b3, b4⟩ | ⟨b1, b2, b3⟩ | ⟨j, b1, b2, b3, b4⟩
    · omega
    · exact ⟨a2.trans b2.symm, a3.trans b3.symm⟩
    · omega
  · have nf : ¬ Fit D C T M B i := fun hf => by
      rcases a4 with ⟨a5, _⟩ | ⟨_, a5, _⟩
      · exact a5 hf.1
      · exact a5 hf.2
    rcases h' with ⟨b1, b2, b3, b4⟩ | ⟨b1, b2, b3⟩ | ⟨j, b1, b2, b3, b4⟩
    · exact absurd (b2 i a1) nf
    · omega
    · have nf' : ¬ Fit D C T M B j := fun hf => by
        rcases b4 with ⟨b5, _⟩ | ⟨_, b5, _⟩
        · exact b5 hf.1
        · exact b5 hf.2
      have e : i = j := by
        rcases Nat.lt_trichotomy i j with h | h | h
        · exact absurd (b2 i h) nf
        · exact h
        · exact absurd (a2 j h) nf'
      subst e
      refine ⟨?_, a3.trans b3.symm⟩
      rcases a4 with ⟨a5, a6⟩ | ⟨a5, _, a6⟩ <;> rcases b4 with ⟨b5, b6⟩ | ⟨b5, _, b6⟩
      · exact a6.trans b6.symm
      · exact absurd b5 a5
      · exact absurd a5 b5
      · exact a6.trans b6.symm
theorem wr_unique {e e' : Ending} {n : Nat} {D C T : Nat → Int} {M : Nat → Bool} {B : Nat → ByteArray} (hs : bsum B n ≤ 67108864) (h : WrE e n D C T M B) (h' : WrE e' n D C T M B) : ∃ (x : ByteArray) (c q : Int), e = .returned (.tuple #[.string x, .int .i64 c, .int .i64 q]) ∧ e' = e := by
  have no : ∀ c q : Int, c ≠ 0 → CkR n D C T M B c q → (0 < n ∧ ∀ i, i < n → Good D C T M B i) → False := fun c q h0 hc hg => h0 (ck_unique hc (Or.inl ⟨hg.1, (fit_iff n D C T M B).2 hg.2, rfl, rfl⟩)).1
  rcases h with ⟨hg, H, σ, rfl, hI, hH⟩ | ⟨c, q, h0, hc, rfl⟩
  · rcases h' with ⟨_, H', σ', rfl, hI', hH'⟩ | ⟨c', q', h0', hc', rfl⟩
    · refine ⟨_, _, _, rfl, ?_⟩
      have hsh : ShI n 0 true H := ⟨fun _ j _ hj => by
        obtain ⟨len, e1, e2⟩ := hH j hj
        exact ⟨_, _, _, len, e1, says_wide len (by omega)⟩, fun h => by cases h⟩
      have := (forms_all hs hI hI' hH' hsh).2.1 rfl
      rw [this]
    · exact (no c' q' h0' hc' hg).elim
  · rcases h' with ⟨hg, H', σ', rfl, hI', hH'⟩ | ⟨c', q', h0', hc', rfl⟩
    · exact (no c q h0 hc hg).elim
    · obtain ⟨rfl, rfl⟩ := ck_unique hc hc'
      exact ⟨_, _, _, rfl, rfl⟩
end Go.Proofs.Ytgfonnjblbpogaa
