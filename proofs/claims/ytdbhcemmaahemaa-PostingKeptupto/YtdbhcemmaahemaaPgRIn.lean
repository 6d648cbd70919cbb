import Derived.Test.YtdbhcemmaahemaaPgSpr
namespace Go.Proofs.Ytdbhcemmaahemaa
open Go.RowKit Go.Sort Go.Lib
open PgMath (Inc setOf cnt)
open PgHpM (Hd)
open PgCnM (occ)
set_option linter.unusedVariables false
set_option maxRecDepth 100000

theorem in_iff {l : List Int} (h : Inc l) (x : Int) : x ∈ l ↔ ∃ hp : cnt l x < l.length, l[cnt l x] = x := by
  have hs := PgMath.cnt_split l x h
  constructor
  · intro hx
    obtain ⟨j, hj, rfl⟩ := List.getElem_of_mem hx
    have h1 : ¬ j < cnt l l[j] := fun e => by have := hs.1 j hj e; omega
    by_cases h2 : cnt l l[j] = j
    · exact ⟨by omega, by simp only [h2]⟩
    · have h3 : cnt l l[j] < j := by omega
      have h4 := List.pairwise_iff_getElem.1 h (cnt l l[j]) j (by omega) hj h3
      have h5 := hs.2 (cnt l l[j]) (by omega) (Nat.le_refl _)
      omega
  · rintro ⟨hp, e⟩
    rw [← e]
    exact List.getElem_mem hp
set_option maxRecDepth 100000 in
set_option maxHeartbeats 1000000 in
theorem in_any (a : Option Addr) (l : List Int) (c : Nat) (x : Int) (w : World) (hr : NRow w a l) (hi : Inc l) (hl : l.length ≤ 140737488355328) :
    Calls Try.prog 45 #[.slice a l.length c, .int .i64 x] w fun e w' => e = .returned (.bool (decide (x ∈ l))) ∧ w = w' := by
  have hP := place_any a l c x w hr hi hl
  have hc0 : (0 : Int) ≤ (cnt l x : Int) := Int.natCast_nonneg _
  by_cases hp : cnt l x < l.length
  · obtain ⟨b, off, rfl, c1⟩ := hr _ hp
    have p1 : (cnt l x : Int) < (l.length : Int) := Int.ofNat_lt.2 hp
    by_cases he : l[cnt l x] = x
    · have hyes : Hid (decide (x ∈ l) = true) := decide_eq_true ((in_iff hi x).2 ⟨hp, he⟩)
      have heb : (l[cnt l x] == x) = true := by simpa using he
      generalize l[cnt l x] = X at *
      generalize cnt l x = p at *
      clear hr hi hl hp he
      go_enter Try.func45, Try.ntmps45
      go_wp2_with (go_at_call 60; refine hP.mono ?_; rintro e w' ⟨rfl, rfl⟩)
      go_ret
      exact ⟨by rw [hyes.out]; rfl, rfl⟩
    · have hno : Hid (decide (x ∈ l) = false) := decide_eq_false (fun h => by obtain ⟨_, e⟩ := (in_iff hi x).1 h; exact he e)
      have heb : (l[cnt l x] == x) = false := by simpa using he
      generalize l[cnt l x] = X at *
      generalize cnt l x = p at *
      clear hr hi hl hp he
      go_enter Try.func45, Try.ntmps45
      go_wp2_with (go_at_call 60; refine hP.mono ?_; rintro e w' ⟨rfl, rfl⟩)
      go_ret
      exact ⟨by rw [hno.out]; rfl, rfl⟩
  · have hno : Hid (decide (x ∈ l) = false) := decide_eq_false (fun h => by obtain ⟨e, _⟩ := (in_iff hi x).1 h; exact hp e)
    have p1 : ¬ (cnt l x : Int) < (l.length : Int) := by omega
    generalize cnt l x = p at *
    clear hr hi hl hp
    go_enter Try.func45, Try.ntmps45
    go_wp2_with (go_at_call 60; refine hP.mono ?_; rintro e w' ⟨rfl, rfl⟩)
    go_ret
    exact ⟨by rw [hno.out]; rfl, rfl⟩
/-- As appendI_row, and which block may have turned. -/
theorem appendI_row3 (w : World) (B : Nat) (v : Value) (l k : List Int) (a : Option Addr) (c : Nat) (hown : OwnI w B v l) (hk : NRow w a k) (hB : B ≤ w.heap.size) (hsz : (l.length + k.length) * 8 ≤ 140737488355328) :
    ∃ v' w', (Builtin.append_ #[35, 35] 35 #[v, .slice a k.length c]).run Try.prog w = .ok v' w' ∧ OwnI w' B v' (l ++ k) ∧ w.grownBy w' v.ownBlock ∧ (v'.ownBlock = v.ownBlock ∨ v'.ownBlock = some w.heap.size) := by
  by_cases h0 : k.length = 0
  · have hk0 := List.eq_nil_of_length_eq_zero h0
    subst hk0
    obtain ⟨i0, hi, hz0, hz1, hz2⟩ := info_parts info_i64
    refine ⟨v, w, ?_, by rw [List.append_nil]; exact hown, ⟨rfl, rfl, rfl, Nat.le_refl _, fun _ _ _ => rfl⟩, Or.inl rfl⟩
    cases a with
    | none =>
      rcases ownI_form hown with ⟨rfl, rfl⟩ | ⟨g, cap, rfl, hc, _⟩
      · simp [Builtin.append_, run_underlying Try.underlying35, sizeOf, typeInfo, hi, Builtin.lenOf, Builtin.firstCells]
      · simp [Builtin.append_, run_underlying Try.underlying35, sizeOf, typeInfo, hi, Builtin.lenOf, Builtin.firstCells, hc, storeCells]
    | some d =>
      rcases ownI_form hown with ⟨rfl, rfl⟩ | ⟨g, cap, rfl, hc, _⟩
      · simp [Builtin.append_, run_underlying Try.underlying35, sizeOf, typeInfo, hi, Builtin.lenOf, Builtin.firstCells, loadCells, loadCellsFrom]
      · simp [Builtin.append_, run_underlying Try.underlying35, sizeOf, typeInfo, hi, Builtin.lenOf, Builtin.firstCells, loadCells, loadCellsFrom, hc, storeCells]
  · obtain ⟨i0, hi, hz0, hz1, hz2⟩ := info_parts info_i64
    obtain ⟨b, off, rfl, _⟩ := hk 0 (by omega)
    have hnews : ∀ j u, (iv k)[j]? = some u → w.cell? ((⟨b, off, none⟩ : Addr).add j) = some u := by
      intro j u hj
      have hjn : j < k.length := by
        rcases Nat.lt_or_ge j k.length with h' | h'
        · exact h'
        · rw [List.getElem?_eq_none (by rw [iv_len]; exact h')] at hj; cases hj
      obtain ⟨b', off', e, hc⟩ := hk j hjn
      injection e with e
      injection e with e1 e2
      subst e1 e2
      rw [add_off, hc, ← hj]
      simp [iv, hjn]
    obtain ⟨g, cap, w', hr, h2, h3, h4, _⟩ := run_append_lies (P := Try.prog) w 35 35 B 2 i0 _ 1 8 Try.underlying35 hi hz0 hz1 hz2 rfl (by decide) v l.length (iv l) hown ⟨b, off, none⟩ k.length c (iv k) (by rw [iv_len, Nat.mul_one]) hnews (iv_one _) (by omega) (by unfold maxLen; omega) hsz hB w.heap.size rfl
    refine ⟨_, w', hr, ?_, h3, ?_⟩
    · unfold OwnI
      rw [iv_app, List.length_append]
      exact h2
    · rcases h4 with h4 | h4
      · exact Or.inl h4.symm
      · exact Or.inr (by rw [h4]; rfl)
theorem ownI_keptL {W W' : World} {B C : Nat} {v u : Value} {l : List Int} {H : List Hd} (h1 : OwnI W B v l) (hl : OwnL W C u H) (hg : W.grownBy W' u.ownBlock) : OwnI W' B v l := by
  rcases h1.2 with ⟨e, _⟩ | ⟨g1, cap, cur, e, _, h4, _⟩
  · exact World.ownsRow.kept h1 hg (Or.inl (by rw [e]; rfl))
  · refine World.ownsRow.kept h1 hg (Or.inr (fun e' => ?_))
    subst e
    rcases hl.2 with ⟨rfl, _⟩ | ⟨g2, cap2, cur2, rfl, _, h5, _⟩
    · simp [Value.ownBlock] at e'
    · simp [Value.ownBlock] at e'
      subst e'
      rw [h4] at h5
      injection h5 with h5
      injection h5 with _ h5
      exact absurd h5 (by decide)
theorem ownL_keptI {W W' : World} {B C : Nat} {v u : Value} {l : List Int} {H : List Hd} (hl : OwnL W C u H) (h1 : OwnI W B v l) (hg : W.grownBy W' v.ownBlock) : OwnL W' C u H := by
  rcases hl.2 with ⟨e, _⟩ | ⟨g1, cap, cur, e, _, h4, _⟩
  · exact World.ownsRow.kept hl hg (Or.inl (by rw [e]; rfl))
  · refine World.ownsRow.kept hl hg (Or.inr (fun e' => ?_))
    subst e
    rcases h1.2 with ⟨rfl, _⟩ | ⟨g2, cap2, cur2, rfl, _, h5, _⟩
    · simp [Value.ownBlock] at e'
    · simp [Value.ownBlock] at e'
      subst e'
      rw [h4] at h5
      injection h5 with h5
      injection h5 with _ h5
      exact absurd h5 (by decide)
theorem ownI_at {W : World} {B : Nat} {v : Value} {l : List Int} (h : OwnI W B v l) {k : Nat} (e : v.ownBlock = some k) : B ≤ k ∧ k < W.heap.size := by
  rcases h.2 with ⟨rfl, _⟩ | ⟨g, cap, cur, rfl, h3, h4, _⟩
  · simp [Value.ownBlock] at e
  · simp [Value.ownBlock] at e
    subst e
    exact ⟨h3, (Array.getElem?_eq_some_iff.1 h4).1⟩
end Go.Proofs.Ytdbhcemmaahemaa
