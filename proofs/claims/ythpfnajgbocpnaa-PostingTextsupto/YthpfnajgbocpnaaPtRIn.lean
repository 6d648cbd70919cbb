import Derived.Test.YthpfnajgbocpnaaPtSpr
namespace Go.Proofs.Ythpfnajgbocpnaa
namespace Pt
open Go.RowKit Go.Sort Go.Lib
open PtMath (Inc setOf cnt)
open PtHpM (Hd)
open PtCnM (occ)
set_option linter.unusedVariables false
set_option maxRecDepth 100000
open PtT (Rk TB en)
variable {Tk : PtT.Rk}

theorem in_iff {l : List Nat} (h : Inc l) (x : Nat) : x ∈ l ↔ ∃ hp : cnt l x < l.length, l[cnt l x] = x := by
  have hs := PtMath.cnt_split l x h
  constructor
  · intro hx
    obtain ⟨j, hj, rfl⟩ := List.getElem_of_mem hx
    have h1 : ¬ j < cnt l l[j] := fun e => by have := hs.1 j hj e; omega
    by_cases h2 : cnt l l[j] = j
    · exact ⟨by omega, by simp only [h2]⟩
    · have h3 : cnt l l[j] < j := by omega
      have h4 := List.pairwise_iff_getElem.1 h (cnt l l[j]) j (by omega) hj h3
      have h5 := hs.2 (cnt l l[j]) (by omega) (Nat.le_refl _)
      omega
  · rintro ⟨hp, e⟩
    rw [← e]
    exact List.getElem_mem hp
set_option maxRecDepth 100000 in
set_option maxHeartbeats 1000000 in
theorem in_any (a : Option Addr) (l : List Nat) (c : Nat) (x : Nat) (w : World) (hr : NRow Tk w a l) (hi : Inc l) (hl : l.length ≤ 140737488355328) :
    Calls Try.prog 20 #[.slice a l.length c, .string (TB Tk x)] w fun e w' => e = .returned (.bool (decide (x ∈ l))) ∧ w = w' := by
  have hP := place_any a l c x w hr hi hl
  have hc0 : (0 : Int) ≤ (cnt l x : Int) := Int.natCast_nonneg _
  by_cases hp : cnt l x < l.length
  · obtain ⟨b, off, rfl, c1⟩ := hr _ hp
    have p1 : (cnt l x : Int) < (l.length : Int) := Int.ofNat_lt.2 hp
    by_cases he : l[cnt l x] = x
    · have hyes : Hid (decide (x ∈ l) = true) := decide_eq_true ((in_iff hi x).2 ⟨hp, he⟩)
      have heb : ((TB Tk l[cnt l x]).toList == (TB Tk x).toList) = true := by rw [he]; simp
      clear he
      generalize TB Tk l[cnt l x] = X at *
      generalize cnt l x = p at *
      clear hr hi hl hp
      go_enter Try.func20, Try.ntmps20
      go_wp2_with (go_at_call 26; refine hP.mono ?_; rintro e w' ⟨rfl, rfl⟩)
      go_ret
      exact ⟨by rw [hyes.out]; rfl, rfl⟩
    · have hno : Hid (decide (x ∈ l) = false) := decide_eq_false (fun h => by obtain ⟨_, e⟩ := (in_iff hi x).1 h; exact he e)
      have heb : ((TB Tk l[cnt l x]).toList == (TB Tk x).toList) = false := PtT.beq_ne Tk he
      clear he
      generalize TB Tk l[cnt l x] = X at *
      generalize cnt l x = p at *
      clear hr hi hl hp
      go_enter Try.func20, Try.ntmps20
      go_wp2_with (go_at_call 26; refine hP.mono ?_; rintro e w' ⟨rfl, rfl⟩)
      go_ret
      exact ⟨by rw [hno.out]; rfl, rfl⟩
  · have hno : Hid (decide (x ∈ l) = false) := decide_eq_false (fun h => by obtain ⟨e, _⟩ := (in_iff hi x).1 h; exact hp e)
    have p1 : ¬ (cnt l x : Int) < (l.length : Int) := by omega
    generalize cnt l x = p at *
    clear hr hi hl hp
    go_enter Try.func20, Try.ntmps20
    go_wp2_with (go_at_call 26; refine hP.mono ?_; rintro e w' ⟨rfl, rfl⟩)
    go_ret
    exact ⟨by rw [hno.out]; rfl, rfl⟩
/-- As appendI_row, and which block may have turned. -/
theorem appendI_row3 (w : World) (B : Nat) (v : Value) (l k : List Nat) (a : Option Addr) (c : Nat) (hown : OwnI Tk w B v l) (hk : NRow Tk w a k) (hB : B ≤ w.heap.size) (hsz : (l.length + k.length) * 16 ≤ 140737488355328) :
    ∃ v' w', (Builtin.append_ #[23, 23] 23 #[v, .slice a k.length c]).run Try.prog w = .ok v' w' ∧ OwnI Tk w' B v' (l ++ k) ∧ w.grownBy w' v.ownBlock ∧ (v'.ownBlock = v.ownBlock ∨ v'.ownBlock = some w.heap.size) := by
  by_cases h0 : k.length = 0
  · have hk0 := List.eq_nil_of_length_eq_zero h0
    subst hk0
    obtain ⟨i0, hi, hz0, hz1, hz2⟩ := info_parts info_i64
    refine ⟨v, w, ?_, by rw [List.append_nil]; exact hown, ⟨rfl, rfl, rfl, Nat.le_refl _, fun _ _ _ => rfl⟩, Or.inl rfl⟩
    cases a with
    | none =>
      rcases ownI_form hown with ⟨rfl, rfl⟩ | ⟨g, cap, rfl, hc, _⟩
      · simp [Builtin.append_, run_underlying Try.underlying23, sizeOf, typeInfo, hi, Builtin.lenOf, Builtin.firstCells]
      · simp [Builtin.append_, run_underlying Try.underlying23, sizeOf, typeInfo, hi, Builtin.lenOf, Builtin.firstCells, hc, storeCells]
    | some d =>
      rcases ownI_form hown with ⟨rfl, rfl⟩ | ⟨g, cap, rfl, hc, _⟩
      · simp [Builtin.append_, run_underlying Try.underlying23, sizeOf, typeInfo, hi, Builtin.lenOf, Builtin.firstCells, loadCells, loadCellsFrom]
      · simp [Builtin.append_, run_underlying Try.underlying23, sizeOf, typeInfo, hi, Builtin.lenOf, Builtin.firstCells, loadCells, loadCellsFrom, hc, storeCells]
  · obtain ⟨i0, hi, hz0, hz1, hz2⟩ := info_parts info_i64
    obtain ⟨b, off, rfl, _⟩ := hk 0 (by omega)
    have hnews : ∀ j u, (iv Tk k)[j]? = some u → w.cell? ((⟨b, off, none⟩ : Addr).add j) = some u := by
      intro j u hj
      have hjn : j < k.length := by
        rcases Nat.lt_or_ge j k.length with h' | h'
        · exact h'
        · rw [List.getElem?_eq_none (by rw [iv_len]; exact h')] at hj; cases hj
      obtain ⟨b', off', e, hc⟩ := hk j hjn
      injection e with e
      injection e with e1 e2
      subst e1 e2
      rw [add_off, hc, ← hj]
      simp [iv, hjn]
    obtain ⟨g, cap, w', hr, h2, h3, h4, _⟩ := run_append_lies (P := Try.prog) w 23 23 B 9 i0 _ 1 16 Try.underlying23 hi hz0 hz1 hz2 rfl (by decide) v l.length (iv Tk l) hown ⟨b, off, none⟩ k.length c (iv Tk k) (by rw [iv_len, Nat.mul_one]) hnews (iv_one _) (by omega) (by unfold maxLen; omega) hsz hB w.heap.size rfl
    refine ⟨_, w', hr, ?_, h3, ?_⟩
    · unfold OwnI
      rw [iv_app, List.length_append]
      exact h2
    · rcases h4 with h4 | h4
      · exact Or.inl h4.symm
      · exact Or.inr (by rw [h4]; rfl)
theorem ownI_keptL {W W' : World} {B C : Nat} {v u : Value} {l : List Nat} {H : List Hd} (h1 : OwnI Tk W B v l) (hl : OwnL W C u H) (hg : W.grownBy W' u.ownBlock) : OwnI Tk W' B v l := by
  rcases h1.2 with ⟨e, _⟩ | ⟨g1, cap, cur, e, _, h4, _⟩
  · exact World.ownsRow.kept h1 hg (Or.inl (by rw [e]; rfl))
  · refine World.ownsRow.kept h1 hg (Or.inr (fun e' => ?_))
    subst e
    rcases hl.2 with ⟨rfl, _⟩ | ⟨g2, cap2, cur2, rfl, _, h5, _⟩
    · simp [Value.ownBlock] at e'
    · simp [Value.ownBlock] at e'
      subst e'
      rw [h4] at h5
      injection h5 with h5
      injection h5 with _ h5
      exact absurd h5 (by decide)
theorem ownL_keptI {W W' : World} {B C : Nat} {v u : Value} {l : List Nat} {H : List Hd} (hl : OwnL W C u H) (h1 : OwnI Tk W B v l) (hg : W.grownBy W' v.ownBlock) : OwnL W' C u H := by
  rcases hl.2 with ⟨e, _⟩ | ⟨g1, cap, cur, e, _, h4, _⟩
  · exact World.ownsRow.kept hl hg (Or.inl (by rw [e]; rfl))
  · refine World.ownsRow.kept hl hg (Or.inr (fun e' => ?_))
    subst e
    rcases h1.2 with ⟨rfl, _⟩ | ⟨g2, cap2, cur2, rfl, _, h5, _⟩
    · simp [Value.ownBlock] at e'
    · simp [Value.ownBlock] at e'
      subst e'
      rw [h4] at h5
      injection h5 with h5
      injection h5 with _ h5
      exact absurd h5 (by decide)
theorem ownI_at {W : World} {B : Nat} {v : Value} {l : List Nat} (h : OwnI Tk W B v l) {k : Nat} (e : v.ownBlock = some k) : B ≤ k ∧ k < W.heap.size := by
  rcases h.2 with ⟨rfl, _⟩ | ⟨g, cap, cur, rfl, h3, h4, _⟩
  · simp [Value.ownBlock] at e
  · simp [Value.ownBlock] at e
    subst e
    exact ⟨h3, (Array.getElem?_eq_some_iff.1 h4).1⟩
end Pt
end Go.Proofs.Ythpfnajgbocpnaa
