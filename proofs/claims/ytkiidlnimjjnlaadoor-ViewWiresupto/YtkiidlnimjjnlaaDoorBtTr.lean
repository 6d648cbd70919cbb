import Derived.Test.YtkiidlnimjjnlaaDoorBtT1
namespace Go.Proofs.YtkiidlnimjjnlaaDoor
open Go.RowKit Go.Shelf
open BerMath (Hd HR num hAt wAt El TR elEnd endE one andThen kids)
set_option linter.unusedVariables false

/-- What Tree leaves. -/
def treeQ (s : ByteArray) (B : Nat) (r : Ending) (w' : World) : Prop :=
  (∃ xs v, treeR s = .ok xs ∧ r = .returned (.tuple #[v, .int .i64 0, .int .i64 0]) ∧ OwnN w' B v (xs.map (ndOf s))) ∨
  (∃ f : Nat × Nat, treeR s = .error f ∧ r = .returned (.tuple #[.slice none 0 0, .int .i64 (f.1 : Int), .int .i64 (f.2 : Int)]))
theorem enter_tree1 : ∀ args W, (callFunc 54 args).run Tryd.prog W = .ok (.enter 54 args) W := enters_of Tryd.func54 (by kernel_rfl) rfl

theorem kids_code (b : List UInt8) : ∀ (n e q d : Nat) (f : Nat × Nat), (kids b n e q d).2 = some f → 20 ≤ f.1 ∧ f.1 ≤ 27 := by
  intro n
  induction n with
  | zero => intro e q d f h; cases h
  | succ n ih =>
    intro e q d f h
    by_cases hq : e ≤ q
    · rw [BerMath.kids_end _ _ _ _ _ hq] at h; cases h
    rw [BerMath.kids_succ _ _ _ _ _ hq] at h
    have ho : ∀ g, (one b (kids b n) 26 e q d).2 = some g → 20 ≤ g.1 ∧ g.1 ≤ 27 := fun g hg => by
      by_cases hd : 64 < d
      · rw [BerMath.one_deep _ _ _ _ _ _ hd] at hg; injection hg with hg; subst hg; exact ⟨by show 20 ≤ 25; decide, by show 25 ≤ 27; decide⟩
      cases hw : wAt b q e with
      | ok x =>
        by_cases hm : x.made = true
        · rw [BerMath.one_made _ _ _ _ _ _ x hd hw hm] at hg; exact ih _ _ _ _ hg
        · rw [BerMath.one_leaf _ _ _ _ _ _ x hd hw hm] at hg; cases hg
      | error o =>
        cases o with
        | some f' =>
          rw [BerMath.one_er _ _ _ _ _ _ f' hd hw] at hg
          injection hg with hg
          subst hg
          have := BerMath.wAt_er b q e f'.1 f'.2 hw
          omega
        | none => rw [BerMath.one_miss _ _ _ _ _ _ hd hw] at hg; injection hg with hg; subst hg; exact ⟨by show 20 ≤ 26; decide, by show 26 ≤ 27; decide⟩
    cases h2 : (one b (kids b n) 26 e q d).2 with
    | some g => rw [andThen_some h2] at h; injection h with h; subst h; exact ho _ h2
    | none => rw [andThen_none h2] at h; exact ih _ _ _ _ h
theorem tr_code (s : ByteArray) (f : Nat × Nat) (h : (tr s).2 = some f) : 20 ≤ f.1 ∧ f.1 ≤ 27 := by
  unfold tr at h
  cases hw : wAt s.data.toList 0 s.size with
  | ok x =>
    by_cases hm : x.made = true
    · rw [BerMath.one_made _ _ _ _ _ _ x (by decide) hw hm] at h; exact kids_code _ _ _ _ _ _ h
    · rw [BerMath.one_leaf _ _ _ _ _ _ x (by decide) hw hm] at h; cases h
  | error o =>
    cases o with
    | some f' =>
      rw [BerMath.one_er _ _ _ _ _ _ f' (by decide) hw] at h
      injection h with h
      subst h
      have := BerMath.wAt_er _ _ _ f'.1 f'.2 hw
      omega
    | none => rw [BerMath.one_miss _ _ _ _ _ _ (by decide) hw] at h; injection h with h; subst h; exact ⟨by show 20 ≤ 20; decide, by show 20 ≤ 27; decide⟩
theorem treeR_code (s : ByteArray) (f : Nat × Nat) (h : treeR s = .error f) : 20 ≤ f.1 ∧ f.1 ≤ 27 := by
  unfold treeR at h
  cases h2 : (tr s).2 with
  | some g => rw [h2] at h; injection h with h; subst h; exact tr_code s _ h2
  | none =>
    rw [h2] at h
    dsimp only at h
    split at h
    · injection h with h; subst h; exact ⟨by show 20 ≤ 27; decide, by show 27 ≤ 27; decide⟩
    · cases h

set_option maxRecDepth 100000 in
set_option maxHeartbeats 2000000 in
theorem tree_any (s : ByteArray) (w : World) (hm : s.size ≤ 281474976710656) : Calls Tryd.prog 43 #[.string s] w fun r w' => treeQ s w.heap.size r w' ∧ Below w.heap.size w w' := by
  have hmf : ∀ (fn : Fn) (first cap : Array Value) (w : World), (Instr.makeFunc fn first cap).run Tryd.prog w = .ok (.func fn first cap) w := fun _ _ _ _ => rfl
  obtain ⟨W3, hW3⟩ : ∃ W3, W3 = (w.alloc (.cells #[.string s] 9)).alloc (.cells #[.slice none 0 0] 40) := ⟨_, rfl⟩
  have hs3 : W3.heap.size = w.heap.size + 1 + 1 := by rw [hW3]; simp
  have hB3 : Below w.heap.size w W3 := by
    rw [hW3]
    exact ((Below.refl _ _).alloc (Nat.le_refl _) _).alloc (by simp) _
  have bl3 : Boxed W3 (w.heap.size + 1) 40 (.slice none 0 0) := by
    rw [hW3]
    have := Boxed.new (w.alloc (.cells #[.string s] 9)) 40 (.slice none 0 0)
    rwa [World.size_alloc] at this
  have bb3 : Boxed W3 w.heap.size 9 (.string s) := by rw [hW3]; exact (Boxed.new w _ _).alloc _
  obtain ⟨W4, hW4⟩ : ∃ W4, W4 = W3.alloc (.cells #[.int .i64 0, .int .i64 0] 93) := ⟨_, rfl⟩
  have hs4 : W4.heap.size = w.heap.size + 1 + 1 + 1 := by rw [hW4]; simp [hs3]
  have hB4 : Below W3.heap.size W3 W4 := by rw [hW4]; exact (Below.refl _ _).alloc (Nat.le_refl _) _
  have bl4 : Boxed W4 (w.heap.size + 1) 40 (.slice none 0 0) := by rw [hW4]; exact bl3.alloc _
  have bb4 : Boxed W4 w.heap.size 9 (.string s) := by rw [hW4]; exact bb3.alloc _
  have hcl := tree1_any s hm w.heap.size (w.heap.size + 1) W4 bb4 bl4
  have hcaught := caught_all 54 #[.pointer (some ⟨w.heap.size, 0, none⟩), .pointer (some ⟨w.heap.size + 1, 0, none⟩)] W3 (tree1Q s (w.heap.size + 1) W4) enter_tree1 (by
    rw [← hW4]
    refine hcl.mono ?_
    intro r w1 hq
    refine ⟨hq, hq.1 _ (by omega) (by omega), ?_, ?_⟩
    · have := hq.2.1.size; omega
    · rcases hq.2.2 with ⟨l, v, _, hr, _⟩ | ⟨f, _, hr⟩
      · rw [hr]; exact ⟨0, 0, Or.inl ⟨rfl, rfl, rfl⟩⟩
      · rw [hr]; exact ⟨_, _, Or.inr rfl⟩)
  have hres : Hid (∀ (r : Ending) (w' : World), (∃ (r1 : Ending) (w1 : World) (c q : Int), tree1Q s (w.heap.size + 1) W4 r1 w1 ∧ Read r1 c q ∧ r = .returned (fltV c q) ∧ Below W3.heap.size w1 w' ∧ ∀ b, b < w1.heap.size → b ≠ W3.heap.size → w'.heap[b]? = w1.heap[b]?) → ∃ (c q : Int), r = .returned (fltV c q) ∧ Below w.heap.size w w' ∧ w.heap.size + 1 + 1 ≤ w'.heap.size ∧ ((c == 0) = true ∧ (∃ l v, treeR s = .ok l ∧ w'.cell? ⟨w.heap.size + 1, 0, none⟩ = some v ∧ OwnN w' w.heap.size v (l.map (ndOf s))) ∨ (c == 0) = false ∧ ∃ f : Nat × Nat, treeR s = .error f ∧ c = (f.1 : Int) ∧ q = (f.2 : Int))) := by
    rintro r w' ⟨r1, w1, c, q, hq, hrd, rfl, hbw, hall⟩
    have hsz := hbw.size
    have hsz1 := hq.2.1.size
    have hBw : Below w.heap.size w w' := hB3.trans (((hB4.mono (by omega)).trans (hq.2.1.mono (by omega))).trans (hbw.mono (by omega)))
    refine ⟨c, q, rfl, hBw, by omega, ?_⟩
    rcases hq.2.2 with ⟨l, v, hk, hr, hcs, hown⟩ | ⟨f, hk, hr⟩
    · rw [hr] at hrd
      obtain ⟨rfl, rfl⟩ := read_back hrd
      refine Or.inl ⟨rfl, l, v, hk, ?_, ?_⟩
      · rw [hbw.cell (by show w.heap.size + 1 < _; omega)]; exact hcs
      · exact ownN_base (ownN_block hown (fun g hg hg2 _ => hall g hg2 (by omega))) (by omega)
    · rw [hr] at hrd
      obtain ⟨rfl, rfl⟩ := read_gave hrd
      refine Or.inr ⟨?_, f, hk, rfl, rfl⟩
      have := treeR_code _ _ hk
      rw [beq_eq_false_iff_ne]
      omega
  clear hcl hB4 hs4 bl3 bb3 bl4 bb4
  go_enter Tryd.func43, Tryd.ntmps43
  go_wp2_with fail
  rw [← hW3]
  refine hcaught.mono ?_
  intro r w' hh
  obtain ⟨c, q, rfl, hBw, hsz, hcase⟩ := hres.out r w' hh
  clear hh hres hcaught hW3 hW4 hs3 hB3
  have n1 : w.heap.size + 1 < w'.heap.size := by omega
  rcases hcase with ⟨hc0, l, v, hk, hcv, hown⟩ | ⟨hc0, f, hk, rfl, rfl⟩
  · have hk' : Hid (treeR s = .ok l) := hk
    clear hk
    go_wp2_with fail
    refine bodyPost_ret_by (v := .tuple #[v, .int .i64 0, .int .i64 0]) (by simp [results, Tryd.results43]) rfl ⟨Or.inl ⟨l, v, hk'.out, rfl, World.ownsRow.alloc hown _⟩, hBw.alloc (by omega) _⟩
  · have hk' : Hid (treeR s = .error f) := hk
    clear hk
    go_wp2_with fail
    go_region
    all_goals (try go_wp2)
    refine bodyPost_ret_by (v := .tuple #[.slice none 0 0, .int .i64 (f.1 : Int), .int .i64 (f.2 : Int)]) (by simp [results, Tryd.results43]) rfl ⟨Or.inr ⟨f, hk'.out, rfl⟩, Below.drew (hBw.alloc (by omega) _)⟩
end Go.Proofs.YtkiidlnimjjnlaaDoor
