import Derived.Test.YtddkefjcpgdomaaFrm8
namespace Go.Proofs.Ytddkefjcpgdomaa
open Go.RowKit
open FrMath (Hdr lb bd within Out ends cut Cut)

/-- A whole row of texts appended, in a walk. -/
theorem push_many (w : World) {ops : Array Oper} {rest : List Oper} {o : Oper} {a : Act} {Q : Exit → Act → World → Prop} (hgd : o.guard = none) (s x : Operand)
    (ho : o.op = .call { callee := .builtin .append, args := #[s, x], argTypes := #[23, 23] }) (B B' : Nat) (v xv : Value) (l k : List (List UInt8))
    (hs : a.eval s = v) (hx : a.eval x = xv) (hown : OwnS w B v l) (hxo : OwnS w B' xv k) (hB : B ≤ w.heap.size) (hl : l.length + k.length ≤ 8388608)
    (h : ∀ v' w', OwnS w' B v' (l ++ k) → (∀ b, b < w.heap.size → v.ownBlock ≠ some b → w'.heap[b]? = w.heap[b]?) → Fresh v v' w → Below B w w' → wpList Try.prog ops Q rest (a.put o.dst v') w') :
    wpList Try.prog ops Q (o :: rest) a w := by
  obtain ⟨i0, hi, hz0, hz1, hz2⟩ := info_parts info_str
  by_cases h0 : k.length = 0
  · have hk : k = [] := List.eq_nil_of_length_eq_zero h0
    subst hk
    obtain ⟨xa, xc, rfl⟩ : ∃ a c, xv = .slice a 0 c := by
      rcases ownS_form hxo with ⟨rfl, _⟩ | ⟨g, cap, rfl⟩
      · exact ⟨_, _, rfl⟩
      · exact ⟨_, _, rfl⟩
    obtain ⟨va, n, c, hv, hnc⟩ : ∃ va n c, v = .slice va n c ∧ n ≤ c := by
      rcases hown with ⟨_, ⟨rfl, h2⟩ | ⟨g, cap, cur, rfl, _, _, h5, _⟩⟩
      · exact ⟨_, _, _, rfl, Nat.le_refl _⟩
      · exact ⟨_, _, _, rfl, h5⟩
    have hf : (Builtin.firstCells i0.size 0 (.slice xa 0 xc)).run Try.prog w = .ok #[] w := by
      cases xa with
      | none => exact run_firstCells_none w i0.size 0 0 xc
      | some d => exact run_firstCells_some w i0.size 0 d 0 xc [] (by simp) (fun j v hj => by simp at hj)
    have hrun : ∀ ty, (Builtin.append_ #[23, 23] ty #[.slice va n c, .slice xa 0 xc]).run Try.prog w = .ok (.slice va n c) w := fun ty => by
      cases va with
      | none => simp [Builtin.append_, run_underlying Try.underlying23, sizeOf, typeInfo, hi, Builtin.lenOf, hnc, hf]
      | some d => simp [Builtin.append_, run_underlying Try.underlying23, sizeOf, typeInfo, hi, Builtin.lenOf, hnc, hf, storeCells]
    refine Lib.wpList_append_run w hgd s x _ _ ho _ _ (hs.trans hv) hx _ _ (hrun _) ?_
    rw [← hv]
    exact h v w (by rw [List.append_nil]; exact hown) (fun b _ _ => rfl) (Fresh.refl _ _) (Below.refl _ _)
  · rcases ownS_form hxo with ⟨rfl, rfl⟩ | ⟨g, cap, rfl⟩
    · exact absurd rfl h0
    · refine wpList_append_lies w hgd s x 23 ho B 9 i0 _ 1 16 Try.underlying23 hi hz0 hz1 hz2 rfl (by decide) v l.length (sv l) hs hown ⟨g, 0, none⟩ k.length cap (sv k) hx (by rw [sv_len]; omega) ?_ ?_ (by omega) (by unfold maxLen; omega) (by omega) hB w.heap.size rfl ?_
      · intro j u hj
        exact World.ownsRow.cells (show w.ownsRow B' 9 1 (.slice (some ⟨g, 0, none⟩) k.length cap) k.length (sv k) from hxo) rfl j u hj
      · intro u hu
        simp only [sv, List.mem_map] at hu
        obtain ⟨m, _, rfl⟩ := hu
        rfl
      · intro g' cap' w' h1 h2 h3 _
        refine h _ w' ?_ (fun b hb hne => h2.block b hb (fun hh => hne hh.symm)) ?_ ?_
        · unfold OwnS
          have e : sv (l ++ k) = sv l ++ sv k := by simp [sv]
          rw [e, List.length_append]
          exact h1
        · rcases h3 with h3 | h3
          · exact Or.inl h3.symm
          · refine Or.inr (fun b hb => ?_)
            injection hb with hb
            replace hb : g' = b := hb
            omega
        · refine (Below.refl _ _).grown h2 hB ?_
          intro k hk
          exact (hown.lt _ hk).1

/-- Feed of a stream that is refused. -/
theorem feedBad_any (fb : Nat) (lim : Int) (p er : Nat) (v cv : Value) (w : World) (hC : Cells w fb (frL lim p v ⟨0, 0, er⟩)) (he : er ≠ 0) :
    Calls Try.prog 18 #[.pointer (some ⟨fb, 0, none⟩), cv] w fun e w' => e = .returned (.tuple #[.slice none 0 0, .int .i64 (er : Int)]) ∧ ∃ n, w' = w.drewN n := by
  obtain ⟨⟨k0, k1, k2, k3, k4, k5⟩, _⟩ := cells6 hC
  simp only at k5
  have d1 : ((er : Int) != 0) = true := by simp; omega
  go_enter Try.func18, Try.ntmps18
  go_wp2_with fail
  go_step3
  go_wp2_with fail
  go_quiet (fail)
  go_wp2_with fail
  unfold Exit.noGoto
  go_ret2
  exact ⟨rfl, _, rfl⟩
theorem held_any (fb : Nat) (lim : Int) (p : Nat) (v : Value) (h : Hdr) (r : List UInt8) (w : World) (hC : Cells w fb (frL lim p v h)) (ho : Own w (fb + 1) v r) :
    Calls Try.prog 22 #[.pointer (some ⟨fb, 0, none⟩)] w fun e w' => e = .returned (.int .i64 (r.length : Int)) ∧ w = w' := by
  obtain ⟨ad, n, cp, rfl⟩ := own_slice ho
  obtain ⟨hn, _⟩ := own_size ho
  obtain ⟨⟨k0, k1, k2, k3, k4, k5⟩, _⟩ := cells6 hC
  rw [← hn]
  clear hn ho
  go_enter Try.func22, Try.ntmps22
  go_wp2_with fail
  go_ret
  exact ⟨rfl, rfl⟩
theorem fault_any (fb : Nat) (lim : Int) (p er : Nat) (v : Value) (w : World) (hC : Cells w fb (frL lim p v ⟨0, 0, er⟩)) (he : er ≠ 0) :
    Calls Try.prog 21 #[.pointer (some ⟨fb, 0, none⟩)] w fun e w' => e = .returned (.tuple #[.int .i64 (er : Int), .int .i64 (p : Int)]) ∧ ∃ n, w' = w.drewN n := by
  obtain ⟨⟨k0, k1, k2, k3, k4, k5⟩, _⟩ := cells6 hC
  simp only at k5
  have d1 : ((er : Int) == 0) = false := by rw [beq_eq_false_iff_ne]; omega
  go_enter Try.func21, Try.ntmps21
  go_wp2_with fail
  go_quiet (fail)
  go_wp2_with fail
  go_ret2
  exact ⟨rfl, _, rfl⟩

theorem Cut_er_app (lim : Int) (b c : List UInt8) (h : (Cut lim b).er ≠ 0) : Cut lim (b ++ c) = Cut lim b := by
  generalize hn : b.length = n
  induction n using Nat.strongRecOn generalizing b with
  | ind n ih =>
    by_cases hE : ends lim b
    · rw [FrMath.Cut_end lim b hE] at h ⊢
      rw [cut_refused h]
    · obtain ⟨h1, h2, h3, h4⟩ := FrMath.on_ok lim b hE
      have hw := FrMath.look_whole lim b c h4
      have hE' : ¬ ends lim (b ++ c) := by
        unfold FrMath.ends
        rw [hw, h1, List.length_append]
        omega
      rw [FrMath.Cut_on lim b hE] at h
      rw [FrMath.Cut_on lim b hE, FrMath.Cut_on lim _ hE', hw, List.take_append_of_le_length h2, List.drop_append_of_le_length h2]
      rw [ih (b.drop (FrMath.look lim b).sz).length (by rw [List.length_drop]; omega) _ h rfl]
theorem Cut_ok_app (lim : Int) (b c : List UInt8) (h : (Cut lim b).er = 0) : Cut lim (b ++ c) = FrMath.ahead (Cut lim b).ms (Cut lim b).at_ (Cut lim (b.drop (Cut lim b).at_ ++ c)) := by
  generalize hn : b.length = n
  induction n using Nat.strongRecOn generalizing b with
  | ind n ih =>
    by_cases hE : ends lim b
    · rw [FrMath.Cut_end lim b hE]
      show _ = FrMath.ahead [] 0 (Cut lim (List.drop 0 b ++ c))
      rw [List.drop_zero, FrMath.ahead_nil]
    · obtain ⟨h1, h2, h3, h4⟩ := FrMath.on_ok lim b hE
      have hw := FrMath.look_whole lim b c h4
      have hE' : ¬ ends lim (b ++ c) := by
        unfold FrMath.ends
        rw [hw, h1, List.length_append]
        omega
      rw [FrMath.Cut_on lim b hE] at h
      rw [FrMath.Cut_on lim b hE, FrMath.Cut_on lim _ hE', hw, List.take_append_of_le_length h2, List.drop_append_of_le_length h2]
      rw [ih (b.drop (FrMath.look lim b).sz).length (by rw [List.length_drop]; omega) _ h rfl]
      unfold FrMath.ahead
      simp [List.drop_drop, Nat.add_assoc]
end Go.Proofs.Ytddkefjcpgdomaa
