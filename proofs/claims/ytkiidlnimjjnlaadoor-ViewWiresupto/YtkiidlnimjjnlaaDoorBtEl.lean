import Derived.Test.YtkiidlnimjjnlaaDoorBtNd
namespace Go.Proofs.YtkiidlnimjjnlaaDoor
open Go.RowKit Go.Shelf
open BerMath (Hd HR num hAt wAt El TR elEnd endE one andThen kids)
open BtSeq (SeqP postP range_p region_round postP_shut)
attribute [local go_sem] Oper.semAt_some
set_option linter.unusedVariables false

/-- What walking a text meets. -/
def tr (s : ByteArray) : TR := one s.data.toList (kids s.data.toList s.size) 20 s.size 0 1
abbrev flt (f : Nat × Nat) : List PanicEntry := [{ v := .iface 93 (.agg #[.int .i64 (f.1 : Int), .int .i64 (f.2 : Int)]), recovered := false }]

set_option maxRecDepth 100000 in
set_option maxHeartbeats 2000000 in
theorem elements1_any (n : Nat) (s : ByteArray) (hm : s.size ≤ 281474976710656) (sb : Nat) (w : World) (hsb : w.heap[sb]? = some (.cells #[.string s] 9 (0, 0))) :
    SeqP n Tryd.prog 69 #[.pointer (some ⟨sb, 0, none⟩)] encE KW (tr s).1 ((tr s).2.map flt) w := fun l J Jx W hW hJ hJx hY h0 => by
  have hbW : W.heap[sb]? = some (.cells #[.string s] 9 (0, 0)) := (hW.block sb (Array.getElem?_eq_some_iff.1 hsb).1).trans hsb
  have cS : W.cell? ⟨sb, 0, none⟩ = some (.string s) := by simp [World.cell?, hbW]
  have hA : ∀ W', Hid (Calls Tryd.prog 71 #[.string s] W' fun r w' => r = .returned (strV s s.size 20) ∧ Below W'.heap.size W' w') := fun W' => all_any s W'
  have hK : ∀ w1, Below W.heap.size W w1 → Hid (CallsIn Fence.wide (n - 1) Tryd.prog 70 #[strV s (s.size : Int) 20, .int .i64 0, .int .i64 1, .func (.yield l) #[] #[]] w1 (WkQ J Jx [] (tr s) w1)) := fun w1 hb1 => by
    have := walk_any s hm l W.heap.size J Jx KW (tr s).1 hJ hJx (fun _ _ h => h) (fun pre x W1 hj hp => yield_any 0 (YieldAt.mono (hY pre x W1 hj hp) (fun e W' h => h.2))) s.size 20 s.size 0 1 [] w1 (Nat.le_refl _) (Nat.zero_le _) (by omega) (by decide) (own_below hJ h0 hb1) (List.prefix_refl _)
    exact callsIn_wide.2 (callsIn_wide.1 this)
  have hdd : ∀ k : Nat, (Fence.wide.depth.isSome = true → 1 ≤ k) := fun k h => (by cases h)
  clear hY h0 hW hsb hbW
  refine callsIn_of_wp Tryd.func69 rfl trivial ?_ rfl
  simp only [Tryd.ntmps69, List.size_toArray, List.length_cons, List.length_nil, Nat.reduceAdd, Nat.reduceSub, Array.replicate_succ, Array.replicate_zero, List.push_toArray, List.append_toArray, List.nil_append, List.cons_append]
  gi_wp2_with (first
    | (refine ⟨trivial, hdd _, ?_⟩; gi_at_call 71; refine (callsIn_wide.2 (hA _).out).mono ?_; rintro r w1 ⟨rfl, hb1⟩)
    | (refine ⟨trivial, hdd _, ?_⟩; gi_at_call 70; refine (hK w1 hb1).out.mono ?_; rintro r w2 (⟨g1, rfl, g2, g3⟩ | ⟨ys, z, g1, rfl, g2⟩ | ⟨f, g1, rfl, g2⟩)))
  · go_end0
    exact Or.inl ⟨⟨_, rfl⟩, by rw [g1]; rfl, g2⟩
  · go_end0
    exact Or.inr (Or.inl ⟨⟨_, rfl⟩, ys, g1, g2⟩)
  · exact ⟨rfl, Or.inr (Or.inr ⟨flt f, by rw [g1]; rfl, rfl, g2⟩)⟩

theorem elements_any (s : ByteArray) (w : World) : Calls Tryd.prog 55 #[.string s] w fun r w' => r = .returned (.func (.func 69) #[] #[.pointer (some ⟨w.heap.size, 0, none⟩)]) ∧ w' = w.alloc (.cells #[.string s] 9) := by
  have hmf : ∀ (fn : Fn) (first cap : Array Value) (w : World), (Instr.makeFunc fn first cap).run Tryd.prog w = .ok (.func fn first cap) w := fun _ _ _ _ => rfl
  go_enter Tryd.func55, Tryd.ntmps55
  go_wp2_with fail
  go_ret
  exact ⟨rfl, rfl⟩
theorem kw_put (B : Nat) (W : World) (l : Nat) (o o' : Obj) (hl : W.heap[l]? = some o) (ho : o.isCells = false) : KW W (W.putObj l o') :=
  ⟨by simp [World.putObj], fun k cs t _ hk => by
    rw [World.putObj_heap_other (fun e => by rw [← e, hk] at hl; injection hl with hl; subst hl; cases ho)]
    exact hk⟩
/-- How many elements there are. -/
theorem tr_len (s : ByteArray) : (tr s).1.length ≤ 2147483650 ∧ ∀ x ∈ (tr s).1, elEnd x ≤ s.size ∧ 2 ≤ x.2.1.size ∧ x.2.1.size ≤ 6 ∧ x.2.1.len < 4294967296 ∧ x.2.1.cls ≤ 3 ∧ x.2.1.tag ≤ 30 ∧ x.2.2 ≤ 64 := by
  unfold tr
  cases hw : wAt s.data.toList 0 s.size with
  | ok x =>
    obtain ⟨k1, k2, k3, k4, k5, k6⟩ := BerMath.wAt_ok _ _ _ _ hw
    by_cases hm : x.made = true
    · rw [BerMath.one_made _ _ _ _ _ _ x (by decide) hw hm]
      obtain ⟨i1, i2⟩ := BerMath.kids_len s.data.toList s.size (0 + x.size + x.len) (0 + x.size) (1 + 1) (by omega)
      refine ⟨by simp only [List.length_cons]; omega, fun y hy => ?_⟩
      rcases List.mem_cons.1 hy with rfl | hy
      · exact ⟨k6, k1, k2, k3, k4, k5, by show 1 ≤ 64; decide⟩
      · obtain ⟨j1, j2, j3⟩ := i2 y hy
        exact ⟨by omega, j3⟩
    · rw [BerMath.one_leaf _ _ _ _ _ _ x (by decide) hw hm]
      refine ⟨by simp, fun y hy => ?_⟩
      rcases List.mem_cons.1 hy with rfl | hy
      · exact ⟨k6, k1, k2, k3, k4, k5, by show 1 ≤ 64; decide⟩
      · simp at hy
  | error o =>
    cases o with
    | some f => rw [BerMath.one_er _ _ _ _ _ _ f (by decide) hw]; exact ⟨by simp, fun x hx => by simp at hx⟩
    | none => rw [BerMath.one_miss _ _ _ _ _ _ (by decide) hw]; exact ⟨by simp, fun x hx => by simp at hx⟩
end Go.Proofs.YtkiidlnimjjnlaaDoor
