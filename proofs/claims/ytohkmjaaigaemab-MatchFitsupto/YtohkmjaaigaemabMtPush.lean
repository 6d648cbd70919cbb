import Derived.Test.YtohkmjaaigaemabMtCopy
import Derived.BigQuiet
namespace Go.Proofs.Ytohkmjaaigaemab
open Go.RowKit
set_option linter.unusedVariables false

/-- One text appended, in a walk. -/
theorem push_text (w : World) {ops : Array Oper} {rest : List Oper} {o : Oper} {a : Act} {Q : Exit → Act → World → Prop} (hgd : o.guard = none) (s x : Operand)
    (ho : o.op = .call { callee := .builtin .append, args := #[s, x], argTypes := #[22, 22] }) (B : Nat) (v : Value) (l : List (List UInt8)) (m : List UInt8) (g : Nat)
    (hs : a.eval s = v) (hx : a.eval x = .slice (some ⟨g, 0, none⟩) 1 1) (hown : OwnS w B v l) (hg : w.heap[g]? = some (.cells #[.string (S m)] 9 (0, 0))) (hB : B ≤ w.heap.size) (hl : l.length ≤ 4194304)
    (h : ∀ g' cap w', OwnS w' B (.slice (some ⟨g', 0, none⟩) (l.length + 1) cap) (l ++ [m]) → w.grownBy w' v.ownBlock → (v.ownBlock = some g' ∨ g' = w.heap.size) → Below B w w' → wpList Try.prog ops Q rest (a.put o.dst (.slice (some ⟨g', 0, none⟩) (l.length + 1) cap)) w') :
    wpList Try.prog ops Q (o :: rest) a w := by
  obtain ⟨i0, hi, hz0, hz1, hz2⟩ := info_parts info_str
  refine wpList_append_lies w hgd s x 22 ho B 9 i0 _ 1 16 Try.underlying22 hi hz0 hz1 hz2 rfl (by decide) v l.length (sv l) hs hown ⟨g, 0, none⟩ 1 1 [.string (S m)] hx rfl (World.news_of_block hg) (by intro u hu; simp at hu; subst hu; rfl) (by decide) (by unfold maxLen; omega) (by omega) hB w.heap.size rfl ?_
  intro g' cap w' h1 h2 h3 _
  refine h g' cap w' ?_ h2 h3 ?_
  · unfold OwnS
    rw [sv_snoc, List.length_append]
    exact h1
  · refine (Below.refl _ _).grown h2 hB ?_
    intro k hk
    exact (World.ownsRow.lt (show w.ownsRow B 9 1 v l.length (sv l) from hown) _ hk).1

theorem ownS_cap {w : World} {B g n cap : Nat} {l : List (List UInt8)} (h : OwnS w B (.slice (some ⟨g, 0, none⟩) n cap) l) : n ≤ cap ∧ B ≤ g ∧ g < w.heap.size := by
  have hb := h.lt g rfl
  rcases h with ⟨_, ⟨h1, _⟩ | ⟨g', cap', cur, h1, _, _, h5, _⟩⟩
  · injection h1 with h1
    cases h1
  · injection h1 with h1 h2 h3
    subst h2 h3
    exact ⟨h5, hb.1, hb.2⟩
def spL : List UInt8 := [115, 112, 97, 114, 101]
theorem spS : S spL = ⟨#[115, 112, 97, 114, 101]⟩ := rfl

theorem ownS_of6 {w w' : World} {B g n cap : Nat} {l : List (List UInt8)} (h : OwnS w B (.slice (some ⟨g, 0, none⟩) n cap) l) (hb : w'.heap[g]? = w.heap[g]?) : OwnS w' B (.slice (some ⟨g, 0, none⟩) n cap) l := by
  rcases h with ⟨h1, ⟨h2, _⟩ | ⟨g', cap', cur, h2, h3, h4, h5⟩⟩
  · injection h2 with h2
    cases h2
  · injection h2 with h2 h6 h7
    injection h2 with h2
    injection h2 with h2
    subst h2 h6 h7
    exact ⟨h1, Or.inr ⟨g, cap, cur, rfl, h3, by rw [hb]; exact h4, h5⟩⟩
theorem pat_grown {W w' : World} {v : Value} {o : Obj} {g : Nat} {i : ByteArray} {u : Value} {f : ByteArray} (hp : PatV W g i u f) (hg : (W.alloc o).grownBy w' v.ownBlock) (hv : v.ownBlock ≠ some g) : PatV w' g i u f := by
  have h1 := hp.lt
  refine (hp.of_block (Below.heap_alloc _ _ _ h1)).of_block (hg.block g (by rw [World.size_alloc]; omega) (fun h => hv h.symm))
set_option maxRecDepth 100000 in
set_option maxHeartbeats 2000000 in
theorem roomy_any (i f : ByteArray) (l : List (List UInt8)) (a : Option Addr) (c : Nat) (w : World) (hr : Row w a l) (hl : l.length ≤ 4194304) :
    Calls Try.prog 5 #[.agg #[.string i, .slice a l.length c, .string f]] w fun e w' => (∃ g cap, e = .returned (.agg #[.string i, .slice (some ⟨g, 0, none⟩) l.length cap, .string f]) ∧ OwnS w' w.heap.size (.slice (some ⟨g, 0, none⟩) (l.length + 1) cap) (l ++ [spL])) ∧ Below w.heap.size w w' := by
  obtain ⟨Wa, hWa⟩ : ∃ W, w.alloc (.cells #[.string i, .slice a l.length c, .string f] 24) = W := ⟨_, rfl⟩
  obtain ⟨Wb, hWb⟩ : ∃ W, Wa.alloc (.cells #[.string ⟨#[]⟩, .slice none 0 0, .string ⟨#[]⟩] 24) = W := ⟨_, rfl⟩
  have na : Wa.heap.size = w.heap.size + 1 := by rw [← hWa]; simp
  have nb : Wb.heap.size = w.heap.size + 2 := by rw [← hWb, World.size_alloc, na]
  have pa : PatV Wa w.heap.size i (.slice a l.length c) f := by rw [← hWa]; exact heap_alloc_last w _
  have pb1 : PatV Wb w.heap.size i (.slice a l.length c) f := by rw [← hWb]; exact pa.of_block (Below.heap_alloc _ _ _ pa.lt)
  have pb2 : PatV Wb (w.heap.size + 1) ⟨#[]⟩ (.slice none 0 0) ⟨#[]⟩ := by rw [← hWb, ← na]; exact heap_alloc_last Wa _
  have hBb : Below w.heap.size w Wb := by
    rw [← hWb, ← hWa]
    exact ((Below.refl _ _).alloc (Nat.le_refl _) _).alloc (by simp) _
  have hC := copied_any i f l a c Wb (hr.below hBb) hl
  have hI : Hid (PatV Wb w.heap.size i (.slice a l.length c) f ∧ PatV Wb (w.heap.size + 1) ⟨#[]⟩ (.slice none 0 0) ⟨#[]⟩ ∧ Below w.heap.size w Wb ∧ Wb.heap.size = w.heap.size + 2) := ⟨pb1, pb2, hBb, nb⟩
  obtain ⟨⟨c0, z0⟩, ⟨c1, z1⟩, ⟨c2, z2⟩⟩ := pb1.cells
  clear hr pa pb1 pb2 hBb
  go_enter Try.func5, Try.ntmps5
  go_wp2_with fail
  refine hC.mono ?_
  rintro e W1 ⟨⟨v, rfl, hO⟩, hb1⟩
  obtain ⟨va, vn, vc, rfl⟩ : ∃ a n c, v = .slice a n c := by
    rcases ownS_form hO with ⟨h, _⟩ | ⟨g, cap, h⟩
    · exact ⟨_, _, _, h⟩
    · exact ⟨_, _, _, h⟩
  obtain ⟨W2, hW2⟩ : ∃ W, W1.alloc (.cells #[.string i, .slice va vn vc, .string f] 24) = W := ⟨_, rfl⟩
  have hB2 : Below W1.heap.size W1 W2 := by rw [← hW2]; exact (Below.refl _ _).alloc (Nat.le_refl _) _
  have n2 : Hid (W2.heap.size = W1.heap.size + 1 ∧ w.heap.size + 2 ≤ W1.heap.size) := ⟨by rw [← hW2, World.size_alloc], by have := hb1.size; have := hI.out.2.2.2; omega⟩
  have q1 : PatV W2 w.heap.size i (.slice a l.length c) f := (hI.out.1.of_block (hb1.block _ hI.out.1.lt)).of_block (hB2.block _ (by have := n2.out; omega))
  have q2 : PatV W2 (w.heap.size + 1) ⟨#[]⟩ (.slice none 0 0) ⟨#[]⟩ := (hI.out.2.1.of_block (hb1.block _ hI.out.2.1.lt)).of_block (hB2.block _ (by have := n2.out; omega))
  have q3 : PatV W2 W1.heap.size i (.slice va vn vc) f := by rw [← hW2]; exact heap_alloc_last W1 _
  have hO2 : Hid (OwnS W2 Wb.heap.size (.slice va vn vc) l) := ownS_below hO hB2
  have hBw : Hid (Below w.heap.size w W2) := (hI.out.2.2.1.trans (hb1.mono hI.out.2.2.1.size)).trans (hB2.mono (by have := n2.out; omega))
  have hQ : Hid (PatV W2 w.heap.size i (.slice a l.length c) f ∧ PatV W2 (w.heap.size + 1) ⟨#[]⟩ (.slice none 0 0) ⟨#[]⟩ ∧ PatV W2 W1.heap.size i (.slice va vn vc) f) := ⟨q1, q2, q3⟩
  have hnb : Hid (Wb.heap.size = w.heap.size + 2 ∧ l.length ≤ 4194304) := ⟨hI.out.2.2.2, hl⟩
  have hne : Hid ((Value.slice va vn vc).ownBlock ≠ some w.heap.size ∧ (Value.slice va vn vc).ownBlock ≠ some (w.heap.size + 1) ∧ (Value.slice va vn vc).ownBlock ≠ some W1.heap.size) := by
    have hx : ∀ x, (Value.slice va vn vc).ownBlock = some x → Wb.heap.size ≤ x ∧ x < W1.heap.size := fun x h => hO.lt x h
    have := hI.out.2.2.2
    refine ⟨fun h => ?_, fun h => ?_, fun h => ?_⟩ <;> (have := hx _ h; omega)
  have hlb : Hid (Wb.heap.size ≤ W2.heap.size) := by have := n2.out; have := hI.out.2.2.2; unfold Hid; omega
  clear c0 z0 c1 z1 c2 z2
  obtain ⟨⟨c0, z0⟩, ⟨c1, z1⟩, ⟨c2, z2⟩⟩ := q1.cells
  obtain ⟨⟨d0, y0⟩, ⟨d1, y1⟩, ⟨d2, y2⟩⟩ := q3.cells
  have q4 : ¬ W1.heap.size = w.heap.size + 1 := by have := n2.out; omega
  have q5 : ¬ w.heap.size + 1 = W1.heap.size := by omega
  clear q1 q2 q3 hO hb1 hB2 hC hI hWa hWb na nb hl
  go_wp2_with (at_builtin; refine push_text _ rfl _ _ rfl Wb.heap.size _ l spL _ rfl rfl ?_ ?_ ?_ hnb.out.2 ?_; (exact World.ownsRow.alloc hO2.out _); (rw [spS]; exact heap_alloc_last _ _); (have := hlb.out; simp; omega); intro g6 cap6 w6 hown6 hgr6 hlie6 hb6; have p1 := pat_grown hQ.out.1 hgr6 hne.out.1; have p3 := pat_grown hQ.out.2.2 hgr6 hne.out.2.2; have p2 := pat_grown hQ.out.2.1 hgr6 hne.out.2.1; obtain ⟨⟨e0, x0⟩, ⟨e1, x1⟩, ⟨e2, x2⟩⟩ := p1.cells; obtain ⟨⟨r0, t0⟩, ⟨r1, t1⟩, ⟨r2, t2⟩⟩ := p3.cells; obtain ⟨⟨u0, s0⟩, ⟨u1, s1⟩, ⟨u2, s2⟩⟩ := p2.cells; have hcap := (ownS_cap hown6).1; have k0 : (0 : Int) ≤ (l.length : Int) := Int.natCast_nonneg _; have k1 : (l.length : Int) ≤ (cap6 : Int) := (by omega))
  have hR := (p2.of_block (Below.heap_setCell w6 ⟨W1.heap.size, 1, none⟩ (.slice (some ⟨g6, 0, none⟩) l.length cap6) (w.heap.size + 1) (by show w.heap.size + 1 ≠ W1.heap.size; omega))).whole (i' := i) (v' := .slice (some ⟨g6, 0, none⟩) l.length cap6) (f' := f)
  refine bodyPost_ret (results_cell _ _ _ rfl _ _ _ _ _ rfl (ld_pat hR)) rfl ⟨⟨_, _, rfl, ?_⟩, ?_⟩
  · have hg6 := (ownS_cap hown6)
    refine ownS_base (ownS_of6 hown6 ?_) (by have := hnb.out.1; omega : w.heap.size ≤ Wb.heap.size)
    have hg7 : g6 ≠ W1.heap.size := by
      rcases hlie6 with h | h
      · intro q; subst q; exact hne.out.2.2 h
      · rw [World.size_alloc] at h; have := n2.out; omega
    have hg8 : g6 ≠ w.heap.size + 1 := by have := hnb.out.1; omega
    rw [Below.heap_setCell _ _ _ _ (by show g6 ≠ w.heap.size + 1; omega), Below.heap_setCell _ _ _ _ (by show g6 ≠ w.heap.size + 1; omega), Below.heap_setCell _ _ _ _ (by show g6 ≠ w.heap.size + 1; omega), Below.heap_setCell _ _ _ _ (by show g6 ≠ W1.heap.size; omega)]
  · have hx : Below w.heap.size w w6 := hBw.out.trans (((Below.refl _ _).alloc hBw.out.size _).trans (hb6.mono (by have := hnb.out.1; omega)))
    refine Below.setCell (Below.setCell (Below.setCell (Below.setCell hx ?_ _) ?_ _) ?_ _) ?_ _
    · show w.heap.size ≤ W1.heap.size
      have := n2.out
      omega
    · exact Nat.le_succ _
    · exact Nat.le_succ _
    · exact Nat.le_succ _
end Go.Proofs.Ytohkmjaaigaemab
