import Derived.Test.YtddkefjcpgdomaaFrKeepM
namespace Go.Proofs.Ytddkefjcpgdomaa
open Go.RowKit
open FrMath (Hdr lb bd within Out ends cut Cut)

/-- One text appended, in a walk: and where the new row is another, the old one stands. -/
theorem push_text2 (w : World) {ops : Array Oper} {rest : List Oper} {o : Oper} {a : Act} {Q : Exit → Act → World → Prop} (hgd : o.guard = none) (s x : Operand)
    (ho : o.op = .call { callee := .builtin .append, args := #[s, x], argTypes := #[23, 23] }) (B g0 cap0 : Nat) (l : List (List UInt8)) (m : List UInt8) (g : Nat)
    (hs : a.eval s = .slice (some ⟨g0, 0, none⟩) l.length cap0) (hx : a.eval x = .slice (some ⟨g, 0, none⟩) 1 1) (hown : OwnS w B (.slice (some ⟨g0, 0, none⟩) l.length cap0) l) (hg : w.heap[g]? = some (.cells #[.string (S m)] 9 (0, 0))) (hB : B ≤ w.heap.size) (hl : l.length ≤ 4194304)
    (h : ∀ g' cap w', OwnS w' B (.slice (some ⟨g', 0, none⟩) (l.length + 1) cap) (l ++ [m]) → (g' = g0 ∨ (g' = w.heap.size ∧ w'.heap[g0]? = w.heap[g0]?)) → (∀ b, b < w.heap.size → b ≠ g0 → w'.heap[b]? = w.heap[b]?) → Below B w w' → wpList Try.prog ops Q rest (a.put o.dst (.slice (some ⟨g', 0, none⟩) (l.length + 1) cap)) w') :
    wpList Try.prog ops Q (o :: rest) a w := by
  obtain ⟨i0, hi, hz0, hz1, hz2⟩ := info_parts info_str
  have hnews := World.news_of_block hg
  have h1 : ∀ u ∈ [Value.string (S m)], u.oneCell' = true := by intro u hu; simp at hu; subst hu; rfl
  obtain ⟨g', cap, w', hr, h2, h3, h4, h5⟩ := run_append_lies (P := Try.prog) w 23 o.type B 9 i0 _ 1 16 Try.underlying23 hi hz0 hz1 hz2 rfl (by decide) (.slice (some ⟨g0, 0, none⟩) l.length cap0) l.length (sv l) hown ⟨g, 0, none⟩ 1 1 [.string (S m)] rfl hnews h1 (by decide) (by unfold maxLen; omega) (by omega) hB w.heap.size rfl
  refine Lib.wpList_append_run w hgd s x _ _ ho _ _ hs hx _ _ hr ?_
  refine h g' cap w' ?_ ?_ ?_ ?_
  · unfold OwnS
    rw [sv_snoc, List.length_append]
    exact h2
  · rcases h4 with h4 | h4
    · injection h4 with h4
      exact Or.inl h4.symm
    · refine Or.inr ⟨h4, ?_⟩
      rcases hown.2 with ⟨hv, _⟩ | ⟨g1, cap1, cur, hv, hbg, hgg, hnc, hcm, hcs, htake⟩
      · injection hv with hv
        cases hv
      · injection hv with hv1 _ hv2
        injection hv1 with hv1
        injection hv1 with hv1
        subst hv1 hv2
        by_cases hroom : l.length + 1 ≤ cap0
        · have hr2 := run_append_room (P := Try.prog) w 23 o.type 9 i0 Try.underlying23 hi g0 l.length cap0 cur hgg ⟨g, 0, none⟩ 1 1 [.string (S m)] (by rw [hz1]; rfl) hnews h1 hroom (by rw [hz1]; simp; omega)
          rw [hr2] at hr
          injection hr with hr _
          injection hr with hr _ _
          injection hr with hr
          injection hr with hr
          have := (Array.getElem?_eq_some_iff.1 hgg).1
          omega
        · have holds := World.ownsRow.cells (show w.ownsRow B 9 1 (.slice (some ⟨g0, 0, none⟩) l.length cap0) l.length (sv l) from hown) (g := g0) rfl
          have hr2 := run_append_grow (P := Try.prog) w 23 o.type 9 i0 _ Try.underlying23 hi hz0 ⟨g0, 0, none⟩ l.length cap0 (sv l) (by rw [hz1]; exact hown.1) holds ⟨g, 0, none⟩ 1 1 [.string (S m)] (by rw [hz1]; rfl) hnews (by omega) (by omega) (by rw [hz2]; exact growslice_fits (by omega) (by omega))
          rw [hr2] at hr
          injection hr with _ hr
          rw [← hr]
          exact Lib.alloc_old w.drew _ g0 (Array.getElem?_eq_some_iff.1 hgg).1
  · intro b hb hne
    exact h3.block b hb (fun hh => hne (by injection hh))
  · refine (Below.refl _ _).grown h3 hB ?_
    intro k hk
    exact (World.ownsRow.lt (show w.ownsRow B 9 1 (.slice (some ⟨g0, 0, none⟩) l.length cap0) l.length (sv l) from hown) _ hk).1

/-- A mark's cells. -/
def MkAt (W : World) (m : Mk) : Prop :=
  W.cell? ⟨m.g, 0, none⟩ = some (.string m.wd) ∧ W.cell? ⟨m.g, 1, none⟩ = some (.string (m.wd ++ ⟨#[120]⟩)) ∧
  W.cell? ⟨m.g2, 0, none⟩ = some (.string m.wd) ∧ W.cell? ⟨m.g2, 1, none⟩ = some (.string (m.wd ++ ⟨#[120]⟩)) ∧ W.cell? ⟨m.g2, 2, none⟩ = some (.string (m.wd ++ ⟨#[121]⟩))
theorem MkAt.lt {W : World} {m : Mk} (h : MkAt W m) : m.g < W.heap.size ∧ m.g2 < W.heap.size := ⟨World.block_lt_of_cell? W _ h.1, World.block_lt_of_cell? W _ h.2.2.1⟩
theorem MkAt.of {W W' : World} {m : Mk} (h : MkAt W m) (e1 : W'.heap[m.g]? = W.heap[m.g]?) (e2 : W'.heap[m.g2]? = W.heap[m.g2]?) : MkAt W' m := by
  obtain ⟨h0, h1, k0, k1, k2⟩ := h
  refine ⟨?_, ?_, ?_, ?_, ?_⟩
  · rw [World.cell?_of_block (w := W) (a := ⟨m.g, 0, none⟩) e1]; exact h0
  · rw [World.cell?_of_block (w := W) (a := ⟨m.g, 1, none⟩) e1]; exact h1
  · rw [World.cell?_of_block (w := W) (a := ⟨m.g2, 0, none⟩) e2]; exact k0
  · rw [World.cell?_of_block (w := W) (a := ⟨m.g2, 1, none⟩) e2]; exact k1
  · rw [World.cell?_of_block (w := W) (a := ⟨m.g2, 2, none⟩) e2]; exact k2
theorem MkAt.mark {W : World} {m : Mk} (h : MkAt W m) : MarkAt W (.agg #[.slice (some ⟨m.g, 0, none⟩) 2 m.c, .slice (some ⟨m.g2, 0, none⟩) 3 m.c2, .string m.wd]) m.wd := ⟨m.g, m.c, m.g2, m.c2, rfl, h⟩

/-- A row of texts: its block, its room, its texts. -/
abbrev Rw := Nat × Nat × List (List UInt8)
def Rw.v (r : Rw) : Value := .slice (some ⟨r.1, 0, none⟩) r.2.2.length r.2.1
/-- A block that is no buffer's, nor the list's. -/
def Nx (H : Nat) (v u kv : Value) (x : Nat) : Prop := H ≤ x ∧ v.ownBlock ≠ some x ∧ u.ownBlock ≠ some x ∧ kv.ownBlock ≠ some x
def Alone (H : Nat) (v u kv : Value) (ms : List Mk) (rows : List Rw) (x : Nat) : Prop := Nx H v u kv x ∧ (∀ m ∈ ms, m.g ≠ x ∧ m.g2 ≠ x) ∧ ∀ r ∈ rows, r.1 ≠ x
theorem ownM_of {w w' : World} {B : Nat} {v : Value} {l : List Mk} (h : OwnM w B v l) (hb : ∀ g, v.ownBlock = some g → w'.heap[g]? = w.heap[g]?) : OwnM w' B v l := by
  rcases h with ⟨h1, ⟨rfl, h2⟩ | ⟨g, cap, cur, rfl, h3, h4, h5⟩⟩
  · exact ⟨h1, Or.inl ⟨rfl, h2⟩⟩
  · exact ⟨h1, Or.inr ⟨g, cap, cur, rfl, h3, by rw [hb g rfl]; exact h4, h5⟩⟩
theorem ownM_lt {w : World} {B g : Nat} {v : Value} {l : List Mk} (h : OwnM w B v l) (hg : v.ownBlock = some g) : B ≤ g ∧ g < w.heap.size := World.ownsRow.lt (show w.ownsRow B 48 3 v l.length (mvs l) from h) g hg

/-- Two framers to which bytes have come, the list of marks, the marks, and rows that were given out. -/
structure KSt (w0 : World) (B H fb gb : Nat) (lim : Int) (bf bg : List UInt8) (v u kv : Value) (kl ms : List Mk) (rows : List Rw) (W : World) : Prop where
  f : FSt fb lim bf v W H
  g : FSt gb lim bg u W H
  k : OwnM W H kv kl
  lay : fb ≠ gb ∧ fb < H ∧ gb < H ∧ B ≤ fb ∧ B ≤ gb ∧ H ≤ W.heap.size
  vu : ∀ x, v.ownBlock = some x → u.ownBlock ≠ some x
  vk : ∀ x, v.ownBlock = some x → kv.ownBlock ≠ some x
  uk : ∀ x, u.ownBlock = some x → kv.ownBlock ≠ some x
  mks : ∀ m ∈ ms, MkAt W m ∧ Nx H v u kv m.g ∧ Nx H v u kv m.g2
  rw_ : ∀ r ∈ rows, OwnS W H r.v r.2.2 ∧ Nx H v u kv r.1 ∧ ∀ m ∈ ms, m.g ≠ r.1 ∧ m.g2 ≠ r.1
  dis : rows.Pairwise (fun a b => a.1 ≠ b.1)
  bel : Below B w0 W

section
variable {w0 : World} {B H fb gb : Nat} {lim : Int} {bf bg : List UInt8} {v u kv : Value} {kl ms : List Mk} {rows : List Rw} {W W' : World}
theorem KSt.rowLt (s : KSt w0 B H fb gb lim bf bg v u kv kl ms rows W) (r : Rw) (hr : r ∈ rows) : r.1 < W.heap.size := (ownS_lt (s.rw_ r hr).1 rfl).2
theorem KSt.fresh (s : KSt w0 B H fb gb lim bf bg v u kv kl ms rows W) {X : Nat} (h : W.heap.size ≤ X) : Alone H v u kv ms rows X := by
  refine ⟨⟨by have := s.lay; omega, fun hh => ?_, fun hh => ?_, fun hh => ?_⟩, fun m hm => ?_, fun r hr => ?_⟩
  · have := (s.f.high X hh).2; omega
  · have := (s.g.high X hh).2; omega
  · have := (ownM_lt s.k hh).2; omega
  · have := (s.mks m hm).1.lt; omega
  · have := s.rowLt r hr; omega
theorem KSt.other (s : KSt w0 B H fb gb lim bf bg v u kv kl ms rows W) {X : Nat} (hX : Alone H v u kv ms rows X) (hk : ∀ x, x < W.heap.size → x ≠ X → W'.heap[x]? = W.heap[x]?) (hb : Below B W W') : KSt w0 B H fb gb lim bf bg v u kv kl ms rows W' := by
  obtain ⟨⟨x1, x2, x3, x4⟩, x5, x6⟩ := hX
  obtain ⟨l1, l2, l3, l4, l5, l6⟩ := s.lay
  have hsz := hb.size
  refine ⟨s.f.of (hk fb (by omega) (by omega)) (fun x hx => hk x (s.f.high x hx).2 (fun e => x2 (e ▸ hx))) hsz, s.g.of (hk gb (by omega) (by omega)) (fun x hx => hk x (s.g.high x hx).2 (fun e => x3 (e ▸ hx))) hsz, ownM_of s.k (fun x hx => hk x (ownM_lt s.k hx).2 (fun e => x4 (e ▸ hx))), ⟨l1, l2, l3, l4, l5, by omega⟩, s.vu, s.vk, s.uk, fun m hm => ?_, fun r hr => ?_, s.dis, s.bel.trans hb⟩
  · obtain ⟨m1, m2, m3⟩ := s.mks m hm
    exact ⟨m1.of (hk _ m1.lt.1 (x5 m hm).1) (hk _ m1.lt.2 (x5 m hm).2), m2, m3⟩
  · obtain ⟨r1, r2, r3⟩ := s.rw_ r hr
    exact ⟨ownS_of r1 (fun x hx => by
      have e : r.1 = x := by injection hx
      subst e
      exact hk _ (s.rowLt r hr) (x6 r hr)), r2, r3⟩
theorem KSt.below (s : KSt w0 B H fb gb lim bf bg v u kv kl ms rows W) (hb : Below W.heap.size W W') : KSt w0 B H fb gb lim bf bg v u kv kl ms rows W' :=
  s.other (s.fresh (Nat.le_refl _)) (fun x hx _ => hb.block x hx) (hb.mono (by have := s.lay; omega))
theorem KSt.cut {r : Rw} (s : KSt w0 B H fb gb lim bf bg v u kv kl ms (r :: rows) W) : KSt w0 B H fb gb lim bf bg v u kv kl ms rows W ∧ OwnS W H r.v r.2.2 ∧ Alone H v u kv ms rows r.1 := by
  have hr := s.rw_ r List.mem_cons_self
  have hd := List.pairwise_cons.1 s.dis
  refine ⟨⟨s.f, s.g, s.k, s.lay, s.vu, s.vk, s.uk, s.mks, fun x hx => s.rw_ x (List.mem_cons_of_mem _ hx), hd.2, s.bel⟩, hr.1, hr.2.1, hr.2.2, fun x hx => (hd.1 x hx).symm⟩
theorem KSt.put (s : KSt w0 B H fb gb lim bf bg v u kv kl ms rows W) (r : Rw) (ho : OwnS W H r.v r.2.2) (ha : Alone H v u kv ms rows r.1) : KSt w0 B H fb gb lim bf bg v u kv kl ms (r :: rows) W := by
  refine ⟨s.f, s.g, s.k, s.lay, s.vu, s.vk, s.uk, s.mks, fun x hx => ?_, List.pairwise_cons.2 ⟨fun x hx => (ha.2.2 x hx).symm, s.dis⟩, s.bel⟩
  rcases List.mem_cons.1 hx with rfl | hx
  · exact ⟨ho, ha.1, ha.2.1⟩
  · exact s.rw_ x hx
theorem KSt.set {g cap : Nat} {l : List (List UInt8)} (s : KSt w0 B H fb gb lim bf bg v u kv kl ms ((g, cap, l) :: rows) W) (i : Nat) (x : List UInt8) : KSt w0 B H fb gb lim bf bg v u kv kl ms ((g, cap, l.set i x) :: rows) (W.setCell ⟨g, i, none⟩ (.string (S x))) := by
  obtain ⟨s1, ho, ha⟩ := s.cut
  have hgl : B ≤ g := by have := s.lay; have := ha.1.1; simp only at this; omega
  have hb : Below B W (W.setCell ⟨g, i, none⟩ (.string (S x))) := by
    refine Below.setCell (Below.refl _ _) ?_ _
    exact hgl
  refine (s1.other ha (fun y _ hy => heap_setCell_other W _ y _ hy) hb).put _ ?_ ha
  show OwnS _ H (.slice (some ⟨g, 0, none⟩) (l.set i x).length cap) (l.set i x)
  rw [List.length_set]
  exact ownS_set ho i x
theorem KSt.flip {r q : Rw} (s : KSt w0 B H fb gb lim bf bg v u kv kl ms (r :: q :: rows) W) : KSt w0 B H fb gb lim bf bg v u kv kl ms (q :: r :: rows) W := by
  obtain ⟨s1, o1, a1⟩ := s.cut
  obtain ⟨s2, o2, a2⟩ := s1.cut
  have a3 : Alone H v u kv ms rows r.1 := ⟨a1.1, a1.2.1, fun x hx => a1.2.2 x (List.mem_cons_of_mem _ hx)⟩
  refine (s2.put r o1 a3).put q o2 ⟨a2.1, a2.2.1, fun x hx => ?_⟩
  rcases List.mem_cons.1 hx with rfl | hx
  · exact fun e => a1.2.2 q List.mem_cons_self e.symm
  · exact a2.2.2 x hx
theorem KSt.swap (s : KSt w0 B H fb gb lim bf bg v u kv kl ms rows W) : KSt w0 B H gb fb lim bg bf u v kv kl ms rows W := by
  obtain ⟨l1, l2, l3, l4, l5, l6⟩ := s.lay
  exact ⟨s.g, s.f, s.k, ⟨l1.symm, l3, l2, l5, l4, l6⟩, fun x h1 h2 => s.vu x h2 h1, s.uk, s.vk, fun m hm => ⟨(s.mks m hm).1, ⟨(s.mks m hm).2.1.1, (s.mks m hm).2.1.2.2.1, (s.mks m hm).2.1.2.1, (s.mks m hm).2.1.2.2.2⟩, ⟨(s.mks m hm).2.2.1, (s.mks m hm).2.2.2.2.1, (s.mks m hm).2.2.2.1, (s.mks m hm).2.2.2.2.2⟩⟩, fun r hr => ⟨(s.rw_ r hr).1, ⟨(s.rw_ r hr).2.1.1, (s.rw_ r hr).2.1.2.2.1, (s.rw_ r hr).2.1.2.1, (s.rw_ r hr).2.1.2.2.2⟩, (s.rw_ r hr).2.2⟩, s.dis, s.bel⟩
/-- A row that has become a mark. -/
theorem KSt.mark {g cap : Nat} {a b c : List UInt8} {wd : ByteArray} (s : KSt w0 B H fb gb lim bf bg v u kv kl ms ((g, cap, [a, b]) :: rows) W) (ea : S a = wd) (eb : S b = wd ++ ⟨#[120]⟩) (ec : S c = wd ++ ⟨#[121]⟩) {g' cap' : Nat}
    (ho : OwnS W' H (.slice (some ⟨g', 0, none⟩) 3 cap') [a, b, c]) (hor : g' = g ∨ (g' = W.heap.size ∧ W'.heap[g]? = W.heap[g]?)) (hk : ∀ x, x < W.heap.size → x ≠ g → W'.heap[x]? = W.heap[x]?) (hb : Below H W W') :
    KSt w0 B H fb gb lim bf bg v u kv kl (ms ++ [⟨g, cap, g', cap', wd⟩]) rows W' := by
  obtain ⟨s1, o1, a1⟩ := s.cut
  have o1' : OwnS W H (.slice (some ⟨g, 0, none⟩) 2 cap) [a, b] := o1
  have hgl : g < W.heap.size := (ownS_lt o1 rfl).2
  have hlay := s.lay
  have s2 := s1.other a1 hk (hb.mono (by omega))
  have c0 := ownS_cell (l := [a, b, c]) ho 0 (by simp)
  have c1 := ownS_cell (l := [a, b, c]) ho 1 (by simp)
  have c2 := ownS_cell (l := [a, b, c]) ho 2 (by simp)
  have d0 := ownS_cell (l := [a, b]) o1' 0 (by simp)
  have d1 := ownS_cell (l := [a, b]) o1' 1 (by simp)
  simp only [List.getElem_cons_zero, List.getElem_cons_succ, ea, eb, ec] at c0 c1 c2 d0 d1
  have ag : Alone H v u kv ms rows g := a1
  have ag' : Alone H v u kv ms rows g' := by
    rcases hor with rfl | ⟨h, _⟩
    · exact a1
    · exact s1.fresh (by omega)
  have hm : MkAt W' ⟨g, cap, g', cap', wd⟩ := by
    refine ⟨?_, ?_, c0, c1, c2⟩
    · rcases hor with rfl | ⟨_, h⟩
      · exact c0
      · show W'.cell? ⟨g, 0, none⟩ = _
        rw [World.cell?_of_block (w := W) (a := ⟨g, 0, none⟩) h]; exact d0
    · rcases hor with rfl | ⟨_, h⟩
      · exact c1
      · show W'.cell? ⟨g, 1, none⟩ = _
        rw [World.cell?_of_block (w := W) (a := ⟨g, 1, none⟩) h]; exact d1
  refine ⟨s2.f, s2.g, s2.k, s2.lay, s2.vu, s2.vk, s2.uk, fun m hm' => ?_, fun r hr => ⟨(s2.rw_ r hr).1, (s2.rw_ r hr).2.1, fun m hm' => ?_⟩, s2.dis, s2.bel⟩
  · rcases List.mem_append.1 hm' with h | h
    · exact s2.mks m h
    · obtain rfl := List.mem_singleton.1 h
      exact ⟨hm, ag.1, ag'.1⟩
  · rcases List.mem_append.1 hm' with h | h
    · exact (s2.rw_ r hr).2.2 m h
    · obtain rfl := List.mem_singleton.1 h
      exact ⟨fun e => ag.2.2 r hr e.symm, fun e => ag'.2.2 r hr e.symm⟩
/-- Marks laid in the list. -/
theorem KSt.push {k : List Mk} {kv' : Value} (s : KSt w0 B H fb gb lim bf bg v u kv kl ms rows W) (ho : OwnM W' H kv' (kl ++ k)) (hk : ∀ b, b < W.heap.size → kv.ownBlock ≠ some b → W'.heap[b]? = W.heap[b]?) (hf : kv'.ownBlock = kv.ownBlock ∨ ∀ b, kv'.ownBlock = some b → W.heap.size ≤ b) (hb : Below H W W') :
    KSt w0 B H fb gb lim bf bg v u kv' (kl ++ k) ms rows W' := by
  obtain ⟨l1, l2, l3, l4, l5, l6⟩ := s.lay
  have hsz := hb.size
  have nk : ∀ x, x < H → kv.ownBlock ≠ some x := fun x hx hh => by have := (ownM_lt s.k hh).1; omega
  have nx : ∀ x, x < W.heap.size → kv.ownBlock ≠ some x → kv'.ownBlock ≠ some x := fun x hx hh h2 => by
    rcases hf with h | h
    · exact hh (h ▸ h2)
    · have := h x h2; omega
  refine ⟨s.f.of (hk fb (by omega) (nk fb l2)) (fun x hx => hk x (s.f.high x hx).2 (s.vk x hx)) hsz, s.g.of (hk gb (by omega) (nk gb l3)) (fun x hx => hk x (s.g.high x hx).2 (s.uk x hx)) hsz, ho, ⟨l1, l2, l3, l4, l5, by omega⟩, s.vu, fun x hx => nx x (s.f.high x hx).2 (s.vk x hx), fun x hx => nx x (s.g.high x hx).2 (s.uk x hx), fun m hm => ?_, fun r hr => ?_, s.dis, s.bel.trans (hb.mono (by omega))⟩
  · obtain ⟨m1, ⟨m2, m3, m4, m5⟩, ⟨n2, n3, n4, n5⟩⟩ := s.mks m hm
    exact ⟨m1.of (hk _ m1.lt.1 m5) (hk _ m1.lt.2 n5), ⟨m2, m3, m4, nx _ m1.lt.1 m5⟩, ⟨n2, n3, n4, nx _ m1.lt.2 n5⟩⟩
  · obtain ⟨r1, ⟨m2, m3, m4, m5⟩, r3⟩ := s.rw_ r hr
    exact ⟨ownS_of r1 (fun x hx => by
      have e : r.1 = x := by injection hx
      subst e
      exact hk _ (s.rowLt r hr) m5), ⟨m2, m3, m4, nx _ (s.rowLt r hr) m5⟩, r3⟩
/-- Bytes fed to the first framer. -/
theorem KSt.feed {c : List UInt8} {v' : Value} {g cap : Nat} {l : List (List UInt8)} (s : KSt w0 B H fb gb lim bf bg v u kv kl ms rows W) (hm : OwnS W' W.heap.size (.slice (some ⟨g, 0, none⟩) l.length cap) l) (hs : FSt fb lim (bf ++ c) v' W' H) (hf : Fresh v v' W) (hkp : Kept fb v W W') (hap : ∀ x, v'.ownBlock = some x → Value.ownBlock (.slice (some ⟨g, 0, none⟩) l.length cap) ≠ some x) :
    KSt w0 B H fb gb lim (bf ++ c) bg v' u kv kl ms ((g, cap, l) :: rows) W' := by
  obtain ⟨l1, l2, l3, l4, l5, l6⟩ := s.lay
  obtain ⟨hb, hk⟩ := hkp
  have hsz := hb.size
  have nv : ∀ x, x < W.heap.size → v.ownBlock ≠ some x → v'.ownBlock ≠ some x := fun x hx hh h2 => by
    rcases hf with h | h
    · exact hh (h ▸ h2)
    · have := h x h2; omega
  have hvn : ∀ x, x < H → v.ownBlock ≠ some x := fun x hx hh => by have := (s.f.high x hh).1; omega
  have hgg : W.heap.size ≤ g := (ownS_lt hm rfl).1
  have s2 : KSt w0 B H fb gb lim (bf ++ c) bg v' u kv kl ms rows W' := by
    refine ⟨hs, s.g.of (hk gb (by omega) (by omega) (hvn gb l3)) (fun x hx => hk x (s.g.high x hx).2 (by have := (s.g.high x hx).1; omega) (fun hh => s.vu x hh hx)) hsz, ownM_of s.k (fun x hx => hk x (ownM_lt s.k hx).2 (by have := (ownM_lt s.k hx).1; omega) (fun hh => s.vk x hh hx)), ⟨l1, l2, l3, l4, l5, by omega⟩, fun x hx hu => ?_, fun x hx hu => ?_, s.uk, fun m hm => ?_, fun r hr => ?_, s.dis, s.bel.trans (hb.mono (by omega))⟩
    · exact nv x (s.g.high x hu).2 (fun hh => s.vu x hh hu) hx
    · exact nv x (ownM_lt s.k hu).2 (fun hh => s.vk x hh hu) hx
    · obtain ⟨m1, ⟨m2, m3, m4, m5⟩, ⟨n2, n3, n4, n5⟩⟩ := s.mks m hm
      exact ⟨m1.of (hk _ m1.lt.1 (by omega) m3) (hk _ m1.lt.2 (by omega) n3), ⟨m2, nv _ m1.lt.1 m3, m4, m5⟩, ⟨n2, nv _ m1.lt.2 n3, n4, n5⟩⟩
    · obtain ⟨r1, ⟨m2, m3, m4, m5⟩, r3⟩ := s.rw_ r hr
      exact ⟨ownS_of r1 (fun x hx => by
        have e : r.1 = x := by injection hx
        subst e
        exact hk _ (s.rowLt r hr) (by omega) m3), ⟨m2, nv _ (s.rowLt r hr) m3, m4, m5⟩, r3⟩
  have ha := s.fresh hgg
  exact s2.put (g, cap, l) (ownS_base hm l6) ⟨⟨ha.1.1, fun hh => hap g hh rfl, ha.1.2.2.1, ha.1.2.2.2⟩, ha.2.1, ha.2.2⟩
end
end Go.Proofs.Ytddkefjcpgdomaa
