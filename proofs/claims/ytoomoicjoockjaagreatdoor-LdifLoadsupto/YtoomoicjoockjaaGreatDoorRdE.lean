import Derived.Test.YtoomoicjoockjaaGreatDoorRdD
namespace Go.Proofs.YtoomoicjoockjaaGreatDoor
namespace Rd
open Go.RowKit Go.Shelf
open LdMath
open GSeM (SeqM StM)
open Lr (PR RC pf chg okD dnB ChgTab GOwn GRow pV pV_len Kd PX RX rV rV_len append_gen)
attribute [local go_sem] Oper.semAt_some
set_option linter.unusedVariables false
set_option maxRecDepth 100000

/-- What is handed on: a record and where its pairs lie, a fault. -/
abbrev X := RX × Nat × Nat
abbrev Sx := (Int × List UInt8 × List PR) × Nat × Nat
def encX (x : X) : Array Value := #[.agg #[.int .i64 x.1.1, .string (S x.1.2.1), .slice x.1.2.2.1 x.1.2.2.2.2.length x.1.2.2.2.1], .agg #[.int .i64 (x.2.1 : Int), .int .i64 (x.2.2 : Int)]]
def GX (x : X) (B : Nat) (W : World) : Prop := GOwn 50 2 pV W B (.slice x.1.2.2.1 x.1.2.2.2.2.length x.1.2.2.2.1) x.1.2.2.2.2
def sy (x : X) : Sx := ((x.1.1, x.1.2.1, x.1.2.2.2.2), x.2)
def rsx (r : Rc) : Sx := (((r.1 : Int), r.2.1, r.2.2), 0, 0)
def els (R : List Rc × Nat × Nat) : List Sx := R.1.map rsx ++ (if R.2.1 = 0 then [] else [((0, [], []), R.2)])
/-- Boxes that the iterator itself writes. -/
def isT (o : Obj) : Prop := ∃ cs, o = .cells cs 65 (0, 0) ∨ o = .cells cs 36 (0, 0)
/-- How the world moves between two rounds. -/
def Mv (B0 : Nat) (W W' : World) : Prop := (W'.os = W.os ∧ W'.tape = W.tape ∧ W'.output = W.output) ∧ W.heap.size ≤ W'.heap.size ∧ ∀ (k : Nat) (o : Obj), W.heap[k]? = some o → (k < B0 ∨ ¬ isT o) → W'.heap[k]? = some o
theorem Mv.refl (B0 : Nat) (W : World) : Mv B0 W W := ⟨⟨rfl, rfl, rfl⟩, Nat.le_refl _, fun _ _ h _ => h⟩
theorem Mv.below {B0 : Nat} {W0 w w' : World} (h : Mv B0 W0 w) (hb : Below w.heap.size w w') : Mv B0 W0 w' := ⟨⟨hb.os.trans h.1.1, hb.tape.trans h.1.2.1, hb.output.trans h.1.2.2⟩, Nat.le_trans h.2.1 hb.size, fun k o hk ho => (hb.block k (Array.getElem?_eq_some_iff.1 (h.2.2 k o hk ho)).1).trans (h.2.2 k o hk ho)⟩
theorem Mv.trans {B0 : Nat} {A B C : World} (h : Mv B0 A B) (h' : Mv B0 B C) : Mv B0 A C := ⟨⟨h'.1.1.trans h.1.1, h'.1.2.1.trans h.1.2.1, h'.1.2.2.trans h.1.2.2⟩, Nat.le_trans h.2.1 h'.2.1, fun k o hk ho => h'.2.2 k o (h.2.2 k o hk ho) ho⟩
theorem Mv.set {B0 : Nat} {W0 w : World} (h : Mv B0 W0 w) {b j : Nat} {o : Obj} (y : Value) (hb : w.heap[b]? = some o) (ho : isT o) (hB : B0 ≤ b) : Mv B0 W0 (w.setCell ⟨b, j, none⟩ y) := by
  refine ⟨h.1, by rw [World.size_setCell]; exact h.2.1, fun k o' hk ho' => ?_⟩
  have h1 := h.2.2 k o' hk ho'
  rw [Below.heap_setCell _ _ _ _ (fun e => ?_)]
  · exact h1
  · subst e
    rw [hb] at h1
    injection h1 with h1
    subst h1
    rcases ho' with ho' | ho'
    · exact absurd ho' (by simpa using hB)
    · exact ho' ho
theorem Mv.fr {B0 rb k ln : Nat} {nm : List UInt8} {vv v : Value} {W0 w w' : World} (h : Mv B0 W0 w) (hf : Fr rb vv w w') (hr : RB w rb k ln nm v) (hB : B0 ≤ rb) (hv : ∀ g, vv.ownBlock = some g → W0.heap.size ≤ g) : Mv B0 W0 w' := by
  refine ⟨⟨hf.1.1.trans h.1.1, hf.1.2.1.trans h.1.2.1, hf.1.2.2.trans h.1.2.2⟩, Nat.le_trans h.2.1 hf.2.1, fun k o hk ho => ?_⟩
  have h1 := h.2.2 k o hk ho
  have hkl := (Array.getElem?_eq_some_iff.1 hk).1
  rw [hf.2.2 k (Nat.lt_of_lt_of_le hkl h.2.1) (fun e => ?_) (fun e => ?_)]
  · exact h1
  · subst e
    have hr' : w.heap[k]? = some (.cells _ 65 (0, 0)) := hr
    rw [hr'] at h1
    injection h1 with h1
    subst h1
    rcases ho with ho | ho
    · omega
    · exact ho ⟨_, .inl rfl⟩
  · have := hv k e
    omega
/-- What a round keeps. -/
def Kp (W W' : World) : Prop := W.heap.size ≤ W'.heap.size ∧ (∀ k, k = 2 ∨ k = 1 → W'.heap[k]? = W.heap[k]?) ∧ ∀ (k : Nat) (cs : Array Value) (t : TypeId), (t = 67 ∨ t = 65 ∨ t = 36) → W.heap[k]? = some (.cells cs t (0, 0)) → W'.heap[k]? = some (.cells cs t (0, 0))
theorem Kp.refl (W : World) : Kp W W := ⟨Nat.le_refl _, fun _ _ => rfl, fun _ _ _ _ h => h⟩
theorem Kp.trans {A B C : World} (h : Kp A B) (h' : Kp B C) : Kp A C := ⟨Nat.le_trans h.1 h'.1, fun k hk => (h'.2.1 k hk).trans (h.2.1 k hk), fun k cs t ht hk => h'.2.2 k cs t ht (h.2.2 k cs t ht hk)⟩
theorem wtab_same {W W' : World} (h : WTab W) (e : W'.heap[(2 : Nat)]? = W.heap[(2 : Nat)]?) : WTab W' := fun i hi => by
  rw [World.cell?_of_block (w := W) (w' := W') (a := ⟨2, i, none⟩) e]
  exact h i hi
theorem ctab_same {W W' : World} (h : ChgTab W) (e : W'.heap[(1 : Nat)]? = W.heap[(1 : Nat)]?) : ChgTab W' := by
  refine ⟨?_, ?_⟩
  · rw [World.cell?_of_block (w := W) (w' := W') (a := ⟨1, 0, none⟩) e]; exact h.1
  · rw [World.cell?_of_block (w := W) (w' := W') (a := ⟨1, 1, none⟩) e]; exact h.2
/-- A list of lines, by its block. -/
def LRow (W : World) (a : Option Addr) (L : List (Nat × List UInt8)) : Prop := L = [] ∨ ∃ (g : Nat) (cur : Array Value), a = some ⟨g, 0, none⟩ ∧ W.heap[g]? = some (.cells cur 67 (0, 0)) ∧ cur.toList.take (L.length * 2) = lv L
theorem LRow.same {W W' : World} {a : Option Addr} {L : List (Nat × List UInt8)} (h : LRow W a L) (hs : ∀ (g : Nat) (cur : Array Value), W.heap[g]? = some (.cells cur 67 (0, 0)) → W'.heap[g]? = some (.cells cur 67 (0, 0))) : LRow W' a L := by
  rcases h with h | ⟨g, cur, h1, h2, h3⟩
  · exact .inl h
  · exact .inr ⟨g, cur, h1, hs g cur h2, h3⟩
theorem LRow.at {W : World} {a : Option Addr} {L : List (Nat × List UInt8)} (h : LRow W a L) (i : Nat) (hi : i < L.length) : ∃ g, a = some ⟨g, 0, none⟩ ∧ W.cell? ⟨g, i * 2, none⟩ = some (.int .i64 (L[i].1 : Int)) ∧ W.cell? ⟨g, i * 2 + 1, none⟩ = some (.string (S L[i].2)) := by
  rcases h with rfl | ⟨g, cur, rfl, h2, h3⟩
  · simp at hi
  · refine ⟨g, rfl, ?_, ?_⟩
    · rw [cell_of_row _ _ _ _ _ _ h2]
      have h4 := Lr.flatV_at lV 2 (fun _ => rfl) L i hi 0 (by omega)
      have h5 : (cur.toList.take (L.length * 2))[i * 2 + 0]? = (L.flatMap lV)[i * 2 + 0]? := by rw [h3]; rfl
      rw [List.getElem?_take_of_lt (by omega), h4] at h5
      simpa [lV] using h5
    · rw [cell_of_row _ _ _ _ _ _ h2]
      have h4 := Lr.flatV_at lV 2 (fun _ => rfl) L i hi 1 (by omega)
      have h5 : (cur.toList.take (L.length * 2))[i * 2 + 1]? = (L.flatMap lV)[i * 2 + 1]? := by rw [h3]; rfl
      rw [List.getElem?_take_of_lt (by omega), h4] at h5
      simpa [lV] using h5
theorem LRow.of_own {W : World} {B : Nat} {v : Value} {L : List (Nat × List UInt8)} (h : OwnL W B v L) : ∃ a c, v = .slice a L.length c ∧ LRow W a L := by
  rcases h with ⟨h1, ⟨rfl, h2⟩ | ⟨g, cap, cur, rfl, h3, h4, h5, h6, h7, h8⟩⟩
  · exact ⟨none, 0, by rw [h2], .inl (List.eq_nil_of_length_eq_zero h2)⟩
  · exact ⟨_, cap, rfl, .inr ⟨g, cur, rfl, h4, h8⟩⟩

/-- What is told, and what is to come. -/
def Tl (e : Nat) (L : List (Nat × List UInt8)) (i : Nat) (st : St) (pre : List X) : Prop := (rdL e st0 L).1.map rsx = pre.map sy ++ (rdL e st (L.drop i)).1.map rsx ∧ (rdL e st0 L).2 = (rdL e st (L.drop i)).2
theorem Tl.on {e : Nat} {L : List (Nat × List UInt8)} {i j : Nat} {st st' : St} {pre : List X} (h : Tl e L i st pre) (he : rdL e st (L.drop i) = rdL e st' (L.drop j)) : Tl e L j st' pre := by
  unfold Tl at h ⊢
  rw [he] at h
  exact h
/-- The boxes for faults that were there stand. -/
def FK (ws w : World) : Prop := ∀ (k : Nat) (cs : Array Value), ws.heap[k]? = some (.cells cs 36 (0, 0)) → w.heap[k]? = some (.cells cs 36 (0, 0))
theorem FK.below {ws w w' : World} (h : FK ws w) (hb : Below w.heap.size w w') : FK ws w' := fun k cs hk => (hb.block _ (Array.getElem?_eq_some_iff.1 (h k cs hk)).1).trans (h k cs hk)
theorem FK.set {ws w : World} (h : FK ws w) {b j : Nat} (hb : ws.heap.size ≤ b) (y : Value) : FK ws (w.setCell ⟨b, j, none⟩ y) := fun k cs hk => by
  have hl := (Array.getElem?_eq_some_iff.1 hk).1
  rw [Below.heap_setCell _ _ _ _ (show k ≠ b by omega)]
  exact h k cs hk
/-- Between two lines. -/
def RI (ws : World) (B0 rb fb e : Nat) (J : List X → World → Prop) (L : List (Nat × List UInt8)) (a : Option Addr) (i : Nat) (st : St) (pre : List X) (W0 : World) (v : Value) (Bp : Nat) (wr : World) : Prop :=
  J pre W0 ∧ Mv B0 W0 wr ∧ RB wr rb st.1 st.2.1 st.2.2.1 v ∧ st.1 ≤ 4 ∧ (3 ≤ st.1 → GOwn 50 2 pV wr Bp v st.2.2.2 ∧ st.2.2.2.length ≤ i) ∧ (W0.heap.size ≤ Bp ∧ B0 ≤ Bp) ∧ Bp ≤ wr.heap.size ∧
  Tl e L i st pre ∧ pre.length ≤ i ∧ wr.heap[fb]? = some (.cells #[.int .i64 0, .int .i64 0] 36 (0, 0)) ∧ LRow wr a L ∧ WTab wr ∧ ChgTab wr ∧ FK ws wr
theorem RI.below {ws : World} {B0 rb fb e : Nat} {J : List X → World → Prop} {L : List (Nat × List UInt8)} {a : Option Addr} {i : Nat} {st : St} {pre : List X} {W0 : World} {v : Value} {Bp : Nat} {w w' : World} (h : RI ws B0 rb fb e J L a i st pre W0 v Bp w) (hb : Below w.heap.size w w') : RI ws B0 rb fb e J L a i st pre W0 v Bp w' := by
  obtain ⟨h1, h2, h3, h4, h5, h6, h7, h8, h9, h10, h11, h12, h13, h14⟩ := h
  exact ⟨h1, h2.below hb, h3.below hb, h4, fun hk => ⟨(h5 hk).1.below hb, (h5 hk).2⟩, h6, Nat.le_trans h7 hb.size, h8, h9, (hb.block _ (Array.getElem?_eq_some_iff.1 h10).1).trans h10, LRow.same h11 (fun g cur hg => (hb.block _ (Array.getElem?_eq_some_iff.1 hg).1).trans hg), h12.below hb, h13.below hb, h14.below hb⟩
/-- On by a line. -/
theorem RI.next {ws : World} {B0 rb fb e : Nat} {J : List X → World → Prop} {L : List (Nat × List UInt8)} {a : Option Addr} {i : Nat} {st : St} {pre : List X} {W0 : World} {v : Value} {Bp : Nat} {w : World} (h : RI ws B0 rb fb e J L a i st pre W0 v Bp w) (he : rdL e st (L.drop i) = rdL e st (L.drop (i + 1))) : RI ws B0 rb fb e J L a (i + 1) st pre W0 v Bp w := by
  obtain ⟨h1, h2, h3, h4, h5, h6, h7, h8, h9, h10, h11, h12, h13, h14⟩ := h
  exact ⟨h1, h2, h3, h4, fun hk => ⟨(h5 hk).1, Nat.le_succ_of_le (h5 hk).2⟩, h6, h7, h8.on he, Nat.le_succ_of_le h9, h10, h11, h12, h13, h14⟩
/-- On by a line that is taken. -/
theorem RI.take {ws : World} {B0 rb fb e : Nat} {J : List X → World → Prop} {L : List (Nat × List UInt8)} {a : Option Addr} {i n : Nat} {t : List UInt8} {st : St} {pre : List X} {W0 : World} {v : Value} {Bp : Nat} {w w' : World} (h : RI ws B0 rb fb e J L a i st pre W0 v Bp w) (hq : TkQ rb Bp v st n t w w') (hB : B0 ≤ rb) (hG : 2 < B0 ∧ 1 < B0) :
    Mv B0 W0 w' ∧ w'.heap[fb]? = some (.cells #[.int .i64 0, .int .i64 0] 36 (0, 0)) ∧ J pre W0 ∧ FK ws w' ∧ (takeF st t = 0 → rdL e st (L.drop i) = rdL e (takeS st n t) (L.drop (i + 1)) → ∃ v', RI ws B0 rb fb e J L a (i + 1) (takeS st n t) pre W0 v' Bp w') := by
  obtain ⟨h1, h2, h3, h4, h5, h6, h7, h8, h9, h10, h11, h12, h13, h14⟩ := h
  obtain ⟨q1, q2⟩ := hq
  have hpv : ∀ g, (pvw st.1 v).ownBlock = some g → ∃ cs, w.heap[g]? = some (.cells cs 50 (0, 0)) ∧ Bp ≤ g := fun g hg => by
    unfold pvw at hg
    by_cases hk : 3 ≤ st.1
    · rw [if_pos hk] at hg
      have ho : w.ownsRow Bp 50 2 v st.2.2.2.length (st.2.2.2.flatMap pV) := (h5 hk).1
      obtain ⟨cs, hcs⟩ := owns_typ ho hg
      exact ⟨cs, hcs, (ho.lt g hg).1⟩
    · rw [if_neg hk] at hg
      cases hg
  have hm : Mv B0 W0 w' := h2.fr q1 h3 hB (fun g hg => by obtain ⟨_, _, h⟩ := hpv g hg; have := h6.1; omega)
  have hr' : w.heap[rb]? = some (.cells _ 65 (0, 0)) := h3
  -- blocks of other types stay
  have oth : ∀ (k : Nat) (cs : Array Value) (t : TypeId) fz, w.heap[k]? = some (.cells cs t fz) → t ≠ 65 → t ≠ 50 → w'.heap[k]? = w.heap[k]? := fun k cs t fz hk n1 n2 => by
    refine q1.2.2 k (Array.getElem?_eq_some_iff.1 hk).1 (fun e => ?_) (fun e => ?_)
    · subst e
      rw [hr'] at hk
      injection hk with hk
      injection hk with _ hk _
      exact n1 hk.symm
    · obtain ⟨cs', hcs', _⟩ := hpv k e
      rw [hcs'] at hk
      injection hk with hk
      injection hk with _ hk _
      exact n2 hk.symm
  have hfb := (oth _ _ _ _ h10 (by decide) (by decide)).trans h10
  have hfk : FK ws w' := fun k cs hk => (oth _ _ _ _ (h14 k cs hk) (by decide) (by decide)).trans (h14 k cs hk)
  refine ⟨hm, hfb, h1, hfk, fun h0 he => ?_⟩
  obtain ⟨v', r1, r2⟩ := q2 h0
  have hLn : st.2.2.2.length ≤ i ∨ ¬ 3 ≤ st.1 := by
    by_cases hk : 3 ≤ st.1
    · exact .inl (h5 hk).2
    · exact .inr hk
  have low : ∀ k, k < B0 → w'.heap[k]? = w.heap[k]? := fun k hk => by
    refine q1.2.2 k (by have := h6.2; omega) (by omega) (fun e => ?_)
    obtain ⟨_, _, h⟩ := hpv k e
    have := h6.2
    omega
  refine ⟨v', h1, hm, r1, ?_, fun hk => ⟨r2 hk, ?_⟩, h6, Nat.le_trans h7 q1.2.1, h8.on he, Nat.le_succ_of_le h9, hfb, LRow.same h11 (fun g cur hg => (oth _ _ _ _ hg (by decide) (by decide)).trans hg), wtab_same h12 (low _ hG.1), ctab_same h13 (low _ hG.2), hfk⟩
  · unfold takeS
    split
    · exact Nat.le_of_ble_eq_true rfl
    · split <;> exact Nat.le_of_ble_eq_true rfl
  · unfold takeS at hk ⊢
    by_cases k0 : st.1 = 0
    · rw [if_pos k0] at hk
      exact absurd (show 3 ≤ 1 from hk) (by decide)
    · rw [if_neg k0] at hk ⊢
      by_cases k2 : st.1 ≤ 2
      · rw [if_pos k2]
        exact Nat.zero_le _
      · rw [if_neg k2]
        simp only [List.length_append, List.length_singleton]
        have := hLn.resolve_right (by omega)
        omega
end Rd
end Go.Proofs.YtoomoicjoockjaaGreatDoor
