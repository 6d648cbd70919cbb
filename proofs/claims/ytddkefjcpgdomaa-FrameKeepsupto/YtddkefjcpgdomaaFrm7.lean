import Derived.Test.YtddkefjcpgdomaaFrm6
namespace Go.Proofs.Ytddkefjcpgdomaa
open Go.RowKit
open FrMath (Hdr lb bd within Out ends cut Cut)

/-- The beginning of a message that is not whole. -/
def proper (lim : Int) (r : List UInt8) : Prop := (FrMath.look lim r).er = 0 ∧ r.length < (FrMath.look lim r).sz
theorem proper_nil (lim : Int) : proper lim [] := ⟨rfl, by rw [FrMath.look_nil]; decide⟩
theorem proper_cut {lim : Int} {r : List UInt8} (h : proper lim r) : Cut lim r = ⟨[], 0, 0⟩ := by
  rw [FrMath.Cut_end lim r (Or.inr h.2), h.1]
/-- How much take wants. -/
def wants (lim : Int) (r : List UInt8) : Nat := if (FrMath.look lim r).mi = 0 then (FrMath.look lim r).sz - r.length else (FrMath.look lim r).mi
theorem wants_pos {lim : Int} {r : List UInt8} (h : proper lim r) : 1 ≤ wants lim r := by
  unfold wants
  have := h.2
  split <;> omega
theorem cut_refused {lim : Int} {r c : List UInt8} (h : (FrMath.look lim r).er ≠ 0) : Cut lim (r ++ c) = ⟨[], 0, (FrMath.look lim r).er⟩ := by
  have hm := (FrMath.look_er lim r h).1
  have hw := FrMath.look_whole lim r c hm
  rw [FrMath.Cut_end lim _ (Or.inl (by rw [hw]; exact h)), hw]
theorem cut_whole {lim : Int} {r c : List UInt8} (h : FrMath.look lim r = ⟨0, r.length, 0⟩) : Cut lim (r ++ c) = FrMath.ahead [r] r.length (Cut lim c) := by
  have hw := FrMath.look_whole lim r c (by rw [h])
  have hE : ¬ ends lim (r ++ c) := by
    unfold FrMath.ends
    rw [hw, h, List.length_append]
    simp
  rw [FrMath.Cut_on lim _ hE, hw, h]
  show FrMath.ahead [List.take r.length (r ++ c)] r.length (Cut lim (List.drop r.length (r ++ c))) = _
  rw [List.take_left, List.drop_left]
theorem take_step {lim : Int} {r c : List UInt8} {q : Nat} (h : proper lim r) (hq : q = if c.length < wants lim r then c.length else wants lim r) :
    (FrMath.look lim (r ++ c.take q)).er ≠ 0 ∨ ((FrMath.look lim (r ++ c.take q)).er = 0 ∧ (FrMath.look lim (r ++ c.take q) = ⟨0, (r ++ c.take q).length, 0⟩ ∨ (proper lim (r ++ c.take q) ∧ ¬ (FrMath.look lim (r ++ c.take q)).sz = (r ++ c.take q).length))) := by
  by_cases he : (FrMath.look lim (r ++ c.take q)).er = 0
  · refine Or.inr ⟨he, ?_⟩
    have hq1 : q ≤ c.length ∧ q ≤ wants lim r := by rw [hq]; split <;> omega
    have hl : (r ++ c.take q).length = r.length + q := by rw [List.length_append, List.length_take]; omega
    have hok := FrMath.look_ok lim _ he
    have hmono := FrMath.look_mono lim r (c.take q) h.1 he
    have hokr := FrMath.look_ok lim r h.1
    have hle : (r ++ c.take q).length ≤ (FrMath.look lim (r ++ c.take q)).sz := by
      have hw := hq1.2
      unfold wants at hw
      by_cases hm : (FrMath.look lim r).mi = 0
      · rw [if_pos hm] at hw
        have := h.2
        omega
      · rw [if_neg hm] at hw
        have := (hokr.2.2.2.1 hm).1
        omega
    by_cases heq : (FrMath.look lim (r ++ c.take q)).sz = (r ++ c.take q).length
    · left
      have hm : (FrMath.look lim (r ++ c.take q)).mi = 0 := by
        by_cases hm : (FrMath.look lim (r ++ c.take q)).mi = 0
        · exact hm
        · have := (hok.2.2.2.1 hm).1
          omega
      rw [← heq]
      generalize FrMath.look lim (r ++ c.take q) = x at *
      obtain ⟨a, b, d⟩ := x
      simp only at hm he
      subst hm he
      rfl
    · right
      exact ⟨⟨he, by omega⟩, heq⟩
  · exact Or.inl he

theorem Fresh.refl (v : Value) (w : World) : Fresh v v w := Or.inl rfl
theorem Fresh.trans {v v1 v2 : Value} {w w1 : World} (h : Fresh v v1 w) (h1 : Fresh v1 v2 w1) (hs : w.heap.size ≤ w1.heap.size) : Fresh v v2 w := by
  rcases h1 with h1 | h1
  · rcases h with h | h
    · exact Or.inl (h1.trans h)
    · exact Or.inr (fun b hb => h b (by rw [← h1]; exact hb))
  · exact Or.inr (fun b hb => Nat.le_trans hs (h1 b hb))
theorem Fresh.ne {v v1 : Value} {w : World} (h : Fresh v v1 w) {b : Nat} (hb : b < w.heap.size) (hv : v.ownBlock ≠ some b) : v1.ownBlock ≠ some b := by
  rcases h with h | h
  · rw [h]; exact hv
  · intro hh
    have := h b hh
    omega
theorem Kept.trans {fb : Nat} {v v1 : Value} {w w1 w2 : World} (h : Kept fb v w w1) (hf : Fresh v v1 w) (h1 : Kept fb v1 w1 w2) : Kept fb v w w2 := by
  refine ⟨h.1.trans h1.1, fun b hb hbn hv => ?_⟩
  rw [h1.2 b (Nat.lt_of_lt_of_le hb h.1.size) hbn (hf.ne hb hv), h.2 b hb hbn hv]
theorem Kept.all {fb : Nat} {v : Value} {w w' : World} (hb : Below fb w w') (h : ∀ b, b < w.heap.size → b ≠ fb → w'.heap[b]? = w.heap[b]?) : Kept fb v w w' := ⟨hb, fun b h1 h2 _ => h b h1 h2⟩

def lenV : Value → Nat
  | .slice _ n _ => n
  | _ => 0
/-- What Feed leaves. -/
def FeedQ (fb : Nat) (lim : Int) (p : Nat) (v : Value) (r c : List UInt8) (w : World) (e : Ending) (w' : World) : Prop :=
  ∃ mv v', e = .returned (.tuple #[mv, .int .i64 ((Cut lim (r ++ c)).er : Int)]) ∧ OwnS w' w.heap.size mv (Cut lim (r ++ c)).ms ∧ Fresh v v' w ∧ Kept fb v w w' ∧ (∀ b, v'.ownBlock = some b → mv.ownBlock ≠ some b) ∧
  ((Cut lim (r ++ c)).er = 0 → Cells w' fb (frL lim (p + (Cut lim (r ++ c)).at_) v' (FrMath.look lim ((r ++ c).drop (Cut lim (r ++ c)).at_))) ∧ Own w' (fb + 1) v' ((r ++ c).drop (Cut lim (r ++ c)).at_) ∧ proper lim ((r ++ c).drop (Cut lim (r ++ c)).at_)) ∧
  ((Cut lim (r ++ c)).er ≠ 0 → Cells w' fb (frL lim (p + (Cut lim (r ++ c)).at_) v' ⟨0, 0, (Cut lim (r ++ c)).er⟩) ∧ Own w' (fb + 1) v' [])
theorem ownS_of {w w' : World} {B : Nat} {v : Value} {l : List (List UInt8)} (h : OwnS w B v l) (hb : ∀ g, v.ownBlock = some g → w'.heap[g]? = w.heap[g]?) : OwnS w' B v l := by
  rcases h with ⟨h1, ⟨rfl, h2⟩ | ⟨g, cap, cur, rfl, h3, h4, h5⟩⟩
  · exact ⟨h1, Or.inl ⟨rfl, h2⟩⟩
  · exact ⟨h1, Or.inr ⟨g, cap, cur, rfl, h3, by rw [hb g rfl]; exact h4, h5⟩⟩
theorem ownS_lt {w : World} {B g : Nat} {v : Value} {l : List (List UInt8)} (h : OwnS w B v l) (hg : v.ownBlock = some g) : B ≤ g ∧ g < w.heap.size := World.ownsRow.lt (show w.ownsRow B 9 1 v l.length (sv l) from h) g hg
/-- A framer in a world, with a list beside it. -/
structure St (fb : Nat) (lim : Int) (p : Nat) (v0 : Value) (w : World) (W : World) (v : Value) (r : List UInt8) (h : Hdr) (mv : Value) (ms : List (List UInt8)) : Prop where
  cells : Cells W fb (frL lim p v h)
  own : Own W (fb + 1) v r
  list : OwnS W w.heap.size mv ms
  fresh : Fresh v0 v w
  kept : Kept fb v0 w W
  apart : ∀ b, v.ownBlock = some b → mv.ownBlock ≠ some b
theorem St.step {fb : Nat} {lim : Int} {p p' : Nat} {v0 : Value} {w W W' : World} {v v' : Value} {r r' : List UInt8} {h h' : Hdr} {mv : Value} {ms : List (List UInt8)} (s : St fb lim p v0 w W v r h mv ms) (hfb : fb < w.heap.size)
    (hC : Cells W' fb (frL lim p' v' h')) (ho : Own W' (fb + 1) v' r') (hf : Fresh v v' W) (hk : Kept fb v W W') : St fb lim p' v0 w W' v' r' h' mv ms := by
  refine ⟨hC, ho, ownS_of s.list (fun g hg => ?_), s.fresh.trans hf s.kept.1.size, s.kept.trans s.fresh hk, fun b hb hm => ?_⟩
  · have h1 := ownS_lt s.list hg
    exact hk.2 g h1.2 (by omega) (fun hh => s.apart g hh hg)
  · have h1 := ownS_lt s.list hm
    rcases hf with hf | hf
    · exact s.apart b (by rw [← hf]; exact hb) hm
    · have := hf b hb
      omega
theorem St.push {fb : Nat} {lim : Int} {p : Nat} {v0 : Value} {w W w6 : World} {v : Value} {r : List UInt8} {h : Hdr} {mv : Value} {ms : List (List UInt8)} {o : Obj} {m : List UInt8} {g6 k6 cap6 : Nat} (s : St fb lim p v0 w W v r h mv ms) (hfb : fb < w.heap.size)
    (hown6 : OwnS w6 w.heap.size (.slice (some ⟨g6, 0, none⟩) k6 cap6) (ms ++ [m])) (hgr : (W.alloc o).grownBy w6 mv.ownBlock) (hlie : mv.ownBlock = some g6 ∨ g6 = (W.alloc o).heap.size) (hb6 : Below w.heap.size (W.alloc o) w6) :
    St fb lim p v0 w w6 v r h (.slice (some ⟨g6, 0, none⟩) k6 cap6) (ms ++ [m]) := by
  have hn : w.heap.size ≤ W.heap.size := s.kept.1.size
  refine ⟨s.cells.of_block ?_, own_below s.own (fun g hg => ?_), hown6, s.fresh, ⟨?_, fun b hb hbn hv => ?_⟩, fun b hb hh => ?_⟩
  · rw [hb6.block fb hfb, Below.heap_alloc _ _ _ (by omega)]
  · have h1 := own_lt s.own hg
    rw [hgr.block g (by simp; omega) (fun hh => s.apart g hg hh.symm), Below.heap_alloc _ _ _ h1.2]
  · exact s.kept.1.trans (((Below.refl _ _).alloc (by omega) _).trans (hb6.mono (Nat.le_of_lt hfb)))
  · rw [hb6.block b hb, Below.heap_alloc _ _ _ (by omega), s.kept.2 b hb hbn hv]
  · have h1 := own_lt s.own hb
    injection hh with hh
    replace hh : g6 = b := hh
    subst hh
    rcases hlie with h2 | h2
    · exact s.apart _ hb h2
    · simp at h2
      omega
theorem endOk {fb : Nat} {lim : Int} {p pp : Nat} {v0 : Value} {w W : World} {v : Value} {r r0 c0 : List UInt8} {mv : Value} {ms : List (List UInt8)} (s : St fb lim (p + pp) v0 w W v r (FrMath.look lim r) mv ms) (hpr : proper lim r)
    (hcut : Cut lim (r0 ++ c0) = FrMath.ahead ms pp (Cut lim r)) (hdr : (r0 ++ c0).drop pp = r) (n : Nat) : FeedQ fb lim p v0 r0 c0 w (.returned (.tuple #[mv, .int .i64 0])) (W.drewN n) := by
  have ho : Cut lim (r0 ++ c0) = ⟨ms, pp, 0⟩ := by rw [hcut, proper_cut hpr]; unfold FrMath.ahead; simp
  unfold FeedQ
  rw [ho]
  refine ⟨mv, v, rfl, s.list, s.fresh, ⟨below_drewN s.kept.1 n, s.kept.2⟩, s.apart, fun _ => ?_, fun h => absurd rfl h⟩
  show Cells (W.drewN n) fb (frL lim (p + pp) v (FrMath.look lim ((r0 ++ c0).drop pp))) ∧ Own (W.drewN n) (fb + 1) v ((r0 ++ c0).drop pp) ∧ proper lim ((r0 ++ c0).drop pp)
  rw [hdr]
  exact ⟨s.cells, s.own, hpr⟩
theorem endBad {fb : Nat} {lim : Int} {p pp er : Nat} {v0 : Value} {w W : World} {v : Value} {r0 c0 : List UInt8} {mv : Value} {ms : List (List UInt8)} (s : St fb lim (p + pp) v0 w W v [] ⟨0, 0, er⟩ mv ms) (he : er ≠ 0)
    (hcut : Cut lim (r0 ++ c0) = FrMath.ahead ms pp ⟨[], 0, er⟩) (n : Nat) : FeedQ fb lim p v0 r0 c0 w (.returned (.tuple #[mv, .int .i64 (er : Int)])) (W.drewN n) := by
  have ho : Cut lim (r0 ++ c0) = ⟨ms, pp, er⟩ := by rw [hcut]; unfold FrMath.ahead; simp
  unfold FeedQ
  rw [ho]
  exact ⟨mv, v, rfl, s.list, s.fresh, ⟨below_drewN s.kept.1 n, s.kept.2⟩, s.apart, fun h => absurd h he, fun _ => ⟨s.cells, s.own⟩⟩
end Go.Proofs.Ytddkefjcpgdomaa
