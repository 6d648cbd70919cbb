import Derived.Test.YtgfonnjblbpogaaBRefWhole
import Derived.Deep.RegionHeld3
import Derived.Deep.AppendLies
import Derived.KernelRfl
namespace Go.Proofs.Ytgfonnjblbpogaa
open Go.RowKit
open BerMath (Hd HR num hAt wAt)

/-- An element, its content as it is. -/
structure Elm where
  c : Nat
  m : Bool
  t : Nat
  s : ByteArray
def elOf (s : ByteArray) (h : Hd) (p : Nat) : Elm := ⟨h.cls, h.made, h.tag, s.extract (p + h.size) (p + h.size + h.len)⟩
def eV (e : Elm) : List Value := [.int .i64 (e.c : Int), .bool e.m, .int .i64 (e.t : Int), .string e.s]
def ev (l : List Elm) : List Value := l.flatMap eV
theorem ev_snoc (l : List Elm) (e : Elm) : ev (l ++ [e]) = ev l ++ eV e := by simp [ev]
theorem eV_one (e : Elm) : ∀ u ∈ eV e, u.oneCell' = true := by
  intro u hu
  simp [eV] at hu
  rcases hu with rfl | rfl | rfl | rfl <;> rfl

/-- The elements from p on: the list, or the first fault and its place. -/
def spl (s : ByteArray) : Nat → Nat → Except (Int × Int) (List Elm)
  | 0, _ => .ok []
  | f + 1, p =>
    if s.size ≤ p then .ok []
    else match wAt s.data.toList p s.size with
      | .ok h => match spl s f (p + h.size + h.len) with
        | .ok l => .ok (elOf s h p :: l)
        | .error x => .error x
      | .error (some (c, q)) => .error ((c : Int), (q : Int))
      | .error none => .error (20, (s.size : Int))
/-- What is read so far, ahead of what is still to come. -/
def ahead (l : List Elm) : Except (Int × Int) (List Elm) → Except (Int × Int) (List Elm)
  | .ok k => .ok (l ++ k)
  | .error x => .error x
theorem ahead_nil (r : Except (Int × Int) (List Elm)) : ahead [] r = r := by cases r <;> rfl
theorem ahead_snoc (l : List Elm) (e : Elm) (r : Except (Int × Int) (List Elm)) : ahead (l ++ [e]) r = ahead l (ahead [e] r) := by
  cases r <;> simp [ahead]
theorem spl_end (s : ByteArray) (f p : Nat) (h : s.size ≤ p) : spl s (f + 1) p = .ok [] := by
  show (if s.size ≤ p then _ else _) = _
  rw [if_pos h]
theorem spl_ok (s : ByteArray) (f p : Nat) (h : Hd) (hp : ¬ s.size ≤ p) (hw : wAt s.data.toList p s.size = .ok h) : spl s (f + 1) p = ahead [elOf s h p] (spl s f (p + h.size + h.len)) := by
  show (if s.size ≤ p then _ else _) = _
  rw [if_neg hp, hw]
  show (match spl s f (p + h.size + h.len) with | .ok l => _ | .error x => _) = _
  cases spl s f (p + h.size + h.len) <;> rfl
theorem spl_er (s : ByteArray) (f p c q : Nat) (hp : ¬ s.size ≤ p) (hw : wAt s.data.toList p s.size = HR.er c q) : spl s (f + 1) p = .error ((c : Int), (q : Int)) := by
  show (if s.size ≤ p then _ else _) = _
  rw [if_neg hp, hw]
theorem spl_miss (s : ByteArray) (f p : Nat) (hp : ¬ s.size ≤ p) (hw : wAt s.data.toList p s.size = HR.miss) : spl s (f + 1) p = .error (20, (s.size : Int)) := by
  show (if s.size ≤ p then _ else _) = _
  rw [if_neg hp, hw]

theorem info_elem : (Try.prog.info? 56).map (fun i => (i.zero, i.size, i.bytes)) = some (some (.agg #[.int .i64 0, .bool false, .int .i64 0, .string ⟨#[]⟩]), 4, 40) := by kernel_rfl

/-- A list of elements of the call's own. -/
def OwnE (W : World) (B : Nat) (v : Value) (l : List Elm) : Prop := W.ownsRow B 56 4 v l.length (ev l)
theorem ownE_nil (W : World) (B : Nat) : OwnE W B (.slice none 0 0) [] := ⟨rfl, Or.inl ⟨rfl, rfl⟩⟩

/-- One element appended, at a step of a region that draws its order. -/
theorem step_elem (w : World) {ops : Array Oper} {o : Oper} {a : Act} {K : Act → World → Prop} {Q : Exit → Act → World → Prop} {E : Prop} (hgd : o.guard = none) (s x : Operand)
    (ho : o.op = .call { callee := .builtin .append, args := #[s, x], argTypes := #[47, 47] }) (B : Nat) (v : Value) (l : List Elm) (e : Elm) (g : Nat)
    (hs : a.eval s = v) (hx : a.eval x = .slice (some ⟨g, 0, none⟩) 1 1) (hown : OwnE w B v l) (hg : w.heap[g]? = some (.cells #[.int .i64 (e.c : Int), .bool e.m, .int .i64 (e.t : Int), .string e.s] 56 (0, 0))) (hB : B ≤ w.heap.size) (hl : l.length ≤ 4294967296)
    (h : ∀ v' w', OwnE w' B v' (l ++ [e]) → w.grownBy w' v.ownBlock → Below B w w' → K (a.put o.dst v') w') :
    if Region.wanted o (yielded ops a.tmps) = true then Oper.wp Try.prog o a w K Q else E := by
  obtain ⟨i0, hi, hz0, hz1, hz2⟩ := info_parts info_elem
  refine step_append_lies w hgd s x 47 ho B 56 i0 _ 4 40 Try.underlying47 hi hz0 hz1 hz2 rfl (by decide) v l.length (ev l) hs hown ⟨g, 0, none⟩ 1 1 (eV e) hx rfl (World.news_of_block hg) (eV_one e) (by decide) (by unfold maxLen; omega) (by omega) hB w.heap.size rfl ?_
  intro g' cap w' h1 h2 _ _
  refine h _ w' ?_ h2 ?_
  · unfold OwnE
    rw [ev_snoc, List.length_append]
    exact h1
  · refine (Below.refl _ _).grown h2 hB ?_
    intro k hk
    exact (hown.lt _ hk).1
end Go.Proofs.Ytgfonnjblbpogaa
