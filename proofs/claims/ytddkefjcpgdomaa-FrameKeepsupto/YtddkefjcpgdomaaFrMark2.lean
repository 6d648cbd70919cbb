import Derived.Test.YtddkefjcpgdomaaFrMark
import Derived.Test.YtddkefjcpgdomaaFrm5
import Derived.Deep.AppendLies
namespace Go.Proofs.Ytddkefjcpgdomaa
open Go.RowKit

/-- A mark: where its two lists lie, and its word. -/
structure Mk where
  g : Nat
  c : Nat
  g2 : Nat
  c2 : Nat
  wd : ByteArray
def mV (m : Mk) : List Value := [.slice (some ⟨m.g, 0, none⟩) 2 m.c, .slice (some ⟨m.g2, 0, none⟩) 3 m.c2, .string m.wd]
def mvs (l : List Mk) : List Value := l.flatMap mV
theorem mvs_app (l k : List Mk) : mvs (l ++ k) = mvs l ++ mvs k := by simp [mvs]
theorem mvs_len (l : List Mk) : (mvs l).length = l.length * 3 := by
  induction l with
  | nil => rfl
  | cons m l ih =>
    show (mV m ++ mvs l).length = (l.length + 1) * 3
    rw [List.length_append, ih]
    show 3 + l.length * 3 = _
    omega
theorem mvs_one (l : List Mk) : ∀ u ∈ mvs l, u.oneCell' = true := by
  intro u hu
  simp only [mvs, List.mem_flatMap] at hu
  obtain ⟨m, _, hu⟩ := hu
  simp [mV] at hu
  rcases hu with rfl | rfl | rfl <;> rfl
theorem info_mark : (Try.prog.info? 48).map (fun i => (i.zero, i.size, i.bytes)) = some (some (.agg #[.slice none 0 0, .slice none 0 0, .string ⟨#[]⟩]), 3, 64) := by kernel_rfl
/-- A list of marks of the call's own. -/
def OwnM (W : World) (B : Nat) (v : Value) (l : List Mk) : Prop := W.ownsRow B 48 3 v l.length (mvs l)
theorem ownM_nil (W : World) (B : Nat) : OwnM W B (.slice none 0 0) [] := ⟨rfl, Or.inl ⟨rfl, rfl⟩⟩

/-- Marks appended, in a walk. -/
theorem push_marks (w : World) {ops : Array Oper} {rest : List Oper} {o : Oper} {a : Act} {Q : Exit → Act → World → Prop} (hgd : o.guard = none) (s x : Operand)
    (ho : o.op = .call { callee := .builtin .append, args := #[s, x], argTypes := #[40, 40] }) (B : Nat) (v : Value) (l k : List Mk) (g n : Nat)
    (hs : a.eval s = v) (hx : a.eval x = .slice (some ⟨g, 0, none⟩) n n) (hn : n = k.length) (hk0 : 0 < k.length) (hown : OwnM w B v l) (hc : ∀ j u, (mvs k)[j]? = some u → w.cell? ⟨g, j, none⟩ = some u) (hB : B ≤ w.heap.size) (hl : l.length + k.length ≤ 8388608)
    (h : ∀ v' w', OwnM w' B v' (l ++ k) → (∀ b, b < w.heap.size → v.ownBlock ≠ some b → w'.heap[b]? = w.heap[b]?) → (v'.ownBlock = v.ownBlock ∨ ∀ b, v'.ownBlock = some b → w.heap.size ≤ b) → Below B w w' → wpList Try.prog ops Q rest (a.put o.dst v') w') :
    wpList Try.prog ops Q (o :: rest) a w := by
  obtain ⟨i0, hi, hz0, hz1, hz2⟩ := info_parts info_mark
  subst hn
  refine wpList_append_lies w hgd s x 40 ho B 48 i0 _ 3 64 Try.underlying40 hi hz0 hz1 hz2 rfl (by decide) v l.length (mvs l) hs hown ⟨g, 0, none⟩ k.length k.length (mvs k) hx (by rw [mvs_len]) ?_ ?_ hk0 (by unfold maxLen; omega) (by omega) hB w.heap.size rfl ?_
  · intro j u hj
    rw [add_j]
    exact hc j u hj
  · exact mvs_one k
  · intro g' cap' w' h1 h2 h3 _
    refine h _ w' ?_ (fun b hb hne => h2.block b hb (fun hh => hne hh.symm)) ?_ ?_
    · unfold OwnM
      rw [mvs_app, List.length_append]
      exact h1
    · rcases h3 with h3 | h3
      · exact Or.inl h3.symm
      · refine Or.inr (fun b hb => ?_)
        injection hb with hb
        replace hb : g' = b := hb
        omega
    · refine (Below.refl _ _).grown h2 hB ?_
      intro k hk
      exact (hown.lt _ hk).1
end Go.Proofs.Ytddkefjcpgdomaa
