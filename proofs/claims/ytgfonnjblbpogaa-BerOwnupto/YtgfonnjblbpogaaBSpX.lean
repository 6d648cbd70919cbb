import Derived.Test.YtgfonnjblbpogaaBRefWhole
import Derived.Deep.RegionHeld3
import Derived.Deep.AppendLies
import Derived.KernelRfl
import Derived.Deep.DeepCutAuto
import Derived.Test.YtgfonnjblbpogaaBElm
import Derived.Deep.RegionHeldLaw
import Derived.Test.YtgfonnjblbpogaaBCatch2
namespace Go.Proofs.Ytgfonnjblbpogaa
open Go.RowKit
open BerMath (Hd HR num hAt wAt)

/-- An element, its content as it is. -/
structure Elm where
  c : Nat
  m : Bool
  t : Nat
  s : ByteArray
def elOf (s : ByteArray) (h : Hd) (p : Nat) : Elm := ⟨h.cls, h.made, h.tag, s.extract (p + h.size) (p + h.size + h.len)⟩
def eV (e : Elm) : List Value := [.int .i64 (e.c : Int), .bool e.m, .int .i64 (e.t : Int), .string e.s]
def ev (l : List Elm) : List Value := l.flatMap eV
theorem ev_snoc (l : List Elm) (e : Elm) : ev (l ++ [e]) = ev l ++ eV e := by simp [ev]
theorem eV_one (e : Elm) : ∀ u ∈ eV e, u.oneCell' = true := by
  intro u hu
  simp [eV] at hu
  rcases hu with rfl | rfl | rfl | rfl <;> rfl

/-- The elements from p on: the list, or the first fault and its place. -/
def spl (s : ByteArray) : Nat → Nat → Except (Int × Int) (List Elm)
  | 0, _ => .ok []
  | f + 1, p =>
    if s.size ≤ p then .ok []
    else match wAt s.data.toList p s.size with
      | .ok h => match spl s f (p + h.size + h.len) with
        | .ok l => .ok (elOf s h p :: l)
        | .error x => .error x
      | .error (some (c, q)) => .error ((c : Int), (q : Int))
      | .error none => .error (20, (s.size : Int))
/-- What is read so far, ahead of what is still to come. -/
def ahead (l : List Elm) : Except (Int × Int) (List Elm) → Except (Int × Int) (List Elm)
  | .ok k => .ok (l ++ k)
  | .error x => .error x
theorem ahead_nil (r : Except (Int × Int) (List Elm)) : ahead [] r = r := by cases r <;> rfl
theorem ahead_snoc (l : List Elm) (e : Elm) (r : Except (Int × Int) (List Elm)) : ahead (l ++ [e]) r = ahead l (ahead [e] r) := by
  cases r <;> simp [ahead]
theorem spl_end (s : ByteArray) (f p : Nat) (h : s.size ≤ p) : spl s (f + 1) p = .ok [] := by
  show (if s.size ≤ p then _ else _) = _
  rw [if_pos h]
theorem spl_ok (s : ByteArray) (f p : Nat) (h : Hd) (hp : ¬ s.size ≤ p) (hw : wAt s.data.toList p s.size = .ok h) : spl s (f + 1) p = ahead [elOf s h p] (spl s f (p + h.size + h.len)) := by
  show (if s.size ≤ p then _ else _) = _
  rw [if_neg hp, hw]
  show (match spl s f (p + h.size + h.len) with | .ok l => _ | .error x => _) = _
  cases spl s f (p + h.size + h.len) <;> rfl
theorem spl_er (s : ByteArray) (f p c q : Nat) (hp : ¬ s.size ≤ p) (hw : wAt s.data.toList p s.size = HR.er c q) : spl s (f + 1) p = .error ((c : Int), (q : Int)) := by
  show (if s.size ≤ p then _ else _) = _
  rw [if_neg hp, hw]
theorem spl_miss (s : ByteArray) (f p : Nat) (hp : ¬ s.size ≤ p) (hw : wAt s.data.toList p s.size = HR.miss) : spl s (f + 1) p = .error (20, (s.size : Int)) := by
  show (if s.size ≤ p then _ else _) = _
  rw [if_neg hp, hw]

theorem info_elem : (Try.prog.info? 56).map (fun i => (i.zero, i.size, i.bytes)) = some (some (.agg #[.int .i64 0, .bool false, .int .i64 0, .string ⟨#[]⟩]), 4, 40) := by kernel_rfl

/-- A list of elements of the call's own. -/
def OwnE (W : World) (B : Nat) (v : Value) (l : List Elm) : Prop := W.ownsRow B 56 4 v l.length (ev l)
theorem ownE_nil (W : World) (B : Nat) : OwnE W B (.slice none 0 0) [] := ⟨rfl, Or.inl ⟨rfl, rfl⟩⟩

/-- One element appended, at a step of a region that draws its order. -/
theorem step_elem (w : World) {ops : Array Oper} {o : Oper} {a : Act} {K : Act → World → Prop} {Q : Exit → Act → World → Prop} {E : Prop} (hgd : o.guard = none) (s x : Operand)
    (ho : o.op = .call { callee := .builtin .append, args := #[s, x], argTypes := #[47, 47] }) (B : Nat) (v : Value) (l : List Elm) (e : Elm) (g : Nat)
    (hs : a.eval s = v) (hx : a.eval x = .slice (some ⟨g, 0, none⟩) 1 1) (hown : OwnE w B v l) (hg : w.heap[g]? = some (.cells #[.int .i64 (e.c : Int), .bool e.m, .int .i64 (e.t : Int), .string e.s] 56 (0, 0))) (hB : B ≤ w.heap.size) (hl : l.length ≤ 4294967296)
    (h : ∀ v' w', OwnE w' B v' (l ++ [e]) → w.grownBy w' v.ownBlock → Below B w w' → K (a.put o.dst v') w') :
    if Region.wanted o (yielded ops a.tmps) = true then Oper.wp Try.prog o a w K Q else E := by
  obtain ⟨i0, hi, hz0, hz1, hz2⟩ := info_parts info_elem
  refine step_append_lies w hgd s x 47 ho B 56 i0 _ 4 40 Try.underlying47 hi hz0 hz1 hz2 rfl (by decide) v l.length (ev l) hs hown ⟨g, 0, none⟩ 1 1 (eV e) hx rfl (World.news_of_block hg) (eV_one e) (by decide) (by unfold maxLen; omega) (by omega) hB w.heap.size rfl ?_
  intro g' cap w' h1 h2 _ _
  refine h _ w' ?_ h2 ?_
  · unfold OwnE
    rw [ev_snoc, List.length_append]
    exact h1
  · refine (Below.refl _ _).grown h2 hB ?_
    intro k hk
    exact (hown.lt _ hk).1
end Go.Proofs.Ytgfonnjblbpogaa

namespace Go.Proofs.Ytgfonnjblbpogaa
open Go.RowKit
open BerMath (Hd HR num hAt wAt)

theorem wAt_ok (b : List UInt8) (p e : Nat) (h : Hd) (hw : wAt b p e = .ok h) : hAt b p e = .ok h ∧ p + h.size + h.len ≤ e := by
  unfold wAt at hw
  cases hh : hAt b p e with
  | ok x =>
    rw [hh] at hw
    by_cases h1 : e < p + (x.size + x.len)
    · simp only [if_pos h1] at hw; cases hw
    · simp only [if_neg h1] at hw
      injection hw with hw
      subst hw
      exact ⟨rfl, by omega⟩
  | error o =>
    cases o with
    | some cq =>
      obtain ⟨c, q⟩ := cq
      rw [hh] at hw; cases hw
    | none => rw [hh] at hw; cases hw
theorem wAt_er (b : List UInt8) (p e c q : Nat) (hw : wAt b p e = HR.er c q) : c = 21 ∨ c = 22 ∨ c = 23 := by
  unfold wAt at hw
  cases hh : hAt b p e with
  | ok x =>
    rw [hh] at hw
    by_cases h1 : e < p + (x.size + x.len)
    · simp only [if_pos h1] at hw; cases hw
    · simp only [if_neg h1] at hw; cases hw
  | error o =>
    cases o with
    | some cq =>
      obtain ⟨c', q'⟩ := cq
      rw [hh] at hw
      have h1 := (BerMath.er_inj hw).1
      subst h1
      exact hAt_er _ _ _ _ _ hh
    | none => rw [hh] at hw; cases hw

theorem ownE_below {w w' : World} {B : Nat} {v : Value} {l : List Elm} (h : OwnE w B v l) (hb : Below w.heap.size w w') : OwnE w' B v l := by
  rcases h with ⟨h1, ⟨rfl, h2⟩ | ⟨g, cap, cur, rfl, h3, h4, h5⟩⟩
  · exact ⟨h1, Or.inl ⟨rfl, h2⟩⟩
  · have hg : g < w.heap.size := by
      rcases Nat.lt_or_ge g w.heap.size with h' | h'
      · exact h'
      · rw [Array.getElem?_eq_none h'] at h4; cases h4
    exact ⟨h1, Or.inr ⟨g, cap, cur, rfl, h3, by rw [hb.block g hg]; exact h4, h5⟩⟩
theorem heap_second (w : World) (o : Obj) (c : Array Value) (t : TypeId) : (((w.alloc o).alloc (.cells c t)).drew).heap[w.heap.size + 1]? = some (.cells c t) := by
  have h := heap_alloc_new (w.alloc o) (.cells c t)
  rw [World.size_alloc] at h
  exact h
theorem w_pqr' (p x y : Nat) (hp : p ≤ 140737488355328) (hx : x ≤ 6) (hy : y < 4294967296) : IntKind.i64.wrap (((p + x : Nat) : Int) + (y : Int)) = ((p + x + y : Nat) : Int) := by rw [IntKind.wrap_i64]; omega
/-- What a Split leaves: the list, a row of the call's own; or the fault. -/
def splitQ (s : ByteArray) (B : Nat) (r : Ending) (w' : World) : Prop :=
  (∃ l v, spl s (s.size + 1) 0 = .ok l ∧ r = .returned (.tuple #[v, .int .i64 0, .int .i64 0]) ∧ OwnE w' B v l) ∨
  (∃ c q, spl s (s.size + 1) 0 = .error (c, q) ∧ r = .returned (.tuple #[.slice none 0 0, .int .i64 c, .int .i64 q]))

set_option maxHeartbeats 2000000 in
theorem refSplit_any (s : ByteArray) (w : World) (hm : s.size ≤ 4294967296) :
    Calls Try.prog 21 #[.string s] w fun r w' => splitQ s w.heap.size r w' ∧ Below w.heap.size w w' := by
  have hm' : Hid (s.size ≤ 4294967296) := hm
  go_enter Try.func21, Try.ntmps21
  go_wp2_with fail
  go_loopw [5, 6] (fun lv pv wr => ∃ (p f : Nat) (l : List Elm), pv = .int .i64 (p : Int) ∧ p ≤ s.size ∧ s.size + 1 ≤ f + p ∧ l.length ≤ p ∧ Hid (spl s (s.size + 1) 0 = ahead l (spl s f p)) ∧ OwnE wr w.heap.size lv l ∧ Below w.heap.size w wr) (fun _ pv _ => s.size - (intOf pv).toNat)
  case atStart => exact ⟨0, s.size + 1, [], rfl, Nat.zero_le _, by omega, by simp, by unfold Hid; rw [ahead_nil], ownE_nil _ _, Below.refl _ _⟩
  case round =>
    obtain ⟨p, f, l, rfl, hp, hf, hl, hsp, hown, HB⟩ := hrel
    obtain ⟨f', rfl⟩ : ∃ f', f = f' + 1 := ⟨f - 1, by omega⟩
    by_cases hlt : p < s.size
    · have hW : ∀ W, Hid (Calls Try.prog 51 #[.string s, .int .i64 (p : Int), .int .i64 (s.size : Int)] W fun r w' => r = .returned (refWV s.data.toList p s.size) ∧ Below W.heap.size W w') := fun W => refWhole_any s p s.size W (Nat.le_refl _) (by omega) hp
      have hlt' : Hid (p < s.size) := hlt
      cases hw : wAt s.data.toList p s.size with
      | ok h =>
        have hv : refWV s.data.toList p s.size = .tuple #[.agg #[.int .i64 (h.cls : Int), .bool h.made, .int .i64 (h.tag : Int), .int .i64 (h.len : Int), .int .i64 (h.size : Int)], .int .i64 0, .int .i64 (p : Int)] := by unfold refWV; rw [hw]; rfl
        rw [hv] at hW
        obtain ⟨hh, hle⟩ := wAt_ok _ _ _ _ hw
        obtain ⟨k1, k2, k3, _⟩ := BerMath.hAt_ok _ _ _ _ hh
        have hnext : Hid (spl s (s.size + 1) 0 = ahead (l ++ [elOf s h p]) (spl s f' (p + h.size + h.len))) := by
          unfold Hid; rw [hsp.out, spl_ok s f' p h (by omega) hw, ahead_snoc]
        have wA := w_pq p h.size (by omega) k2
        have wE := w_pqr p h.size h.len (by omega) k2 k3
        have wE' := w_pqr' p h.size h.len (by omega) k2 k3
        have hAE : p + h.size ≤ p + h.size + h.len := Nat.le_add_right _ _
        have hpE : Hid (p + 2 ≤ p + h.size + h.len) := by unfold Hid; omega
        have hel : Hid (elOf s h p = ⟨h.cls, h.made, h.tag, s.extract (p + h.size) (p + h.size + h.len)⟩) := rfl
        have hf2 : Hid (s.size + 1 ≤ f' + (p + h.size + h.len)) := by unfold Hid; omega
        have hl2 : Hid (l.length ≤ 4294967296 ∧ l.length ≤ p) := by unfold Hid; omega
        generalize p + h.size + h.len = E at *
        generalize p + h.size = A at *
        have a0 : (0 : Int) ≤ (A : Int) := Int.natCast_nonneg _
        have a1 : (A : Int) ≤ (E : Int) := Int.ofNat_le.2 hAE
        have a2 : (E : Int) ≤ (s.size : Int) := Int.ofNat_le.2 hle
        clear hv hw hsp hh k1 k2 k3 hf hl hlt hp
        go_upto_region 10 with (go_at_call 51; refine (hW _).out.mono ?_; rintro r w1 ⟨rfl, hb1⟩; have hown1 : OwnE w1 w.heap.size u5 l := ownE_below hown hb1; replace HB := HB.trans (hb1.mono HB.size); clear hb1)
        have hownA : OwnE (w1.alloc (.cells #[.int .i64 (h.cls : Int), .bool h.made, .int .i64 (h.tag : Int), .int .i64 (h.len : Int), .int .i64 (h.size : Int)] 29)) w.heap.size u5 l := World.ownsRow.alloc hown1 _
        have hne : u5.ownBlock ≠ some w1.heap.size := fun hk => Nat.lt_irrefl _ (hown1.lt _ hk).2
        have hB1 : w.heap.size ≤ w1.heap.size := HB.size
        go_region_held3 (fun w' => w'.cell? ⟨w1.heap.size, 0, none⟩ = some (.int .i64 (h.cls : Int)) ∧ w'.cell? ⟨w1.heap.size, 1, none⟩ = some (.bool h.made) ∧ w'.cell? ⟨w1.heap.size, 2, none⟩ = some (.int .i64 (h.tag : Int)) ∧ w'.cell? ⟨w1.heap.size, 3, none⟩ = some (.int .i64 (h.len : Int)))
          (first
            | go_keep
            | (go_split_ands
               refine ⟨?_, ?_, ?_, ?_⟩
               all_goals (rw [hgrow1.cell_far _ (by first | (simp; done) | (simp; omega)) (by first | exact hne | (intro hh; exact hne hh) | (intro hh; exact hne hh.symm))]; assumption)))
          ((refine step_elem _ (by rfl) _ _ (by rfl) w.heap.size _ l ⟨h.cls, h.made, h.tag, s.extract A E⟩ _ (by rfl) (by rfl) ?_ ?_ ?_ hl2.out.1 ?_; (first | exact World.ownsRow.drew (World.ownsRow.alloc hownA _) | exact World.ownsRow.alloc (World.ownsRow.drew hownA) _); (first | exact heap_second _ _ _ _ | (rw [World.alloc_drew]; exact heap_second _ _ _ _)); (simp; omega); intro v2 w2 hown2 hgrow1 hb2))
        have HBf : Below w.heap.size w w2 := by
          refine Below.trans ?_ hb2
          repeat' first | exact HB | refine Below.drew ?_ | refine Below.alloc ?_ (by first | exact hB1 | (simp; omega)) _
        have hlen2 : Hid ((l ++ [elOf s h p]).length ≤ E) := by
          unfold Hid
          rw [List.length_append]
          have h1 := hl2.out.2
          have h2 := hpE.out
          simp
          omega
        have hEs : Hid (E ≤ s.size) := hle
        clear hb2 hgrow1 hownA hown1
        go_wp2_with fail
        go_roundw
        case rel => exact ⟨E, f', l ++ [elOf s h p], by first | rfl | (rw [wE]), hEs.out, hf2.out, hlen2.out, hnext, by rw [hel.out]; exact hown2, HBf⟩
        case measure =>
          have h1 := hpE.out
          have h2 := hlt'.out
          simp [intOf]
          omega
      | error o =>
        cases o with
        | some cq =>
          obtain ⟨c, q⟩ := cq
          have hc := wAt_er _ _ _ _ _ hw
          have hv : refWV s.data.toList p s.size = .tuple #[.agg #[.int .i64 0, .bool false, .int .i64 0, .int .i64 0, .int .i64 0], .int .i64 (c : Int), .int .i64 (q : Int)] := by unfold refWV; rw [hw]; rfl
          rw [hv] at hW
          have hres : Hid (spl s (s.size + 1) 0 = .error ((c : Int), (q : Int))) := by unfold Hid; rw [hsp.out, spl_er s f' p c q (by omega) hw]; rfl
          have d1 : ((c : Int) == -1) = false := by rw [beq_eq_false_iff_ne]; omega
          have d2 : ((c : Int) == 0) = false := by rw [beq_eq_false_iff_ne]; omega
          clear hc hv hw hsp hown
          go_wp2_with (go_at_call 51; refine (hW _).out.mono ?_; rintro r w1 ⟨rfl, hb1⟩; replace HB := HB.trans (hb1.mono HB.size); clear hb1)
          refine bodyPost_ret_by (v := .tuple #[.slice none 0 0, .int .i64 (c : Int), .int .i64 (q : Int)]) (by simp [results, Try.results21]) rfl ⟨Or.inr ⟨_, _, hres.out, rfl⟩, HB.alloc HB.size _⟩
        | none =>
          have hv : refWV s.data.toList p s.size = .tuple #[.agg #[.int .i64 0, .bool false, .int .i64 0, .int .i64 0, .int .i64 0], .int .i64 (-1), .int .i64 (s.size : Int)] := by unfold refWV; rw [hw]; rfl
          rw [hv] at hW
          have hres : Hid (spl s (s.size + 1) 0 = .error (20, (s.size : Int))) := by unfold Hid; rw [hsp.out, spl_miss s f' p (by omega) hw]; rfl
          clear hv hw hsp hown
          go_wp2_with (go_at_call 51; refine (hW _).out.mono ?_; rintro r w1 ⟨rfl, hb1⟩; replace HB := HB.trans (hb1.mono HB.size); clear hb1)
          refine bodyPost_ret_by (v := .tuple #[.slice none 0 0, .int .i64 20, .int .i64 (s.size : Int)]) (by simp [results, Try.results21]) rfl ⟨Or.inr ⟨_, _, hres.out, rfl⟩, HB.alloc HB.size _⟩
    · have hpe : p = s.size := by omega
      subst hpe
      have hres : Hid (spl s (s.size + 1) 0 = .ok l) := by unfold Hid; rw [hsp.out, spl_end s f' s.size (Nat.le_refl _)]; simp [ahead]
      clear hsp
      go_wp2_with fail
      refine bodyPost_ret_by (v := .tuple #[u5, .int .i64 0, .int .i64 0]) (by simp [results, Try.results21]) rfl ⟨Or.inl ⟨l, u5, hres.out, rfl, hown⟩, HB⟩
end Go.Proofs.Ytgfonnjblbpogaa

namespace Go.Proofs.Ytgfonnjblbpogaa
open Go.RowKit
open BerMath (Hd HR num hAt wAt)

/-- What the reader of a row of elements leaves. -/
def split1Q (s : ByteArray) (pl : Nat) (w : World) (r : Ending) (w' : World) : Prop :=
  (∀ b, b < w.heap.size → b ≠ pl → w'.heap[b]? = w.heap[b]?) ∧ Below pl w w' ∧
  ((∃ l v, spl s (s.size + 1) 0 = .ok l ∧ r = .returned (.tuple #[]) ∧ w'.cell? ⟨pl, 0, none⟩ = some v ∧ OwnE w' w.heap.size v l) ∨
   (∃ c q, spl s (s.size + 1) 0 = .error (c, q) ∧ r = gaveUp c q))

/-- An element's variable and the text's, as they stand. -/
def SEl (eb pb : Nat) (h : Hd) (s : ByteArray) (W : World) : Prop :=
  W.cell? ⟨eb, 0, none⟩ = some (.int .i64 (h.cls : Int)) ∧ W.cell? ⟨eb, 1, none⟩ = some (.bool h.made) ∧ W.cell? ⟨eb, 2, none⟩ = some (.int .i64 (h.tag : Int)) ∧ W.cell? ⟨eb, 3, none⟩ = some (.int .i64 (h.len : Int)) ∧ W.cell? ⟨eb, 4, none⟩ = some (.int .i64 (h.size : Int)) ∧ W.cell? ⟨eb, 5, none⟩ = some (.int .i64 0) ∧ W.cell? ⟨pb, 0, none⟩ = some (.string s)
theorem SEl.blocks {eb pb : Nat} {h : Hd} {s : ByteArray} {W W' : World} (hS : SEl eb pb h s W) (h1 : W'.heap[eb]? = W.heap[eb]?) (h2 : W'.heap[pb]? = W.heap[pb]?) : SEl eb pb h s W' := by
  obtain ⟨q0, q1, q2, q3, q4, q5, q6⟩ := hS
  refine ⟨?_, ?_, ?_, ?_, ?_, ?_, ?_⟩
  · rw [World.cell?_of_block (w := W) h1]; exact q0
  · rw [World.cell?_of_block (w := W) h1]; exact q1
  · rw [World.cell?_of_block (w := W) h1]; exact q2
  · rw [World.cell?_of_block (w := W) h1]; exact q3
  · rw [World.cell?_of_block (w := W) h1]; exact q4
  · rw [World.cell?_of_block (w := W) h1]; exact q5
  · rw [World.cell?_of_block (w := W) h2]; exact q6

/-- One element appended, the new value written out. -/
theorem step_elem_at (w : World) {ops : Array Oper} {o : Oper} {a : Act} {K : Act → World → Prop} {Q : Exit → Act → World → Prop} {E : Prop} (hgd : o.guard = none) (s x : Operand)
    (ho : o.op = .call { callee := .builtin .append, args := #[s, x], argTypes := #[47, 47] }) (B : Nat) (v : Value) (l : List Elm) (e : Elm) (g : Nat)
    (hs : a.eval s = v) (hx : a.eval x = .slice (some ⟨g, 0, none⟩) 1 1) (hown : OwnE w B v l) (hg : w.heap[g]? = some (.cells #[.int .i64 (e.c : Int), .bool e.m, .int .i64 (e.t : Int), .string e.s] 56 (0, 0))) (hB : B ≤ w.heap.size) (hl : l.length ≤ 4294967296)
    (h : ∀ g' cap w', OwnE w' B (.slice (some ⟨g', 0, none⟩) (l.length + 1) cap) (l ++ [e]) → w.grownBy w' v.ownBlock → Below B w w' → K (a.put o.dst (.slice (some ⟨g', 0, none⟩) (l.length + 1) cap)) w') :
    if Region.wanted o (yielded ops a.tmps) = true then Oper.wp Try.prog o a w K Q else E := by
  obtain ⟨i0, hi, hz0, hz1, hz2⟩ := info_parts info_elem
  refine step_append_lies w hgd s x 47 ho B 56 i0 _ 4 40 Try.underlying47 hi hz0 hz1 hz2 rfl (by decide) v l.length (ev l) hs hown ⟨g, 0, none⟩ 1 1 (eV e) hx rfl (World.news_of_block hg) (eV_one e) (by decide) (by unfold maxLen; omega) (by omega) hB w.heap.size rfl ?_
  intro g' cap w' h1 h2 _ _
  refine h g' cap w' ?_ h2 ?_
  · unfold OwnE
    rw [ev_snoc, List.length_append]
    exact h1
  · refine (Below.refl _ _).grown h2 hB ?_
    intro k hk
    exact (hown.lt _ hk).1
theorem ownE_base {w : World} {B B' : Nat} {v : Value} {l : List Elm} (h : OwnE w B v l) (hB : B' ≤ B) : OwnE w B' v l := by
  rcases h with ⟨h1, ⟨rfl, h2⟩ | ⟨g, cap, cur, rfl, h3, h4⟩⟩
  · exact ⟨h1, Or.inl ⟨rfl, h2⟩⟩
  · exact ⟨h1, Or.inr ⟨g, cap, cur, rfl, Nat.le_trans hB h3, h4⟩⟩
theorem ownE_block {w w' : World} {B : Nat} {v : Value} {l : List Elm} (h : OwnE w B v l) (hb : ∀ g, B ≤ g → g < w.heap.size → w'.heap[g]? = w.heap[g]?) : OwnE w' B v l := by
  rcases h with ⟨h1, ⟨rfl, h2⟩ | ⟨g, cap, cur, rfl, h3, h4, h5⟩⟩
  · exact ⟨h1, Or.inl ⟨rfl, h2⟩⟩
  · have hg : g < w.heap.size := by
      rcases Nat.lt_or_ge g w.heap.size with h' | h'
      · exact h'
      · rw [Array.getElem?_eq_none h'] at h4; cases h4
    exact ⟨h1, Or.inr ⟨g, cap, cur, rfl, h3, by rw [hb g h3 hg]; exact h4, h5⟩⟩

set_option maxHeartbeats 2000000 in
theorem split1_any (s : ByteArray) (pb pl : Nat) (w : World) (hm : s.size ≤ 4294967296) (hpl : pl < w.heap.size) (hpb : w.cell? ⟨pb, 0, none⟩ = some (.string s)) (hne : pb ≠ pl) (hl0 : w.cell? ⟨pl, 0, none⟩ = some (.slice none 0 0)) (hf0 : w.frozen? ⟨pl, 0, none⟩ = false) :
    Calls Try.prog 44 #[.pointer (some ⟨pb, 0, none⟩), .pointer (some ⟨pl, 0, none⟩)] w fun r w' => split1Q s pl w r w' := by
  have hpbl : pb < w.heap.size := World.block_lt_of_cell? w _ hpb
  go_enter Try.func44, Try.ntmps44
  go_wp2_with fail
  refine (all_any s w).mono ?_
  rintro r w1 ⟨rfl, hb1⟩
  have n1 : w.heap.size ≤ w1.heap.size := hb1.size
  go_wp2_with fail
  go_loopw [3] (fun pv wr => ∃ (p f : Nat) (l : List Elm) (v : Value), pv = .int .i64 (p : Int) ∧ p ≤ s.size ∧ s.size + 1 ≤ f + p ∧ l.length ≤ p ∧ Hid (spl s (s.size + 1) 0 = ahead l (spl s f p)) ∧ OwnE wr (w1.heap.size + 1) v l ∧ wr.cell? ⟨pl, 0, none⟩ = some v ∧ wr.frozen? ⟨pl, 0, none⟩ = false ∧ Hid (∀ b, b < w.heap.size → b ≠ pl → wr.heap[b]? = w.heap[b]?) ∧ wr.cell? ⟨w1.heap.size, 0, none⟩ = some (.string s) ∧ wr.cell? ⟨w1.heap.size, 1, none⟩ = some (.int .i64 (s.size : Int)) ∧ wr.cell? ⟨w1.heap.size, 2, none⟩ = some (.int .i64 20) ∧ w1.heap.size < wr.heap.size ∧ Below pl w wr) (fun pv _ => s.size - (intOf pv).toNat)
  case atStart =>
    refine ⟨0, s.size + 1, [], .slice none 0 0, rfl, Nat.zero_le _, by omega, by simp, by unfold Hid; rw [ahead_nil], ownE_nil _ _, ?_, ?_, ?_, ?_, ?_, ?_, ?_, ?_⟩
    · rw [World.cell?_alloc_past _ _ _ (by omega), hb1.cell hpl]; exact hl0
    · rw [World.frozen?_alloc_past _ _ _ (by omega), hb1.frozen hpl]; exact hf0
    · unfold Hid
      intro b hb _
      rw [Below.heap_alloc _ _ _ (by omega)]
      exact hb1.block b hb
    · simp [go_sem]
    · simp [go_sem]
    · simp [go_sem]
    · simp
    · exact ((hb1.mono (Nat.le_of_lt hpl)).alloc (by omega) _)
  case round =>
    obtain ⟨p, f, l, v, rfl, hp, hf, hl, hsp, hown, hlv, hlz, hoth, e0, e1, e2, hsz, HB⟩ := hrel
    obtain ⟨f', rfl⟩ : ∃ f', f = f' + 1 := ⟨f - 1, by omega⟩
    have hps : wr.cell? ⟨pb, 0, none⟩ = some (.string s) := by rw [World.cell?_of_block (w := w) (hoth.out pb hpbl hne)]; exact hpb
    by_cases hlt : p < s.size
    · have hW : ∀ W, Hid (Calls Try.prog 45 #[strV s (s.size : Int) 20, .int .i64 (p : Int)] W fun r w' => r = wholeR s.data.toList p s.size 20 ∧ Below W.heap.size W w') := fun W => whole_any s s.size p 20 W (Nat.le_refl _) (by omega) hp
      cases hw : wAt s.data.toList p s.size with
      | ok h =>
        have hv : wholeR s.data.toList p s.size 20 = .returned (.agg #[.int .i64 (h.cls : Int), .bool h.made, .int .i64 (h.tag : Int), .int .i64 (h.len : Int), .int .i64 (h.size : Int)]) := by unfold wholeR; rw [hw]; rfl
        rw [hv] at hW
        obtain ⟨hh, hle⟩ := wAt_ok _ _ _ _ hw
        obtain ⟨k1, k2, k3, _⟩ := BerMath.hAt_ok _ _ _ _ hh
        have hnext : Hid (spl s (s.size + 1) 0 = ahead (l ++ [elOf s h p]) (spl s f' (p + h.size + h.len))) := by
          unfold Hid; rw [hsp.out, spl_ok s f' p h (by omega) hw, ahead_snoc]
        have hCt : ∀ W, Hid (Calls Try.prog 46 #[elmV h 0, .string s, .int .i64 (p : Int)] W fun r w' => r = .returned (.string (s.extract (p + h.size) (p + h.size + h.len))) ∧ Below W.heap.size W w') := fun W => content_any s h 0 p W (by omega) k2 k3 hle
        have hEn : ∀ W, Hid (Calls Try.prog 47 #[elmV h 0, .int .i64 (p : Int)] W fun r w' => r = .returned (.int .i64 ((p + h.size + h.len : Nat) : Int)) ∧ w' = W.alloc (elmO h 0)) := fun W => end_any h 0 p W (by omega) k2 k3
        have hel : Hid (elOf s h p = ⟨h.cls, h.made, h.tag, s.extract (p + h.size) (p + h.size + h.len)⟩) := rfl
        have hpE : Hid (p + 2 ≤ p + h.size + h.len) := by unfold Hid; omega
        have hf2 : Hid (s.size + 1 ≤ f' + (p + h.size + h.len)) := by unfold Hid; omega
        have hl2 : Hid (l.length ≤ 4294967296 ∧ l.length ≤ p) := by unfold Hid; omega
        have hEs : Hid (p + h.size + h.len ≤ s.size) := hle
        have hlt' : Hid (p < s.size) := hlt
        generalize p + h.size + h.len = E at *
        generalize p + h.size = A at *
        clear hv hw hsp hh k1 k2 k3 hf hl hle hlt hp
        go_upto_region 4 with (go_at_call 45; refine (hW _).out.mono ?_; rintro r w2 ⟨rfl, hb2⟩)
        have m2 : wr.heap.size ≤ w2.heap.size := hb2.size
        have gl2 : w2.cell? ⟨pl, 0, none⟩ = some v := by rw [hb2.cell (by show pl < _; omega)]; exact hlv
        have gz2 : w2.frozen? ⟨pl, 0, none⟩ = false := by rw [hb2.frozen (by show pl < _; omega)]; exact hlz
        have gp2 : w2.cell? ⟨pb, 0, none⟩ = some (.string s) := by rw [hb2.cell (by show pb < _; omega)]; exact hps
        have hown2 : OwnE w2 (w1.heap.size + 1) v l := ownE_below hown hb2
        have hplw : pl < w2.heap.size := by omega
        have hpbw : pb < w2.heap.size := by omega
        clear hlv hlz hps hown
        have hSW : SEl w2.heap.size pb h s (w2.alloc (.cells #[.int .i64 (h.cls : Int), .bool h.made, .int .i64 (h.tag : Int), .int .i64 (h.len : Int), .int .i64 (h.size : Int), .int .i64 0] 80)).drew := by
          refine ⟨?_, ?_, ?_, ?_, ?_, ?_, ?_⟩
          all_goals simp [go_sem, gp2, hpbw]
        have glW : (w2.alloc (.cells #[.int .i64 (h.cls : Int), .bool h.made, .int .i64 (h.tag : Int), .int .i64 (h.len : Int), .int .i64 (h.size : Int), .int .i64 0] 80)).drew.cell? ⟨pl, 0, none⟩ = some v := by simp [go_sem, gl2, hplw]
        have gzW : (w2.alloc (.cells #[.int .i64 (h.cls : Int), .bool h.made, .int .i64 (h.tag : Int), .int .i64 (h.len : Int), .int .i64 (h.size : Int), .int .i64 0] 80)).drew.frozen? ⟨pl, 0, none⟩ = false := by simp [go_sem, gz2, hplw]
        have hownW : OwnE (w2.alloc (.cells #[.int .i64 (h.cls : Int), .bool h.made, .int .i64 (h.tag : Int), .int .i64 (h.len : Int), .int .i64 (h.size : Int), .int .i64 0] 80)).drew (w1.heap.size + 1) v l := World.ownsRow.drew (World.ownsRow.alloc hown2 _)
        refine wp_region_noPanic ?_
        refine wp_region_held_drew (S := SEl w2.heap.size pb h s) (by kernel_rfl) hSW (fun _ => ?_)
        refine wpAnyH_take (i := 1) (v := ?va1) (by simp only [List.getElem?_toArray, List.getElem?_cons_zero, List.getElem?_cons_succ]; exact rfl) (by kernel_rfl) (by kernel_rfl) (by kernel_rfl) (fun _ _ _ h => h) (Or.inl ⟨by rfl, ?ya1⟩) hSW ?ra1
        case ya1 =>
          intro w' hS
          obtain ⟨q0, q1, q2, q3, q4, q5, q6⟩ := hS
          go_simp
          try with_reducible rfl
        case ra1 =>
        simp only [Act.put, List.setIfInBounds_toArray, List.set_cons_zero, List.set_cons_succ]
        refine wpAnyH_take (i := 2) (v := ?va2) (by simp only [List.getElem?_toArray, List.getElem?_cons_zero, List.getElem?_cons_succ]; exact rfl) (by kernel_rfl) (by kernel_rfl) (by kernel_rfl) (fun _ _ _ h => h) (Or.inl ⟨by rfl, ?ya2⟩) hSW ?ra2
        case ya2 =>
          intro w' hS
          obtain ⟨q0, q1, q2, q3, q4, q5, q6⟩ := hS
          go_simp
          try with_reducible rfl
        case ra2 =>
        simp only [Act.put, List.setIfInBounds_toArray, List.set_cons_zero, List.set_cons_succ]
        refine wpAnyH_take (i := 3) (v := ?va3) (by simp only [List.getElem?_toArray, List.getElem?_cons_zero, List.getElem?_cons_succ]; exact rfl) (by kernel_rfl) (by kernel_rfl) (by kernel_rfl) (fun _ _ _ h => h) (Or.inl ⟨by rfl, ?ya3⟩) hSW ?ra3
        case ya3 =>
          intro w' hS
          obtain ⟨q0, q1, q2, q3, q4, q5, q6⟩ := hS
          go_simp
          try with_reducible rfl
        case ra3 =>
        simp only [Act.put, List.setIfInBounds_toArray, List.set_cons_zero, List.set_cons_succ]
        refine wpAnyH_take (i := 4) (v := ?va4) (by simp only [List.getElem?_toArray, List.getElem?_cons_zero, List.getElem?_cons_succ]; exact rfl) (by kernel_rfl) (by kernel_rfl) (by kernel_rfl) (fun _ _ _ h => h) (Or.inl ⟨by rfl, ?ya4⟩) hSW ?ra4
        case ya4 =>
          intro w' hS
          obtain ⟨q0, q1, q2, q3, q4, q5, q6⟩ := hS
          go_simp
          try with_reducible rfl
        case ra4 =>
        simp only [Act.put, List.setIfInBounds_toArray, List.set_cons_zero, List.set_cons_succ]
        refine wpAnyH_take (i := 5) (v := ?va5) (by simp only [List.getElem?_toArray, List.getElem?_cons_zero, List.getElem?_cons_succ]; exact rfl) (by kernel_rfl) (by kernel_rfl) (by kernel_rfl) (fun _ _ _ h => h) (Or.inl ⟨by rfl, ?ya5⟩) hSW ?ra5
        case ya5 =>
          intro w' hS
          obtain ⟨q0, q1, q2, q3, q4, q5, q6⟩ := hS
          go_simp
          try with_reducible rfl
        case ra5 =>
        simp only [Act.put, List.setIfInBounds_toArray, List.set_cons_zero, List.set_cons_succ]
        refine wpAnyH_take (i := 6) (v := ?va6) (by simp only [List.getElem?_toArray, List.getElem?_cons_zero, List.getElem?_cons_succ]; exact rfl) (by kernel_rfl) (by kernel_rfl) (by kernel_rfl) (fun _ _ _ h => h) (Or.inl ⟨by rfl, ?ya6⟩) hSW ?ra6
        case ya6 =>
          intro w' hS
          obtain ⟨q0, q1, q2, q3, q4, q5, q6⟩ := hS
          go_simp
          try with_reducible rfl
        case ra6 =>
        simp only [Act.put, List.setIfInBounds_toArray, List.set_cons_zero, List.set_cons_succ]
        refine wpAnyH_take (i := 7) (v := ?va7) (by simp only [List.getElem?_toArray, List.getElem?_cons_zero, List.getElem?_cons_succ]; exact rfl) (by kernel_rfl) (by kernel_rfl) (by kernel_rfl) (fun _ _ _ h => h) (Or.inl ⟨by rfl, ?ya7⟩) hSW ?ra7
        case ya7 =>
          intro w' hS
          obtain ⟨q0, q1, q2, q3, q4, q5, q6⟩ := hS
          go_simp
          try with_reducible rfl
        case ra7 =>
        simp only [Act.put, List.setIfInBounds_toArray, List.set_cons_zero, List.set_cons_succ]
        refine wpAnyH_take (i := 8) (v := ?va8) (by simp only [List.getElem?_toArray, List.getElem?_cons_zero, List.getElem?_cons_succ]; exact rfl) (by kernel_rfl) (by kernel_rfl) (by kernel_rfl) (fun _ _ _ h => h) (Or.inl ⟨by rfl, ?ya8⟩) hSW ?ra8
        case ya8 =>
          intro w' hS
          obtain ⟨q0, q1, q2, q3, q4, q5, q6⟩ := hS
          go_simp
          try with_reducible rfl
        case ra8 =>
        simp only [Act.put, List.setIfInBounds_toArray, List.set_cons_zero, List.set_cons_succ]
        refine wpAnyH_take (i := 9) (v := ?va9) (by simp only [List.getElem?_toArray, List.getElem?_cons_zero, List.getElem?_cons_succ]; exact rfl) (by kernel_rfl) (by kernel_rfl) (by kernel_rfl) (fun _ _ _ h => h) (Or.inl ⟨by rfl, ?ya9⟩) hSW ?ra9
        case ya9 =>
          intro w' hS
          obtain ⟨q0, q1, q2, q3, q4, q5, q6⟩ := hS
          go_simp
          try with_reducible rfl
        case ra9 =>
        simp only [Act.put, List.setIfInBounds_toArray, List.set_cons_zero, List.set_cons_succ]
        refine wpAnyH_take (i := 10) (v := ?va10) (by simp only [List.getElem?_toArray, List.getElem?_cons_zero, List.getElem?_cons_succ]; exact rfl) (by kernel_rfl) (by kernel_rfl) (by kernel_rfl) (fun _ _ _ h => h) (Or.inl ⟨by rfl, ?ya10⟩) hSW ?ra10
        case ya10 =>
          intro w' hS
          obtain ⟨q0, q1, q2, q3, q4, q5, q6⟩ := hS
          go_simp
          try with_reducible rfl
        case ra10 =>
        simp only [Act.put, List.setIfInBounds_toArray, List.set_cons_zero, List.set_cons_succ]
        refine wpAnyH_take (i := 11) (v := ?va11) (by simp only [List.getElem?_toArray, List.getElem?_cons_zero, List.getElem?_cons_succ]; exact rfl) (by kernel_rfl) (by kernel_rfl) (by kernel_rfl) (fun _ _ _ h => h) (Or.inl ⟨by rfl, ?ya11⟩) hSW ?ra11
        case ya11 =>
          intro w' hS
          obtain ⟨q0, q1, q2, q3, q4, q5, q6⟩ := hS
          go_simp
          try with_reducible rfl
        case ra11 =>
        simp only [Act.put, List.setIfInBounds_toArray, List.set_cons_zero, List.set_cons_succ]
        refine wpAnyH_take (i := 12) (v := ?va12) (by simp only [List.getElem?_toArray, List.getElem?_cons_zero, List.getElem?_cons_succ]; exact rfl) (by kernel_rfl) (by kernel_rfl) (by kernel_rfl) (fun _ _ _ h => h) (Or.inl ⟨by rfl, ?ya12⟩) hSW ?ra12
        case ya12 =>
          intro w' hS
          obtain ⟨q0, q1, q2, q3, q4, q5, q6⟩ := hS
          go_simp
          try with_reducible rfl
        case ra12 =>
        simp only [Act.put, List.setIfInBounds_toArray, List.set_cons_zero, List.set_cons_succ]
        refine wpAnyH_ready (rs := [0, 13]) (by kernel_rfl) (by simp) ?_
        refine AllReadyH.cons (by simp only [List.getElem?_toArray, List.getElem?_cons_zero]; exact rfl) (fun K hK => ?_) (AllReadyH.cons (by simp only [List.getElem?_toArray, List.getElem?_cons_zero, List.getElem?_cons_succ]; exact rfl) (fun K hK => ?_) AllReadyH.nil)
        · go_simp
          refine hK.out _ _ hSW (fun _ => ?_)
          clear hK K
          refine wpAnyH_ready (rs := [13]) (by kernel_rfl) (by simp) ?_
          refine AllReadyH.cons (by simp only [List.getElem?_toArray, List.getElem?_cons_zero, List.getElem?_cons_succ]; exact rfl) (fun K hK => ?_) AllReadyH.nil
          go_simp
          refine (hCt _).out.mono ?_
          rintro r w3 ⟨rfl, hb3⟩
          have m3 : w2.heap.size + 1 ≤ w3.heap.size := by have := hb3.size; simp at this; omega
          have gl3 : w3.cell? ⟨pl, 0, none⟩ = some v := by rw [hb3.cell (by simp; omega)]; exact glW
          have gz3 : w3.frozen? ⟨pl, 0, none⟩ = false := by rw [hb3.frozen (by simp; omega)]; exact gzW
          have hown3 : OwnE w3 (w1.heap.size + 1) v l := ownE_below hownW hb3
          have hS3 : SEl w2.heap.size pb h s w3 := hSW.blocks (hb3.block _ (by simp)) (hb3.block _ (by simp; omega))
          go_simp
          refine hK.out _ _ hS3 (fun _ => ?_)
          clear hK K
          refine wpAnyH_take (i := 14) (v := ?va13) (by simp only [List.getElem?_toArray, List.getElem?_cons_zero, List.getElem?_cons_succ]; exact rfl) (by kernel_rfl) (by kernel_rfl) (by kernel_rfl) (fun _ _ _ h => h) (Or.inl ⟨by rfl, ?ya13⟩) hS3 ?ra13
          case ya13 =>
            intro w' hS
            obtain ⟨q0, q1, q2, q3, q4, q5, q6⟩ := hS
            go_simp
            try with_reducible rfl
          case ra13 =>
          simp only [Act.put, List.setIfInBounds_toArray, List.set_cons_zero, List.set_cons_succ]
          refine wpAnyH_ready (rs := [15]) (by kernel_rfl) (by simp) ?_
          refine AllReadyH.cons (by simp only [List.getElem?_toArray, List.getElem?_cons_zero, List.getElem?_cons_succ]; exact rfl) (fun K hK => ?_) AllReadyH.nil
          go_simp
          have hS3a : SEl w2.heap.size pb h s (w3.alloc (.cells #[.int .i64 (h.cls : Int), .bool h.made, .int .i64 (h.tag : Int), .string (s.extract A E)] 56)) := hS3.blocks (Below.heap_alloc _ _ _ (by omega)) (Below.heap_alloc _ _ _ (by omega))
          have gl3a : (w3.alloc (.cells #[.int .i64 (h.cls : Int), .bool h.made, .int .i64 (h.tag : Int), .string (s.extract A E)] 56)).cell? ⟨pl, 0, none⟩ = some v := by rw [World.cell?_alloc_past _ _ _ (by omega)]; exact gl3
          refine hK.out _ _ hS3a (fun _ => ?_)
          clear hK K
          refine wpAnyH_ready (rs := [16]) (by kernel_rfl) (by simp) ?_
          refine AllReadyH.cons (by simp only [List.getElem?_toArray, List.getElem?_cons_zero, List.getElem?_cons_succ]; exact rfl) (fun K hK => ?_) AllReadyH.nil
          refine step_elem_at _ (by rfl) _ _ (by rfl) (w1.heap.size + 1) _ l ⟨h.cls, h.made, h.tag, s.extract A E⟩ _ (by rfl) (by rfl) ?_ ?_ ?_ hl2.out.1 ?_
          · exact World.ownsRow.alloc hown3 _
          · exact heap_alloc_new _ _
          · simp; omega
          intro g2 cap2 w4 hown4 hgrow1 hb4
          have m4 : w3.heap.size ≤ w4.heap.size := by have := hb4.size; simp at this; omega
          have gl4 : w4.cell? ⟨pl, 0, none⟩ = some v := by rw [hb4.cell (by show pl < _; omega), World.cell?_alloc_past _ _ _ (by omega)]; exact gl3
          have gz4 : w4.frozen? ⟨pl, 0, none⟩ = false := by rw [hb4.frozen (by show pl < _; omega), World.frozen?_alloc_past _ _ _ (by omega)]; exact gz3
          have hS4 : SEl w2.heap.size pb h s w4 := hS3a.blocks (hgrow1.block _ (by simp; omega) (by intro hh; exact Nat.lt_irrefl _ (hown2.lt _ hh.symm).2)) (hb4.block _ (by omega))
          refine hK.out _ _ hS4 (fun _ => ?_)
          clear hK K
          refine wpAnyH_ready (rs := [17]) (by kernel_rfl) (by simp) ?_
          refine AllReadyH.cons (by simp only [List.getElem?_toArray, List.getElem?_cons_zero, List.getElem?_cons_succ]; exact rfl) (fun K hK => ?_) AllReadyH.nil
          go_simp
          have hS5 : SEl w2.heap.size pb h s (w4.setCell ⟨pl, 0, none⟩ (.slice (some ⟨g2, 0, none⟩) (l.length + 1) cap2)) := hS4.blocks (Below.heap_setCell _ _ _ _ (by show w2.heap.size ≠ pl; omega)) (Below.heap_setCell _ _ _ _ hne)
          refine hK.out _ _ hS5 (fun _ => ?_)
          clear hK K
          refine wpAnyH_done (by kernel_rfl) ?_ _
          refine NoPanic.normal ?_
          have hch : Hid (∀ b, b < w1.heap.size + 1 → b ≠ pl → ((w4.setCell ⟨pl, 0, none⟩ (.slice (some ⟨g2, 0, none⟩) (l.length + 1) cap2)).alloc (elmO h 0)).heap[b]? = wr.heap[b]?) := by
            unfold Hid
            intro b hb hbn
            rw [Below.heap_alloc _ _ _ (by simp only [World.size_setCell]; omega), Below.heap_setCell _ _ _ _ hbn, hb4.block b hb, Below.heap_alloc _ _ _ (by omega), hb3.block b (by simp; omega)]
            show (w2.alloc _).heap[b]? = _
            rw [Below.heap_alloc _ _ _ (by omega), hb2.block b (by omega)]
          have hown6 : Hid (OwnE ((w4.setCell ⟨pl, 0, none⟩ (.slice (some ⟨g2, 0, none⟩) (l.length + 1) cap2)).alloc (elmO h 0)) (w1.heap.size + 1) (.slice (some ⟨g2, 0, none⟩) (l.length + 1) cap2) (l ++ [elOf s h p])) := by
            unfold Hid
            rw [hel.out]
            exact World.ownsRow.alloc (ownE_block hown4 (fun g hg _ => Below.heap_setCell _ _ _ _ (by show g ≠ pl; omega))) _
          have gl6 : Hid (((w4.setCell ⟨pl, 0, none⟩ (.slice (some ⟨g2, 0, none⟩) (l.length + 1) cap2)).alloc (elmO h 0)).cell? ⟨pl, 0, none⟩ = some (.slice (some ⟨g2, 0, none⟩) (l.length + 1) cap2)) := by
            unfold Hid
            rw [World.cell?_alloc_past _ _ _ (by simp only [World.size_setCell]; omega), World.cell?_setCell_same _ _ _ gl4]
          have gz6 : Hid (((w4.setCell ⟨pl, 0, none⟩ (.slice (some ⟨g2, 0, none⟩) (l.length + 1) cap2)).alloc (elmO h 0)).frozen? ⟨pl, 0, none⟩ = false) := by
            unfold Hid
            rw [World.frozen?_alloc_past _ _ _ (by simp only [World.size_setCell]; omega), World.frozen?_setCell]
            exact gz4
          have n6 : Hid (w1.heap.size < ((w4.setCell ⟨pl, 0, none⟩ (.slice (some ⟨g2, 0, none⟩) (l.length + 1) cap2)).alloc (elmO h 0)).heap.size) := by
            unfold Hid
            simp only [World.size_alloc, World.size_setCell]
            omega
          have HB6 : Hid (Below pl w ((w4.setCell ⟨pl, 0, none⟩ (.slice (some ⟨g2, 0, none⟩) (l.length + 1) cap2)).alloc (elmO h 0))) := by
            unfold Hid
            refine HB.trans ?_
            refine (hb2.mono (by omega)).trans ?_
            have hx1 : Below pl w2 w3 := ((((Below.refl pl w2).alloc (by omega) _).drew)).trans (hb3.mono (by simp; omega))
            have hx2 : Below pl w3 w4 := ((Below.refl pl w3).alloc (by omega) _).trans (hb4.mono (by omega))
            have hx3 : Below pl w4 (w4.setCell ⟨pl, 0, none⟩ (.slice (some ⟨g2, 0, none⟩) (l.length + 1) cap2)) := by
              refine Below.setCell (Below.refl _ _) ?_ _
              exact Nat.le_refl _
            exact ((hx1.trans hx2).trans hx3).alloc (by simp only [World.size_setCell]; omega) _
          have hlen2 : Hid ((l ++ [elOf s h p]).length ≤ E) := by
            unfold Hid
            rw [List.length_append]
            have h1 := hl2.out.2
            have h2 := hpE.out
            simp
            omega
          obtain ⟨q0, q1, q2, q3, q4, q5, q6⟩ := hS5
          go_wp2_with (go_at_call 47; refine (hEn _).out.mono ?_; rintro r w5 ⟨rfl, rfl⟩)
          go_roundw
          case rel =>
            refine ⟨E, f', l ++ [elOf s h p], _, rfl, hEs.out, hf2.out, hlen2.out, hnext, hown6.out, gl6.out, gz6.out, ?_, ?_, ?_, ?_, n6.out, HB6.out⟩
            · unfold Hid
              intro b hb hbn
              rw [hch.out b (by omega) hbn]
              exact hoth.out b hb hbn
            · rw [World.cell?_of_block (w := wr) (hch.out w1.heap.size (Nat.lt_succ_self _) (by omega))]; exact e0
            · rw [World.cell?_of_block (w := wr) (hch.out w1.heap.size (Nat.lt_succ_self _) (by omega))]; exact e1
            · rw [World.cell?_of_block (w := wr) (hch.out w1.heap.size (Nat.lt_succ_self _) (by omega))]; exact e2
          case measure =>
            have h1 := hpE.out
            have h2 := hlt'.out
            simp [intOf]
            omega
        · go_simp
          refine (hCt _).out.mono ?_
          rintro r w3 ⟨rfl, hb3⟩
          have m3 : w2.heap.size + 1 ≤ w3.heap.size := by have := hb3.size; simp at this; omega
          have gl3 : w3.cell? ⟨pl, 0, none⟩ = some v := by rw [hb3.cell (by simp; omega)]; exact glW
          have gz3 : w3.frozen? ⟨pl, 0, none⟩ = false := by rw [hb3.frozen (by simp; omega)]; exact gzW
          have hown3 : OwnE w3 (w1.heap.size + 1) v l := ownE_below hownW hb3
          have hS3 : SEl w2.heap.size pb h s w3 := hSW.blocks (hb3.block _ (by simp)) (hb3.block _ (by simp; omega))
          go_simp
          refine hK.out _ _ hS3 (fun _ => ?_)
          clear hK K
          refine wpAnyH_take (i := 14) (v := ?va14) (by simp only [List.getElem?_toArray, List.getElem?_cons_zero, List.getElem?_cons_succ]; exact rfl) (by kernel_rfl) (by kernel_rfl) (by kernel_rfl) (fun _ _ _ h => h) (Or.inl ⟨by rfl, ?ya14⟩) hS3 ?ra14
          case ya14 =>
            intro w' hS
            obtain ⟨q0, q1, q2, q3, q4, q5, q6⟩ := hS
            go_simp
            try with_reducible rfl
          case ra14 =>
          simp only [Act.put, List.setIfInBounds_toArray, List.set_cons_zero, List.set_cons_succ]
          refine wpAnyH_ready (rs := [0, 15]) (by kernel_rfl) (by simp) ?_
          refine AllReadyH.cons (by simp only [List.getElem?_toArray, List.getElem?_cons_zero]; exact rfl) (fun K hK => ?_) (AllReadyH.cons (by simp only [List.getElem?_toArray, List.getElem?_cons_zero, List.getElem?_cons_succ]; exact rfl) (fun K hK => ?_) AllReadyH.nil)
          · go_simp
            refine hK.out _ _ hS3 (fun _ => ?_)
            clear hK K
            refine wpAnyH_ready (rs := [15]) (by kernel_rfl) (by simp) ?_
            refine AllReadyH.cons (by simp only [List.getElem?_toArray, List.getElem?_cons_zero, List.getElem?_cons_succ]; exact rfl) (fun K hK => ?_) AllReadyH.nil
            go_simp
            have hS3a : SEl w2.heap.size pb h s (w3.alloc (.cells #[.int .i64 (h.cls : Int), .bool h.made, .int .i64 (h.tag : Int), .string (s.extract A E)] 56)) := hS3.blocks (Below.heap_alloc _ _ _ (by omega)) (Below.heap_alloc _ _ _ (by omega))
            have gl3a : (w3.alloc (.cells #[.int .i64 (h.cls : Int), .bool h.made, .int .i64 (h.tag : Int), .string (s.extract A E)] 56)).cell? ⟨pl, 0, none⟩ = some v := by rw [World.cell?_alloc_past _ _ _ (by omega)]; exact gl3
            refine hK.out _ _ hS3a (fun _ => ?_)
            clear hK K
            refine wpAnyH_ready (rs := [16]) (by kernel_rfl) (by simp) ?_
            refine AllReadyH.cons (by simp only [List.getElem?_toArray, List.getElem?_cons_zero, List.getElem?_cons_succ]; exact rfl) (fun K hK => ?_) AllReadyH.nil
            refine step_elem_at _ (by rfl) _ _ (by rfl) (w1.heap.size + 1) _ l ⟨h.cls, h.made, h.tag, s.extract A E⟩ _ (by rfl) (by rfl) ?_ ?_ ?_ hl2.out.1 ?_
            · exact World.ownsRow.alloc hown3 _
            · exact heap_alloc_new _ _
            · simp; omega
            intro g2 cap2 w4 hown4 hgrow1 hb4
            have m4 : w3.heap.size ≤ w4.heap.size := by have := hb4.size; simp at this; omega
            have gl4 : w4.cell? ⟨pl, 0, none⟩ = some v := by rw [hb4.cell (by show pl < _; omega), World.cell?_alloc_past _ _ _ (by omega)]; exact gl3
            have gz4 : w4.frozen? ⟨pl, 0, none⟩ = false := by rw [hb4.frozen (by show pl < _; omega), World.frozen?_alloc_past _ _ _ (by omega)]; exact gz3
            have hS4 : SEl w2.heap.size pb h s w4 := hS3a.blocks (hgrow1.block _ (by simp; omega) (by intro hh; exact Nat.lt_irrefl _ (hown2.lt _ hh.symm).2)) (hb4.block _ (by omega))
            refine hK.out _ _ hS4 (fun _ => ?_)
            clear hK K
            refine wpAnyH_ready (rs := [17]) (by kernel_rfl) (by simp) ?_
            refine AllReadyH.cons (by simp only [List.getElem?_toArray, List.getElem?_cons_zero, List.getElem?_cons_succ]; exact rfl) (fun K hK => ?_) AllReadyH.nil
            go_simp
            have hS5 : SEl w2.heap.size pb h s (w4.setCell ⟨pl, 0, none⟩ (.slice (some ⟨g2, 0, none⟩) (l.length + 1) cap2)) := hS4.blocks (Below.heap_setCell _ _ _ _ (by show w2.heap.size ≠ pl; omega)) (Below.heap_setCell _ _ _ _ hne)
            refine hK.out _ _ hS5 (fun _ => ?_)
            clear hK K
            refine wpAnyH_done (by kernel_rfl) ?_ _
            refine NoPanic.normal ?_
            have hch : Hid (∀ b, b < w1.heap.size + 1 → b ≠ pl → ((w4.setCell ⟨pl, 0, none⟩ (.slice (some ⟨g2, 0, none⟩) (l.length + 1) cap2)).alloc (elmO h 0)).heap[b]? = wr.heap[b]?) := by
              unfold Hid
              intro b hb hbn
              rw [Below.heap_alloc _ _ _ (by simp only [World.size_setCell]; omega), Below.heap_setCell _ _ _ _ hbn, hb4.block b hb, Below.heap_alloc _ _ _ (by omega), hb3.block b (by simp; omega)]
              show (w2.alloc _).heap[b]? = _
              rw [Below.heap_alloc _ _ _ (by omega), hb2.block b (by omega)]
            have hown6 : Hid (OwnE ((w4.setCell ⟨pl, 0, none⟩ (.slice (some ⟨g2, 0, none⟩) (l.length + 1) cap2)).alloc (elmO h 0)) (w1.heap.size + 1) (.slice (some ⟨g2, 0, none⟩) (l.length + 1) cap2) (l ++ [elOf s h p])) := by
              unfold Hid
              rw [hel.out]
              exact World.ownsRow.alloc (ownE_block hown4 (fun g hg _ => Below.heap_setCell _ _ _ _ (by show g ≠ pl; omega))) _
            have gl6 : Hid (((w4.setCell ⟨pl, 0, none⟩ (.slice (some ⟨g2, 0, none⟩) (l.length + 1) cap2)).alloc (elmO h 0)).cell? ⟨pl, 0, none⟩ = some (.slice (some ⟨g2, 0, none⟩) (l.length + 1) cap2)) := by
              unfold Hid
              rw [World.cell?_alloc_past _ _ _ (by simp only [World.size_setCell]; omega), World.cell?_setCell_same _ _ _ gl4]
            have gz6 : Hid (((w4.setCell ⟨pl, 0, none⟩ (.slice (some ⟨g2, 0, none⟩) (l.length + 1) cap2)).alloc (elmO h 0)).frozen? ⟨pl, 0, none⟩ = false) := by
              unfold Hid
              rw [World.frozen?_alloc_past _ _ _ (by simp only [World.size_setCell]; omega), World.frozen?_setCell]
              exact gz4
            have n6 : Hid (w1.heap.size < ((w4.setCell ⟨pl, 0, none⟩ (.slice (some ⟨g2, 0, none⟩) (l.length + 1) cap2)).alloc (elmO h 0)).heap.size) := by
              unfold Hid
              simp only [World.size_alloc, World.size_setCell]
              omega
            have HB6 : Hid (Below pl w ((w4.setCell ⟨pl, 0, none⟩ (.slice (some ⟨g2, 0, none⟩) (l.length + 1) cap2)).alloc (elmO h 0))) := by
              unfold Hid
              refine HB.trans ?_
              refine (hb2.mono (by omega)).trans ?_
              have hx1 : Below pl w2 w3 := ((((Below.refl pl w2).alloc (by omega) _).drew)).trans (hb3.mono (by simp; omega))
              have hx2 : Below pl w3 w4 := ((Below.refl pl w3).alloc (by omega) _).trans (hb4.mono (by omega))
              have hx3 : Below pl w4 (w4.setCell ⟨pl, 0, none⟩ (.slice (some ⟨g2, 0, none⟩) (l.length + 1) cap2)) := by
                refine Below.setCell (Below.refl _ _) ?_ _
                exact Nat.le_refl _
              exact ((hx1.trans hx2).trans hx3).alloc (by simp only [World.size_setCell]; omega) _
            have hlen2 : Hid ((l ++ [elOf s h p]).length ≤ E) := by
              unfold Hid
              rw [List.length_append]
              have h1 := hl2.out.2
              have h2 := hpE.out
              simp
              omega
            obtain ⟨q0, q1, q2, q3, q4, q5, q6⟩ := hS5
            go_wp2_with (go_at_call 47; refine (hEn _).out.mono ?_; rintro r w5 ⟨rfl, rfl⟩)
            go_roundw
            case rel =>
              refine ⟨E, f', l ++ [elOf s h p], _, rfl, hEs.out, hf2.out, hlen2.out, hnext, hown6.out, gl6.out, gz6.out, ?_, ?_, ?_, ?_, n6.out, HB6.out⟩
              · unfold Hid
                intro b hb hbn
                rw [hch.out b (by omega) hbn]
                exact hoth.out b hb hbn
              · rw [World.cell?_of_block (w := wr) (hch.out w1.heap.size (Nat.lt_succ_self _) (by omega))]; exact e0
              · rw [World.cell?_of_block (w := wr) (hch.out w1.heap.size (Nat.lt_succ_self _) (by omega))]; exact e1
              · rw [World.cell?_of_block (w := wr) (hch.out w1.heap.size (Nat.lt_succ_self _) (by omega))]; exact e2
            case measure =>
              have h1 := hpE.out
              have h2 := hlt'.out
              simp [intOf]
              omega
          · go_simp
            have hS3a : SEl w2.heap.size pb h s (w3.alloc (.cells #[.int .i64 (h.cls : Int), .bool h.made, .int .i64 (h.tag : Int), .string (s.extract A E)] 56)) := hS3.blocks (Below.heap_alloc _ _ _ (by omega)) (Below.heap_alloc _ _ _ (by omega))
            have gl3a : (w3.alloc (.cells #[.int .i64 (h.cls : Int), .bool h.made, .int .i64 (h.tag : Int), .string (s.extract A E)] 56)).cell? ⟨pl, 0, none⟩ = some v := by rw [World.cell?_alloc_past _ _ _ (by omega)]; exact gl3
            refine hK.out _ _ hS3a (fun _ => ?_)
            clear hK K
            refine wpAnyH_ready (rs := [0]) (by kernel_rfl) (by simp) ?_
            refine AllReadyH.cons (by simp only [List.getElem?_toArray, List.getElem?_cons_zero]; exact rfl) (fun K hK => ?_) AllReadyH.nil
            go_simp
            refine hK.out _ _ hS3a (fun _ => ?_)
            clear hK K
            refine wpAnyH_ready (rs := [16]) (by kernel_rfl) (by simp) ?_
            refine AllReadyH.cons (by simp only [List.getElem?_toArray, List.getElem?_cons_zero, List.getElem?_cons_succ]; exact rfl) (fun K hK => ?_) AllReadyH.nil
            refine step_elem_at _ (by rfl) _ _ (by rfl) (w1.heap.size + 1) _ l ⟨h.cls, h.made, h.tag, s.extract A E⟩ _ (by rfl) (by rfl) ?_ ?_ ?_ hl2.out.1 ?_
            · exact World.ownsRow.alloc hown3 _
            · exact heap_alloc_new _ _
            · simp; omega
            intro g2 cap2 w4 hown4 hgrow1 hb4
            have m4 : w3.heap.size ≤ w4.heap.size := by have := hb4.size; simp at this; omega
            have gl4 : w4.cell? ⟨pl, 0, none⟩ = some v := by rw [hb4.cell (by show pl < _; omega), World.cell?_alloc_past _ _ _ (by omega)]; exact gl3
            have gz4 : w4.frozen? ⟨pl, 0, none⟩ = false := by rw [hb4.frozen (by show pl < _; omega), World.frozen?_alloc_past _ _ _ (by omega)]; exact gz3
            have hS4 : SEl w2.heap.size pb h s w4 := hS3a.blocks (hgrow1.block _ (by simp; omega) (by intro hh; exact Nat.lt_irrefl _ (hown2.lt _ hh.symm).2)) (hb4.block _ (by omega))
            refine hK.out _ _ hS4 (fun _ => ?_)
            clear hK K
            refine wpAnyH_ready (rs := [17]) (by kernel_rfl) (by simp) ?_
            refine AllReadyH.cons (by simp only [List.getElem?_toArray, List.getElem?_cons_zero, List.getElem?_cons_succ]; exact rfl) (fun K hK => ?_) AllReadyH.nil
            go_simp
            have hS5 : SEl w2.heap.size pb h s (w4.setCell ⟨pl, 0, none⟩ (.slice (some ⟨g2, 0, none⟩) (l.length + 1) cap2)) := hS4.blocks (Below.heap_setCell _ _ _ _ (by show w2.heap.size ≠ pl; omega)) (Below.heap_setCell _ _ _ _ hne)
            refine hK.out _ _ hS5 (fun _ => ?_)
            clear hK K
            refine wpAnyH_done (by kernel_rfl) ?_ _
            refine NoPanic.normal ?_
            have hch : Hid (∀ b, b < w1.heap.size + 1 → b ≠ pl → ((w4.setCell ⟨pl, 0, none⟩ (.slice (some ⟨g2, 0, none⟩) (l.length + 1) cap2)).alloc (elmO h 0)).heap[b]? = wr.heap[b]?) := by
              unfold Hid
              intro b hb hbn
              rw [Below.heap_alloc _ _ _ (by simp only [World.size_setCell]; omega), Below.heap_setCell _ _ _ _ hbn, hb4.block b hb, Below.heap_alloc _ _ _ (by omega), hb3.block b (by simp; omega)]
              show (w2.alloc _).heap[b]? = _
              rw [Below.heap_alloc _ _ _ (by omega), hb2.block b (by omega)]
            have hown6 : Hid (OwnE ((w4.setCell ⟨pl, 0, none⟩ (.slice (some ⟨g2, 0, none⟩) (l.length + 1) cap2)).alloc (elmO h 0)) (w1.heap.size + 1) (.slice (some ⟨g2, 0, none⟩) (l.length + 1) cap2) (l ++ [elOf s h p])) := by
              unfold Hid
              rw [hel.out]
              exact World.ownsRow.alloc (ownE_block hown4 (fun g hg _ => Below.heap_setCell _ _ _ _ (by show g ≠ pl; omega))) _
            have gl6 : Hid (((w4.setCell ⟨pl, 0, none⟩ (.slice (some ⟨g2, 0, none⟩) (l.length + 1) cap2)).alloc (elmO h 0)).cell? ⟨pl, 0, none⟩ = some (.slice (some ⟨g2, 0, none⟩) (l.length + 1) cap2)) := by
              unfold Hid
              rw [World.cell?_alloc_past _ _ _ (by simp only [World.size_setCell]; omega), World.cell?_setCell_same _ _ _ gl4]
            have gz6 : Hid (((w4.setCell ⟨pl, 0, none⟩ (.slice (some ⟨g2, 0, none⟩) (l.length + 1) cap2)).alloc (elmO h 0)).frozen? ⟨pl, 0, none⟩ = false) := by
              unfold Hid
              rw [World.frozen?_alloc_past _ _ _ (by simp only [World.size_setCell]; omega), World.frozen?_setCell]
              exact gz4
            have n6 : Hid (w1.heap.size < ((w4.setCell ⟨pl, 0, none⟩ (.slice (some ⟨g2, 0, none⟩) (l.length + 1) cap2)).alloc (elmO h 0)).heap.size) := by
              unfold Hid
              simp only [World.size_alloc, World.size_setCell]
              omega
            have HB6 : Hid (Below pl w ((w4.setCell ⟨pl, 0, none⟩ (.slice (some ⟨g2, 0, none⟩) (l.length + 1) cap2)).alloc (elmO h 0))) := by
              unfold Hid
              refine HB.trans ?_
              refine (hb2.mono (by omega)).trans ?_
              have hx1 : Below pl w2 w3 := ((((Below.refl pl w2).alloc (by omega) _).drew)).trans (hb3.mono (by simp; omega))
              have hx2 : Below pl w3 w4 := ((Below.refl pl w3).alloc (by omega) _).trans (hb4.mono (by omega))
              have hx3 : Below pl w4 (w4.setCell ⟨pl, 0, none⟩ (.slice (some ⟨g2, 0, none⟩) (l.length + 1) cap2)) := by
                refine Below.setCell (Below.refl _ _) ?_ _
                exact Nat.le_refl _
              exact ((hx1.trans hx2).trans hx3).alloc (by simp only [World.size_setCell]; omega) _
            have hlen2 : Hid ((l ++ [elOf s h p]).length ≤ E) := by
              unfold Hid
              rw [List.length_append]
              have h1 := hl2.out.2
              have h2 := hpE.out
              simp
              omega
            obtain ⟨q0, q1, q2, q3, q4, q5, q6⟩ := hS5
            go_wp2_with (go_at_call 47; refine (hEn _).out.mono ?_; rintro r w5 ⟨rfl, rfl⟩)
            go_roundw
            case rel =>
              refine ⟨E, f', l ++ [elOf s h p], _, rfl, hEs.out, hf2.out, hlen2.out, hnext, hown6.out, gl6.out, gz6.out, ?_, ?_, ?_, ?_, n6.out, HB6.out⟩
              · unfold Hid
                intro b hb hbn
                rw [hch.out b (by omega) hbn]
                exact hoth.out b hb hbn
              · rw [World.cell?_of_block (w := wr) (hch.out w1.heap.size (Nat.lt_succ_self _) (by omega))]; exact e0
              · rw [World.cell?_of_block (w := wr) (hch.out w1.heap.size (Nat.lt_succ_self _) (by omega))]; exact e1
              · rw [World.cell?_of_block (w := wr) (hch.out w1.heap.size (Nat.lt_succ_self _) (by omega))]; exact e2
            case measure =>
              have h1 := hpE.out
              have h2 := hlt'.out
              simp [intOf]
              omega
      | error o =>
        cases o with
        | some cq =>
          obtain ⟨c, q⟩ := cq
          have hv : wholeR s.data.toList p s.size 20 = gaveUp c q := by unfold wholeR; rw [hw]
          rw [hv] at hW
          have hres : Hid (spl s (s.size + 1) 0 = .error ((c : Int), (q : Int))) := by unfold Hid; rw [hsp.out, spl_er s f' p c q (by omega) hw]; rfl
          clear hv hw hsp hown
          go_wp2_with (go_at_call 45; refine (hW _).out.mono ?_; rintro r w2 ⟨rfl, hb2⟩)
          refine ⟨rfl, ?_, HB.trans (hb2.mono (by omega)), Or.inr ⟨_, _, hres.out, rfl⟩⟩
          intro b hb hbn
          rw [hb2.block b (by omega)]
          exact hoth.out b hb hbn
        | none =>
          have hv : wholeR s.data.toList p s.size 20 = gaveUp 20 s.size := by unfold wholeR; rw [hw]
          rw [hv] at hW
          have hres : Hid (spl s (s.size + 1) 0 = .error (20, (s.size : Int))) := by unfold Hid; rw [hsp.out, spl_miss s f' p (by omega) hw]; rfl
          clear hv hw hsp hown
          go_wp2_with (go_at_call 45; refine (hW _).out.mono ?_; rintro r w2 ⟨rfl, hb2⟩)
          refine ⟨rfl, ?_, HB.trans (hb2.mono (by omega)), Or.inr ⟨_, _, hres.out, rfl⟩⟩
          intro b hb hbn
          rw [hb2.block b (by omega)]
          exact hoth.out b hb hbn
    · have hpe : p = s.size := by omega
      subst hpe
      have hres : Hid (spl s (s.size + 1) 0 = .ok l) := by unfold Hid; rw [hsp.out, spl_end s f' s.size (Nat.le_refl _)]; simp [ahead]
      clear hsp
      go_wp2_with fail
      go_end0
      exact ⟨hoth.out, HB, Or.inl ⟨l, v, hres.out, rfl, hlv, ownE_base hown (by omega)⟩⟩
end Go.Proofs.Ytgfonnjblbpogaa

namespace Go.Proofs.Ytgfonnjblbpogaa
open Go.RowKit
open BerMath (Hd HR num hAt wAt)

theorem enter_split1 : ∀ args W, (callFunc 44 args).run Try.prog W = .ok (.enter 44 args) W := enters_of Try.func44 (by kernel_rfl) rfl

theorem spl_code (s : ByteArray) (f p : Nat) (c q : Int) (h : spl s f p = .error (c, q)) : c = 20 ∨ c = 21 ∨ c = 22 ∨ c = 23 := by
  induction f generalizing p with
  | zero => cases h
  | succ f ih =>
    by_cases hp : s.size ≤ p
    · rw [spl_end s f p hp] at h; cases h
    · cases hw : wAt s.data.toList p s.size with
      | ok x =>
        rw [spl_ok s f p x hp hw] at h
        cases hr : spl s f (p + x.size + x.len) with
        | ok k => rw [hr] at h; cases h
        | error y =>
          rw [hr] at h
          injection h with h
          exact ih _ (by rw [hr, h])
      | error o =>
        cases o with
        | some cq =>
          obtain ⟨a, b⟩ := cq
          rw [spl_er s f p a b hp hw] at h
          injection h with h
          injection h with h _
          have := wAt_er _ _ _ _ _ hw
          omega
        | none =>
          rw [spl_miss s f p hp hw] at h
          injection h with h
          injection h with h _
          omega

set_option maxHeartbeats 1000000 in
theorem berSplit_any (s : ByteArray) (w : World) (hm : s.size ≤ 4294967296) : Calls Try.prog 17 #[.string s] w fun r w' => splitQ s w.heap.size r w' ∧ Below w.heap.size w w' := by
  have hmf : ∀ (fn : Fn) (first cap : Array Value) (w : World), (Instr.makeFunc fn first cap).run Try.prog w = .ok (.func fn first cap) w := fun _ _ _ _ => rfl
  obtain ⟨W3, hW3⟩ : ∃ W3, W3 = (w.alloc (.cells #[.string s] 9)).alloc (.cells #[.slice none 0 0] 47) := ⟨_, rfl⟩
  have hs3 : W3.heap.size = w.heap.size + 1 + 1 := by rw [hW3]; simp
  have hB3 : Below w.heap.size w W3 := by
    rw [hW3]
    exact ((Below.refl _ _).alloc (Nat.le_refl _) _).alloc (by simp) _
  have hc3 : W3.cell? ⟨w.heap.size + 1, 0, none⟩ = some (.slice none 0 0) := by rw [hW3]; simp [go_sem]
  have hz3 : W3.frozen? ⟨w.heap.size + 1, 0, none⟩ = false := by rw [hW3]; simp [go_sem]
  have hb3 : W3.cell? ⟨w.heap.size, 0, none⟩ = some (.string s) := by rw [hW3]; simp [go_sem]
  obtain ⟨W4, hW4⟩ : ∃ W4, W4 = W3.alloc (.cells #[.int .i64 0, .int .i64 0] 74) := ⟨_, rfl⟩
  have hs4 : W4.heap.size = w.heap.size + 1 + 1 + 1 := by rw [hW4]; simp [hs3]
  have hB4 : Below W3.heap.size W3 W4 := by rw [hW4]; exact (Below.refl _ _).alloc (Nat.le_refl _) _
  have hc4 : W4.cell? ⟨w.heap.size + 1, 0, none⟩ = some (.slice none 0 0) := by rw [hB4.cell (by show w.heap.size + 1 < _; omega)]; exact hc3
  have hz4 : W4.frozen? ⟨w.heap.size + 1, 0, none⟩ = false := by rw [hB4.frozen (by show w.heap.size + 1 < _; omega)]; exact hz3
  have hb4 : W4.cell? ⟨w.heap.size, 0, none⟩ = some (.string s) := by rw [hB4.cell (by show w.heap.size < _; omega)]; exact hb3
  have hcl := split1_any s w.heap.size (w.heap.size + 1) W4 hm (by omega) hb4 (by omega) hc4 hz4
  have hcaught := caught_all 44 #[.pointer (some ⟨w.heap.size, 0, none⟩), .pointer (some ⟨w.heap.size + 1, 0, none⟩)] W3 (split1Q s (w.heap.size + 1) W4) enter_split1 (by
    rw [← hW4]
    refine hcl.mono ?_
    intro r w1 hq
    refine ⟨hq, hq.1 _ (by omega) (by omega), ?_, ?_⟩
    · have := hq.2.1.size; omega
    · rcases hq.2.2 with ⟨l, v, _, hr, _⟩ | ⟨c, q, _, hr⟩
      · rw [hr]; exact ⟨0, 0, Or.inl ⟨rfl, rfl, rfl⟩⟩
      · rw [hr]; exact ⟨c, q, Or.inr rfl⟩)
  have hres : Hid (∀ (r : Ending) (w' : World), (∃ (r1 : Ending) (w1 : World) (c q : Int), split1Q s (w.heap.size + 1) W4 r1 w1 ∧ Read r1 c q ∧ r = .returned (fltV c q) ∧ Below W3.heap.size w1 w' ∧ ∀ b, b < w1.heap.size → b ≠ W3.heap.size → w'.heap[b]? = w1.heap[b]?) → ∃ (c q : Int), r = .returned (fltV c q) ∧ Below w.heap.size w w' ∧ w.heap.size + 1 + 1 ≤ w'.heap.size ∧ ((c == 0) = true ∧ (∃ l v, spl s (s.size + 1) 0 = .ok l ∧ w'.cell? ⟨w.heap.size + 1, 0, none⟩ = some v ∧ OwnE w' w.heap.size v l) ∨ (c == 0) = false ∧ spl s (s.size + 1) 0 = .error (c, q))) := by
    rintro r w' ⟨r1, w1, c, q, hq, hrd, rfl, hbw, hall⟩
    have hsz := hbw.size
    have hsz1 := hq.2.1.size
    have hBw : Below w.heap.size w w' := hB3.trans (((hB4.mono (by omega)).trans (hq.2.1.mono (by omega))).trans (hbw.mono (by omega)))
    refine ⟨c, q, rfl, hBw, by omega, ?_⟩
    rcases hq.2.2 with ⟨l, v, hk, hr, hcs, hown⟩ | ⟨c', q', hk, hr⟩
    · rw [hr] at hrd
      obtain ⟨rfl, rfl⟩ := read_back hrd
      refine Or.inl ⟨rfl, l, v, hk, ?_, ?_⟩
      · rw [hbw.cell (by show w.heap.size + 1 < _; omega)]; exact hcs
      · exact ownE_base (ownE_block hown (fun g hg hg2 => hall g hg2 (by omega))) (by omega)
    · rw [hr] at hrd
      obtain ⟨rfl, rfl⟩ := read_gave hrd
      refine Or.inr ⟨?_, hk⟩
      have := spl_code _ _ _ _ _ hk
      rw [beq_eq_false_iff_ne]
      omega
  clear hcl hc4 hb4 hB4 hs4 hc3 hb3 hz3 hz4
  go_enter Try.func17, Try.ntmps17
  go_wp2_with fail
  rw [← hW3]
  refine hcaught.mono ?_
  intro r w' hh
  obtain ⟨c, q, rfl, hBw, hsz, hcase⟩ := hres.out r w' hh
  clear hh hres hcaught hW3 hW4 hs3 hB3
  have n1 : w.heap.size + 1 < w'.heap.size := by omega
  rcases hcase with ⟨hc0, l, v, hk, hcv, hown⟩ | ⟨hc0, hk⟩
  · have hk' : Hid (spl s (s.size + 1) 0 = .ok l) := hk
    clear hk
    go_wp2_with fail
    refine bodyPost_ret_by (v := .tuple #[v, .int .i64 0, .int .i64 0]) (by simp [results, Try.results17]) rfl ⟨Or.inl ⟨l, v, hk'.out, rfl, World.ownsRow.alloc hown _⟩, hBw.alloc (by omega) _⟩
  · have hk' : Hid (spl s (s.size + 1) 0 = .error (c, q)) := hk
    clear hk
    go_wp2_with fail
    go_region
    all_goals (try go_wp2)
    refine bodyPost_ret_by (v := .tuple #[.slice none 0 0, .int .i64 c, .int .i64 q]) (by simp [results, Try.results17]) rfl ⟨Or.inr ⟨c, q, hk'.out, rfl⟩, Below.drew (hBw.alloc (by omega) _)⟩
end Go.Proofs.Ytgfonnjblbpogaa
