import Derived.Test.YtkiidlnimjjnlaaDoorBwSm
import Derived.Test.YtkiidlnimjjnlaaDoorBIX
import Derived.Test.YtkiidlnimjjnlaaDoorChX
import Derived.Test.YtkiidlnimjjnlaaDoorBwX
import Derived.Deep.RegionHeld3
import Derived.Deep.RegionHeldLaw
import Derived.Test.YtkiidlnimjjnlaaDoorBtNd
import Derived.Test.YtkiidlnimjjnlaaDoorBytes
import Derived.Deep.WholeRow
import Derived.Deep.AppendLies
import Derived.Deep.DeepCutAuto
import Derived.Lib.OthersKept
import Derived.BigQuiet
import Derived.Laws.StructEq
import Derived.KernelRfl
import Derived.Lib.AppendZeros
namespace Go.Proofs.YtkiidlnimjjnlaaDoor
namespace Vr
open Go.RowKit
open TextMath (check)
set_option linter.unusedVariables false

abbrev nSeq (d : Int) : Nd := ⟨d, 0, true, 16, ⟨#[]⟩⟩
abbrev nOct (d : Int) (s : ByteArray) : Nd := ⟨d, 0, false, 4, s⟩
abbrev nInt (d : Int) (s : ByteArray) : Nd := ⟨d, 0, false, 2, s⟩
abbrev nTag (t : Int) (s : ByteArray) : Nd := ⟨3, 2, false, t, s⟩
set_option maxRecDepth 100000 in
theorem sequence_any (d : Int) (w : World) : Calls Tryd.prog 18 #[.int .i64 d] w fun r w' => r = .returned (ndA (nSeq d)) ∧ Below w.heap.size w w' := by
  go_enter Tryd.func18, Tryd.ntmps18
  go_wp2_with fail
  refine bodyPost_ret_by (v := .agg #[.int .i64 d, .int .i64 0, .bool true, .int .i64 16, .string ⟨#[]⟩]) ?_ rfl ⟨rfl, ?_⟩
  · simp [results, Tryd.results18, go_sem]
  · repeat' first | exact Below.refl _ _ | refine Below.setCell ?_ (by first | (simp; done) | (simp; omega)) _ | refine Below.alloc ?_ (by first | (simp; done) | (simp; omega)) _
set_option maxRecDepth 100000 in
theorem octets_any (d : Int) (w : World) : Calls Tryd.prog 21 #[.int .i64 d] w fun r w' => r = .returned (ndA (nOct d ⟨#[]⟩)) ∧ Below w.heap.size w w' := by
  go_enter Tryd.func21, Tryd.ntmps21
  go_wp2_with fail
  refine bodyPost_ret_by (v := .agg #[.int .i64 d, .int .i64 0, .bool false, .int .i64 4, .string ⟨#[]⟩]) ?_ rfl ⟨rfl, ?_⟩
  · simp [results, Tryd.results21, go_sem]
  · repeat' first | exact Below.refl _ _ | refine Below.setCell ?_ (by first | (simp; done) | (simp; omega)) _ | refine Below.alloc ?_ (by first | (simp; done) | (simp; omega)) _
set_option maxRecDepth 100000 in
theorem integer_any (d : Int) (w : World) : Calls Tryd.prog 33 #[.int .i64 d] w fun r w' => r = .returned (ndA (nInt d ⟨#[]⟩)) ∧ Below w.heap.size w w' := by
  go_enter Tryd.func33, Tryd.ntmps33
  go_wp2_with fail
  refine bodyPost_ret_by (v := .agg #[.int .i64 d, .int .i64 0, .bool false, .int .i64 2, .string ⟨#[]⟩]) ?_ rfl ⟨rfl, ?_⟩
  · simp [results, Tryd.results33, go_sem]
  · repeat' first | exact Below.refl _ _ | refine Below.setCell ?_ (by first | (simp; done) | (simp; omega)) _ | refine Below.alloc ?_ (by first | (simp; done) | (simp; omega)) _
set_option maxRecDepth 100000 in
theorem tagged_any (d : Int) (w : World) : Calls Tryd.prog 22 #[.int .i64 d] w fun r w' => r = .returned (ndA (nTag d ⟨#[]⟩)) ∧ Below w.heap.size w w' := by
  go_enter Tryd.func22, Tryd.ntmps22
  go_wp2_with fail
  refine bodyPost_ret_by (v := .agg #[.int .i64 3, .int .i64 2, .bool false, .int .i64 d, .string ⟨#[]⟩]) ?_ rfl ⟨rfl, ?_⟩
  · simp [results, Tryd.results22, go_sem]
  · repeat' first | exact Below.refl _ _ | refine Below.setCell ?_ (by first | (simp; done) | (simp; omega)) _ | refine Below.alloc ?_ (by first | (simp; done) | (simp; omega)) _
set_option maxRecDepth 100000 in
theorem filled_any (e : Nd) (s : ByteArray) (w : World) : Calls Tryd.prog 20 #[ndA e, .string s] w fun r w' => r = .returned (ndA ⟨e.dep, e.cls, e.made, e.tag, s⟩) ∧ Below w.heap.size w w' := by
  obtain ⟨d, c, m, t, b⟩ := e
  go_enter Tryd.func20, Tryd.ntmps20
  go_wp2_with fail
  refine bodyPost_ret_by (v := .agg #[.int .i64 d, .int .i64 c, .bool m, .int .i64 t, .string s]) ?_ rfl ⟨rfl, ?_⟩
  · simp [results, Tryd.results20, go_sem]
  · repeat' first | exact Below.refl _ _ | refine Below.setCell ?_ (by first | (simp; done) | (simp; omega)) _ | refine Below.alloc ?_ (by first | (simp; done) | (simp; omega)) _
theorem putBool_any (w : World) : Calls Tryd.prog 23 #[.bool true] w fun r w' => r = .returned (.string ⟨#[255]⟩) ∧ Below w.heap.size w w' := by
  go_enter Tryd.func23, Tryd.ntmps23
  go_wp2_with fail
  go_ret
  exact ⟨rfl, Below.refl _ _⟩
theorem bool_any (w : World) : Calls Tryd.prog 58 #[.string ⟨#[255]⟩] w fun r w' => r = .returned (.tuple #[.bool true, .int .i64 0]) ∧ Below w.heap.size w w' := by
  go_enter Tryd.func58, Tryd.ntmps58
  go_wp2_with fail
  go_ret2
  exact ⟨rfl, Below.refl _ _⟩
/-- Is a text UTF-8? -/
def utf (s : ByteArray) : Bool := (check s.data.toList).1
theorem utf_err (s : ByteArray) : ∃ e p : Int, chkV s.data.toList = .tuple #[.int .i64 e, .int .i64 p] ∧ utf s = decide (e = 0) := by
  refine ⟨_, _, rfl, ?_⟩
  unfold utf
  cases h : (check s.data.toList).1 <;> simp
set_option maxRecDepth 100000 in
set_option maxHeartbeats 1000000 in
theorem isUTF8_any (s : ByteArray) (w : World) (hm : s.size ≤ maxLen) :
    Calls Tryd.prog 19 #[.string s] w fun e w' => e = .returned (.bool (utf s)) ∧ w' = w := by
  obtain ⟨e, p, h1, h2⟩ := utf_err s
  have hC := check_any s w hm
  rw [h1] at hC
  rw [h2]
  have hC' : Hid (Calls Tryd.prog 40 #[.string s] w fun r w' => r = .returned (.tuple #[.int .i64 e, .int .i64 p]) ∧ w' = w) := hC
  clear hC h1 h2
  go_enter Tryd.func19, Tryd.ntmps19
  go_wp2_with (go_at_call 40; refine hC'.out.mono ?_; rintro r w' ⟨rfl, rfl⟩)
  all_goals go_ret
  all_goals (refine ⟨?_, rfl⟩; first | (simp_all; done) | (simp_all; rw [Bool.eq_iff_iff]; simp_all; done))
end Vr
end Go.Proofs.YtkiidlnimjjnlaaDoor

namespace Go.Proofs.YtkiidlnimjjnlaaDoor
namespace Vr
open Go.RowKit
set_option linter.unusedVariables false

/-- A sort key: description, rule, turned about. -/
abbrev Ky := ByteArray × ByteArray × Bool
abbrev ffB : ByteArray := ⟨#[255]⟩
def kR (s : ByteArray) : List Nd := if s.toList = [] then [] else [nTag 0 s]
def kV (b : Bool) : List Nd := if b = true then [nTag 1 ffB] else []
def kN (k : Ky) : List Nd := nSeq 2 :: nOct 3 k.1 :: (kR k.2.1 ++ kV k.2.2)
def kNs (l : List Ky) : List Nd := nSeq 1 :: l.flatMap kN
def pN (s c : ByteArray) : List Nd := [nSeq 1, nInt 2 s, nOct 2 c]

abbrev dN : Nd := ⟨0, 0, false, 0, ⟨#[]⟩⟩
abbrev dp (l : List Nd) (i : Nat) : Int := (l.getD i dN).dep
abbrev cl (l : List Nd) (i : Nat) : Int := (l.getD i dN).cls
abbrev tg (l : List Nd) (i : Nat) : Int := (l.getD i dN).tag
abbrev md (l : List Nd) (i : Nat) : Bool := (l.getD i dN).made
abbrev bd (l : List Nd) (i : Nat) : ByteArray := (l.getD i dN).body
theorem getD_at (l : List Nd) (i : Nat) (h : i < l.length) : l.getD i dN = l[i] := by simp [List.getD, h]
theorem isN_of {w : World} {a : Option Addr} {l : List Nd} (h : NdRow w a l) : IsNodes w a l.length (dp l) (cl l) (tg l) (md l) (bd l) := fun i hi => by
  obtain ⟨b, off, e, h0, h1, h2, h3, h4⟩ := h i hi
  have e' := getD_at l i hi
  refine ⟨b, off, e, ?_, ?_, ?_, ?_, ?_⟩
  · rw [h0, ← e']
  · rw [h1, ← e']
  · rw [h2, ← e']
  · rw [h3, ← e']
  · rw [h4, ← e']
theorem nodesL_of (l : List Nd) : nodesL l.length (dp l) (cl l) (tg l) (md l) (bd l) = l := by
  refine List.ext_getElem (by simp [nodesL]) (fun i h1 h2 => ?_)
  simp only [nodesL, List.getElem_map, List.getElem_range]
  rw [← getD_at l i h2]

theorem none_empty : (⟨#[]⟩ : ByteArray).toList.isEmpty = true := by rw [Lib.toList_data]; rfl
/-- May a node stand behind another? -/
def lnk (p e : Nd) : Prop := 0 ≤ e.cls ∧ e.cls ≤ 3 ∧ 0 ≤ e.tag ∧ e.tag ≤ 30 ∧ e.dep ≤ 64 ∧ (e.made = true → e.body.toList.isEmpty = true) ∧ 2 ≤ e.dep ∧ e.dep ≤ p.dep + 1 ∧ (p.dep < e.dep → p.made = true)
def chn (p : Nd) : List Nd → Prop
  | [] => True
  | e :: r => lnk p e ∧ chn e r
theorem chn_at : ∀ (l : List Nd) (p : Nd), chn p l → ∀ i (hi : i < l.length), lnk ((p :: l)[i]'(by simp; omega)) l[i]
  | [], _, _, i, hi => by simp at hi
  | e :: r, p, h, 0, hi => h.1
  | e :: r, p, h, i + 1, hi => chn_at r e h.2 i (by simpa using hi)
theorem good_of (r : List Nd) (d : Nat) (h : chn (nSeq 1) r) : ∀ i, i < (nSeq 1 :: r).length → Good (dp (nSeq 1 :: r)) (cl (nSeq 1 :: r)) (tg (nSeq 1 :: r)) (md (nSeq 1 :: r)) (bd (nSeq 1 :: r)) i := by
  intro i hi
  cases i with
  | zero =>
    refine ⟨?_, ?_, ?_, ?_, ?_, ?_, fun _ => none_empty, fun _ => rfl, fun j hj => by omega⟩
    · show (0 : Int) ≤ 0; decide
    · show (0 : Int) ≤ 3; decide
    · show (0 : Int) ≤ 16; decide
    · show (16 : Int) ≤ 30; decide
    · show (1 : Int) ≤ 1; decide
    · show (1 : Int) ≤ 64; decide
  | succ i =>
    have hi' : i < r.length := by simpa using hi
    obtain ⟨a1, a2, a3, a4, a5, a6, a7, a8, a9⟩ := chn_at r _ h i hi'
    have e1 : (nSeq 1 :: r).getD (i + 1) dN = r[i] := by rw [getD_at _ _ hi]; rfl
    have e0 : (nSeq 1 :: r).getD i dN = (nSeq 1 :: r)[i]'(by simp; omega) := getD_at _ _ _
    have q1 : dp (nSeq 1 :: r) (i + 1) = r[i].dep := congrArg Nd.dep e1
    have q2 : cl (nSeq 1 :: r) (i + 1) = r[i].cls := congrArg Nd.cls e1
    have q3 : tg (nSeq 1 :: r) (i + 1) = r[i].tag := congrArg Nd.tag e1
    have q4 : md (nSeq 1 :: r) (i + 1) = r[i].made := congrArg Nd.made e1
    have q5 : bd (nSeq 1 :: r) (i + 1) = r[i].body := congrArg Nd.body e1
    have q6 : dp (nSeq 1 :: r) i = ((nSeq 1 :: r)[i]'(by simp; omega)).dep := congrArg Nd.dep e0
    have q7 : md (nSeq 1 :: r) i = ((nSeq 1 :: r)[i]'(by simp; omega)).made := congrArg Nd.made e0
    unfold Good
    rw [q1, q2, q3, q4, q5]
    refine ⟨a1, a2, a3, a4, by omega, a5, a6, fun hh => by omega, fun j hj => ?_⟩
    obtain rfl : i = j := by omega
    rw [q6, q7]
    exact ⟨a7, a8, a9⟩
theorem lk_leaf (p : Nd) (d c t : Int) (b : ByteArray) (h1 : 0 ≤ c) (h2 : c ≤ 3) (h3 : 0 ≤ t) (h4 : t ≤ 30) (h5 : d ≤ 64) (h6 : 2 ≤ d) (h7 : d ≤ p.dep + 1) (h8 : p.dep < d → p.made = true) : lnk p ⟨d, c, false, t, b⟩ :=
  ⟨h1, h2, h3, h4, h5, (fun h => Bool.noConfusion h), h6, h7, h8⟩
theorem chn_keys : ∀ (l : List Ky) (p : Nd), (2 ≤ p.dep ∨ p.dep = 1 ∧ p.made = true) → chn p (l.flatMap kN)
  | [], _, _ => trivial
  | k :: l, p, hp => by
    have ih := chn_keys l
    rw [List.flatMap_cons]
    unfold kN kR kV
    have hs : lnk p (nSeq 2) := by
      refine ⟨by decide, by decide, by decide, by decide, by decide, fun _ => none_empty, by decide, ?_, ?_⟩
      · show (2 : Int) ≤ p.dep + 1
        omega
      · intro h
        rcases hp with h' | ⟨_, h'⟩
        · have h2 : p.dep < 2 := h
          omega
        · exact h'
    have ho : lnk (nSeq 2) (nOct 3 k.1) := lk_leaf _ _ _ _ _ (by decide) (by decide) (by decide) (by decide) (by decide) (by decide) (by decide) (fun _ => rfl)
    have hl : ∀ (q : Nd) (t : Int) (s : ByteArray), q.dep = 3 → 0 ≤ t → t ≤ 30 → lnk q (nTag t s) := fun q t s hq h0 h1 => lk_leaf _ _ _ _ _ (by decide) (by decide) h0 h1 (by decide) (by decide) (by rw [hq]; decide) (fun h => by rw [hq] at h; exact absurd h (by decide))
    have h23 : (2 : Int) ≤ 3 := by decide
    by_cases h1 : k.2.1.toList = []
    · by_cases h2 : k.2.2 = true
      · rw [if_pos h1, if_pos h2]
        exact ⟨hs, ho, hl _ 1 _ rfl (by decide) (by decide), ih _ (Or.inl h23)⟩
      · rw [if_pos h1, if_neg h2]
        exact ⟨hs, ho, ih _ (Or.inl h23)⟩
    · by_cases h2 : k.2.2 = true
      · rw [if_neg h1, if_pos h2]
        exact ⟨hs, ho, hl _ 0 _ rfl (by decide) (by decide), hl _ 1 _ rfl (by decide) (by decide), ih _ (Or.inl h23)⟩
      · rw [if_neg h1, if_neg h2]
        exact ⟨hs, ho, hl _ 0 _ rfl (by decide) (by decide), ih _ (Or.inl h23)⟩
theorem chn_page (s c : ByteArray) : chn (nSeq 1) [nInt 2 s, nOct 2 c] :=
  ⟨lk_leaf _ _ _ _ _ (by decide) (by decide) (by decide) (by decide) (by decide) (by decide) (by decide) (fun _ => rfl), lk_leaf _ _ _ _ _ (by decide) (by decide) (by decide) (by decide) (by decide) (by decide) (by show (2 : Int) ≤ 2 + 1; decide) (fun h => absurd (show (2 : Int) < 2 from h) (by decide)), trivial⟩

def wts (l : List Nd) : Nat := (l.map (fun e => e.body.size + 6)).sum
theorem bsum_congr {B B' : Nat → ByteArray} : ∀ n, (∀ i, i < n → B i = B' i) → bsum B n = bsum B' n
  | 0, _ => rfl
  | n + 1, h => by
    show bsum B n + (B n).size + 6 = bsum B' n + (B' n).size + 6
    rw [bsum_congr n (fun i hi => h i (by omega)), h n (by omega)]
theorem bsum_list (l : List Nd) : bsum (bd l) l.length = wts l := by
  have key : ∀ n, n ≤ l.length → bsum (bd l) n = wts (l.take n) := by
    intro n
    induction n with
    | zero => intro _; rfl
    | succ n ih =>
      intro hn
      have hlt : n < l.length := by omega
      show bsum (bd l) n + (bd l n).size + 6 = _
      have q : bd l n = l[n].body := congrArg Nd.body (getD_at l n hlt)
      rw [ih (by omega), List.take_add_one, wts, wts, List.map_append, List.sum_append, List.getElem?_eq_getElem hlt, q]
      simp
      omega
  have := key l.length (Nat.le_refl _)
  rwa [List.take_length] at this
theorem wts_app (a b : List Nd) : wts (a ++ b) = wts a + wts b := by simp [wts]
theorem wts_kN (k : Ky) (h1 : k.1.size ≤ 65536) (h2 : k.2.1.size ≤ 65536) : wts (kN k) ≤ 131097 := by
  have e : kN k = [nSeq 2, nOct 3 k.1] ++ (kR k.2.1 ++ kV k.2.2) := rfl
  have a1 : wts (kR k.2.1) ≤ 65542 := by
    unfold kR
    split
    · simp [wts]
    · simp [wts]; omega
  have a2 : wts (kV k.2.2) ≤ 7 := by
    unfold kV
    split
    · exact Nat.le_of_eq rfl
    · simp [wts]
  have a3 : wts [nSeq 2, nOct 3 k.1] = 0 + 6 + (k.1.size + 6) := rfl
  rw [e, wts_app, wts_app, a3]
  omega
theorem wts_kNs : ∀ (l : List Ky), (∀ k ∈ l, k.1.size ≤ 65536 ∧ k.2.1.size ≤ 65536) → wts (kNs l) ≤ 6 + 131097 * l.length := by
  have key : ∀ (l : List Ky), (∀ k ∈ l, k.1.size ≤ 65536 ∧ k.2.1.size ≤ 65536) → wts (l.flatMap kN) ≤ 131097 * l.length := by
    intro l
    induction l with
    | nil => intro _; simp [wts]
    | cons k l ih =>
      intro h
      rw [List.flatMap_cons, wts_app, List.length_cons]
      have h1 := wts_kN k (h k (List.mem_cons_self ..)).1 (h k (List.mem_cons_self ..)).2
      have h2 := ih (fun x hx => h x (List.mem_cons_of_mem _ hx))
      omega
  intro l h
  have e : kNs l = [nSeq 1] ++ l.flatMap kN := rfl
  have a3 : wts [nSeq 1] = 6 := rfl
  rw [e, wts_app, a3]
  have := key l h
  omega
end Vr
end Go.Proofs.YtkiidlnimjjnlaaDoor

namespace Go.Proofs.YtkiidlnimjjnlaaDoor
namespace Vr
open Go.RowKit
set_option linter.unusedVariables false

/-- The bytes are what Write writes of a list of nodes. -/
def Wrt (X : ByteArray) (l : List Nd) : Prop := WrE (.returned (.tuple #[.string X, .int .i64 0, .int .i64 0])) l.length (dp l) (cl l) (tg l) (md l) (bd l)
theorem wrt_ok {e : Ending} {r : List Nd} (hr : chn (nSeq 1) r) (hE : WrE e (nSeq 1 :: r).length (dp (nSeq 1 :: r)) (cl (nSeq 1 :: r)) (tg (nSeq 1 :: r)) (md (nSeq 1 :: r)) (bd (nSeq 1 :: r))) : ∃ X, e = .returned (.tuple #[.string X, .int .i64 0, .int .i64 0]) ∧ Wrt X (nSeq 1 :: r) := by
  have hE0 := hE
  rcases hE with ⟨hgood, H, σ, rfl, hI, _⟩ | ⟨cc, qq, hc0, hck, rfl⟩
  · exact ⟨_, rfl, hE0⟩
  · exfalso
    have hG := good_of r 0 hr
    have hfit := (fit_iff _ _ _ _ _ _).2 hG
    rcases hck with ⟨_, _, h3, _⟩ | ⟨h1, _⟩ | ⟨i, hi, _, _, ⟨h4, _⟩ | ⟨_, h5, _⟩⟩
    · exact hc0 h3
    · simp at h1
    · exact h4 (hfit i hi).1
    · exact h5 (hfit i hi).2
set_option maxRecDepth 100000 in
set_option maxHeartbeats 1000000 in
theorem written_any (r : List Nd) (a : Option Addr) (c : Nat) (w : World) (hw : NdRow w a (nSeq 1 :: r)) (hr : chn (nSeq 1) r) (hs : wts (nSeq 1 :: r) ≤ 67108864) :
    Calls Tryd.prog 24 #[.slice a (nSeq 1 :: r).length c] w fun e w' => (∃ X, e = .returned (.tuple #[.string X, .int .i64 0]) ∧ Wrt X (nSeq 1 :: r)) ∧ Below w.heap.size w w' := by
  have HW : Hid (Calls Tryd.prog 41 #[.slice a (nSeq 1 :: r).length c] w fun e w' => (∃ X, e = .returned (.tuple #[.string X, .int .i64 0, .int .i64 0]) ∧ Wrt X (nSeq 1 :: r)) ∧ Below w.heap.size w w') := by
    refine (write_any a (nSeq 1 :: r).length c _ _ _ _ _ w (isN_of hw) (by rw [bsum_list]; exact hs)).mono ?_
    rintro e w' ⟨hE, hb⟩
    exact ⟨wrt_ok hr hE, hb⟩
  generalize (nSeq 1 :: r).length = n at HW ⊢
  clear hw hs hr
  go_enter Tryd.func24, Tryd.ntmps24
  go_wp2_with fail
  refine HW.out.mono ?_
  rintro e w1 ⟨⟨X, rfl, hX⟩, hb⟩
  have hX' : Hid (Wrt X (nSeq 1 :: r)) := hX
  clear hX HW
  go_wp2_with fail
  go_ret2
  exact ⟨⟨X, rfl, hX'.out⟩, hb⟩
end Vr
end Go.Proofs.YtkiidlnimjjnlaaDoor

namespace Go.Proofs.YtkiidlnimjjnlaaDoor
namespace Vr
open Go.RowKit
set_option linter.unusedVariables false

/-- A reader: its block, and the nodes that it has still to take. -/
def Rdr (w : World) (g : Nat) (l : List Nd) : Prop := ∃ a c, Box w g 78 #[.slice a l.length c] ∧ NdRow w a l ∧ l.length ≤ c ∧ ∀ p, a = some p → p.block < g
theorem ownN_cap {w : World} {B : Nat} {a : Option Addr} {n c : Nat} {l : List Nd} (h : OwnN w B (.slice a n c) l) : l.length ≤ c := by
  rcases h with ⟨h1, ⟨h2, h3⟩ | ⟨g, cap, cur, h2, h3, h4, h5, _⟩⟩
  · injection h2 with _ _ h2
    omega
  · injection h2 with _ _ h2
    omega
theorem ownN_lt {w : World} {B : Nat} {p : Addr} {n c : Nat} {l : List Nd} (h : OwnN w B (.slice (some p) n c) l) : p.block < w.heap.size := by
  rcases h with ⟨h1, ⟨h2, _⟩ | ⟨g, cap, cur, h2, h3, h4, h5⟩⟩
  · cases h2
  · injection h2 with h2 _ _
    injection h2 with h2
    subst h2
    exact (Array.getElem?_eq_some_iff.1 h4).1
set_option maxRecDepth 100000 in
set_option maxHeartbeats 1000000 in
theorem atEnd_any (g : Nat) (l : List Nd) (w : World) (h : Rdr w g l) :
    Calls Tryd.prog 30 #[.pointer (some ⟨g, 0, none⟩)] w fun r w' => r = .returned (.bool (decide (l = []))) ∧ w' = w := by
  obtain ⟨a, c, hb, hrow, hc, hne⟩ := h
  have c0 := (hb.cell 0 (by simp)).1
  have e : decide (l = []) = ((l.length : Int) == 0) := by
    cases l <;> simp
    omega
  rw [e]
  clear e hb hrow hc hne
  go_enter Tryd.func30, Tryd.ntmps30
  go_wp2_with fail
  go_ret
  exact ⟨rfl, rfl⟩
set_option maxRecDepth 100000 in
set_option maxHeartbeats 1000000 in
theorem readerOf_any (s : ByteArray) (w : World) (l : List Nd) (hT : ∀ W, Calls Tryd.prog 43 #[.string s] W fun r w' => (∃ v q1 q2, r = .returned (.tuple #[v, .int .i64 q1, .int .i64 q2]) ∧ OwnN w' W.heap.size v l) ∧ Below W.heap.size W w') :
    Calls Tryd.prog 28 #[.string s] w fun r w' => (∃ g, r = .returned (.pointer (some ⟨g, 0, none⟩)) ∧ w.heap.size ≤ g ∧ Rdr w' g l) ∧ Below w.heap.size w w' := by
  have hT' : Hid (Calls Tryd.prog 43 #[.string s] w fun r w' => (∃ v q1 q2, r = .returned (.tuple #[v, .int .i64 q1, .int .i64 q2]) ∧ OwnN w' w.heap.size v l) ∧ Below w.heap.size w w') := hT w
  clear hT
  go_enter Tryd.func28, Tryd.ntmps28
  go_wp2_with fail
  refine hT'.out.mono ?_
  rintro r w1 ⟨⟨v, q1, q2, rfl, hov⟩, hb⟩
  obtain ⟨a, c, rfl, hrow⟩ := ownN_any hov
  clear hT'
  go_wp2_with fail
  go_ret
  refine ⟨⟨w1.heap.size, rfl, hb.size, a, c, Box.new _ _ _, hrow.below ((Below.refl _ _).alloc (Nat.le_refl _) _), ownN_cap hov, fun p hp => ?_⟩, hb.alloc hb.size _⟩
  subst hp
  exact ownN_lt hov
/-- The node has the form. -/
def frm (f e : Nd) : Bool := decide (e.dep = f.dep) && decide (e.cls = f.cls) && (e.made == f.made) && decide (e.tag = f.tag)
theorem ne_frm (f e : Nd) (W : World) :
    (binOp .neq 38 (.agg #[.int .i64 e.dep, .int .i64 e.cls, .bool e.made, .int .i64 e.tag, .string e.body]) (.agg #[.int .i64 f.dep, .int .i64 f.cls, .bool f.made, .int .i64 f.tag, .string e.body])).run Tryd.prog W = .ok (.bool (!(frm f e))) W := by
  have hS : Tryd.prog.underlying 38 = some (.struct (Tryd.prog.fieldsOf 38)) := by kernel_rfl
  have hp : Tryd.prog.stoodInHeld 38 = false := by kernel_rfl
  rw [run_neq_struct, run_equalIn_struct _ _ _ _ _ hS hp]
  simp only [Program.fieldsOf, Tryd.underlying38]
  unfold frm
  by_cases h1 : e.dep = f.dep <;> by_cases h2 : e.cls = f.cls <;> by_cases h3 : e.made = f.made <;> by_cases h4 : e.tag = f.tag <;> simp [Op.eqFields, go_sem, h1, h2, h3, h4]
theorem Rdr.below {w w' : World} {g : Nat} {l : List Nd} (h : Rdr w g l) (hb : Below w.heap.size w w') : Rdr w' g l := by
  obtain ⟨a, c, h1, h2, h3, h4⟩ := h
  exact ⟨a, c, h1.below hb, h2.below hb, h3, h4⟩
/-- What is written behind the reader is no matter to it. -/
theorem Rdr.far {w : World} {g : Nat} {l : List Nd} (h : Rdr w g l) (q j : Nat) (v : Value) (hq : g < q) : Rdr (w.setCell ⟨q, j, none⟩ v) g l := by
  obtain ⟨a, c, h1, h2, h3, h4⟩ := h
  refine ⟨a, c, h1.of (Below.heap_setCell _ _ _ _ (show g ≠ q by omega)), fun i hi => ?_, h3, h4⟩
  obtain ⟨b, off, e, x0, x1, x2, x3, x4⟩ := h2 i hi
  have hb : b < g := h4 _ e
  have far : ∀ k, (w.setCell ⟨q, j, none⟩ v).cell? ⟨b, k, none⟩ = w.cell? ⟨b, k, none⟩ := fun k => World.cell?_setCell_far _ _ _ _ (fun h => by have : q = b := h; omega)
  exact ⟨b, off, e, (far _).trans x0, (far _).trans x1, (far _).trans x2, (far _).trans x3, (far _).trans x4⟩
theorem rdr_more {w : World} {g b off n c : Nat} {e : Nd} {l : List Nd} (hb : Box w g 78 #[.slice (some ⟨b, off, none⟩) (e :: l).length c]) (hrow : NdRow w (some ⟨b, off, none⟩) (e :: l)) (hn : (e :: l).length = n) (hc : n ≤ c) (hne : b < g) : Rdr (w.setCell ⟨g, 0, none⟩ (.slice (some ⟨b, off + 5, none⟩) (n - 1) (c - 1))) g l := by
  subst hn
  refine ⟨some ⟨b, off + 5, none⟩, c - 1, hb.set 0 _, fun i hi => ?_, by simp at hc; omega, fun p hp => by injection hp with hp; subst hp; exact hne⟩
  obtain ⟨b', off', e1, x0, x1, x2, x3, x4⟩ := hrow (i + 1) (by simpa using hi)
  injection e1 with e1
  injection e1 with e1 e2
  subst e1 e2
  have far : ∀ k, (w.setCell ⟨g, 0, none⟩ (.slice (some ⟨b, off + 5, none⟩) ((e :: l).length - 1) (c - 1))).cell? ⟨b, k, none⟩ = w.cell? ⟨b, k, none⟩ := fun k => World.cell?_setCell_far _ _ _ _ (fun h => Nat.ne_of_lt hne h.symm)
  have q : off + (i + 1) * 5 = off + 5 + i * 5 := by omega
  rw [q] at x0 x1 x2 x3 x4
  exact ⟨b, off + 5, rfl, (far _).trans x0, (far _).trans x1, (far _).trans x2, (far _).trans x3, (far _).trans x4⟩
theorem rdr_last {w : World} {g b off n c : Nat} {e : Nd} {l : List Nd} (hb : Box w g 78 #[.slice (some ⟨b, off, none⟩) (e :: l).length c]) (hn : (e :: l).length = n) (hc : n ≤ 1) (hne : b < g) : Rdr (w.setCell ⟨g, 0, none⟩ (.slice (some ⟨b, off, none⟩) (n - 1) 0)) g l := by
  subst hn
  have h0 : l = [] := by
    cases l with
    | nil => rfl
    | cons x l => simp at hc
  subst h0
  exact ⟨some ⟨b, off, none⟩, 0, hb.set 0 _, fun i hi => by simp at hi, Nat.zero_le _, fun p hp => by injection hp with hp; subst hp; exact hne⟩
set_option maxRecDepth 100000 in
set_option maxHeartbeats 1000000 in
theorem take_none (g : Nat) (f : Nd) (w : World) (h : Rdr w g []) :
    Calls Tryd.prog 29 #[.pointer (some ⟨g, 0, none⟩), ndA f] w fun r w' => r = .returned (.tuple #[.string ⟨#[]⟩, .bool false]) ∧ Below w.heap.size w w' := by
  obtain ⟨Wf, hWf⟩ : ∃ W, w.alloc (.cells #[.int .i64 f.dep, .int .i64 f.cls, .bool f.made, .int .i64 f.tag, .string f.body] 38) = W := ⟨_, rfl⟩
  have hB : Hid (Below w.heap.size w Wf) := by rw [← hWf]; exact (Below.refl _ _).alloc (Nat.le_refl _) _
  have hE : Hid (Calls Tryd.prog 30 #[.pointer (some ⟨g, 0, none⟩)] Wf fun r w' => r = .returned (.bool true) ∧ w' = Wf) := atEnd_any g [] Wf (h.below hB.out)
  clear h
  go_enter Tryd.func29, Tryd.ntmps29
  go_wp2_with fail
  refine hE.out.mono ?_
  rintro r w1 ⟨rfl, rfl⟩
  go_wp2_with fail
  go_ret2
  exact ⟨rfl, hB.out⟩
set_option maxRecDepth 100000 in
set_option maxHeartbeats 1000000 in
theorem take_other (g : Nat) (f e : Nd) (l : List Nd) (w : World) (h : Rdr w g (e :: l)) (hf : frm f e = false) :
    Calls Tryd.prog 29 #[.pointer (some ⟨g, 0, none⟩), ndA f] w fun r w' => r = .returned (.tuple #[.string ⟨#[]⟩, .bool false]) ∧ Below w.heap.size w w' := by
  obtain ⟨Wf, hWf⟩ : ∃ W, w.alloc (.cells #[.int .i64 f.dep, .int .i64 f.cls, .bool f.made, .int .i64 f.tag, .string f.body] 38) = W := ⟨_, rfl⟩
  have hB : Hid (Below w.heap.size w Wf) := by rw [← hWf]; exact (Below.refl _ _).alloc (Nat.le_refl _) _
  have hQ : Box Wf w.heap.size 38 #[.int .i64 f.dep, .int .i64 f.cls, .bool f.made, .int .i64 f.tag, .string f.body] := by rw [← hWf]; exact Box.new _ _ _
  obtain ⟨Wn, hWn⟩ : ∃ W, Wf.alloc (.cells #[.int .i64 e.dep, .int .i64 e.cls, .bool e.made, .int .i64 e.tag, .string e.body] 38) = W := ⟨_, rfl⟩
  have hBn : Below Wf.heap.size Wf Wn := by rw [← hWn]; exact (Below.refl _ _).alloc (Nat.le_refl _) _
  have hQn : Box Wn Wf.heap.size 38 #[.int .i64 e.dep, .int .i64 e.cls, .bool e.made, .int .i64 e.tag, .string e.body] := by rw [← hWn]; exact Box.new _ _ _
  have HB : Hid (Below w.heap.size w Wn) := hB.out.trans (hBn.mono hB.out.size)
  have hK : Hid (∀ w', Below Wn.heap.size Wn w' → w'.cell? ⟨w.heap.size, 0, none⟩ = some (.int .i64 f.dep) ∧ w'.cell? ⟨w.heap.size, 1, none⟩ = some (.int .i64 f.cls) ∧ w'.cell? ⟨w.heap.size, 2, none⟩ = some (.bool f.made) ∧ w'.cell? ⟨w.heap.size, 3, none⟩ = some (.int .i64 f.tag) ∧ w'.cell? ⟨w.heap.size, 4, none⟩ = some (.string f.body) ∧ w'.cell? ⟨Wf.heap.size, 0, none⟩ = some (.int .i64 e.dep) ∧ w'.cell? ⟨Wf.heap.size, 1, none⟩ = some (.int .i64 e.cls) ∧ w'.cell? ⟨Wf.heap.size, 2, none⟩ = some (.bool e.made) ∧ w'.cell? ⟨Wf.heap.size, 3, none⟩ = some (.int .i64 e.tag) ∧ w'.cell? ⟨Wf.heap.size, 4, none⟩ = some (.string e.body)) := fun W hb => by
    have p := (hQ.below hBn).below hb
    have q := hQn.below hb
    exact ⟨(p.cell 0 (by simp)).1, (p.cell 1 (by simp)).1, (p.cell 2 (by simp)).1, (p.cell 3 (by simp)).1, (p.cell 4 (by simp)).1, (q.cell 0 (by simp)).1, (q.cell 1 (by simp)).1, (q.cell 2 (by simp)).1, (q.cell 3 (by simp)).1, (q.cell 4 (by simp)).1⟩
  have h := h.below hB.out
  have hE : Hid (Calls Tryd.prog 30 #[.pointer (some ⟨g, 0, none⟩)] Wf fun r w' => r = .returned (.bool false) ∧ w' = Wf) := atEnd_any g (e :: l) Wf h
  have hF : Hid (∀ W, Calls Tryd.prog 20 #[.agg #[.int .i64 f.dep, .int .i64 f.cls, .bool f.made, .int .i64 f.tag, .string f.body], .string e.body] W fun r w' => r = .returned (.agg #[.int .i64 f.dep, .int .i64 f.cls, .bool f.made, .int .i64 f.tag, .string e.body]) ∧ Below W.heap.size W w') := fun W => filled_any f e.body W
  have hN : ∀ W, (binOp .neq 38 (.agg #[.int .i64 e.dep, .int .i64 e.cls, .bool e.made, .int .i64 e.tag, .string e.body]) (.agg #[.int .i64 f.dep, .int .i64 f.cls, .bool f.made, .int .i64 f.tag, .string e.body])).run Tryd.prog W = .ok (.bool true) W := fun W => by rw [ne_frm, hf]; rfl
  obtain ⟨a, c, hb, hrow, hc, hne⟩ := h
  have c0 : Wf.cell? ⟨g, 0, none⟩ = some (.slice a (e :: l).length c) := (hb.cell 0 (by simp)).1
  obtain ⟨b, off, rfl, x0, x1, x2, x3, x4⟩ := hrow 0 (by simp)
  simp only [Nat.zero_mul, Nat.add_zero, List.getElem_cons_zero] at x0 x1 x2 x3 x4
  have hl : (0 : Int) < ((e :: l).length : Int) := by simp
  obtain ⟨n, hn⟩ : ∃ n, (e :: l).length = n := ⟨_, rfl⟩
  rw [hn] at c0 hl
  clear hb hrow hc hne hn hf hQ hQn hBn
  go_enter Tryd.func29, Tryd.ntmps29
  go_wp2_with fail
  refine hE.out.mono ?_
  rintro r w1 ⟨rfl, rfl⟩
  clear hE
  go_wp2_with fail
  have bN := Below.refl Wn.heap.size Wn
  obtain ⟨y0, y1, y2, y3, y4, z0, z1, z2, z3, z4⟩ := hK.out Wn bN
  clear x0 x1 x2 x3 x4
  go_region_held3 (fun w' => (w'.cell? ⟨w.heap.size, 0, none⟩ = some (.int .i64 f.dep) ∧ w'.cell? ⟨w.heap.size, 1, none⟩ = some (.int .i64 f.cls) ∧ w'.cell? ⟨w.heap.size, 2, none⟩ = some (.bool f.made) ∧ w'.cell? ⟨w.heap.size, 3, none⟩ = some (.int .i64 f.tag) ∧ w'.cell? ⟨w.heap.size, 4, none⟩ = some (.string f.body) ∧ w'.cell? ⟨w1.heap.size, 0, none⟩ = some (.int .i64 e.dep) ∧ w'.cell? ⟨w1.heap.size, 1, none⟩ = some (.int .i64 e.cls) ∧ w'.cell? ⟨w1.heap.size, 2, none⟩ = some (.bool e.made) ∧ w'.cell? ⟨w1.heap.size, 3, none⟩ = some (.int .i64 e.tag) ∧ w'.cell? ⟨w1.heap.size, 4, none⟩ = some (.string e.body)) ∧ Below Wn.heap.size Wn w')
    (first
      | exact ⟨hK.out _ bN.drew, bN.drew⟩
      | exact ⟨hK.out _ HB1, HB1⟩)
    (first
      | (go_at_call 20; refine (hF.out _).mono ?_; rintro e w2 ⟨rfl, hw2⟩; have HB1 : Below Wn.heap.size Wn w2 := (bN.drew).trans (hw2.mono (by first | exact Nat.le_refl _ | exact (bN.drew).size)); clear hw2))
  have oB : Hid (Below w.heap.size w w2) := HB.out.trans (HB1.mono HB.out.size)
  clear hF hK HB hB HB1 bN y0 y1 y2 y3 y4 z0 z1 z2 z3 z4 hN
  go_wp2_with fail
  go_ret2
  exact ⟨rfl, oB.out⟩
set_option maxRecDepth 100000 in
set_option maxHeartbeats 1000000 in
theorem take_yes (g : Nat) (f e : Nd) (l : List Nd) (w : World) (h : Rdr w g (e :: l)) (hf : frm f e = true) :
    Calls Tryd.prog 29 #[.pointer (some ⟨g, 0, none⟩), ndA f] w fun r w' => r = .returned (.tuple #[.string e.body, .bool true]) ∧ Rdr w' g l ∧ Ch (fun k => k = g) w w' := by
  obtain ⟨Wf, hWf⟩ : ∃ W, w.alloc (.cells #[.int .i64 f.dep, .int .i64 f.cls, .bool f.made, .int .i64 f.tag, .string f.body] 38) = W := ⟨_, rfl⟩
  have hB : Hid (Below w.heap.size w Wf) := by rw [← hWf]; exact (Below.refl _ _).alloc (Nat.le_refl _) _
  have hQ : Box Wf w.heap.size 38 #[.int .i64 f.dep, .int .i64 f.cls, .bool f.made, .int .i64 f.tag, .string f.body] := by rw [← hWf]; exact Box.new _ _ _
  obtain ⟨Wn, hWn⟩ : ∃ W, Wf.alloc (.cells #[.int .i64 e.dep, .int .i64 e.cls, .bool e.made, .int .i64 e.tag, .string e.body] 38) = W := ⟨_, rfl⟩
  have hBn : Below Wf.heap.size Wf Wn := by rw [← hWn]; exact (Below.refl _ _).alloc (Nat.le_refl _) _
  have hQn : Box Wn Wf.heap.size 38 #[.int .i64 e.dep, .int .i64 e.cls, .bool e.made, .int .i64 e.tag, .string e.body] := by rw [← hWn]; exact Box.new _ _ _
  have HB : Hid (Below w.heap.size w Wn) := hB.out.trans (hBn.mono hB.out.size)
  have hK : Hid (∀ w', Below Wn.heap.size Wn w' → w'.cell? ⟨w.heap.size, 0, none⟩ = some (.int .i64 f.dep) ∧ w'.cell? ⟨w.heap.size, 1, none⟩ = some (.int .i64 f.cls) ∧ w'.cell? ⟨w.heap.size, 2, none⟩ = some (.bool f.made) ∧ w'.cell? ⟨w.heap.size, 3, none⟩ = some (.int .i64 f.tag) ∧ w'.cell? ⟨w.heap.size, 4, none⟩ = some (.string f.body) ∧ w'.cell? ⟨Wf.heap.size, 0, none⟩ = some (.int .i64 e.dep) ∧ w'.cell? ⟨Wf.heap.size, 1, none⟩ = some (.int .i64 e.cls) ∧ w'.cell? ⟨Wf.heap.size, 2, none⟩ = some (.bool e.made) ∧ w'.cell? ⟨Wf.heap.size, 3, none⟩ = some (.int .i64 e.tag) ∧ w'.cell? ⟨Wf.heap.size, 4, none⟩ = some (.string e.body)) := fun W hb => by
    have p := (hQ.below hBn).below hb
    have q := hQn.below hb
    exact ⟨(p.cell 0 (by simp)).1, (p.cell 1 (by simp)).1, (p.cell 2 (by simp)).1, (p.cell 3 (by simp)).1, (p.cell 4 (by simp)).1, (q.cell 0 (by simp)).1, (q.cell 1 (by simp)).1, (q.cell 2 (by simp)).1, (q.cell 3 (by simp)).1, (q.cell 4 (by simp)).1⟩
  have h := h.below hB.out
  have hE : Hid (Calls Tryd.prog 30 #[.pointer (some ⟨g, 0, none⟩)] Wf fun r w' => r = .returned (.bool false) ∧ w' = Wf) := atEnd_any g (e :: l) Wf h
  have hF : Hid (∀ W, Calls Tryd.prog 20 #[.agg #[.int .i64 f.dep, .int .i64 f.cls, .bool f.made, .int .i64 f.tag, .string f.body], .string e.body] W fun r w' => r = .returned (.agg #[.int .i64 f.dep, .int .i64 f.cls, .bool f.made, .int .i64 f.tag, .string e.body]) ∧ Below W.heap.size W w') := fun W => filled_any f e.body W
  have hN : ∀ W, (binOp .neq 38 (.agg #[.int .i64 e.dep, .int .i64 e.cls, .bool e.made, .int .i64 e.tag, .string e.body]) (.agg #[.int .i64 f.dep, .int .i64 f.cls, .bool f.made, .int .i64 f.tag, .string e.body])).run Tryd.prog W = .ok (.bool false) W := fun W => by rw [ne_frm, hf]; rfl
  obtain ⟨a, c, hb, hrow, hc, hne⟩ := h
  have c0 : Wf.cell? ⟨g, 0, none⟩ = some (.slice a (e :: l).length c) := (hb.cell 0 (by simp)).1
  obtain ⟨b, off, rfl, x0, x1, x2, x3, x4⟩ := hrow 0 (by simp)
  simp only [Nat.zero_mul, Nat.add_zero, List.getElem_cons_zero] at x0 x1 x2 x3 x4
  have hl : (0 : Int) < ((e :: l).length : Int) := by simp
  have hgl : Hid (g < Wf.heap.size) := hb.lt
  have H : Hid (Box Wf g 78 #[.slice (some ⟨b, off, none⟩) (e :: l).length c] ∧ NdRow Wf (some ⟨b, off, none⟩) (e :: l) ∧ (e :: l).length ≤ c ∧ b < g) := ⟨hb, hrow, hc, hne _ rfl⟩
  have hBn' : Hid (Below Wf.heap.size Wf Wn) := hBn
  obtain ⟨n, hn⟩ : ∃ n, (e :: l).length = n := ⟨_, rfl⟩
  have hn' : Hid ((e :: l).length = n) := hn
  rw [hn] at c0 hl
  clear hb hrow hc hne hn hf hQ hQn hBn
  go_enter Tryd.func29, Tryd.ntmps29
  go_wp2_with fail
  refine hE.out.mono ?_
  rintro r w1 ⟨rfl, rfl⟩
  clear hE
  go_wp2_with fail
  have bN := Below.refl Wn.heap.size Wn
  obtain ⟨y0, y1, y2, y3, y4, z0, z1, z2, z3, z4⟩ := hK.out Wn bN
  clear x0 x1 x2 x3 x4
  go_region_held3 (fun w' => (w'.cell? ⟨w.heap.size, 0, none⟩ = some (.int .i64 f.dep) ∧ w'.cell? ⟨w.heap.size, 1, none⟩ = some (.int .i64 f.cls) ∧ w'.cell? ⟨w.heap.size, 2, none⟩ = some (.bool f.made) ∧ w'.cell? ⟨w.heap.size, 3, none⟩ = some (.int .i64 f.tag) ∧ w'.cell? ⟨w.heap.size, 4, none⟩ = some (.string f.body) ∧ w'.cell? ⟨w1.heap.size, 0, none⟩ = some (.int .i64 e.dep) ∧ w'.cell? ⟨w1.heap.size, 1, none⟩ = some (.int .i64 e.cls) ∧ w'.cell? ⟨w1.heap.size, 2, none⟩ = some (.bool e.made) ∧ w'.cell? ⟨w1.heap.size, 3, none⟩ = some (.int .i64 e.tag) ∧ w'.cell? ⟨w1.heap.size, 4, none⟩ = some (.string e.body)) ∧ Below Wn.heap.size Wn w')
    (first
      | exact ⟨hK.out _ bN.drew, bN.drew⟩
      | exact ⟨hK.out _ HB1, HB1⟩)
    (first
      | (go_at_call 20; refine (hF.out _).mono ?_; rintro e w2 ⟨rfl, hw2⟩; have HB1 : Below Wn.heap.size Wn w2 := (bN.drew).trans (hw2.mono (by first | exact Nat.le_refl _ | exact (bN.drew).size)); clear hw2))
  have oB : Hid (Below w1.heap.size w1 w2) := hBn'.out.trans (HB1.mono hBn'.out.size)
  have c2 : w2.cell? ⟨g, 0, none⟩ = some (.slice (some ⟨b, off, none⟩) n c) := (oB.out.cell hgl.out).trans c0
  have b2 := H.out.1.below oB.out
  have u2 : w2.frozen? ⟨g, 0, none⟩ = false := (b2.cell 0 (by simp)).2
  have v4 : w2.cell? ⟨w1.heap.size, 4, none⟩ = some (.string e.body) := (hK.out w2 HB1).2.2.2.2.2.2.2.2.2
  have n1 : 1 ≤ n := by omega
  have n2 : (1 : Int) ≤ (n : Int) := by omega
  have n3 : n ≤ c := by have := H.out.2.2.1; have := hn'.out; omega
  have n4 : (n : Int) ≤ (c : Int) := by omega
  have fM : Hid (Rdr (w2.setCell ⟨g, 0, none⟩ (.slice (some ⟨b, off + 5, none⟩) (n - 1) (c - 1))) g l) := rdr_more b2 (H.out.2.1.below oB.out) hn'.out n3 H.out.2.2.2
  have fL : Hid (n ≤ 1 → Rdr (w2.setCell ⟨g, 0, none⟩ (.slice (some ⟨b, off, none⟩) (n - 1) 0)) g l) := fun h => rdr_last b2 hn'.out h H.out.2.2.2
  have fC : Hid (∀ v, Ch (fun k => k = g) w (w2.setCell ⟨g, 0, none⟩ v)) := fun v => (Ch.of_below (hB.out.trans (oB.out.mono hB.out.size))).trans (Ch.set _ _ _ rfl)
  clear hF hK HB HB1 bN y0 y1 y2 y3 y4 z0 z1 z2 z3 z4 hN b2 c0
  go_wp2_with fail
  · go_ret2
    exact ⟨rfl, fL.out (by omega), fC.out _⟩
  · go_ret2
    exact ⟨rfl, fM.out, fC.out _⟩
end Vr
end Go.Proofs.YtkiidlnimjjnlaaDoor

namespace Go.Proofs.YtkiidlnimjjnlaaDoor
namespace Vr
open Go.RowKit
set_option linter.unusedVariables false
set_option maxRecDepth 100000

theorem drewN_below (W : World) (B q : Nat) : Below B W (W.drewN q) := ⟨rfl, rfl, rfl, Nat.le_refl _, fun _ _ => rfl⟩
theorem add_o (b o j : Nat) : (⟨b, o, none⟩ : Addr).add j = ⟨b, o + j, none⟩ := by
  unfold Addr.add
  by_cases h : j = 0
  · subst h; rfl
  · simp [h]
theorem owns_same {w w' : World} {B k n : Nat} {e : TypeId} {v : Value} {xs : List Value} (h : w.ownsRow B e k v n xs) (hb : ∀ g, v.ownBlock = some g → w'.heap[g]? = w.heap[g]?) : w'.ownsRow B e k v n xs := by
  rcases h with ⟨h1, ⟨rfl, h2⟩ | ⟨g, cap, cur, rfl, h3, h4, h5⟩⟩
  · exact ⟨h1, Or.inl ⟨rfl, h2⟩⟩
  · exact ⟨h1, Or.inr ⟨g, cap, cur, rfl, h3, by rw [hb g rfl]; exact h4, h5⟩⟩
theorem owns_base {w : World} {B B' k n : Nat} {e : TypeId} {v : Value} {xs : List Value} (h : w.ownsRow B e k v n xs) (hb : B' ≤ B) : w.ownsRow B' e k v n xs := by
  rcases h with ⟨h1, ⟨rfl, h2⟩ | ⟨g, cap, cur, rfl, h3, h4, h5⟩⟩
  · exact ⟨h1, Or.inl ⟨rfl, h2⟩⟩
  · exact ⟨h1, Or.inr ⟨g, cap, cur, rfl, Nat.le_trans hb h3, h4, h5⟩⟩
theorem owns_form {w : World} {B k n : Nat} {e : TypeId} {v : Value} {xs : List Value} (h : w.ownsRow B e k v n xs) : (v = .slice none 0 0 ∧ n = 0) ∨ (∃ g cap, v = .slice (some ⟨g, 0, none⟩) n cap ∧ n ≤ cap ∧ cap ≤ maxLen ∧ B ≤ g ∧ g < w.heap.size) := by
  rcases h with ⟨h1, ⟨rfl, h2⟩ | ⟨g, cap, cur, rfl, h3, h4, h5, h6, _⟩⟩
  · exact Or.inl ⟨rfl, h2⟩
  · exact Or.inr ⟨g, cap, rfl, h5, h6, h3, (Array.getElem?_eq_some_iff.1 h4).1⟩
theorem owns_apart {w : World} {B B' k k' n n' : Nat} {e e' : TypeId} {v v' : Value} {xs xs' : List Value} (h : w.ownsRow B e k v n xs) (h' : w.ownsRow B' e' k' v' n' xs') (hne : e ≠ e') {g : Nat} (hg : v.ownBlock = some g) : v'.ownBlock ≠ some g := fun hg' => by
  rcases h with ⟨h1, ⟨rfl, h2⟩ | ⟨g1, cap, cur, rfl, h3, h4, h5, _⟩⟩
  · cases hg
  · injection hg with hg
    subst hg
    rcases h' with ⟨k1, ⟨rfl, k2⟩ | ⟨g2, cap2, cur2, rfl, k3, k4, k5, _⟩⟩
    · cases hg'
    · injection hg' with hg'
      subst hg'
      rw [h4] at k4
      injection k4 with k4
      injection k4 with _ k4 _
      exact hne k4
theorem flatV_len {α : Type} (V : α → List Value) (k : Nat) (hk : ∀ x, (V x).length = k) (l : List α) : (l.flatMap V).length = l.length * k := by
  induction l with
  | nil => simp
  | cons x l ih =>
    rw [List.flatMap_cons, List.length_append, ih, hk, List.length_cons, Nat.succ_mul]
    omega
theorem flatV_at {α : Type} (V : α → List Value) (k : Nat) (hk : ∀ x, (V x).length = k) (l : List α) (i : Nat) (hi : i < l.length) (j : Nat) (hj : j < k) : (l.flatMap V)[i * k + j]? = (V l[i])[j]? := by
  induction l generalizing i with
  | nil => simp at hi
  | cons x l ih =>
    rw [List.flatMap_cons]
    cases i with
    | zero =>
      rw [List.getElem?_append_left (by rw [hk]; omega)]
      simp
    | succ i =>
      have e : (i + 1) * k + j = (V x).length + (i * k + j) := by rw [hk, Nat.succ_mul]; omega
      rw [e, List.getElem?_append_right (by omega), Nat.add_sub_cancel_left, ih i (by simpa using hi)]
      rfl
/-- A row of structs, wherever it lies. -/
def GRow {α : Type} (k : Nat) (V : α → List Value) (w : World) (a : Option Addr) (l : List α) : Prop := ∀ i (h : i < l.length), ∃ b off, a = some ⟨b, off, none⟩ ∧ ∀ j, j < k → w.cell? ⟨b, off + i * k + j, none⟩ = (V l[i])[j]?
theorem GRow.below {α : Type} {k : Nat} {V : α → List Value} (hV : ∀ x, (V x).length = k) {w w' : World} {a : Option Addr} {l : List α} (h : GRow k V w a l) (hb : Below w.heap.size w w') : GRow k V w' a l := fun i hi => by
  obtain ⟨b, off, e, h1⟩ := h i hi
  refine ⟨b, off, e, fun j hj => ?_⟩
  have h2 := h1 j hj
  rw [hb.cell, h2]
  rw [List.getElem?_eq_getElem (by rw [hV]; exact hj)] at h2
  exact World.block_lt_of_cell? w _ h2
theorem GRow.nil {α : Type} (k : Nat) (V : α → List Value) (w : World) (a : Option Addr) : GRow k V w a [] := fun i hi => by simp at hi
theorem GRow.front {α : Type} {k : Nat} {V : α → List Value} {w : World} {a : Option Addr} {l m : List α} (h : GRow k V w a (l ++ m)) : GRow k V w a l := fun i hi => by
  have h1 := h i (by rw [List.length_append]; omega)
  rw [List.getElem_append_left hi] at h1
  exact h1
/-- One struct that has just been laid. -/
theorem GRow.one {α : Type} {k : Nat} (V : α → List Value) (w : World) (t : TypeId) (p : α) : GRow k V (w.alloc (.cells (V p).toArray t)) (some ⟨w.heap.size, 0, none⟩) [p] := fun i hi => by
  have hi0 : i = 0 := by simp at hi; omega
  subst hi0
  refine ⟨_, _, rfl, fun j hj => ?_⟩
  have h1 : (w.alloc (.cells (V p).toArray t)).heap[w.heap.size]? = some (.cells (V p).toArray t (0, 0)) := heap_alloc_new _ _
  rw [cell_of_row _ _ _ _ _ _ h1]
  simp
/-- A row of structs of the call's own. -/
def GOwn {α : Type} (t : TypeId) (k : Nat) (V : α → List Value) (W : World) (B : Nat) (v : Value) (l : List α) : Prop := W.ownsRow B t k v l.length (l.flatMap V)
theorem GOwn.nil {α : Type} (t : TypeId) (k : Nat) (V : α → List Value) (W : World) (B : Nat) : GOwn t k V W B (.slice none 0 0) [] := ⟨by simp, Or.inl ⟨rfl, rfl⟩⟩
theorem GOwn.row {α : Type} {t : TypeId} {k : Nat} {V : α → List Value} (hV : ∀ x, (V x).length = k) {w : World} {B : Nat} {v : Value} {L : List α} (h : GOwn t k V w B v L) : ∃ a c, v = .slice a L.length c ∧ L.length ≤ c ∧ c ≤ maxLen ∧ GRow k V w a L := by
  rcases owns_form h with ⟨rfl, h0⟩ | ⟨g, cap, rfl, hc, hm, _⟩
  · exact ⟨none, 0, by rw [h0], by omega, by unfold maxLen; omega, fun i hi => by omega⟩
  · refine ⟨_, cap, rfl, hc, hm, fun i hi => ⟨g, 0, rfl, fun j hj => ?_⟩⟩
    rw [Nat.zero_add]
    have hlt : i * k + j < L.length * k := by
      have : (i + 1) * k ≤ L.length * k := Nat.mul_le_mul_right k hi
      rw [Nat.succ_mul] at this
      omega
    have hc := World.ownsRow.cellAt (show w.ownsRow B t k _ L.length (L.flatMap V) from h) (i * k + j) hlt
    rw [hc]
    exact flatV_at V k hV L i hi j hj
theorem GOwn.below {α : Type} {t : TypeId} {k : Nat} {V : α → List Value} {w w' : World} {B : Nat} {v : Value} {L : List α} (h : GOwn t k V w B v L) (hb : Below w.heap.size w w') : GOwn t k V w' B v L := owns_same h (fun g hg => hb.block g (World.ownsRow.lt h g hg).2)
/-- What is known of a type of structs. -/
def Kd {α : Type} (t ts : TypeId) (k nb : Nat) (V : α → List Value) : Prop :=
  Tryd.prog.underlying ts = some (.slice t) ∧ (∃ i z, Tryd.prog.info? t = some i ∧ i.zero = some z ∧ i.size = k ∧ i.bytes = nb ∧ z.cells.size = k) ∧ 0 < k ∧ 0 < nb ∧ (∀ x, (V x).length = k) ∧ (∀ x, ∀ u ∈ V x, u.oneCell' = true)
/-- A row appended to a row of the call's own. -/
theorem append_gen {α : Type} {t ts : TypeId} {k nb : Nat} {V : α → List Value} (KD : Kd t ts k nb V) (w : World) (B : Nat) (v : Value) (l m : List α) (a : Option Addr) (n c : Nat) (hown : GOwn t k V w B v l) (hk : GRow k V w a m) (hn : n = m.length) (hB : B ≤ w.heap.size) (hsz : (l.length + m.length) * nb ≤ 140737488355328) :
    ∃ v' w', (Builtin.append_ #[ts, ts] ts #[v, .slice a n c]).run Tryd.prog w = .ok v' w' ∧ GOwn t k V w' B v' (l ++ m) ∧ w.grownBy w' v.ownBlock ∧ Below B w w' := by
  subst hn
  obtain ⟨hund, ⟨i0, z0, hi, hz0, hz1, hz2, hz3⟩, hk0, hnb, hV, h1V⟩ := KD
  by_cases h0 : m.length = 0
  · have hm0 := List.eq_nil_of_length_eq_zero h0
    subst hm0
    refine ⟨v, w, ?_, by rw [List.append_nil]; exact hown, ⟨rfl, rfl, rfl, Nat.le_refl _, fun _ _ _ => rfl⟩, Below.refl _ _⟩
    cases a with
    | none =>
      rcases owns_form hown with ⟨rfl, h2⟩ | ⟨g, cap, rfl, hc, _⟩
      · simp [Builtin.append_, run_underlying hund, sizeOf, typeInfo, hi, Builtin.lenOf, Builtin.firstCells]
      · simp [Builtin.append_, run_underlying hund, sizeOf, typeInfo, hi, Builtin.lenOf, Builtin.firstCells, hc, storeCells]
    | some d =>
      rcases owns_form hown with ⟨rfl, h2⟩ | ⟨g, cap, rfl, hc, _⟩
      · simp [Builtin.append_, run_underlying hund, sizeOf, typeInfo, hi, Builtin.lenOf, Builtin.firstCells, loadCells, loadCellsFrom]
      · simp [Builtin.append_, run_underlying hund, sizeOf, typeInfo, hi, Builtin.lenOf, Builtin.firstCells, loadCells, loadCellsFrom, hc, storeCells]
  · obtain ⟨b, off, rfl, _⟩ := hk 0 (by omega)
    have hnews : ∀ j u, (m.flatMap V)[j]? = some u → w.cell? ((⟨b, off, none⟩ : Addr).add j) = some u := by
      intro j u hj
      have hjn : j < m.length * k := by
        rcases Nat.lt_or_ge j (m.length * k) with h' | h'
        · exact h'
        · rw [List.getElem?_eq_none (by rw [flatV_len V k hV]; exact h')] at hj; cases hj
      have hq : j / k < m.length := Nat.div_lt_of_lt_mul (by rw [Nat.mul_comm]; exact hjn)
      have hr : j % k < k := Nat.mod_lt _ hk0
      have ej : j / k * k + j % k = j := by rw [Nat.mul_comm]; exact Nat.div_add_mod j k
      obtain ⟨b', off', e, hc⟩ := hk (j / k) hq
      injection e with e
      injection e with e1 e2
      subst e1 e2
      have h1 := hc (j % k) hr
      have h2 := flatV_at V k hV m (j / k) hq (j % k) hr
      rw [ej, hj] at h2
      rw [Nat.add_assoc, ej] at h1
      rw [add_o, h1, ← h2]
    have hle : l.length + m.length ≤ 140737488355328 := Nat.le_trans (Nat.le_mul_of_pos_right _ hnb) hsz
    obtain ⟨g, cap, w', hr, h2, h3, _, _⟩ := run_append_lies (P := Tryd.prog) w ts ts B t i0 z0 k nb hund hi hz0 hz1 hz2 hz3 hk0 v l.length (l.flatMap V) hown ⟨b, off, none⟩ m.length c (m.flatMap V) (flatV_len V k hV m) hnews (fun u hu => by obtain ⟨y, _, hy⟩ := List.mem_flatMap.1 hu; exact h1V y u hy) (by omega) (Nat.le_trans hle (by unfold maxLen; decide)) hsz hB w.heap.size rfl
    refine ⟨_, w', hr, ?_, h3, (Below.refl _ _).grown h3 hB (fun j hj => (World.ownsRow.lt (show w.ownsRow B t k v l.length (l.flatMap V) from hown) _ hj).1)⟩
    unfold GOwn
    rw [List.flatMap_append, List.length_append]
    exact h2
end Vr
end Go.Proofs.YtkiidlnimjjnlaaDoor

namespace Go.Proofs.YtkiidlnimjjnlaaDoor
namespace Vr
open Go.RowKit
set_option linter.unusedVariables false

/-- A sort key as it lies. -/
def kyV (k : Ky) : List Value := [.string k.1, .string k.2.1, .bool k.2.2]
theorem kyV_len (k : Ky) : (kyV k).length = 3 := rfl
theorem kyV_one (k : Ky) : ∀ u ∈ kyV k, u.oneCell' = true := by
  intro u hu
  simp only [kyV, List.mem_cons, List.not_mem_nil, or_false] at hu
  rcases hu with rfl | rfl | rfl <;> rfl
theorem KDk : Kd 25 22 3 40 kyV := by
  refine ⟨Tryd.underlying22, ?_, by decide, by decide, kyV_len, kyV_one⟩
  have h : (Tryd.prog.info? 25).map (fun i => (i.zero, i.size, i.bytes)) = some (some (.agg #[.string ⟨#[]⟩, .string ⟨#[]⟩, .bool false]), 3, 40) := by kernel_rfl
  obtain ⟨i0, hi, hz0, hz1, hz2⟩ := info_parts h
  exact ⟨i0, _, hi, hz0, hz1, hz2, rfl⟩
theorem KDn : Kd 38 40 5 48 ndV := by
  refine ⟨Tryd.underlying40, ?_, by decide, by decide, fun _ => rfl, ndV_one⟩
  obtain ⟨i0, hi, hz0, hz1, hz2⟩ := info_parts info_node
  exact ⟨i0, _, hi, hz0, hz1, hz2, rfl⟩
theorem nd_of_g {w : World} {a : Option Addr} {l : List Nd} (h : GRow 5 ndV w a l) : NdRow w a l := fun i hi => by
  obtain ⟨b, off, e, h1⟩ := h i hi
  exact ⟨b, off, e, h1 0 (by omega), h1 1 (by omega), h1 2 (by omega), h1 3 (by omega), h1 4 (by omega)⟩
/-- Rows of structs that have just been laid. -/
theorem g_new {α : Type} {k : Nat} (V : α → List Value) (hV : ∀ x, (V x).length = k) (w : World) (t : TypeId) (l : List α) : GRow k V (w.alloc (.cells (l.flatMap V).toArray t)) (some ⟨w.heap.size, 0, none⟩) l := fun i hi => by
  refine ⟨_, _, rfl, fun j hj => ?_⟩
  have h1 : (w.alloc (.cells (l.flatMap V).toArray t)).heap[w.heap.size]? = some (.cells (l.flatMap V).toArray t (0, 0)) := heap_alloc_new _ _
  rw [cell_of_row _ _ _ _ _ _ h1, Nat.zero_add, List.getElem?_toArray]
  exact flatV_at V k hV l i hi j hj
set_option maxRecDepth 100000 in
/-- An append whose run is known. -/
theorem wp_app (w : World) {ops : Array Oper} {rest : List Oper} {o : Oper} {a : Act} {Q : Exit → Act → World → Prop} (hgd : o.guard = none) (s x : Operand) (ts : TypeId)
    (ho : o.op = .call { callee := .builtin .append, args := #[s, x], argTypes := #[ts, ts] }) (ht : o.type = ts) (vs vx v' : Value) (w' : World)
    (hs : a.eval s = vs) (hx : a.eval x = vx) (hr : (Builtin.append_ #[ts, ts] ts #[vs, vx]).run Tryd.prog w = .ok v' w')
    (h : wpList Tryd.prog ops Q rest (a.put o.dst v') w') : wpList Tryd.prog ops Q (o :: rest) a w :=
  Lib.wpList_append_run w hgd s x _ _ ho _ _ hs hx _ _ (by rw [ht]; exact hr) h
set_option maxRecDepth 100000 in
set_option maxHeartbeats 1000000 in
theorem encodePage_no (n : Int) (c : ByteArray) (w : World) (h : n < 0 ∨ 2147483647 < n) :
    Calls Tryd.prog 11 #[.int .i64 n, .string c] w fun e w' => e = .returned (.tuple #[.string ⟨#[]⟩, .int .i64 224]) ∧ Below w.heap.size w w' := by
  by_cases h0 : n < 0
  · clear h
    go_enter Tryd.func11, Tryd.ntmps11
    go_wp2_with fail
    go_ret2
    exact ⟨rfl, Below.refl _ _⟩
  · have h1 : 2147483647 < n := by omega
    clear h
    go_enter Tryd.func11, Tryd.ntmps11
    go_wp2_with fail
    go_ret2
    exact ⟨rfl, Below.refl _ _⟩
/-- The number's content. -/
def eB (n : Int) : ByteArray := S (BerMath.enc n)
set_option maxRecDepth 100000 in
set_option maxHeartbeats 2000000 in
theorem encodePage_ok (n : Int) (c : ByteArray) (w : World) (h0 : 0 ≤ n) (h1 : n ≤ 2147483647) (hc : c.size ≤ 1048576) :
    Calls Tryd.prog 11 #[.int .i64 n, .string c] w fun e w' => (∃ X, e = .returned (.tuple #[.string X, .int .i64 0]) ∧ Wrt X (pN (eB n) c)) ∧ Below w.heap.size w w' := by
  have hS : Hid (∀ W, Calls Tryd.prog 18 #[.int .i64 1] W fun r w' => r = .returned (.agg #[.int .i64 1, .int .i64 0, .bool true, .int .i64 16, .string ⟨#[]⟩]) ∧ Below W.heap.size W w') := fun W => sequence_any 1 W
  have hI : Hid (∀ W, Calls Tryd.prog 33 #[.int .i64 2] W fun r w' => r = .returned (.agg #[.int .i64 2, .int .i64 0, .bool false, .int .i64 2, .string ⟨#[]⟩]) ∧ Below W.heap.size W w') := fun W => integer_any 2 W
  have hO : Hid (∀ W, Calls Tryd.prog 21 #[.int .i64 2] W fun r w' => r = .returned (.agg #[.int .i64 2, .int .i64 0, .bool false, .int .i64 4, .string ⟨#[]⟩]) ∧ Below W.heap.size W w') := fun W => octets_any 2 W
  have hP : Hid (∀ W, Calls Tryd.prog 34 #[.int .i64 n] W fun r w' => r = .returned (.string (eB n)) ∧ Below W.heap.size W w') := fun W => putInt_any n W (by omega) (by omega)
  have hF : Hid (∀ W, Calls Tryd.prog 20 #[.agg #[.int .i64 2, .int .i64 0, .bool false, .int .i64 2, .string ⟨#[]⟩], .string (eB n)] W fun r w' => r = .returned (.agg #[.int .i64 2, .int .i64 0, .bool false, .int .i64 2, .string (eB n)]) ∧ Below W.heap.size W w') := fun W => filled_any (nInt 2 ⟨#[]⟩) (eB n) W
  have hG : Hid (∀ W, Calls Tryd.prog 20 #[.agg #[.int .i64 2, .int .i64 0, .bool false, .int .i64 4, .string ⟨#[]⟩], .string c] W fun r w' => r = .returned (.agg #[.int .i64 2, .int .i64 0, .bool false, .int .i64 4, .string c]) ∧ Below W.heap.size W w') := fun W => filled_any (nOct 2 ⟨#[]⟩) c W
  have hz : wts (pN (eB n) c) ≤ 67108864 := by
    have e : wts (pN (eB n) c) = 6 + ((eB n).size + 6 + (c.size + 6)) := by simp [wts, pN]; rfl
    have e2 : (eB n).size ≤ 8 := by
      have := (BerMath.sz_pos n).2
      unfold eB
      rw [S_size, BerMath.enc_len]
      exact this
    omega
  have hW : Hid (∀ (W : World) (a : Option Addr), NdRow W a (pN (eB n) c) → Calls Tryd.prog 24 #[.slice a 3 3] W fun e w' => (∃ X, e = .returned (.tuple #[.string X, .int .i64 0]) ∧ Wrt X (pN (eB n) c)) ∧ Below W.heap.size W w') := fun W a ha => written_any [nInt 2 (eB n), nOct 2 c] a 3 W ha (chn_page _ _) hz
  have g0 : ¬ n < 0 := by omega
  have g1 : ¬ 2147483647 < n := by omega
  clear h0 h1 hc hz
  generalize eB n = en at *
  go_enter Tryd.func11, Tryd.ntmps11
  go_wp2_with fail
  refine (hS.out _).mono ?_
  rintro e w1 ⟨rfl, hb1⟩
  have HB1 : Hid (Below w.heap.size w w1) := hb1
  clear hS hb1
  go_wp2_with fail
  refine (hI.out _).mono ?_
  rintro e w2 ⟨rfl, hb2⟩
  have HB2 : Hid (Below w.heap.size w w2) := HB1.out.trans (hb2.mono HB1.out.size)
  clear hI hb2 HB1
  go_wp2_with fail
  refine (hP.out _).mono ?_
  rintro e w3 ⟨rfl, hb3⟩
  have HB3 : Hid (Below w.heap.size w w3) := HB2.out.trans (hb3.mono HB2.out.size)
  clear hP hb3 HB2
  go_wp2_with fail
  refine (hF.out _).mono ?_
  rintro e w4 ⟨rfl, hb4⟩
  have HB4 : Hid (Below w.heap.size w w4) := HB3.out.trans (hb4.mono HB3.out.size)
  clear hF hb4 HB3
  go_wp2_with fail
  refine (hO.out _).mono ?_
  rintro e w5 ⟨rfl, hb5⟩
  have HB5 : Hid (Below w.heap.size w w5) := HB4.out.trans (hb5.mono HB4.out.size)
  clear hO hb5 HB4
  go_wp2_with fail
  refine (hG.out _).mono ?_
  rintro e w6 ⟨rfl, hb6⟩
  have HB6 : Hid (Below w.heap.size w w6) := HB5.out.trans (hb6.mono HB5.out.size)
  clear hG hb6 HB5
  go_wp2_with fail
  obtain ⟨w7, hw7⟩ : ∃ W, w6.alloc (.cells #[.int .i64 1, .int .i64 0, .bool true, .int .i64 16, .string ⟨#[]⟩, .int .i64 2, .int .i64 0, .bool false, .int .i64 2, .string en, .int .i64 2, .int .i64 0, .bool false, .int .i64 4, .string c] 38) = W := ⟨_, rfl⟩
  have hr7 : NdRow w7 (some ⟨w6.heap.size, 0, none⟩) (pN en c) := by rw [← hw7]; exact nd_of_g (g_new ndV (fun _ => rfl) w6 38 (pN en c))
  have HB7 : Hid (Below w.heap.size w w7) := by rw [← hw7]; exact HB6.out.alloc HB6.out.size _
  rw [hw7]
  refine (hW.out w7 _ hr7).mono ?_
  rintro e w8 ⟨⟨X, rfl, hX⟩, hb8⟩
  have HB8 : Hid (Wrt X (pN en c) ∧ Below w.heap.size w w8) := ⟨hX, HB7.out.trans (hb8.mono HB7.out.size)⟩
  clear hW hX hb8 HB7 HB6 hr7 hw7
  go_wp2_with fail
  go_ret2
  exact ⟨⟨X, rfl, HB8.out.1⟩, HB8.out.2⟩
end Vr
end Go.Proofs.YtkiidlnimjjnlaaDoor
