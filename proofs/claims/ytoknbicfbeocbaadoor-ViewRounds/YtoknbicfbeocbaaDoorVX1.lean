import Derived.Test.YtoknbicfbeocbaaDoorBwSm
import Derived.Test.YtoknbicfbeocbaaDoorBInt2
import Derived.Test.YtoknbicfbeocbaaDoorChX
import Derived.Test.YtoknbicfbeocbaaDoorBwWr
namespace Go.Proofs.YtoknbicfbeocbaaDoor
namespace Vr
open Go.RowKit
open TextMath (check)
set_option linter.unusedVariables false

abbrev nSeq (d : Int) : Nd := ⟨d, 0, true, 16, ⟨#[]⟩⟩
abbrev nOct (d : Int) (s : ByteArray) : Nd := ⟨d, 0, false, 4, s⟩
abbrev nInt (d : Int) (s : ByteArray) : Nd := ⟨d, 0, false, 2, s⟩
abbrev nTag (t : Int) (s : ByteArray) : Nd := ⟨3, 2, false, t, s⟩
set_option maxRecDepth 100000 in
theorem sequence_any (d : Int) (w : World) : Calls Tryd.prog 12 #[.int .i64 d] w fun r w' => r = .returned (ndA (nSeq d)) ∧ Below w.heap.size w w' := by
  go_enter Tryd.func12, Tryd.ntmps12
  go_wp2_with fail
  refine bodyPost_ret_by (v := .agg #[.int .i64 d, .int .i64 0, .bool true, .int .i64 16, .string ⟨#[]⟩]) ?_ rfl ⟨rfl, ?_⟩
  · simp [results, Tryd.results12, go_sem]
  · repeat' first | exact Below.refl _ _ | refine Below.setCell ?_ (by first | (simp; done) | (simp; omega)) _ | refine Below.alloc ?_ (by first | (simp; done) | (simp; omega)) _
set_option maxRecDepth 100000 in
theorem octets_any (d : Int) (w : World) : Calls Tryd.prog 15 #[.int .i64 d] w fun r w' => r = .returned (ndA (nOct d ⟨#[]⟩)) ∧ Below w.heap.size w w' := by
  go_enter Tryd.func15, Tryd.ntmps15
  go_wp2_with fail
  refine bodyPost_ret_by (v := .agg #[.int .i64 d, .int .i64 0, .bool false, .int .i64 4, .string ⟨#[]⟩]) ?_ rfl ⟨rfl, ?_⟩
  · simp [results, Tryd.results15, go_sem]
  · repeat' first | exact Below.refl _ _ | refine Below.setCell ?_ (by first | (simp; done) | (simp; omega)) _ | refine Below.alloc ?_ (by first | (simp; done) | (simp; omega)) _
set_option maxRecDepth 100000 in
theorem integer_any (d : Int) (w : World) : Calls Tryd.prog 23 #[.int .i64 d] w fun r w' => r = .returned (ndA (nInt d ⟨#[]⟩)) ∧ Below w.heap.size w w' := by
  go_enter Tryd.func23, Tryd.ntmps23
  go_wp2_with fail
  refine bodyPost_ret_by (v := .agg #[.int .i64 d, .int .i64 0, .bool false, .int .i64 2, .string ⟨#[]⟩]) ?_ rfl ⟨rfl, ?_⟩
  · simp [results, Tryd.results23, go_sem]
  · repeat' first | exact Below.refl _ _ | refine Below.setCell ?_ (by first | (simp; done) | (simp; omega)) _ | refine Below.alloc ?_ (by first | (simp; done) | (simp; omega)) _
set_option maxRecDepth 100000 in
theorem tagged_any (d : Int) (w : World) : Calls Tryd.prog 16 #[.int .i64 d] w fun r w' => r = .returned (ndA (nTag d ⟨#[]⟩)) ∧ Below w.heap.size w w' := by
  go_enter Tryd.func16, Tryd.ntmps16
  go_wp2_with fail
  refine bodyPost_ret_by (v := .agg #[.int .i64 3, .int .i64 2, .bool false, .int .i64 d, .string ⟨#[]⟩]) ?_ rfl ⟨rfl, ?_⟩
  · simp [results, Tryd.results16, go_sem]
  · repeat' first | exact Below.refl _ _ | refine Below.setCell ?_ (by first | (simp; done) | (simp; omega)) _ | refine Below.alloc ?_ (by first | (simp; done) | (simp; omega)) _
set_option maxRecDepth 100000 in
theorem filled_any (e : Nd) (s : ByteArray) (w : World) : Calls Tryd.prog 14 #[ndA e, .string s] w fun r w' => r = .returned (ndA ⟨e.dep, e.cls, e.made, e.tag, s⟩) ∧ Below w.heap.size w w' := by
  obtain ⟨d, c, m, t, b⟩ := e
  go_enter Tryd.func14, Tryd.ntmps14
  go_wp2_with fail
  refine bodyPost_ret_by (v := .agg #[.int .i64 d, .int .i64 c, .bool m, .int .i64 t, .string s]) ?_ rfl ⟨rfl, ?_⟩
  · simp [results, Tryd.results14, go_sem]
  · repeat' first | exact Below.refl _ _ | refine Below.setCell ?_ (by first | (simp; done) | (simp; omega)) _ | refine Below.alloc ?_ (by first | (simp; done) | (simp; omega)) _
theorem putBool_any (w : World) : Calls Tryd.prog 17 #[.bool true] w fun r w' => r = .returned (.string ⟨#[255]⟩) ∧ Below w.heap.size w w' := by
  go_enter Tryd.func17, Tryd.ntmps17
  go_wp2_with fail
  go_ret
  exact ⟨rfl, Below.refl _ _⟩
theorem bool_any (w : World) : Calls Tryd.prog 41 #[.string ⟨#[255]⟩] w fun r w' => r = .returned (.tuple #[.bool true, .int .i64 0]) ∧ Below w.heap.size w w' := by
  go_enter Tryd.func41, Tryd.ntmps41
  go_wp2_with fail
  go_ret2
  exact ⟨rfl, Below.refl _ _⟩
/-- Is a text UTF-8? -/
def utf (s : ByteArray) : Bool := (check s.data.toList).1
theorem utf_err (s : ByteArray) : ∃ e p : Int, chkV s.data.toList = .tuple #[.int .i64 e, .int .i64 p] ∧ utf s = decide (e = 0) := by
  refine ⟨_, _, rfl, ?_⟩
  unfold utf
  cases h : (check s.data.toList).1 <;> simp
set_option maxRecDepth 100000 in
set_option maxHeartbeats 1000000 in
theorem isUTF8_any (s : ByteArray) (w : World) (hm : s.size ≤ maxLen) :
    Calls Tryd.prog 13 #[.string s] w fun e w' => e = .returned (.bool (utf s)) ∧ w' = w := by
  obtain ⟨e, p, h1, h2⟩ := utf_err s
  have hC := check_any s w hm
  rw [h1] at hC
  rw [h2]
  have hC' : Hid (Calls Tryd.prog 27 #[.string s] w fun r w' => r = .returned (.tuple #[.int .i64 e, .int .i64 p]) ∧ w' = w) := hC
  clear hC h1 h2
  go_enter Tryd.func13, Tryd.ntmps13
  go_wp2_with (go_at_call 27; refine hC'.out.mono ?_; rintro r w' ⟨rfl, rfl⟩)
  all_goals go_ret
  all_goals (refine ⟨?_, rfl⟩; first | (simp_all; done) | (simp_all; rw [Bool.eq_iff_iff]; simp_all; done))
end Vr
end Go.Proofs.YtoknbicfbeocbaaDoor

namespace Go.Proofs.YtoknbicfbeocbaaDoor
namespace Vr
open Go.RowKit
set_option linter.unusedVariables false

/-- A sort key: description, rule, turned about. -/
abbrev Ky := ByteArray × ByteArray × Bool
abbrev ffB : ByteArray := ⟨#[255]⟩
def kR (s : ByteArray) : List Nd := if s.toList = [] then [] else [nTag 0 s]
def kV (b : Bool) : List Nd := if b = true then [nTag 1 ffB] else []
def kN (k : Ky) : List Nd := nSeq 2 :: nOct 3 k.1 :: (kR k.2.1 ++ kV k.2.2)
def kNs (l : List Ky) : List Nd := nSeq 1 :: l.flatMap kN
def pN (s c : ByteArray) : List Nd := [nSeq 1, nInt 2 s, nOct 2 c]

abbrev dN : Nd := ⟨0, 0, false, 0, ⟨#[]⟩⟩
abbrev dp (l : List Nd) (i : Nat) : Int := (l.getD i dN).dep
abbrev cl (l : List Nd) (i : Nat) : Int := (l.getD i dN).cls
abbrev tg (l : List Nd) (i : Nat) : Int := (l.getD i dN).tag
abbrev md (l : List Nd) (i : Nat) : Bool := (l.getD i dN).made
abbrev bd (l : List Nd) (i : Nat) : ByteArray := (l.getD i dN).body
theorem getD_at (l : List Nd) (i : Nat) (h : i < l.length) : l.getD i dN = l[i] := by simp [List.getD, h]
theorem isN_of {w : World} {a : Option Addr} {l : List Nd} (h : NdRow w a l) : IsNodes w a l.length (dp l) (cl l) (tg l) (md l) (bd l) := fun i hi => by
  obtain ⟨b, off, e, h0, h1, h2, h3, h4⟩ := h i hi
  have e' := getD_at l i hi
  refine ⟨b, off, e, ?_, ?_, ?_, ?_, ?_⟩
  · rw [h0, ← e']
  · rw [h1, ← e']
  · rw [h2, ← e']
  · rw [h3, ← e']
  · rw [h4, ← e']
theorem nodesL_of (l : List Nd) : nodesL l.length (dp l) (cl l) (tg l) (md l) (bd l) = l := by
  refine List.ext_getElem (by simp [nodesL]) (fun i h1 h2 => ?_)
  simp only [nodesL, List.getElem_map, List.getElem_range]
  rw [← getD_at l i h2]

theorem none_empty : (⟨#[]⟩ : ByteArray).toList.isEmpty = true := by rw [Lib.toList_data]; rfl
/-- May a node stand behind another? -/
def lnk (p e : Nd) : Prop := 0 ≤ e.cls ∧ e.cls ≤ 3 ∧ 0 ≤ e.tag ∧ e.tag ≤ 30 ∧ e.dep ≤ 64 ∧ (e.made = true → e.body.toList.isEmpty = true) ∧ 2 ≤ e.dep ∧ e.dep ≤ p.dep + 1 ∧ (p.dep < e.dep → p.made = true)
def chn (p : Nd) : List Nd → Prop
  | [] => True
  | e :: r => lnk p e ∧ chn e r
theorem chn_at : ∀ (l : List Nd) (p : Nd), chn p l → ∀ i (hi : i < l.length), lnk ((p :: l)[i]'(by simp; omega)) l[i]
  | [], _, _, i, hi => by simp at hi
  | e :: r, p, h, 0, hi => h.1
  | e :: r, p, h, i + 1, hi => chn_at r e h.2 i (by simpa using hi)
theorem good_of (r : List Nd) (d : Nat) (h : chn (nSeq 1) r) : ∀ i, i < (nSeq 1 :: r).length → Good (dp (nSeq 1 :: r)) (cl (nSeq 1 :: r)) (tg (nSeq 1 :: r)) (md (nSeq 1 :: r)) (bd (nSeq 1 :: r)) i := by
  intro i hi
  cases i with
  | zero =>
    refine ⟨?_, ?_, ?_, ?_, ?_, ?_, fun _ => none_empty, fun _ => rfl, fun j hj => by omega⟩
    · show (0 : Int) ≤ 0; decide
    · show (0 : Int) ≤ 3; decide
    · show (0 : Int) ≤ 16; decide
    · show (16 : Int) ≤ 30; decide
    · show (1 : Int) ≤ 1; decide
    · show (1 : Int) ≤ 64; decide
  | succ i =>
    have hi' : i < r.length := by simpa using hi
    obtain ⟨a1, a2, a3, a4, a5, a6, a7, a8, a9⟩ := chn_at r _ h i hi'
    have e1 : (nSeq 1 :: r).getD (i + 1) dN = r[i] := by rw [getD_at _ _ hi]; rfl
    have e0 : (nSeq 1 :: r).getD i dN = (nSeq 1 :: r)[i]'(by simp; omega) := getD_at _ _ _
    have q1 : dp (nSeq 1 :: r) (i + 1) = r[i].dep := congrArg Nd.dep e1
    have q2 : cl (nSeq 1 :: r) (i + 1) = r[i].cls := congrArg Nd.cls e1
    have q3 : tg (nSeq 1 :: r) (i + 1) = r[i].tag := congrArg Nd.tag e1
    have q4 : md (nSeq 1 :: r) (i + 1) = r[i].made := congrArg Nd.made e1
    have q5 : bd (nSeq 1 :: r) (i + 1) = r[i].body := congrArg Nd.body e1
    have q6 : dp (nSeq 1 :: r) i = ((nSeq 1 :: r)[i]'(by simp; omega)).dep := congrArg Nd.dep e0
    have q7 : md (nSeq 1 :: r) i = ((nSeq 1 :: r)[i]'(by simp; omega)).made := congrArg Nd.made e0
    unfold Good
    rw [q1, q2, q3, q4, q5]
    refine ⟨a1, a2, a3, a4, by omega, a5, a6, fun hh => by omega, fun j hj => ?_⟩
    obtain rfl : i = j := by omega
    rw [q6, q7]
    exact ⟨a7, a8, a9⟩
theorem lk_leaf (p : Nd) (d c t : Int) (b : ByteArray) (h1 : 0 ≤ c) (h2 : c ≤ 3) (h3 : 0 ≤ t) (h4 : t ≤ 30) (h5 : d ≤ 64) (h6 : 2 ≤ d) (h7 : d ≤ p.dep + 1) (h8 : p.dep < d → p.made = true) : lnk p ⟨d, c, false, t, b⟩ :=
  ⟨h1, h2, h3, h4, h5, (fun h => Bool.noConfusion h), h6, h7, h8⟩
theorem chn_keys : ∀ (l : List Ky) (p : Nd), (2 ≤ p.dep ∨ p.dep = 1 ∧ p.made = true) → chn p (l.flatMap kN)
  | [], _, _ => trivial
  | k :: l, p, hp => by
    have ih := chn_keys l
    rw [List.flatMap_cons]
    unfold kN kR kV
    have hs : lnk p (nSeq 2) := by
      refine ⟨by decide, by decide, by decide, by decide, by decide, fun _ => none_empty, by decide, ?_, ?_⟩
      · show (2 : Int) ≤ p.dep + 1
        omega
      · intro h
        rcases hp with h' | ⟨_, h'⟩
        · have h2 : p.dep < 2 := h
          omega
        · exact h'
    have ho : lnk (nSeq 2) (nOct 3 k.1) := lk_leaf _ _ _ _ _ (by decide) (by decide) (by decide) (by decide) (by decide) (by decide) (by decide) (fun _ => rfl)
    have hl : ∀ (q : Nd) (t : Int) (s : ByteArray), q.dep = 3 → 0 ≤ t → t ≤ 30 → lnk q (nTag t s) := fun q t s hq h0 h1 => lk_leaf _ _ _ _ _ (by decide) (by decide) h0 h1 (by decide) (by decide) (by rw [hq]; decide) (fun h => by rw [hq] at h; exact absurd h (by decide))
    have h23 : (2 : Int) ≤ 3 := by decide
    by_cases h1 : k.2.1.toList = []
    · by_cases h2 : k.2.2 = true
      · rw [if_pos h1, if_pos h2]
        exact ⟨hs, ho, hl _ 1 _ rfl (by decide) (by decide), ih _ (Or.inl h23)⟩
      · rw [if_pos h1, if_neg h2]
        exact ⟨hs, ho, ih _ (Or.inl h23)⟩
    · by_cases h2 : k.2.2 = true
      · rw [if_neg h1, if_pos h2]
        exact ⟨hs, ho, hl _ 0 _ rfl (by decide) (by decide), hl _ 1 _ rfl (by decide) (by decide), ih _ (Or.inl h23)⟩
      · rw [if_neg h1, if_neg h2]
        exact ⟨hs, ho, hl _ 0 _ rfl (by decide) (by decide), ih _ (Or.inl h23)⟩
theorem chn_page (s c : ByteArray) : chn (nSeq 1) [nInt 2 s, nOct 2 c] :=
  ⟨lk_leaf _ _ _ _ _ (by decide) (by decide) (by decide) (by decide) (by decide) (by decide) (by decide) (fun _ => rfl), lk_leaf _ _ _ _ _ (by decide) (by decide) (by decide) (by decide) (by decide) (by decide) (by show (2 : Int) ≤ 2 + 1; decide) (fun h => absurd (show (2 : Int) < 2 from h) (by decide)), trivial⟩

def wts (l : List Nd) : Nat := (l.map (fun e => e.body.size + 6)).sum
theorem bsum_congr {B B' : Nat → ByteArray} : ∀ n, (∀ i, i < n → B i = B' i) → bsum B n = bsum B' n
  | 0, _ => rfl
  | n + 1, h => by
    show bsum B n + (B n).size + 6 = bsum B' n + (B' n).size + 6
    rw [bsum_congr n (fun i hi => h i (by omega)), h n (by omega)]
theorem bsum_list (l : List Nd) : bsum (bd l) l.length = wts l := by
  have key : ∀ n, n ≤ l.length → bsum (bd l) n = wts (l.take n) := by
    intro n
    induction n with
    | zero => intro _; rfl
    | succ n ih =>
      intro hn
      have hlt : n < l.length := by omega
      show bsum (bd l) n + (bd l n).size + 6 = _
      have q : bd l n = l[n].body := congrArg Nd.body (getD_at l n hlt)
      rw [ih (by omega), List.take_add_one, wts, wts, List.map_append, List.sum_append, List.getElem?_eq_getElem hlt, q]
      simp
      omega
  have := key l.length (Nat.le_refl _)
  rwa [List.take_length] at this
theorem wts_app (a b : List Nd) : wts (a ++ b) = wts a + wts b := by simp [wts]
theorem wts_kN (k : Ky) (h1 : k.1.size ≤ 65536) (h2 : k.2.1.size ≤ 65536) : wts (kN k) ≤ 131097 := by
  have e : kN k = [nSeq 2, nOct 3 k.1] ++ (kR k.2.1 ++ kV k.2.2) := rfl
  have a1 : wts (kR k.2.1) ≤ 65542 := by
    unfold kR
    split
    · simp [wts]
    · simp [wts]; omega
  have a2 : wts (kV k.2.2) ≤ 7 := by
    unfold kV
    split
    · exact Nat.le_of_eq rfl
    · simp [wts]
  have a3 : wts [nSeq 2, nOct 3 k.1] = 0 + 6 + (k.1.size + 6) := rfl
  rw [e, wts_app, wts_app, a3]
  omega
theorem wts_kNs : ∀ (l : List Ky), (∀ k ∈ l, k.1.size ≤ 65536 ∧ k.2.1.size ≤ 65536) → wts (kNs l) ≤ 6 + 131097 * l.length := by
  have key : ∀ (l : List Ky), (∀ k ∈ l, k.1.size ≤ 65536 ∧ k.2.1.size ≤ 65536) → wts (l.flatMap kN) ≤ 131097 * l.length := by
    intro l
    induction l with
    | nil => intro _; simp [wts]
    | cons k l ih =>
      intro h
      rw [List.flatMap_cons, wts_app, List.length_cons]
      have h1 := wts_kN k (h k (List.mem_cons_self ..)).1 (h k (List.mem_cons_self ..)).2
      have h2 := ih (fun x hx => h x (List.mem_cons_of_mem _ hx))
      omega
  intro l h
  have e : kNs l = [nSeq 1] ++ l.flatMap kN := rfl
  have a3 : wts [nSeq 1] = 6 := rfl
  rw [e, wts_app, a3]
  have := key l h
  omega
end Vr
end Go.Proofs.YtoknbicfbeocbaaDoor

namespace Go.Proofs.YtoknbicfbeocbaaDoor
namespace Vr
open Go.RowKit
set_option linter.unusedVariables false

/-- The bytes are those of a list of nodes: read again they are the list, cut short or with more behind they are refused. -/
def Wrt (X : ByteArray) (l : List Nd) : Prop := 0 < X.size ∧ X.size ≤ 268435456 ∧ (∃ xs, treeR X = .ok xs ∧ xs.map (ndOf X) = l) ∧ (∀ j, j < X.size → treeR (X.extract 0 j) = .error (20, j)) ∧ (∀ more : ByteArray, more.data.toList ≠ [] → treeR (X ++ more) = .error (27, X.size))
theorem wrt_of {r : List Nd} {H : Nat → List UInt8} {σ : List Nat} (hr : chn (nSeq 1) r) (hs : wts (nSeq 1 :: r) ≤ 268435456) (hI : SpI (nSeq 1 :: r).length 0 (dp (nSeq 1 :: r)) (cl (nSeq 1 :: r)) (tg (nSeq 1 :: r)) (md (nSeq 1 :: r)) (bd (nSeq 1 :: r)) σ H) : Wrt (S (outB H (bd (nSeq 1 :: r)) 0 (nSeq 1 :: r).length)) (nSeq 1 :: r) := by
  have hG := good_of r 0 hr
  have hn : 0 < (nSeq 1 :: r).length := by simp
  have hX := spX_of hI
  have hlen := spX_len hn hI (by rw [bsum_list]; exact hs)
  obtain ⟨len, k, rest, e1, _, e3, e4⟩ := spI_end hn hI
  have hX1 : (S (outB H (bd (nSeq 1 :: r)) 0 (nSeq 1 :: r).length)).size = (outB H (bd (nSeq 1 :: r)) 0 (nSeq 1 :: r).length).length := S_size _
  refine ⟨?_, ?_, ?_, ?_, ?_⟩
  · rw [hX1, e1, List.length_append, hdrL_len]; omega
  · rw [hX1]; exact hlen
  · have := (tree_back hX hG hn (S (outB H (bd (nSeq 1 :: r)) 0 (nSeq 1 :: r).length)) [] (by rw [S_l, List.append_nil])).1 rfl
    rwa [nodesL_of] at this
  · intro j hj
    rw [hX1] at hj
    exact tree_cut hX hG hn _ j hj (by rw [take_l, S_l])
  · intro more hm
    rw [hX1]
    exact (tree_back hX hG hn (S (outB H (bd (nSeq 1 :: r)) 0 (nSeq 1 :: r).length) ++ more) more.data.toList (by rw [app_l, S_l])).2 hm
set_option maxRecDepth 100000 in
set_option maxHeartbeats 1000000 in
theorem written_any (r : List Nd) (a : Option Addr) (c : Nat) (w : World) (hw : NdRow w a (nSeq 1 :: r)) (hr : chn (nSeq 1) r) (hs : wts (nSeq 1 :: r) ≤ 268435456) :
    Calls Tryd.prog 18 #[.slice a (nSeq 1 :: r).length c] w fun e w' => (∃ X, e = .returned (.tuple #[.string X, .int .i64 0]) ∧ Wrt X (nSeq 1 :: r)) ∧ Below w.heap.size w w' := by
  have HW : Hid (Calls Tryd.prog 28 #[.slice a (nSeq 1 :: r).length c] w fun e w' => (∃ X, e = .returned (.tuple #[.string X, .int .i64 0, .int .i64 0]) ∧ Wrt X (nSeq 1 :: r)) ∧ Below w.heap.size w w') := by
    refine (write_any a (nSeq 1 :: r).length c _ _ _ _ _ w (isN_of hw) (by rw [bsum_list]; exact hs)).mono ?_
    rintro e w' ⟨hE, hb⟩
    refine ⟨?_, hb⟩
    rcases hE with ⟨hgood, H, σ, rfl, hI, _⟩ | ⟨cc, qq, hc0, hck, rfl⟩
    · exact ⟨_, rfl, wrt_of hr hs hI⟩
    · exfalso
      have hG := good_of r 0 hr
      rcases ck_zero hck with ⟨h, _⟩ | h
      · exact hc0 h
      · have hfit := (fit_iff _ _ _ _ _ _).2 hG
        rcases hck with ⟨_, _, h3, _⟩ | ⟨h1, _⟩ | ⟨i, hi, _, _, ⟨h4, _⟩ | ⟨_, h5, _⟩⟩
        · exact hc0 h3
        · simp at h1
        · exact h4 (hfit i hi).1
        · exact h5 (hfit i hi).2
  generalize (nSeq 1 :: r).length = n at HW ⊢
  clear hw hs hr
  go_enter Tryd.func18, Tryd.ntmps18
  go_wp2_with fail
  refine HW.out.mono ?_
  rintro e w1 ⟨⟨X, rfl, hX⟩, hb⟩
  have hX' : Hid (Wrt X (nSeq 1 :: r)) := hX
  clear hX HW
  go_wp2_with fail
  go_ret2
  exact ⟨⟨X, rfl, hX'.out⟩, hb⟩
end Vr
end Go.Proofs.YtoknbicfbeocbaaDoor
