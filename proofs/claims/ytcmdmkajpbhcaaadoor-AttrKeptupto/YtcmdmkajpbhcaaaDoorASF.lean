import Derived.Test.YtcmdmkajpbhcaaaDoorAtNum
import Derived.Test.YtcmdmkajpbhcaaaDoorAtBook
import Derived.WalkSmall
import Derived.BigQuiet
import Derived.Deep.DeepCutAuto
import Derived.Test.YtcmdmkajpbhcaaaDoorARR
namespace Go.Proofs.YtcmdmkajpbhcaaaDoor
open Go.RowKit

/-- Two lists of no more than one text each, that hold the same. -/
def SameAl (W : World) (a b : Value) : Prop := (a = .slice none 0 0 ∧ b = .slice none 0 0) ∨ ∃ g c g' c' x, a = .slice (some ⟨g, 0, none⟩) 1 c ∧ b = .slice (some ⟨g', 0, none⟩) 1 c' ∧ W.cell? ⟨g, 0, none⟩ = some (.string x) ∧ W.cell? ⟨g', 0, none⟩ = some (.string x)
theorem SameAl.below {W W' : World} {a b : Value} (h : SameAl W a b) (hb : Below W.heap.size W W') : SameAl W' a b := by
  rcases h with h | ⟨g, c, g', c', x, h1, h2, h3, h4⟩
  · exact Or.inl h
  · exact Or.inr ⟨g, c, g', c', x, h1, h2, by rw [hb.cell (World.block_lt_of_cell? W _ h3)]; exact h3, by rw [hb.cell (World.block_lt_of_cell? W _ h4)]; exact h4⟩
set_option maxRecDepth 100000 in
theorem sameAl_any (a b : Value) (W : World) (h : SameAl W a b) : Calls Tryd.prog 8 #[a, b] W fun e w' => e = .returned (.bool true) ∧ Below W.heap.size W w' := by
  rcases h with ⟨rfl, rfl⟩ | ⟨g, c, g', c', x, rfl, rfl, h3, h4⟩
  · go_enter Tryd.func8, Tryd.ntmps8
    go_wp2_with fail
    go_loopw [5] (fun iv wr => iv = .int .i64 0 ∧ Hid (Below W.heap.size W wr)) (fun _ _ => 0)
    case atStart => exact ⟨rfl, Below.refl _ _⟩
    case round =>
      obtain ⟨rfl, hb⟩ := hrel
      go_wp2_with fail
      go_ret
      exact ⟨rfl, hb.out⟩
  · go_enter Tryd.func8, Tryd.ntmps8
    go_wp2_with fail
    go_loopw [5] (fun iv wr => ∃ k : Nat, k ≤ 1 ∧ iv = .int .i64 (k : Int) ∧ Hid (Below W.heap.size W wr)) (fun iv _ => 1 - (intOf iv).toNat)
    case atStart => exact ⟨0, by omega, rfl, Below.refl _ _⟩
    case round =>
      obtain ⟨k, hk, rfl, hb⟩ := hrel
      have q3 : wr.cell? ⟨g, 0, none⟩ = some (.string x) := by rw [hb.out.cell (World.block_lt_of_cell? W _ h3)]; exact h3
      have q4 : wr.cell? ⟨g', 0, none⟩ = some (.string x) := by rw [hb.out.cell (World.block_lt_of_cell? W _ h4)]; exact h4
      obtain rfl | rfl : k = 0 ∨ k = 1 := by omega
      · go_upto_region 6 with fail
        go_quiet (fail)
        go_wp2_with fail
        refine ⟨⟨1, by omega, by simp, ?_⟩, ?_⟩
        · exact below_drewN hb.out _
        · simp [intOf]
      · go_wp2_with fail
        go_ret
        exact ⟨rfl, hb.out⟩

set_option maxRecDepth 100000 in
set_option maxHeartbeats 400000 in
theorem sameRow_any (n o sp : ByteArray) (y1 y2 : Int) (a1 b1 : Option Addr) (a2 a3 b2 b3 : Nat) (W : World) (h : SameAl W (.slice a1 a2 a3) (.slice b1 b2 b3)) :
    Calls Tryd.prog 24 #[.agg #[.string n, .slice a1 a2 a3, .string o, .string sp, .int .i64 y1, .int .i64 y2], .agg #[.string n, .slice b1 b2 b3, .string o, .string sp, .int .i64 y1, .int .i64 y2]] W fun e w' => e = .returned (.bool true) ∧ Below W.heap.size W w' := by
  obtain ⟨Wa, hWa⟩ : ∃ Wa, (W.alloc (.cells #[.string n, .slice a1 a2 a3, .string o, .string sp, .int .i64 y1, .int .i64 y2] 33)).alloc (.cells #[.string n, .slice b1 b2 b3, .string o, .string sp, .int .i64 y1, .int .i64 y2] 33) = Wa := ⟨_, rfl⟩
  have hBa : Hid (Below W.heap.size W Wa) := by unfold Hid; rw [← hWa]; exact ((Below.refl _ _).alloc (Nat.le_refl _) _).alloc (by simp) _
  have hS : Hid (Calls Tryd.prog 8 #[.slice a1 a2 a3, .slice b1 b2 b3] Wa fun e w' => e = .returned (.bool true) ∧ Below Wa.heap.size Wa w') := sameAl_any _ _ Wa (h.below hBa.out)
  have hA : Wa.heap[W.heap.size]? = some (.cells #[.string n, .slice a1 a2 a3, .string o, .string sp, .int .i64 y1, .int .i64 y2] 33 (0, 0)) := by
    rw [← hWa, Below.heap_alloc _ _ _ (by simp)]; exact heap_alloc_last W _
  have hA' : Wa.heap[W.heap.size + 1]? = some (.cells #[.string n, .slice b1 b2 b3, .string o, .string sp, .int .i64 y1, .int .i64 y2] 33 (0, 0)) := by
    rw [← hWa]
    have h := heap_alloc_last (W.alloc (.cells #[.string n, .slice a1 a2 a3, .string o, .string sp, .int .i64 y1, .int .i64 y2] 33)) (.cells #[.string n, .slice b1 b2 b3, .string o, .string sp, .int .i64 y1, .int .i64 y2] 33)
    simpa using h
  have p0 := (row_cell hA (j := 0) (by simp)).1
  have r0 := (row_cell hA' (j := 0) (by simp)).1
  have p1 := (row_cell hA (j := 1) (by simp)).1
  have r1 := (row_cell hA' (j := 1) (by simp)).1
  have p2 := (row_cell hA (j := 2) (by simp)).1
  have r2 := (row_cell hA' (j := 2) (by simp)).1
  have p3 := (row_cell hA (j := 3) (by simp)).1
  have r3 := (row_cell hA' (j := 3) (by simp)).1
  have p4 := (row_cell hA (j := 4) (by simp)).1
  have r4 := (row_cell hA' (j := 4) (by simp)).1
  have p5 := (row_cell hA (j := 5) (by simp)).1
  have r5 := (row_cell hA' (j := 5) (by simp)).1
  simp only [List.getElem_toArray, List.getElem_cons_zero, List.getElem_cons_succ] at p0 p1 p2 p3 p4 p5 r0 r1 r2 r3 r4 r5
  clear hA hA' h
  go_enter Tryd.func24, Tryd.ntmps24
  go_wp2_with fail
  refine hS.out.mono ?_
  rintro e W4 ⟨rfl, hb1⟩
  go_wp2_with fail
  go_ret
  exact ⟨rfl, hBa.out.trans (hb1.mono hBa.out.size)⟩
end Go.Proofs.YtcmdmkajpbhcaaaDoor

namespace Go.Proofs.YtcmdmkajpbhcaaaDoor
open Go.RowKit
open TextMath (fold lo)

/-- What Find tells, by the row that is named. -/
def told (r : Option (Fin 62)) : ByteArray × ByteArray × ByteArray × Int × Int × Bool × ByteArray := match r with
  | none => (⟨#[]⟩, ⟨#[]⟩, ⟨#[]⟩, 0, 0, false, ⟨#[]⟩)
  | some i => ((rowL i).1, (rowL i).2.2, supN i, SYN.getD i.1 0, USG.getD i.1 0, true, (rowL i).2.1)
def AlIs (W : World) (x : ByteArray) (al : Value) : Prop := (x.toList = [] ∧ al = .slice none 0 0) ∨ (¬ x.toList = [] ∧ ∃ g c, al = .slice (some ⟨g, 0, none⟩) 1 c ∧ W.cell? ⟨g, 0, none⟩ = some (.string x))
theorem AlIs.below {W W' : World} {x : ByteArray} {al : Value} (h : AlIs W x al) (hb : Below W.heap.size W W') : AlIs W' x al := by
  rcases h with h | ⟨h1, g, c, h2, h3⟩
  · exact Or.inl h
  · exact Or.inr ⟨h1, g, c, h2, by rw [hb.cell (World.block_lt_of_cell? W _ h3)]; exact h3⟩
theorem AlIs.same {W : World} {x : ByteArray} {a b : Value} (h : AlIs W x a) (h' : AlIs W x b) : SameAl W a b := by
  rcases h with ⟨h1, h2⟩ | ⟨h1, g, c, h2, h3⟩
  · rcases h' with ⟨h1', h2'⟩ | ⟨h1', g', c', h2', h3'⟩
    · exact Or.inl ⟨h2, h2'⟩
    · exact absurd h1 h1'
  · rcases h' with ⟨h1', h2'⟩ | ⟨h1', g', c', h2', h3'⟩
    · exact absurd h1' h1
    · exact Or.inr ⟨g, c, g', c', x, h2, h2', h3, h3'⟩
def FindF (W : World) (n o sp : ByteArray) (y1 y2 : Int) (ok : Bool) (x : ByteArray) (e : Ending) : Prop := ∃ a1 a2 a3, e = .returned (.tuple #[.agg #[.string n, .slice a1 a2 a3, .string o, .string sp, .int .i64 y1, .int .i64 y2], .bool ok]) ∧ AlIs W x (.slice a1 a2 a3)
theorem findF {W : World} {B : Nat} {f : ByteArray} {e : Ending} (h : FindIs W B f e) : FindF W (told (rowOf f)).1 (told (rowOf f)).2.1 (told (rowOf f)).2.2.1 (told (rowOf f)).2.2.2.1 (told (rowOf f)).2.2.2.2.1 (told (rowOf f)).2.2.2.2.2.1 (told (rowOf f)).2.2.2.2.2.2 e := by
  rcases h with ⟨h1, h2⟩ | ⟨i, v, h1, h2, al, h3, h4⟩
  · rw [h1]
    exact ⟨none, 0, 0, h2, Or.inl ⟨by show (⟨#[]⟩ : ByteArray).toList = []; rw [Lib.toList_data], rfl⟩⟩
  · rw [h1]
    subst h3
    rcases h4 with ⟨h5, rfl⟩ | ⟨h5, g, c, _, rfl, h6⟩
    · exact ⟨none, 0, 0, h2, Or.inl ⟨h5, rfl⟩⟩
    · exact ⟨some ⟨g, 0, none⟩, 1, c, h2, Or.inr ⟨h5, g, c, rfl, h6⟩⟩

set_option maxRecDepth 100000 in
set_option maxHeartbeats 400000 in
theorem attrFinds_any (s : ByteArray) (w : World) (hs : s.size ≤ 140737488355328) (ht : NumTab w) :
    Calls Tryd.prog 10 #[.string s] w fun e w' => e = .returned (.bool true) ∧ Below w.heap.size w w' := by
  obtain ⟨n, hn⟩ : ∃ n, (told (rowOf (S (fold s.data.toList)))).1 = n := ⟨_, rfl⟩
  obtain ⟨o, ho⟩ : ∃ o, (told (rowOf (S (fold s.data.toList)))).2.1 = o := ⟨_, rfl⟩
  obtain ⟨sp, hsp⟩ : ∃ sp, (told (rowOf (S (fold s.data.toList)))).2.2.1 = sp := ⟨_, rfl⟩
  obtain ⟨y1, hy1⟩ : ∃ y1, (told (rowOf (S (fold s.data.toList)))).2.2.2.1 = y1 := ⟨_, rfl⟩
  obtain ⟨y2, hy2⟩ : ∃ y2, (told (rowOf (S (fold s.data.toList)))).2.2.2.2.1 = y2 := ⟨_, rfl⟩
  obtain ⟨ok, hok⟩ : ∃ ok, (told (rowOf (S (fold s.data.toList)))).2.2.2.2.2.1 = ok := ⟨_, rfl⟩
  obtain ⟨x, hx⟩ : ∃ x, (told (rowOf (S (fold s.data.toList)))).2.2.2.2.2.2 = x := ⟨_, rfl⟩
  have key : ∀ (W : World) (B : Nat) (e : Ending), FindIs W B (S (fold s.data.toList)) e → FindF W n o sp y1 y2 ok x e := fun W B e h => by
    have h' := findF h
    rw [hn, ho, hsp, hy1, hy2, hok, hx] at h'
    exact h'
  have hF : Hid (Calls Tryd.prog 6 #[.string s] w fun e w' => FindF w' n o sp y1 y2 ok x e ∧ Below w.heap.size w w') := (find_any s w hs ht.t3).mono (fun e w' h => ⟨key _ _ _ h.1, h.2⟩)
  have hG : ∀ W, NumTab W → Hid (Calls Tryd.prog 23 #[.string s] W fun e w' => FindF w' n o sp y1 y2 ok x e ∧ Below W.heap.size W w') := fun W hW => (refFind_any s W hs hW).mono (fun e w' h => ⟨key _ _ _ h.1, h.2⟩)
  clear hn ho hsp hy1 hy2 hok hx key
  go_enter Tryd.func10, Tryd.ntmps10
  go_wp2_with fail
  refine hF.out.mono ?_
  rintro e W1 ⟨⟨a1, a2, a3, rfl, hal⟩, hb1⟩
  have hal' : Hid (AlIs W1 x (.slice a1 a2 a3)) := hal
  have hb1' : Hid (Below w.heap.size w W1) := hb1
  have ht' : Hid (NumTab w) := ht
  clear hF hal hb1 ht
  obtain ⟨W2, hW2⟩ : ∃ W2, W1.alloc (.cells #[.string n, .slice a1 a2 a3, .string o, .string sp, .int .i64 y1, .int .i64 y2] 33) = W2 := ⟨_, rfl⟩
  have hb2 : Below W1.heap.size W1 W2 := by rw [← hW2]; exact (Below.refl _ _).alloc (Nat.le_refl _) _
  have hr2 : W2.heap[W1.heap.size]? = some (.cells #[.string n, .slice a1 a2 a3, .string o, .string sp, .int .i64 y1, .int .i64 y2] 33 (0, 0)) := by rw [← hW2]; exact heap_alloc_last W1 _
  have hr2' : Hid (W2.heap[W1.heap.size]? = some (.cells #[.string n, .slice a1 a2 a3, .string o, .string sp, .int .i64 y1, .int .i64 y2] 33 (0, 0))) := hr2
  have hB2 : Hid (Below w.heap.size w W2) := hb1'.out.trans (hb2.mono hb1'.out.size)
  have hal2 : Hid (AlIs W2 x (.slice a1 a2 a3)) := hal'.out.below hb2
  have hG2 := hG W2 (ht'.out.below hB2.out)
  clear hb2 hr2 hal' hb1' ht' hG
  go_wp2_with fail
  refine hG2.out.mono ?_
  rintro e W3 ⟨⟨c1, c2, c3, rfl, hal3⟩, hb3⟩
  obtain ⟨W4, hW4⟩ : ∃ W4, W3.alloc (.cells #[.string n, .slice c1 c2 c3, .string o, .string sp, .int .i64 y1, .int .i64 y2] 33) = W4 := ⟨_, rfl⟩
  have hb4 : Below W3.heap.size W3 W4 := by rw [← hW4]; exact (Below.refl _ _).alloc (Nat.le_refl _) _
  have hr4 : W4.heap[W3.heap.size]? = some (.cells #[.string n, .slice c1 c2 c3, .string o, .string sp, .int .i64 y1, .int .i64 y2] 33 (0, 0)) := by rw [← hW4]; exact heap_alloc_last W3 _
  have hb24 : Below W2.heap.size W2 W4 := hb3.trans (hb4.mono hb3.size)
  have hq4 : W4.heap[W1.heap.size]? = some (.cells #[.string n, .slice a1 a2 a3, .string o, .string sp, .int .i64 y1, .int .i64 y2] 33 (0, 0)) := (hb24.block _ (Array.getElem?_eq_some_iff.1 hr2'.out).1).trans hr2'.out
  have hB4 : Hid (Below w.heap.size w W4) := hB2.out.trans (hb24.mono hB2.out.size)
  have hS : Hid (Calls Tryd.prog 24 #[.agg #[.string n, .slice a1 a2 a3, .string o, .string sp, .int .i64 y1, .int .i64 y2], .agg #[.string n, .slice c1 c2 c3, .string o, .string sp, .int .i64 y1, .int .i64 y2]] W4 fun e w' => e = .returned (.bool true) ∧ Below W4.heap.size W4 w') :=
    sameRow_any n o sp y1 y2 a1 c1 a2 a3 c2 c3 W4 ((hal2.out.below hb24).same (hal3.below hb4))
  have p0 := (row_cell hq4 (j := 0) (by simp)).1
  have r0 := (row_cell hr4 (j := 0) (by simp)).1
  have p1 := (row_cell hq4 (j := 1) (by simp)).1
  have r1 := (row_cell hr4 (j := 1) (by simp)).1
  have p2 := (row_cell hq4 (j := 2) (by simp)).1
  have r2 := (row_cell hr4 (j := 2) (by simp)).1
  have p3 := (row_cell hq4 (j := 3) (by simp)).1
  have r3 := (row_cell hr4 (j := 3) (by simp)).1
  have p4 := (row_cell hq4 (j := 4) (by simp)).1
  have r4 := (row_cell hr4 (j := 4) (by simp)).1
  have p5 := (row_cell hq4 (j := 5) (by simp)).1
  have r5 := (row_cell hr4 (j := 5) (by simp)).1
  simp only [List.getElem_toArray, List.getElem_cons_zero, List.getElem_cons_succ] at p0 p1 p2 p3 p4 p5 r0 r1 r2 r3 r4 r5
  clear hb24 hq4 hr4 hb4 hb3 hal3 hal2 hr2' hG2 hW2 hB2
  go_wp2_with fail
  refine hS.out.mono ?_
  rintro e W5 ⟨rfl, hb5⟩
  clear p0 p1 p2 p3 p4 p5 r0 r1 r2 r3 r4 r5 hW4 hS
  go_wp2_with fail
  go_ret
  exact ⟨rfl, hB4.out.trans (hb5.mono hB4.out.size)⟩
theorem attrFinds_w (s : ByteArray) (w : World) (hs : s.size ≤ 140737488355328) (t1 : ∀ i c, i < 62 → c < 3 → w.cell? ⟨0, i * 3 + c, none⟩ = some (.int .i64 ((KND.getD i []).getD c 0)))
    (t2 : ∀ i, i < 62 → w.cell? ⟨1, i, none⟩ = some (.int .i64 (SUP.getD i 0))) (t3 : ∀ i, i < 62 → w.cell? ⟨2, i, none⟩ = some (.int .i64 (SYN.getD i 0))) (t4 : ∀ i, i < 62 → w.cell? ⟨3, i, none⟩ = some (.int .i64 (USG.getD i 0))) :
    Calls Tryd.prog 10 #[.string s] w fun e w' => e = .returned (.bool true) ∧ Below w.heap.size w w' := attrFinds_any s w hs ⟨t2, t3, t4, t1⟩
end Go.Proofs.YtcmdmkajpbhcaaaDoor
