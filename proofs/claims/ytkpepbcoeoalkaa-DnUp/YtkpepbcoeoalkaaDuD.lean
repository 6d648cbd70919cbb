import Derived.Test.YtkpepbcoeoalkaaDuC
import Derived.Test.YtkpepbcoeoalkaaGSeq
import Derived.OwnWalkIn
import Derived.TacticsInMore
import Derived.LoopNIn
import Derived.LoopIn
namespace Go.Proofs.Ytkpepbcoeoalkaa
namespace Du
open Go.RowKit Go.Lib Go.Shelf
open GSeq (StB SeqG)
set_option linter.unusedVariables false
set_option maxRecDepth 100000

def cutA (a : Option Addr) (k c : Nat) : Option Addr := if c = k then a else a.map (·.add k)
theorem slice_from (a : Option Addr) (n c k : Nat) (z : Int) (hz : z = (k : Int)) (hk : k ≤ n) (W : World) :
    (Instr.sliceAt 23 (.slice a n c) (some (.int .i64 z)) none none).run Try.prog W = .ok (.slice (cutA a k c) (n - k) (c - k)) W := by
  subst hz
  rw [run_sliceAt_slice _ _ _ _ _ _ elD, run_slice_l _ _ _ _ _ elD _ _ (Int.natCast_nonneg _) (Int.ofNat_le.2 hk), szD]
  simp [Result.andThen, sliced, cutA]
theorem DRow.cut {w : World} {a : Option Addr} {L : List PX} {k c : Nat} (h : DRow w a L) (hc : L.length ≤ c) : DRow w (cutA a k c) (L.drop k) := by
  refine ⟨fun i hi => ?_, fun r hr => h.2 r (List.mem_of_mem_drop hr)⟩
  rw [List.length_drop] at hi
  obtain ⟨b, off, e, h1⟩ := h.1 (k + i) (by omega)
  subst e
  refine ⟨b, off + k, ?_, fun j hj => ?_⟩
  · unfold cutA
    rw [if_neg (by omega)]
    simp [add_o]
  · have := h1 j hj
    rw [List.getElem_drop]
    rw [← this]
    congr 2
    omega
theorem sd_drop (L : List PX) (k : Nat) : sd (L.drop k) = (sd L).drop k := by unfold sd; rw [List.map_drop]
/-- What lies in the blocks from B to E stays. -/
def RngK (B E : Nat) (w w' : World) : Prop := w.heap.size ≤ w'.heap.size ∧ ∀ k, B ≤ k → k < E → w'.heap[k]? = w.heap[k]?
theorem RngK.refl (B E : Nat) (w : World) : RngK B E w w := ⟨Nat.le_refl _, fun _ _ _ => rfl⟩
theorem RngK.trans {B E : Nat} {a b c : World} (h : RngK B E a b) (k : RngK B E b c) : RngK B E a c := ⟨Nat.le_trans h.1 k.1, fun i h1 h2 => (k.2 i h1 h2).trans (h.2 i h1 h2)⟩
theorem RngK.of_below {B E C : Nat} {a b : World} (h : Below C a b) (hE : E ≤ C) : RngK B E a b := ⟨h.size, fun i _ h2 => h.block i (Nat.lt_of_lt_of_le h2 hE)⟩
/-- What the iterator keeps. -/
def Kept (B kb g n : Nat) (Ks : List PX) (W : World) : Prop := W.heap[kb]? = some (.cells #[.slice (some ⟨g, 0, none⟩) n n] 23 (0, 0)) ∧ B ≤ kb ∧ Ks.length = n ∧ GOwn 36 1 xV W B (.slice (some ⟨g, 0, none⟩) n n) Ks ∧ ∀ r ∈ Ks, PC B r W
def KeptE (B E kb g n : Nat) (Ks : List PX) (W : World) : Prop := ∃ We, We.heap.size = E ∧ Kept B kb g n Ks We ∧ RngK B E We W
theorem KeptE.move {B E kb g n : Nat} {Ks : List PX} {W W' : World} (h : KeptE B E kb g n Ks W) (hk : RngK B E W W') : KeptE B E kb g n Ks W' := by
  obtain ⟨We, e, h1, h2⟩ := h
  exact ⟨We, e, h1, h2.trans hk⟩
theorem KeptE.out {B E kb g n : Nat} {Ks : List PX} {W : World} (h : KeptE B E kb g n Ks W) : Kept B kb g n Ks W := by
  obtain ⟨We, e, ⟨h1, h2, h3, h4, h5⟩, k1, k2⟩ := h
  have hlt : kb < We.heap.size := (Array.getElem?_eq_some_iff.1 h1).1
  refine ⟨(k2 kb h2 (by omega)).trans h1, h2, h3, owns_same h4 (fun b hb => ?_), fun r hr => owns_same (h5 r hr) (fun b hb => ?_)⟩
  · have := World.ownsRow.lt (show We.ownsRow B 36 1 _ _ _ from h4) b hb
    exact k2 b this.1 (by omega)
  · have := World.ownsRow.lt (show We.ownsRow B 38 2 _ _ _ from h5 r hr) b hb
    exact k2 b this.1 (by omega)
theorem Kept.drow {B kb g n : Nat} {Ks : List PX} {W : World} (h : Kept B kb g n Ks W) : DRow W (some ⟨g, 0, none⟩) Ks := by
  obtain ⟨h1, h2, h3, h4, h5⟩ := h
  obtain ⟨a, c, e, _, _, hr⟩ := h4.row xV_len
  injection e with e1 _ e2
  subst e1
  exact ⟨hr, fun r hr => (h5 r hr).row⟩
/-- What is handed out: its block and its parts. -/
abbrev El := Nat × List PX
def encE (x : El) : Array Value := #[.slice (some ⟨x.1, 0, none⟩) x.2.length x.2.length]
def GE (x : El) (B : Nat) (W : World) : Prop := GOwn 36 1 xV W B (.slice (some ⟨x.1, 0, none⟩) x.2.length x.2.length) x.2 ∧ ∀ r ∈ x.2, PC B r W
theorem GE.drow {x : El} {B : Nat} {W : World} (h : GE x B W) : DRow W (some ⟨x.1, 0, none⟩) x.2 := by
  obtain ⟨h4, h5⟩ := h
  obtain ⟨a, c, e, _, _, hr⟩ := h4.row xV_len
  injection e with e1 _ e2
  subst e1
  exact ⟨hr, fun r hr => (h5 r hr).row⟩
/-- The name, its parent, and so on. -/
def ups (D : List (List PR)) : List (List (List PR)) := (List.range (D.length + 1)).map fun k => D.drop k
theorem ups_len (D : List (List PR)) : (ups D).length = D.length + 1 := by simp [ups]
theorem ups_at (D : List (List PR)) (k : Nat) (hk : k < D.length + 1) : (ups D)[k]'(by rw [ups_len]; exact hk) = D.drop k := by simp [ups]
def sds (xs : List El) : List (List (List PR)) := xs.map fun x => sd x.2
theorem sds_snoc (D : List (List PR)) (pre : List El) (x : El) (k : Nat) (hk : k < D.length + 1) (h : sds pre = (ups D).take k) (hx : sd x.2 = D.drop k) : sds (pre ++ [x]) = (ups D).take (k + 1) := by
  unfold sds at h ⊢
  rw [List.map_append, h, List.take_add_one, List.getElem?_eq_getElem (by rw [ups_len]; exact hk), ups_at D k hk]
  simp [hx]
/-- Up gives the iterator. -/
theorem up_any (sa : Option Addr) (sc : Nat) (L : List PX) (n : Nat) (w : World) (hn : L.length = n) (hr : DRow w sa L) (hz : ∀ r ∈ L, r.2.2.length ≤ 4398046510976) (hl : n ≤ 5864062014634) :
    Calls Try.prog 6 #[.slice sa n sc] w fun e w' => ∃ kb Ks, e = .returned (.func (.func 11) #[] #[.pointer (some ⟨kb, 0, none⟩)]) ∧ Kept w.heap.size kb w.heap.size n Ks w' ∧ sd Ks = sd L ∧ Below w.heap.size w w' := by
  have hC : Hid (Calls Try.prog 10 #[.slice sa n sc] w fun e w' => ∃ Os, e = .returned (.slice (some ⟨w.heap.size, 0, none⟩) n n) ∧ CqQ w L n Os w') := copied_any sa sc L n w hn hr hz hl
  clear hr hz hn hl
  go_enter Try.func6, Try.ntmps6
  go_wp2_with (go_at_call 10; refine hC.out.mono ?_; rintro e w1 ⟨Os, rfl, hQ⟩; have hQ' : Hid (CqQ w L n Os w1) := hQ; clear hQ)
  obtain ⟨h1, h2, h3, h4, h5⟩ := hQ'.out
  have hb : Below w1.heap.size w1 (w1.alloc (.cells #[.slice (some ⟨w.heap.size, 0, none⟩) n n] 23)) := (Below.refl _ _).alloc (Nat.le_refl _) _
  go_ret
  exact ⟨w1.heap.size, Os, rfl, ⟨heap_alloc_new _ _, h5.size, h1, h3.below hb, fun r hr => (h4 r hr).below hb⟩, h2, h5.alloc h5.size _⟩

set_option maxRecDepth 1000000 in
set_option maxHeartbeats 4000000 in
theorem up_stops (nn : Nat) (hnn : 1 ≤ nn) (B E kb g n : Nat) (Ks : List PX) (w : World) (hK : KeptE B E kb g n Ks w) (hE : E ≤ w.heap.size) (hz : ∀ r ∈ Ks, r.2.2.length ≤ 4398046510976) (hl : n ≤ 5864062014634) :
    SeqG Fence.wide nn Try.prog 11 #[.pointer (some ⟨kb, 0, none⟩)] encE GE (RngK B E) (fun xs => sds xs = ups (sd Ks)) (fun pre => sds pre <+: ups (sd Ks)) (n + 1) w := fun l J Jx W hW hJ hJx hY h0 => by
  have hKW : Hid (KeptE B E kb g n Ks W) := hK.move (RngK.of_below hW hE)
  have hEW : Hid (E ≤ W.heap.size) := Nat.le_trans hE hW.size
  have hz' : Hid (∀ r ∈ Ks, r.2.2.length ≤ 4398046510976) := hz
  have hJ' : Hid (StB J) := hJ
  have hJx' : Hid (StB Jx) := hJx
  have hY' : Hid (∀ pre x W0 W1, J pre W0 → Below W0.heap.size W0 W1 → GE x W0.heap.size W1 → (sds (pre ++ [x]) <+: ups (sd Ks)) → pre.length < n + 1 → YieldAt Fence.wide (nn - 1) Try.prog l (encE x) W1 fun e W' =>
      (e = .returned (.bool true) ∧ J (pre ++ [x]) W' ∧ RngK B E W1 W') ∨ (e = .returned (.bool false) ∧ Jx (pre ++ [x]) W')) := hY
  have hnK : Hid (Ks.length = n) := hK.out.2.2.1
  have nb : (n : Int) ≤ 5864062014634 := by omega
  have hc0 : W.cell? ⟨kb, 0, none⟩ = some (.slice (some ⟨g, 0, none⟩) n n) := by rw [cell_of_row _ _ _ _ _ _ hKW.out.out.1]; rfl
  clear hW hJ hJx hY hK hE hz hl
  refine callsIn_of_wp Try.func11 rfl trivial ?_ rfl
  simp only [Try.ntmps11, List.size_toArray, List.length_cons, List.length_nil, Nat.reduceAdd, Nat.reduceSub, Array.replicate_succ, Array.replicate_zero, List.push_toArray, List.append_toArray, List.nil_append, List.cons_append]
  gi_wp2
  gi_loopw [7] (fun iv wr => ∃ (k : Nat) (pre : List El), k ≤ n + 1 ∧ iv = .int .i64 (k : Int) ∧ Hid (sds pre = (ups (sd Ks)).take k ∧ pre.length = k) ∧ J pre wr ∧ Hid (KeptE B E kb g n Ks wr ∧ E ≤ wr.heap.size)) (fun iv _ => n + 1 - (intOf iv).toNat)
  case atStart => exact ⟨0, [], Nat.zero_le _, rfl, ⟨rfl, rfl⟩, h0, hKW.out, hEW.out⟩
  case round =>
    obtain ⟨k, pre, hk, rfl, hpre, hJk, hBk⟩ := hrel
    clear h0 hc0
    have k0 : (0 : Int) ≤ (k : Int) := Int.natCast_nonneg _
    by_cases hlt : k < n + 1
    · have k1 : (k : Int) < (n : Int) + 1 := by omega
      have k2 : k ≤ n := by omega
      have hKk := hBk.out.1.out
      have hc0 : wr.cell? ⟨kb, 0, none⟩ = some (.slice (some ⟨g, 0, none⟩) n n) := by rw [cell_of_row _ _ _ _ _ _ hKk.1]; rfl
      have hsl : ∀ X, (Instr.sliceAt 23 (.slice (some ⟨g, 0, none⟩) n n) (some (.int .i64 (k : Int))) none none).run Try.prog X = .ok (.slice (cutA (some ⟨g, 0, none⟩) k n) (n - k) (n - k)) X := fun X => slice_from _ n n k _ rfl k2 X
      have hcp : Hid (Calls Try.prog 10 #[.slice (cutA (some ⟨g, 0, none⟩) k n) (n - k) (n - k)] wr fun e w' => ∃ Os, e = .returned (.slice (some ⟨wr.heap.size, 0, none⟩) (n - k) (n - k)) ∧ CqQ wr (Ks.drop k) (n - k) Os w') :=
        copied_any _ _ (Ks.drop k) (n - k) wr (by rw [List.length_drop, hnK.out]) (hKk.drow.cut (by rw [hnK.out]; exact Nat.le_refl _)) (fun r hr => hz'.out r (List.mem_of_mem_drop hr)) (by omega)
      have hlt' : Hid (k < n + 1) := hlt
      have hDl : Hid (k < (sd Ks).length + 1) := by unfold Hid; rw [sd_len, hnK.out]; exact hlt
      generalize hcut : cutA (some ⟨g, 0, none⟩) k n = ca at *
      clear hcut hk hKk k2 hlt
      gi_wp2_with (refine ⟨trivial, ?_⟩; gi_at_call 10; refine (callsIn_wide.2 hcp.out).mono ?_; rintro e W1 ⟨Os, rfl, hQ⟩; have hnx := sds_snoc (sd Ks) pre (wr.heap.size, Os) k hDl.out hpre.out.1 (by rw [hQ.2.1, sd_drop]); have hol := hQ.1; obtain ⟨fn, tmps, assign, body, hy, hR⟩ := hY'.out pre (wr.heap.size, Os) wr W1 hJk hQ.2.2.2.2 ⟨by dsimp only; rw [hol]; exact hQ.2.2.1, hQ.2.2.2.1⟩ (by rw [hnx]; exact List.take_prefix _ _) (by rw [hpre.out.2]; exact hlt'.out); dsimp only [encE] at hy; rw [hol] at hy; have hnx' : Hid (sds (pre ++ [(wr.heap.size, Os)]) = (ups (sd Ks)).take (k + 1)) := hnx; have hb1' : Hid (Below wr.heap.size wr W1) := hQ.2.2.2.2; clear hQ hnx hol)
      refine hR.mono ?_
      rintro e W5 (⟨rfl, hJ5, hk5⟩ | ⟨rfl, hJx5⟩)
      · have hq : Hid (KeptE B E kb g n Ks W5 ∧ E ≤ W5.heap.size) := ⟨(hBk.out.1.move (RngK.of_below hb1'.out hBk.out.2)).move hk5, Nat.le_trans hBk.out.2 (Nat.le_trans hb1'.out.size hk5.1)⟩
        have hpl : Hid (sds (pre ++ [(wr.heap.size, Os)]) = (ups (sd Ks)).take (k + 1) ∧ (pre ++ [(wr.heap.size, Os)]).length = k + 1) := ⟨hnx'.out, by rw [List.length_append, hpre.out.2]; rfl⟩
        clear hk5 hR hy hcp
        gi_wp2
        go_roundw
        case rel => exact ⟨k + 1, _, hlt'.out, by simp, hpl, hJ5, hq⟩
        case measure => have := hlt'.out; simp [intOf]; omega
      · have hq : Hid (sds (pre ++ [(wr.heap.size, Os)]) <+: ups (sd Ks)) := by unfold Hid; rw [hnx'.out]; exact List.take_prefix _ _
        clear hR hy hcp
        gi_wp2
        refine bodyPost_ret (results_none rfl _ _ _) rfl ?_
        exact ⟨⟨_, rfl⟩, .inr ⟨_, hq.out, hJx5⟩⟩
    · have hke : k = n + 1 := by omega
      subst hke
      have k1 : ¬ ((n + 1 : Nat) : Int) < (n : Int) + 1 := by omega
      have hall : Hid (sds pre = ups (sd Ks)) := by
        unfold Hid
        rw [hpre.out.1]
        exact List.take_of_length_le (by rw [ups_len, sd_len, hnK.out]; exact Nat.le_refl _)
      clear hlt hk
      gi_wp2
      go_end0
      exact ⟨⟨_, rfl⟩, .inl ⟨_, hall.out, hJk⟩⟩
end Du
end Go.Proofs.Ytkpepbcoeoalkaa
